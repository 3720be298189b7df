import PyProof.Rows.All
import Wide.All
import OpenK.AllK
import Wide.FinOn
import Lean
import PyProof.EqAt
import PyProof.EqKinds
import PyProof.TupleCall
import KE.KSortTup
import KE.KIntText
import KE.KTryMore
import PyProof.ExcArgs
import KE.KIsAll
import PyProof.ReprNest
import PyProof.NsMap
import PyProof.Rows.Own
import PyProof.ReprStr
import PyProof.ExcBaseAll.ValueError
import PyProof.FitsInt
import PyProof.ZipIter
import KE.KDictOf
import PyProof.AttrMissHeap
import PySem.Challenge.RW_posthouse_k11_whole_tables_by_turns
set_option Elab.async false
set_option linter.all false
set_option maxRecDepth 100000
set_option genSizeOf false
set_option bootstrap.genMatcherCode false
set_option Elab.async false
set_option linter.all false
set_option maxRecDepth 100000
set_option genSizeOf false
set_option bootstrap.genMatcherCode false
namespace L2
open PySem PySem.Spec PyProof.Rows
abbrev Key := Sum Int Str
def keyIs : Key → Value → Bool
  | .inl k, v => Value.isInt k v
  | .inr x, v => Value.isStrOf x v
def keyH (w : World) : Key → Int
  | .inl k => hashInt k
  | .inr x => hashStr w x
theorem keyIs_shape : ∀ {k : Key} {v : Value}, keyIs k v = true → (∃ i t, k = Sum.inl i ∧ v = Value.int i t) ∨ (∃ x t, k = Sum.inr x ∧ v = Value.str x t)
  | .inl i, v, h => by
    obtain ⟨t, e⟩ := Value.isInt_shape (k := i) (v := v) h
    exact .inl ⟨i, t, rfl, e⟩
  | .inr x, v, h => by
    obtain ⟨t, e⟩ := Value.isStrOf_shape (x := x) (v := v) h
    exact .inr ⟨x, t, rfl, e⟩
theorem keyIs_int (i : Int) (t : Tok) : keyIs (.inl i) (.int i t) = true := by simp [keyIs, Value.isInt]
theorem keyIs_str (x : Str) (t : Tok) : keyIs (.inr x) (.str x t) = true := by simp [keyIs, Value.isStrOf]
theorem key_ll (a b : Int) : decide ((Sum.inl a : Key) = Sum.inl b) = (a == b) := by
  by_cases e : a = b
  · subst e; simp
  · have h : ¬ (Sum.inl a : Key) = Sum.inl b := fun q => e (Sum.inl.inj q)
    rw [decide_eq_false h]
    exact (beq_eq_false_iff_ne.mpr e).symm
theorem key_rr (a b : Str) : decide ((Sum.inr a : Key) = Sum.inr b) = decide (a = b) := by
  by_cases e : a = b
  · subst e; simp
  · have h : ¬ (Sum.inr a : Key) = Sum.inr b := fun q => e (Sum.inr.inj q)
    rw [decide_eq_false h, decide_eq_false e]
theorem key_lr (a : Int) (b : Str) : decide ((Sum.inl a : Key) = Sum.inr b) = false := decide_eq_false (fun q => nomatch q)
theorem key_rl (a : Str) (b : Int) : decide ((Sum.inr a : Key) = Sum.inl b) = false := decide_eq_false (fun q => nomatch q)
def mixKind (prog : Program) (w : World) : PySem.KeyKind prog w Key where
  is := keyIs
  hash := keyH w
  inj := fun v a b ha hb => by
    rcases keyIs_shape ha with ⟨i, t, rfl, rfl⟩ | ⟨x, t, rfl, rfl⟩
    · rcases keyIs_shape hb with ⟨j, u, rfl, e⟩ | ⟨y, u, rfl, e⟩
      · injection e with e1 _; rw [e1]
      · exact nomatch e
    · rcases keyIs_shape hb with ⟨j, u, rfl, e⟩ | ⟨y, u, rfl, e⟩
      · exact nomatch e
      · injection e with e1 _; rw [e1]
  byValue := fun k v h => by
    rcases keyIs_shape h with ⟨i, t, rfl, rfl⟩ | ⟨x, t, rfl, rfl⟩ <;> rfl
  pyHash := fun hv h => by
    rcases keyIs_shape hv with ⟨i, t, rfl, rfl⟩ | ⟨x, t, rfl, rfl⟩
    · exact wpAny_pyHash_int h
    · exact wpAny_pyHash_str h
  eqBool := fun hu hv h => by
    rcases keyIs_shape hu with ⟨i, t, rfl, rfl⟩ | ⟨x, t, rfl, rfl⟩
    · rcases keyIs_shape hv with ⟨j, u, rfl, rfl⟩ | ⟨y, u, rfl, rfl⟩
      · rw [key_ll] at h; exact wpAny_eqBool_int h
      · rw [key_lr] at h; exact SeqAt.EqAt.int_str i t y u _ _ _ _ h
    · rcases keyIs_shape hv with ⟨j, u, rfl, rfl⟩ | ⟨y, u, rfl, rfl⟩
      · rw [key_rl] at h; exact SeqAt.EqAt.str_int x t j u _ _ _ _ h
      · rw [key_rr] at h; exact wpAny_eqBool_str h
  «strs» := fun k x t v h => by
    rcases keyIs_shape h with ⟨i, u, rfl, e⟩ | ⟨y, u, rfl, e⟩
    · exact nomatch e
    · injection e with e1 _
      subst e1
      cases v <;> rfl
theorem mixKind_int (prog : Program) (w : World) (i : Int) (t : Tok) : (mixKind prog w).is (.inl i) (.int i t) = true := keyIs_int i t
theorem mixKind_str (prog : Program) (w : World) (x : Str) (t : Tok) : (mixKind prog w).is (.inr x) (.str x t) = true := keyIs_str x t
end L2
namespace L2
open PySem PySem.Spec PyProof.Rows
inductive V where
  | non | bl (b : Bool) | int (i : Int) | str (x : Str) | byt (b : Array UInt8) | flt (b : UInt64) | ref (a : Addr) | ty (n : String)
  deriving DecidableEq
def RelV : V → Value → Prop
  | .non, u => u = Value.none
  | .bl b, u => u = Value.bool b
  | .int i, u => ∃ t, u = Value.int i t
  | .str x, u => ∃ t, u = Value.str x t
  | .byt b, u => ∃ t, u = Value.bytes b t
  | .flt b, u => ∃ t, u = Value.float b t
  | .ref a, u => u = Value.ref a
  | .ty n, u => u = Value.type n
abbrev Vals : List V → List Value → Prop := Paired RelV
theorem Vals.length {xs : List V} {us : List Value} (r : Vals xs us) : xs.length = us.length := Paired.length r
theorem Vals.get : ∀ {xs : List V} {us : List Value} {i : Nat} {x : V}, Vals xs us → xs[i]? = some x → ∃ u, us[i]? = some u ∧ RelV x u
  | _, _, _, _, .nil, e => by simp at e
  | _, _, 0, _, .cons r _, e => by simp at e; subst e; exact ⟨_, rfl, r⟩
  | _, _, i + 1, x, .cons _ t, e => by
    obtain ⟨u, h1, h2⟩ := Vals.get (i := i) (x := x) t (by simpa using e)
    exact ⟨u, by simpa using h1, h2⟩
theorem Vals.set {x : V} {u : Value} (r : RelV x u) : ∀ {xs : List V} {us : List Value} (i : Nat), Vals xs us → Vals (xs.set i x) (us.set i u)
  | _, _, _, .nil => .nil
  | _, _, 0, .cons _ t => .cons r t
  | _, _, i + 1, .cons q t => .cons q (Vals.set r i t)
theorem Vals.append : ∀ {xs ys : List V} {us ws : List Value}, Vals xs us → Vals ys ws → Vals (xs ++ ys) (us ++ ws)
  | _, _, _, _, .nil, s => s
  | _, _, _, _, .cons r t, s => .cons r (Vals.append t s)
theorem Vals.take : ∀ {xs : List V} {us : List Value} (n : Nat), Vals xs us → Vals (xs.take n) (us.take n)
  | _, _, 0, _ => .nil
  | _, _, _ + 1, .nil => .nil
  | _, _, n + 1, .cons r t => .cons r (Vals.take n t)
theorem Vals.drop : ∀ {xs : List V} {us : List Value} (n : Nat), Vals xs us → Vals (xs.drop n) (us.drop n)
  | _, _, 0, r => r
  | _, _, _ + 1, .nil => .nil
  | _, _, n + 1, .cons _ t => Vals.drop n t
def RelO : Option V → Option Value → Prop
  | some v, some u => RelV v u
  | none, none => True
  | _, _ => False
def KV {κ : Type} : List (κ × V) → List (κ × Value) → Prop := Paired fun (p : κ × V) (q : κ × Value) => p.1 = q.1 ∧ RelV p.2 q.2
def kV : Key → V
  | .inl i => .int i
  | .inr x => .str x
inductive HO where
    | lst (xs : List V)
    | tup (xs : List V)
    | dK (kvs : List (Key × V)) | dT (kvs : List (List Key × V))
    | set (S : Int → Bool) (n : Nat)
    | ins (C dx : Addr) (fs : List (Str × V))
    | own (x : Addr)
    | xd (fs : List (Str × V))
    | met (f x : Addr)
    | rng (lo hi : Int)
    | frz (o : Obj) (u : HO)
    | tbl (ps : Array Value)
    | ext (φ : Heap → Prop)
abbrev Hp := Addr → Option HO
def upd (H : Hp) (a : Addr) (o : HO) : Hp := fun b => if b = a then some o else H b
theorem upd_same {H : Hp} {a : Addr} {o : HO} : upd H a o a = some o := by unfold upd; rw [if_pos rfl]
theorem upd_ne {H : Hp} {a b : Addr} {o : HO} (h : b ≠ a) : upd H a o b = H b := by unfold upd; rw [if_neg h]
theorem ne_of {H : Hp} {a b : Addr} {o u : HO} (h : H a = some o) (h' : H b = some u) (d : o ≠ u) : a ≠ b := by
  intro e; subst e; rw [h] at h'; exact d (Option.some.inj h')
theorem ne_of_none {H : Hp} {a b : Addr} {o : HO} (h : H a = some o) (h' : H b = none) : a ≠ b := by
  intro e; subst e; rw [h] at h'; cases h'
section
variable (P : Program) (w : World)
def ObjOk (H : Hp) (h : Heap) (a : Addr) : HO → Prop
  | .lst xs => xs.length ≤ sizeLine ∧ ∃ (its : List Value) (n : Nat), Vals xs its ∧ h.get? a = some { cls := .type "list", data := .seq its.toArray n }
  | .tup xs => xs.length ≤ sizeLine ∧ ∃ its : List Value, Vals xs its ∧ IsTup h a its.toArray
  | .dK kvs => kvs.length ≤ sizeLine ∧ (a == sysModules) = false ∧ ∃ vs, KV kvs vs ∧ h.DictOf (mixKind P w) a vs
  | .dT kvs => kvs.length ≤ sizeLine ∧ (a == sysModules) = false ∧ ∃ xs : List (List Key × Addr × Value),
      Paired (fun (p : List Key × V) (q : List Key × Addr × Value) => p.1 = q.1 ∧ H q.2.1 = some (.tup (p.1.map kV)) ∧ RelV p.2 q.2.2) kvs xs ∧
      ∃ o es ep, h.get? a = some o ∧ o.ExactDict ∧ o.data = .dict es ep ∧ es.toList = xs.map (entryOfKey (tupleKind (mixKind P w))) ∧ (xs.map (·.1)).Nodup
  | .set S n => h.SetOf (intKind P w) a S n
  | .ins C dx fs => H dx = some (.own a) ∧ fs.length ≤ 1000 ∧ dx ≠ a ∧ h.get? a = some (PySem.W.instObj C dx) ∧
      ∃ mA, h.Ns1 dx mA ∧ (∀ f, RelO (fs.lookup f) (mA f)) ∧ PySem.Within mA (fs.map (·.1))
  | .own _ => ∃ o, h.get? a = some o
  | .xd fs => ∃ mA, h.Ns1 a mA ∧ ∀ f, RelO (fs.lookup f) (mA f)
  | .rng lo hi => ∃ t u v, h.get? a = some { cls := .type "range", data := .fields #[.int lo t, .int hi u, .int 1 v] }
  | .frz o u => h.get? a = some o ∧ ObjOk H h a u
  | .tbl ps => h.get? a = some { cls := .none, data := .fields ps }
  | .met f x => h.get? a = some (PySem.W.methodObj (.ref f) (.ref x))
  | .ext φ => φ h ∧ (∃ o, h.get? a = some o) ∧ ∀ h1 h2 : Heap, φ h1 → (∀ o, h1.get? a = some o → h2.get? a = some o) → φ h2
def HOk (H : Hp) (h : Heap) : Prop := ∀ a o, H a = some o → ObjOk P w H h a o
end
section
variable {P : Program} {w : World} {H H' : Hp} {h h' : Heap} {a : Addr} {o : HO}
theorem ObjOk.lt (x : ObjOk P w H h a o) : a < h.objs.size := by
  cases o with
  | lst xs => obtain ⟨_, _, _, _, e⟩ := x; exact Heap.lt_size e
  | tup xs => obtain ⟨_, _, _, p⟩ := x; exact p.lt
  | dK kvs => obtain ⟨_, _, _, _, o, _, _, e, _⟩ := x; exact Heap.lt_size e
  | dT kvs => obtain ⟨_, _, _, _, o, _, _, e, _⟩ := x; exact Heap.lt_size e
  | set S n => obtain ⟨o, _, _, _, e, _⟩ := x; exact Heap.lt_size e
  | ins C dx fs => obtain ⟨_, _, _, e, _⟩ := x; exact Heap.lt_size e
  | own y => obtain ⟨_, e⟩ := x; exact Heap.lt_size e
  | xd fs => obtain ⟨_, ⟨_, _, _, e, _⟩, _⟩ := x; exact Heap.lt_size e
  | rng lo hi => obtain ⟨_, _, _, e⟩ := x; exact Heap.lt_size e
  | frz ob u => obtain ⟨e, _⟩ := x; exact Heap.lt_size e
  | tbl ps => exact Heap.lt_size (show h.get? a = some _ from x)
  | met f y => exact Heap.lt_size (show h.get? a = some _ from x)
  | ext φ => obtain ⟨_, ⟨_, e⟩, _⟩ := x; exact Heap.lt_size e
theorem Paired.mapP {α β : Type} {F G : α → β → Prop} : ∀ {l₁ : List α} {l₂ : List β}, Paired F l₁ l₂ → (∀ a b, F a b → G a b) → Paired G l₁ l₂
  | _, _, .nil, _ => .nil
  | _, _, .cons r t, f => .cons (f _ _ r) (Paired.mapP t f)
theorem ObjOk.stay (x : ObjOk P w H h a o) (k : ∀ b u, (b = a ∨ H b = some (.own a)) → h.get? b = some u → h'.get? b = some u)
    (ho : ∀ b, H b = some (.own a) → H' b = some (.own a)) (ht : ∀ b xs, H b = some (.tup xs) → H' b = some (.tup xs)) : ObjOk P w H' h' a o := by
  induction o with
  | lst xs => obtain ⟨z, its, n, r, e⟩ := x; exact ⟨z, its, n, r, k _ _ (.inl rfl) e⟩
  | tup xs => obtain ⟨z, its, r, ob, e, c⟩ := x; exact ⟨z, its, r, ob, k _ _ (.inl rfl) e, c⟩
  | dK kvs => obtain ⟨z, y, vs, r, ob, es, ep, e, c⟩ := x; exact ⟨z, y, vs, r, ob, es, ep, k _ _ (.inl rfl) e, c⟩
  | dT kvs =>
    obtain ⟨z, y, xs, r, ob, es, ep, e, c⟩ := x
    exact ⟨z, y, xs, Paired.mapP r fun p q z => ⟨z.1, ht _ _ z.2.1, z.2.2⟩, ob, es, ep, k _ _ (.inl rfl) e, c⟩
  | set S n => obtain ⟨ob, es, ep, t, e, c⟩ := x; exact ⟨ob, es, ep, t, k _ _ (.inl rfl) e, c⟩
  | ins C dx fs =>
    obtain ⟨d, z, ne, e, mA, ⟨od, es, ep, e2, c⟩, r⟩ := x
    exact ⟨ho _ d, z, ne, k _ _ (.inl rfl) e, mA, ⟨od, es, ep, k _ _ (.inr d) e2, c⟩, r⟩
  | own y => obtain ⟨ob, e⟩ := x; exact ⟨ob, k _ _ (.inl rfl) e⟩
  | xd fs => obtain ⟨mA, ⟨od, es, ep, e, c⟩, r⟩ := x; exact ⟨mA, ⟨od, es, ep, k _ _ (.inl rfl) e, c⟩, r⟩
  | rng lo hi => obtain ⟨t, u, v, e⟩ := x; exact ⟨t, u, v, k _ _ (.inl rfl) e⟩
  | frz ob u ih => obtain ⟨e, q⟩ := x; exact ⟨k _ _ (.inl rfl) e, ih q⟩
  | tbl ps =>
    have e : h.get? a = some { cls := .none, data := .fields ps } := x
    show h'.get? a = some { cls := .none, data := .fields ps }
    exact k a _ (.inl rfl) e
  | met f y =>
    have e : h.get? a = some (PySem.W.methodObj (.ref f) (.ref y)) := x
    show h'.get? a = some (PySem.W.methodObj (.ref f) (.ref y))
    exact k a _ (.inl rfl) e
  | ext φ => obtain ⟨p, ⟨o, e⟩, st⟩ := x; exact ⟨st _ _ p fun o q => k _ _ (.inl rfl) q, ⟨o, k _ _ (.inl rfl) e⟩, st⟩
theorem HOk.lt (x : HOk P w H h) (e : H a = some o) : a < h.objs.size := (x a o e).lt
theorem HOk.fresh (x : HOk P w H h) (e : h.objs.size ≤ a) : H a = none := by
  cases q : H a with
  | none => rfl
  | some u => exact absurd (Nat.lt_of_lt_of_le (x.lt q) e) (Nat.lt_irrefl _)
theorem HOk.kept (x : HOk P w H h) (k : ∀ b u, h.get? b = some u → h'.get? b = some u) : HOk P w H h' := fun a o e =>
  (x a o e).stay (fun b u _ q => k b u q) (fun _ q => q) fun _ _ q => q
theorem HOk.laid (x : HOk P w H h) (k : ∀ b u, h.get? b = some u → h'.get? b = some u) (hp : h.objs.size ≤ a) (new : ObjOk P w (upd H a o) h' a o) : HOk P w (upd H a o) h' := fun b u e => by
  have hn := x.fresh hp
  by_cases hb : b = a
  · subst hb; rw [upd_same] at e; cases e; exact new
  · rw [upd_ne hb] at e
    exact (x b u e).stay (fun c v _ q => k c v q) (fun c q => by rw [upd_ne (ne_of_none q hn)]; exact q) fun c xs q => by rw [upd_ne (ne_of_none q hn)]; exact q
end
def Rd (H : Hp) (a : Addr) (u : HO) : Prop := H a = some u ∨ ∃ o, H a = some (.frz o u)
theorem Rd.ok {P : Program} {w : World} {H : Hp} {h : Heap} {a : Addr} {u : HO} (r : Rd H a u) (x : HOk P w H h) : ObjOk P w H h a u := by
  rcases r with r | ⟨o, r⟩
  · exact x a u r
  · obtain ⟨_, q⟩ := x a _ r
    exact q
def Mut : Option HO → Prop
  | some (.lst _) => True
  | some (.dK _) => True
  | some (.dT _) => True
  | some (.set _ _) => True
  | some (.ins _ _ _) => True
  | some (.ext _) => True
  | _ => False
section
variable {P : Program} {w : World} {H : Hp} {h h' : Heap} {x e : Addr} {o' : HO}
theorem HOk.write (ok : HOk P w H h) (mu : Mut (H x)) (he : e = x ∨ H e = some (.own x)) (k : ∀ b u, b ≠ e → h.get? b = some u → h'.get? b = some u) (heo : ∃ u, h'.get? e = some u)
    (new : ObjOk P w (upd H x o') h' x o') : HOk P w (upd H x o') h' := fun b u q => by
  have nown : ∀ c y, H c = some (.own y) → c ≠ x := fun c y r z => by subst z; rw [r] at mu; exact mu
  have ntup : ∀ c xs, H c = some (.tup xs) → c ≠ x := fun c xs r z => by subst z; rw [r] at mu; exact mu
  by_cases hb : b = x
  · subst hb; rw [upd_same] at q; cases q; exact new
  · rw [upd_ne hb] at q
    by_cases hbe : b = e
    · have q' : H b = some (.own x) := by
        rcases he with z | z
        · exact absurd (hbe.trans z) hb
        · rw [hbe]; exact z
      rw [q] at q'; cases q'
      obtain ⟨v, hv⟩ := heo
      exact ⟨v, by rw [hbe]; exact hv⟩
    · refine (ok b u q).stay (fun c v hc r => k c v ?_ r) (fun c r => by rw [upd_ne (nown c b r)]; exact r) fun c xs r => by rw [upd_ne (ntup c xs r)]; exact r
      rcases hc with rfl | hc
      · exact hbe
      · rintro rfl
        rcases he with z | z
        · exact nown c b hc z
        · rw [hc] at z; cases z; exact hb rfl
end
structure Un (fs ex : List Addr) (H H' : Hp) (h h' : Heap) : Prop where
  keep : ∀ b o, h.get? b = some o → H b = none → b ∉ fs → b ∉ ex → h'.get? b = some o
  slot : ∀ b o, h.get? b = some o → H b = none → b ∈ fs → b ∉ ex → ∃ sl, h'.get? b = some { o with slots := sl }
  free : ∀ b o, h.get? b = some o → H b = none → b ∉ ex → H' b = none
  there : ∀ b o, h.get? b = some o → b ∉ ex → ∃ o', h'.get? b = some o'
  tups : ∀ b xs, H b = some (.tup xs) → H' b = some (.tup xs)
  frzs : ∀ b o u, H b = some (.frz o u) → H' b = some (.frz o u)
  tbls : ∀ b ps, H b = some (.tbl ps) → ∃ more, H' b = some (.tbl (ps ++ more))
section
variable {fs fs' ex ex' : List Addr} {H H1 H2 : Hp} {h h1 h2 h' : Heap} {a x e : Addr} {o : HO}
theorem Un.any (u : Un fs ex H H1 h h1) {b : Addr} {ob : Obj} (q : h.get? b = some ob) (n : H b = none) (hx : b ∉ ex) : ∃ sl, h1.get? b = some { ob with slots := sl } := by
  by_cases hb : b ∈ fs
  · exact u.slot b ob q n hb hx
  · exact ⟨ob.slots, u.keep b ob q n hb hx⟩
theorem Un.kept (k : ∀ b u, h.get? b = some u → h'.get? b = some u) : Un fs ex H H h h' :=
  ⟨fun b ob q _ _ _ => k b ob q, fun b ob q _ _ _ => ⟨ob.slots, k b ob q⟩, fun _ _ _ n _ => n, fun b ob q _ => ⟨ob, k b ob q⟩, fun _ _ q => q, fun _ _ _ q => q, fun _ ps q => ⟨#[], by rw [q]; simp⟩⟩
theorem Un.refl : Un fs ex H H h h := Un.kept fun _ _ q => q
theorem Un.laid (k : ∀ b u, h.get? b = some u → h'.get? b = some u) (hp : h.objs.size ≤ a) (hn : H a = none) : Un fs ex H (upd H a o) h h' where
  keep := fun b u q _ _ _ => k b u q
  slot := fun b u q _ _ _ => ⟨u.slots, k b u q⟩
  free := fun b u q n _ => by rw [upd_ne (Nat.ne_of_lt (Nat.lt_of_lt_of_le (Heap.lt_size q) hp))]; exact n
  there := fun b u q _ => ⟨u, k b u q⟩
  tups := fun b xs q => by rw [upd_ne (ne_of_none q hn)]; exact q
  frzs := fun b u xs q => by rw [upd_ne (ne_of_none q hn)]; exact q
  tbls := fun b ps q => ⟨#[], by rw [upd_ne (ne_of_none q hn), q]; simp⟩
theorem Un.write (mu : Mut (H x)) (he : e = x ∨ H e = some (.own x)) (k : ∀ b u, b ≠ e → h.get? b = some u → h'.get? b = some u) (heo : ∃ u, h'.get? e = some u) : Un fs ex H (upd H x o) h h' := by
  have hx : ∀ b, H b = none → b ≠ x := fun b n z => by subst z; rw [n] at mu; exact mu
  have hb : ∀ b, H b = none → b ≠ e := fun b n z => by
    subst z
    rcases he with r | r
    · exact hx b n r
    · rw [n] at r; cases r
  have hm : ∀ b u, H b = some u → ¬ Mut (some u) → b ≠ x := fun b u q nm z => by subst z; rw [q] at mu; exact nm mu
  refine ⟨fun b u q n _ _ => k b u (hb b n) q, fun b u q n _ _ => ⟨u.slots, k b u (hb b n) q⟩, fun b u q n _ => by rw [upd_ne (hx b n)]; exact n, fun b u q _ => ?_,
    fun b xs q => by rw [upd_ne (hm b _ q fun z => z)]; exact q, fun b u xs q => by rw [upd_ne (hm b _ q fun z => z)]; exact q, fun b ps q => ⟨#[], by rw [upd_ne (hm b _ q fun z => z), q]; simp⟩⟩
  by_cases hbe : b = e
  · subst hbe; exact heo
  · exact ⟨u, k b u hbe q⟩
end
def trk (h : Heap) (H : Hp) : List Addr := (List.range h.objs.size).filter fun a => (H a).isSome
def hidT (h : Heap) (H : Hp) : Heap := PySem.W.hideAll h (trk h H)
theorem hidT_size (h : Heap) (H : Hp) : (hidT h H).objs.size = h.objs.size := PySem.W.hideAll_size _ _
theorem hidT_get {h : Heap} {H : Hp} {b : Addr} {o : Obj} (e : h.get? b = some o) (n : H b = none) : (hidT h H).get? b = some o :=
  PySem.W.hideAll_get _ e fun hm => by
    have q : (H b).isSome = true := (List.mem_filter.mp hm).2
    rw [n] at q; simp at q
theorem of_hidT {h : Heap} {H : Hp} {b : Addr} {o : Obj} (e : (hidT h H).get? b = some o) : h.get? b = some o ∧ H b = none := by
  have e' : h.get? b = some o := PySem.W.of_hideAll (trk h H) e
  refine ⟨e', ?_⟩
  cases q : H b with
  | none => rfl
  | some x =>
    have hm : b ∈ trk h H := List.mem_filter.mpr ⟨List.mem_range.mpr (Heap.lt_size e'), by simp [q]⟩
    have z : (hidT h H).get? b = none := PySem.W.hideAll_none (trk h H) hm
    rw [z] at e; cases e
def allNews (g h : Heap) (L : Addr) : List (Addr × Obj) := (List.range h.objs.size).filterMap fun a => if a = L ∨ (g.get? a).isSome = true then none else (h.get? a).map fun o => (a, o)
def rest (g h : Heap) (L d : Addr) : List (Addr × Obj) := (allNews g h L).filter fun p => decide (p.1 ≠ d)
end L2
namespace L2
open PySem PySem.Spec PyProof.Rows
structure Mod (K : PySem.W.Frag) (mg : Str → Option Value) (base : Heap) : Prop where
  kin : K.In base
  glob : base.Ns mainGlobals mg
  blt : ∃ mb, base.Ns builtinsNs mb ∧ ∀ x : Str, x ≠ "__name__" → mb x = bootBuiltins x
  nolimit : base.NoLimit
structure Cx where
  prog : Program
  w : World
  K : PySem.W.Frag
  mg : Str → Option Value
  base : Heap
  A : Around
  N : List Str
  s₀ : Shared
  H₀ : Hp
  env : Env
  outer : List Env
  stack : List Env
  ex : List Addr
  fn : Str → Bool
  calm : Bool
  pn : List (Addr × Obj)
  xe : Value → Shared → Prop
def frs (l : List Env) : List Addr := l.filterMap (·.frame)
abbrev Cx.fs (X : Cx) : List Addr := frs X.outer
def Vis (sc : Scope) (x : Str) : Prop := sc.names.lookup x = some .local ∨ sc.names.lookup x = some .cell ∨ sc.names.lookup x = some .free
def Loc (sc : Scope) (x : Str) : Prop := sc.names.lookup x = some .local ∨ sc.names.lookup x = some .cell
def Look (env : Env) (h : Heap) (m : Str → Option Value) (x : Str) (u : Value) : Prop :=
  (env.kindOf x = some .local ∧ m x = some u) ∨ ((env.kindOf x = some .cell ∨ env.kindOf x = some .free) ∧ ∃ c, env.cells.lookup x = some c ∧ h.IsCell c (some u))
structure Cx.Ok (X : Cx) : Prop where
  mod : Mod X.K X.mg X.base
  kind : X.env.scope.kind = .function
  glob : X.env.globals = mainGlobals
  blt : X.env.builtins = builtinsNs
  above : X.s₀.heap.objs.size ≤ X.env.locals
  inj : ∀ x y c, X.env.cells.lookup x = some c → X.env.cells.lookup y = some c → x = y
  has : ∀ x, (X.env.kindOf x = some .cell ∨ X.env.kindOf x = some .free) → ∃ c, X.env.cells.lookup x = some c
  cab : ∀ x c, X.fn x = true → X.env.cells.lookup x = some c → X.s₀.heap.objs.size ≤ c
  hd : X.calm = true → X.A.handled = none
  frames : X.A.frames = some X.stack
  stk : X.stack = X.outer ∨ (X.stack = X.env :: X.outer ∧ X.env.frame = some X.env.locals)
  exf : ∀ b ∈ X.ex, b ≠ X.env.locals ∧ ∀ x c, X.env.cells.lookup x = some c → c ≠ b
  bs : ∀ b o, X.base.get? b = some o → X.s₀.heap.get? b = some o ∧ X.H₀ b = none
  bsz : X.base.objs.size ≤ X.s₀.heap.objs.size
  noex : ∀ b o, X.base.get? b = some o → b ∉ X.ex
  exfs : ∀ b ∈ X.ex, b ∉ X.fs
  funs : X.s₀.heap.FunFrames X.base X.outer
  frf : ∀ b ∈ X.fs, X.H₀ b = none
structure Inv (X : Cx) (pins : List (Addr × Obj)) (σ : List (Option V)) (H : Hp) (s : Shared) : Prop where
  ok : X.Ok
  os : s.os = X.s₀.os
  bare : AllBare s.gens
  base : Un X.fs X.ex X.H₀ H X.s₀.heap s.heap
  loc : ∃ m, s.heap.Ns X.env.locals m ∧ ∀ (i : Nat) (x : Str) (v : V), X.N[i]? = some x → σ[i]? = some (some v) → Vis X.env.scope x → ∃ u, RelV v u ∧ Look X.env s.heap m x u
  cell : ∀ x c, X.env.cells.lookup x = some c → ∃ v, s.heap.IsCell c v
  free : H X.env.locals = none
  freeC : ∀ x c, X.env.cells.lookup x = some c → H c = none
  pin : ∀ p ∈ X.pn ++ pins, s.heap.get? p.1 = some p.2 ∧ H p.1 = none ∧ p.1 ≠ X.env.locals ∧ p.1 ∉ X.fs ∧ ∀ v, p.2.data ≠ .cell v
  hok : HOk X.prog X.w H s.heap
  len : σ.length = X.N.length
section
variable {X : Cx} {pins : List (Addr × Obj)} {σ : List (Option V)} {H H' : Hp} {s : Shared} {h' : Heap}
theorem Cx.Ok.nofr (ok : X.Ok) {b : Addr} {o : Obj} (e : X.base.get? b = some o) : b ∉ X.fs := fun hb => by
  have := (ok.funs.mem hb).1
  rw [e] at this; cases this
theorem Inv.bs (I : Inv X pins σ H s) : ∀ b o, X.base.get? b = some o → s.heap.get? b = some o ∧ H b = none := fun b o e =>
  ⟨I.base.keep b o (I.ok.bs b o e).1 (I.ok.bs b o e).2 (I.ok.nofr e) (I.ok.noex b o e), I.base.free b o (I.ok.bs b o e).1 (I.ok.bs b o e).2 (I.ok.noex b o e)⟩
theorem Inv.bk (I : Inv X pins σ H s) : ∀ b o, X.base.get? b = some o → s.heap.get? b = some o := fun b o e => (I.bs b o e).1
theorem Inv.mod (I : Inv X pins σ H s) : Mod X.K X.mg X.base := I.ok.mod
theorem Inv.kIn (I : Inv X pins σ H s) : X.K.In s.heap := I.ok.mod.kin.keeps I.bk
theorem Inv.lt (I : Inv X pins σ H s) : X.env.locals < s.heap.objs.size := let ⟨_, hn, _⟩ := I.loc; hn.lt
theorem Inv.sz (I : Inv X pins σ H s) : X.s₀.heap.objs.size ≤ s.heap.objs.size := Nat.le_trans I.ok.above (Nat.le_of_lt I.lt)
theorem Inv.nofs (I : Inv X pins σ H s) {a : Addr} (h : s.heap.objs.size ≤ a) : a ∉ X.fs := fun hb => by
  obtain ⟨_, o, ho, _⟩ := I.ok.funs.mem hb
  exact absurd (Nat.lt_of_lt_of_le (Heap.lt_size ho) (Nat.le_trans I.sz h)) (Nat.lt_irrefl _)
theorem Inv.cne (I : Inv X pins σ H s) : ∀ x c, X.env.cells.lookup x = some c → c ≠ X.env.locals := fun x c e z => by
  obtain ⟨v, o, ho, hd⟩ := I.cell x c e
  obtain ⟨m, ⟨o', es, ep, ho', hd', _⟩, _⟩ := I.loc
  rw [z, ho'] at ho; cases ho; rw [hd'] at hd; cases hd
theorem Inv.funs (I : Inv X pins σ H s) : s.heap.FunFrames X.base X.outer := by
  have all : ∀ (l : List Env), (∀ b ∈ frs l, b ∈ X.fs) → X.s₀.heap.FunFrames X.base l → s.heap.FunFrames X.base l := by
    intro l
    induction l with
    | nil => intro _ _; trivial
    | cons env r ih =>
      intro hs hl
      obtain ⟨hk, ⟨L, o, hf, hn, ho, hd⟩, hr⟩ := hl
      have hL : L ∈ X.fs := hs L (by unfold frs; rw [List.filterMap_cons, hf]; exact List.mem_cons_self)
      obtain ⟨sl, e⟩ := I.base.slot L o ho (I.ok.frf L hL) hL fun z => I.ok.exfs L z hL
      exact ⟨hk, ⟨L, _, hf, hn, e, hd⟩, ih (fun b hb => hs b (by unfold frs; rw [List.filterMap_cons, hf]; exact List.mem_cons_of_mem _ hb)) hr⟩
  exact all X.outer (fun _ hb => hb) I.ok.funs
theorem Inv.stack (I : Inv X pins σ H s) : s.heap.FunFrames X.base X.stack := by
  rcases I.ok.stk with e | ⟨e, hf⟩
  · rw [e]; exact I.funs
  · rw [e]
    obtain ⟨m, hn, _⟩ := I.loc
    refine .cons (by rw [I.ok.kind]; decide) hf hn ?_ I.funs
    exact Heap.get?_none_of_le (Nat.le_trans I.ok.bsz I.ok.above)
theorem Inv.stkSub (I : Inv X pins σ H s) : ∀ b ∈ frs X.stack, b ∈ X.env.locals :: X.fs := fun b hb => by
  rcases I.ok.stk with e | ⟨e, hf⟩
  · rw [e] at hb; exact List.mem_cons_of_mem _ hb
  · rw [e] at hb
    unfold frs at hb
    rw [List.filterMap_cons, hf] at hb
    exact hb
theorem Inv.stkFree (I : Inv X pins σ H s) : ∀ b ∈ frs X.stack, H b = none := fun b hb => by
  rcases List.mem_cons.mp (I.stkSub b hb) with e | hb
  · rw [e]; exact I.free
  · obtain ⟨_, o, ho, _⟩ := I.ok.funs.mem hb
    exact I.base.free b o ho (I.ok.frf b hb) fun z => I.ok.exfs b z hb
theorem Inv.step {g' : Array GenState} {t' : Nat} {d' : Drawn} {ch : List Addr} (I : Inv X pins σ H s)
    (hch : ∀ b ∈ ch, (b ∈ X.ex ∨ X.s₀.heap.objs.size ≤ b) ∧ b ≠ X.env.locals ∧ (∀ x c, X.env.cells.lookup x = some c → c ≠ b) ∧ ∀ p ∈ X.pn ++ pins, p.1 ≠ b)
    (keep : ∀ b o, b ≠ X.env.locals → b ∉ X.fs → b ∉ ch → s.heap.get? b = some o → H b = none → h'.get? b = some o)
    (slot : ∀ b o, b ≠ X.env.locals → b ∈ X.fs → b ∉ ch → s.heap.get? b = some o → H b = none → ∃ sl, h'.get? b = some { o with slots := sl }) (free : ∀ b o, b ∉ ch → s.heap.get? b = some o → H b = none → H' b = none)
    (there : ∀ b o, b ∉ ch → s.heap.get? b = some o → ∃ o', h'.get? b = some o')
    (tups : ∀ b xs, H b = some (.tup xs) → H' b = some (.tup xs)) (frzs : ∀ b o u, H b = some (.frz o u) → H' b = some (.frz o u)) (tbls : ∀ b ps, H b = some (.tbl ps) → ∃ more, H' b = some (.tbl (ps ++ more)))
    (ns : ∀ m, s.heap.Ns X.env.locals m → h'.Ns X.env.locals m) (hok : HOk X.prog X.w H' h') (hg : AllBare g') :
    Inv X pins σ H' { s with heap := h', gens := g', drawn := d', toks := t' } := by
  have neL : ∀ b o, X.s₀.heap.get? b = some o → b ≠ X.env.locals := fun b o e => Nat.ne_of_lt (Nat.lt_of_lt_of_le (Heap.lt_size e) I.ok.above)
  have neC : ∀ b o, X.s₀.heap.get? b = some o → b ∉ X.ex → b ∉ ch := fun b o e hx hb => by
    rcases (hch b hb).1 with z | z
    · exact hx z
    · exact absurd (Nat.lt_of_lt_of_le (Heap.lt_size e) z) (Nat.lt_irrefl _)
  have cellK : ∀ x c, X.env.cells.lookup x = some c → ∀ v, s.heap.IsCell c v → h'.IsCell c v := fun x c e v hw' => by
    obtain ⟨o, ho, hd⟩ := hw'
    have nch : c ∉ ch := fun z => (hch c z).2.2.1 x c e rfl
    by_cases hc : c ∈ X.fs
    · obtain ⟨sl, q⟩ := slot c o (I.cne x c e) hc nch ho (I.freeC x c e)
      exact ⟨_, q, hd⟩
    · exact ⟨o, keep c o (I.cne x c e) hc nch ho (I.freeC x c e), hd⟩
  refine ⟨I.ok, I.os, hg, ⟨fun b o e n hb hx => ?_, fun b o e n hb hx => ?_, fun b o e n hx => ?_, fun b o e hx => ?_, fun b xs e => tups b xs (I.base.tups b xs e), fun b o xs e => frzs b o xs (I.base.frzs b o xs e), fun b ps e => ?_⟩, ?_, fun x c e => ?_, ?_, fun x c e => ?_, fun p hp => ?_, hok, I.len⟩
  · exact keep b o (neL b o e) hb (neC b o e hx) (I.base.keep b o e n hb hx) (I.base.free b o e n hx)
  · obtain ⟨sl, e1⟩ := I.base.slot b o e n hb hx
    obtain ⟨sl', e2⟩ := slot b _ (neL b o e) hb (neC b o e hx) e1 (I.base.free b o e n hx)
    exact ⟨sl', e2⟩
  · obtain ⟨o', e1⟩ := I.base.there b o e hx
    exact free b o' (neC b o e hx) e1 (I.base.free b o e n hx)
  · obtain ⟨o', e1⟩ := I.base.there b o e hx
    exact there b o' (neC b o e hx) e1
  · obtain ⟨m1, e1⟩ := I.base.tbls b ps e
    obtain ⟨m2, e2⟩ := tbls b _ e1
    exact ⟨m1 ++ m2, by rw [e2, Array.append_assoc]⟩
  · obtain ⟨m, hn, hl⟩ := I.loc
    refine ⟨m, ns m hn, fun i x v e1 e2 e3 => ?_⟩
    obtain ⟨u, r, l⟩ := hl i x v e1 e2 e3
    refine ⟨u, r, ?_⟩
    rcases l with l | ⟨k, c, e, z⟩
    · exact .inl l
    · exact .inr ⟨k, c, e, cellK x c e _ z⟩
  · obtain ⟨v, z⟩ := I.cell x c e
    exact ⟨v, cellK x c e v z⟩
  · obtain ⟨m, ⟨o, _, _, ho, _⟩, _⟩ := I.loc
    exact free _ o (fun z => (hch _ z).2.1 rfl) ho I.free
  · obtain ⟨v, o, ho, hd⟩ := I.cell x c e
    exact free c o (fun z => (hch c z).2.2.1 x c e rfl) ho (I.freeC x c e)
  · obtain ⟨e, n, ne, nf, d⟩ := I.pin p hp
    have nch : p.1 ∉ ch := fun z => (hch p.1 z).2.2.2 p hp rfl
    exact ⟨keep p.1 p.2 ne nf nch e n, free p.1 p.2 nch e n, ne, nf, d⟩
theorem Inv.un {t' : Nat} (I : Inv X pins σ H s) (u : Un X.fs [] H H' s.heap h') (hok : HOk X.prog X.w H' h') : Inv X pins σ H' { s with heap := h', toks := t' } := by
  obtain ⟨m, ⟨o, es, ep, ho, r⟩, _⟩ := id I.loc
  obtain ⟨sl, hL⟩ := u.any ho I.free (by simp)
  exact I.step (g' := s.gens) (d' := s.drawn) (ch := []) (fun _ z => nomatch z) (fun b o _ hb _ e n => u.keep b o e n hb (by simp)) (fun b o _ hb _ e n => u.slot b o e n hb (by simp)) (fun b o _ e n => u.free b o e n (by simp)) (fun b o _ e => u.there b o e (by simp)) u.tups u.frzs u.tbls (fun m' hm => by
    obtain ⟨o', es', ep', ho', r'⟩ := hm
    rw [ho] at ho'; cases ho'
    exact ⟨_, es', ep', hL, r'⟩) hok I.bare
theorem Inv.call {g' : Array GenState} {t' : Nat} {d' : Drawn} {ch : List Addr} (I : Inv X pins σ H s) (u : Un (frs X.stack) ch H H' s.heap h') (hok : HOk X.prog X.w H' h') (hg : AllBare g')
    (hch : ∀ b ∈ ch, (b ∈ X.ex ∨ X.s₀.heap.objs.size ≤ b) ∧ b ≠ X.env.locals ∧ (∀ x c, X.env.cells.lookup x = some c → c ≠ b) ∧ ∀ p ∈ X.pn ++ pins, p.1 ≠ b) :
    Inv X pins σ H' { s with heap := h', gens := g', drawn := d', toks := t' } := by
  obtain ⟨m, ⟨o, es, ep, ho, r⟩, _⟩ := id I.loc
  obtain ⟨sl, hL⟩ := u.any ho I.free fun z => (hch _ z).2.1 rfl
  exact I.step (ch := ch) hch (fun b o hL hb hc e n => u.keep b o e n (fun z => (List.mem_cons.mp (I.stkSub b z)).elim hL hb) hc) (fun b o _ _ hc e n => u.any e n hc) (fun b o hc e n => u.free b o e n hc) (fun b o hc e => u.there b o e hc) u.tups u.frzs u.tbls (fun m' hm => by
    obtain ⟨o', es', ep', ho', r'⟩ := hm
    rw [ho] at ho'; cases ho'
    exact ⟨_, es', ep', hL, r'⟩) hok hg
theorem Inv.turned {t' : Nat} {it : Addr} (I : Inv X pins σ H s) (k : ∀ b o, b ≠ it → s.heap.get? b = some o → h'.get? b = some o) (hn : H it = none) (hL : it ≠ X.env.locals)
    (h1 : it ∈ X.ex ∨ X.s₀.heap.objs.size ≤ it) (h2 : ∀ x c, X.env.cells.lookup x = some c → c ≠ it) (h3 : ∀ p ∈ X.pn ++ pins, p.1 ≠ it) : Inv X pins σ H { s with heap := h', toks := t' } := by
  have nit : ∀ b u, H b = some u → b ≠ it := fun b u e z => by rw [z, hn] at e; cases e
  refine I.step (g' := s.gens) (d' := s.drawn) (ch := [it]) (fun b hb => ?_) (fun b o _ _ hc e _ => k b o (fun z => hc (by simp [z])) e) (fun b o _ _ hc e _ => ⟨o.slots, k b o (fun z => hc (by simp [z])) e⟩) (fun _ _ _ _ n => n)
    (fun b o hc e => ⟨o, k b o (fun z => hc (by simp [z])) e⟩) (fun _ _ e => e) (fun _ _ _ e => e) (fun b ps e => ⟨#[], by rw [e]; simp⟩) (fun m hm => ?_) (fun b u e => ?_) I.bare
  · have e : b = it := by simpa using hb
    subst e
    exact ⟨h1, hL, h2, h3⟩
  · obtain ⟨o, es, ep, ho, r⟩ := hm
    exact ⟨o, es, ep, k _ o (Ne.symm hL) ho, r⟩
  · refine (I.hok b u e).stay (fun c v hc q => k c v ?_ q) (fun _ q => q) fun _ _ q => q
    rcases hc with z | z
    · rw [z]; exact nit b u e
    · exact nit c _ z
theorem Inv.tok (I : Inv X pins σ H s) (t : Nat) : Inv X pins σ H { s with toks := t } := I.un (h' := s.heap) (t' := t) Un.refl I.hok
theorem Inv.kept {t' : Nat} (I : Inv X pins σ H s) (k : ∀ b u, s.heap.get? b = some u → h'.get? b = some u) : Inv X pins σ H { s with heap := h', toks := t' } := I.un (Un.kept k) (I.hok.kept k)
theorem Inv.laid {a : Addr} {o : HO} {t' : Nat} (I : Inv X pins σ H s) (k : ∀ b u, s.heap.get? b = some u → h'.get? b = some u) (hp : s.heap.objs.size ≤ a) (new : ObjOk X.prog X.w (upd H a o) h' a o) :
    Inv X pins σ (upd H a o) { s with heap := h', toks := t' } := I.un (Un.laid k hp (I.hok.fresh hp)) (I.hok.laid k hp new)
theorem Inv.write {x e : Addr} {o : HO} {t' : Nat} (I : Inv X pins σ H s) (mu : Mut (H x)) (he : e = x ∨ H e = some (.own x)) (k : ∀ b u, b ≠ e → s.heap.get? b = some u → h'.get? b = some u) (heo : ∃ u, h'.get? e = some u)
    (new : ObjOk X.prog X.w (upd H x o) h' x o) : Inv X pins σ (upd H x o) { s with heap := h', toks := t' } := I.un (Un.write mu he k heo) (I.hok.write mu he k heo new)
theorem Inv.pins_of {pins' : List (Addr × Obj)} (I : Inv X pins σ H s) (h : ∀ p ∈ pins', s.heap.get? p.1 = some p.2 ∧ H p.1 = none ∧ p.1 ≠ X.env.locals ∧ p.1 ∉ X.fs ∧ ∀ v, p.2.data ≠ .cell v) : Inv X pins' σ H s :=
  ⟨I.ok, I.os, I.bare, I.base, I.loc, I.cell, I.free, I.freeC, fun p hp => (List.mem_append.mp hp).elim (fun z => I.pin p (List.mem_append_left _ z)) (h p), I.hok, I.len⟩
theorem nodup_ix {N : List Str} (hN : N.Nodup) {i j : Nat} {x : Str} (a : N[i]? = some x) (b : N[j]? = some x) : i = j := by
  obtain ⟨h1, e1⟩ := List.getElem?_eq_some_iff.mp a
  obtain ⟨h2, e2⟩ := List.getElem?_eq_some_iff.mp b
  exact (List.getElem_inj hN).mp (e1.trans e2.symm)
theorem store_ok2 {M : Model} {A : Around} {E : Value → Shared → Prop} {i : Nat} {x : Str} {v : V} {u : Value} {Q : Unit → Shared → Prop} (I : Inv X pins σ H s) (hN : X.N.Nodup) (hi : X.N[i]? = some x) (hx : Loc X.env.scope x) (r : RelV v u)
    (h : ∀ s', Inv X pins (σ.set i (some v)) H s' → (∃ a, Heap.SameBut a s.heap s'.heap ∧ (a = X.env.locals ∨ X.env.cells.lookup x = some a)) → Q () s') (hf : X.fn x = true ∨ X.env.scope.names.lookup x = some .local := by first | exact .inl rfl | exact .inr rfl | assumption) : wpAny M A (storeName X.env x u) Q E s := by
  obtain ⟨m, hn, hl⟩ := id I.loc
  have hcls : (X.env.scope.kind == .class || (X.env.scope.kind == .module && X.env.locals != X.env.globals)) = false := by rw [I.ok.kind]; rfl
  have hiσ : i < σ.length := by rw [I.len]; exact (List.getElem?_eq_some_iff.mp hi).1
  have cne := I.cne
  have tracked : ∀ {a : Addr} {h' : Heap}, (∃ o, s.heap.get? a = some o ∧ H a = none) → Heap.SameBut a s.heap h' → HOk X.prog X.w H h' := fun {a h'} ha hs b ob e => by
    obtain ⟨_, _, hfree⟩ := ha
    refine (I.hok b ob e).stay (fun c w' hc q => (hs.2 c ?_).trans q) (fun _ q => q) fun _ _ q => q
    rintro rfl
    rcases hc with rfl | hc
    · rw [hfree] at e; cases e
    · rw [hfree] at hc; cases hc
  rcases hx with hk | hk
  · refine wpAny_storeName_local hk hn (fun h' hn' hs => ?_) hcls
    obtain ⟨oL, _, _, hoL, _⟩ := id hn
    refine h _ ⟨I.ok, I.os, I.bare, ⟨fun b o e n hb hx => ?_, fun b o e n hb hx => ?_, I.base.free, fun b o e hx => ?_, I.base.tups, I.base.frzs, I.base.tbls⟩, ⟨_, hn', fun j y v' e1 e2 e3 => ?_⟩, fun y c e => ?_, I.free, I.freeC, fun p hp => ?_, tracked ⟨oL, hoL, I.free⟩ hs, by simpa using I.len⟩ ⟨_, hs, .inl rfl⟩
    · exact (hs.2 b (Nat.ne_of_lt (Nat.lt_of_lt_of_le (Heap.lt_size e) I.ok.above))).trans (I.base.keep b o e n hb hx)
    · obtain ⟨sl, e1⟩ := I.base.slot b o e n hb hx
      exact ⟨sl, (hs.2 b (Nat.ne_of_lt (Nat.lt_of_lt_of_le (Heap.lt_size e) I.ok.above))).trans e1⟩
    · obtain ⟨o', e1⟩ := I.base.there b o e hx
      exact ⟨o', (hs.2 b (Nat.ne_of_lt (Nat.lt_of_lt_of_le (Heap.lt_size e) I.ok.above))).trans e1⟩
    · by_cases hj : j = i
      · subst hj
        rw [hi] at e1; cases e1
        rw [List.getElem?_set_self hiσ] at e2
        cases e2
        exact ⟨u, r, .inl ⟨hk, by simp⟩⟩
      · rw [List.getElem?_set_ne (Ne.symm hj)] at e2
        obtain ⟨u', r', q⟩ := hl j y v' e1 e2 e3
        refine ⟨u', r', ?_⟩
        rcases q with ⟨k, e⟩ | ⟨k, c, e, z⟩
        · refine .inl ⟨k, ?_⟩
          have : y ≠ x := fun e => hj (nodup_ix hN e1 (e ▸ hi))
          simp [this, e]
        · exact .inr ⟨k, c, e, z.sameBut hs (cne y c e)⟩
    · obtain ⟨w', z⟩ := I.cell y c e
      exact ⟨w', z.sameBut hs (cne y c e)⟩
    · obtain ⟨e, n, ne, nf, d⟩ := I.pin p hp
      exact ⟨(hs.2 p.1 ne).trans e, n, ne, nf, d⟩
  · have hfn : X.fn x = true := by
      rcases hf with z | z
      · exact z
      · rw [z] at hk; cases hk
    obtain ⟨c, hc⟩ := I.ok.has x (.inl hk)
    obtain ⟨w', z⟩ := I.cell x c hc
    refine wpAny_storeName_cell I.ok.kind hk hc z (fun h' hc' hs => ?_)
    obtain ⟨oc, hoc, hocd⟩ := id z
    refine h { s with heap := h' } ⟨I.ok, I.os, I.bare, ⟨fun b o e n hb hx => ?_, fun b o e n hb hx => ?_, I.base.free, fun b o e hx => ?_, I.base.tups, I.base.frzs, I.base.tbls⟩, ⟨m, hn.sameBut hs (Ne.symm (cne x c hc)), fun j y v' e1 e2 e3 => ?_⟩, fun y c' e => ?_, I.free, I.freeC, fun p hp => ?_, tracked ⟨oc, hoc, I.freeC x c hc⟩ hs, by simpa using I.len⟩ ⟨c, hs, .inr hc⟩
    · exact (hs.2 b (Nat.ne_of_lt (Nat.lt_of_lt_of_le (Heap.lt_size e) (I.ok.cab x c hfn hc)))).trans (I.base.keep b o e n hb hx)
    · obtain ⟨sl, e1⟩ := I.base.slot b o e n hb hx
      exact ⟨sl, (hs.2 b (Nat.ne_of_lt (Nat.lt_of_lt_of_le (Heap.lt_size e) (I.ok.cab x c hfn hc)))).trans e1⟩
    · obtain ⟨o', e1⟩ := I.base.there b o e hx
      exact ⟨o', (hs.2 b (Nat.ne_of_lt (Nat.lt_of_lt_of_le (Heap.lt_size e) (I.ok.cab x c hfn hc)))).trans e1⟩
    · by_cases hj : j = i
      · subst hj
        rw [hi] at e1; cases e1
        rw [List.getElem?_set_self hiσ] at e2
        cases e2
        exact ⟨u, r, .inr ⟨.inl hk, c, hc, hc'⟩⟩
      · rw [List.getElem?_set_ne (Ne.symm hj)] at e2
        obtain ⟨u', r', q⟩ := hl j y v' e1 e2 e3
        refine ⟨u', r', ?_⟩
        rcases q with q | ⟨k, c', e, z'⟩
        · exact .inl q
        · refine .inr ⟨k, c', e, z'.sameBut hs ?_⟩
          rintro rfl
          exact hj (nodup_ix hN e1 (I.ok.inj _ _ _ e hc ▸ hi))
    · by_cases hcc : c' = c
      · subst hcc; exact ⟨_, hc'⟩
      · obtain ⟨w2, z2⟩ := I.cell y c' e
        exact ⟨w2, z2.sameBut hs hcc⟩
    · obtain ⟨e, n, ne, nf, d⟩ := I.pin p hp
      refine ⟨(hs.2 p.1 ?_).trans e, n, ne, nf, d⟩
      intro q
      rw [q, hoc] at e
      have q' : oc = p.2 := Option.some.inj e
      exact d w' (by rw [← q']; exact hocd)
theorem store_ok {M : Model} {A : Around} {E : Value → Shared → Prop} {i : Nat} {x : Str} {v : V} {u : Value} {Q : Unit → Shared → Prop} (I : Inv X pins σ H s) (hN : X.N.Nodup) (hi : X.N[i]? = some x) (hx : Loc X.env.scope x) (r : RelV v u)
    (h : ∀ s', Inv X pins (σ.set i (some v)) H s' → Q () s') (hf : X.fn x = true ∨ X.env.scope.names.lookup x = some .local := by first | exact .inl rfl | exact .inr rfl | assumption) : wpAny M A (storeName X.env x u) Q E s :=
  store_ok2 I hN hi hx r (fun s' I' _ => h s' I') hf
theorem Inv.call' {s' : Shared} {ch : List Addr} (I : Inv X pins σ H s) (ho : s'.os = s.os) (u : Un (frs X.stack) ch H H' s.heap s'.heap) (hok : HOk X.prog X.w H' s'.heap) (hg : AllBare s'.gens)
    (hch : ∀ b ∈ ch, (b ∈ X.ex ∨ X.s₀.heap.objs.size ≤ b) ∧ b ≠ X.env.locals ∧ (∀ x c, X.env.cells.lookup x = some c → c ≠ b) ∧ ∀ p ∈ X.pn ++ pins, p.1 ≠ b) : Inv X pins σ H' s' := by
  obtain ⟨h', g', d', t', o'⟩ := s'
  have e : o' = s.os := ho
  subst e
  exact I.call (g' := g') (t' := t') (d' := d') u hok hg hch
end
abbrev XK := Value → Option Addr → Hp → Prop
abbrev St := List (Option V)
abbrev VK := V → Hp → Prop
abbrev TE := St → Hp → VK → Prop
abbrev TT := St → Hp → (Bool → Hp → Prop) → Prop
abbrev TA := St → Hp → (List V → Hp → Prop) → Prop
structure Ends where
  nx : St → Hp → Prop
  rt : VK
  bk : St → Hp → Prop := fun _ _ => False
  ct : St → Hp → Prop := fun _ _ => False
abbrev TS := Ends → St → Hp → Prop
def EP (X : Cx) (pins : List (Addr × Obj)) (σ : St) (Q : VK) (u : Value) (s' : Shared) : Prop := ∃ v H', Inv X pins σ H' s' ∧ RelV v u ∧ Q v H'
def TP (X : Cx) (pins : List (Addr × Obj)) (σ : St) (Q : Bool → Hp → Prop) (b : Bool) (s' : Shared) : Prop := ∃ H', Inv X pins σ H' s' ∧ Q b H'
def AP (X : Cx) (pins : List (Addr × Obj)) (σ : St) (Q : List V → Hp → Prop) (us : List Value) (s' : Shared) : Prop := ∃ vs H', Inv X pins σ H' s' ∧ Vals vs us ∧ Q vs H'
def SP (X : Cx) (pins : List (Addr × Obj)) (D : Ends) (f : Flow) (s' : Shared) : Prop :=
  match f with
  | .next => ∃ σ' H', Inv X pins σ' H' s' ∧ D.nx σ' H'
  | .brk => ∃ σ' H', Inv X pins σ' H' s' ∧ D.bk σ' H'
  | .cont => ∃ σ' H', Inv X pins σ' H' s' ∧ D.ct σ' H'
  | .ret u => ∃ v σ' H', Inv X pins σ' H' s' ∧ RelV v u ∧ D.rt v H'
def PE (X : Cx) (e : Expr) (t : TE) : Prop :=
  ∀ (pins : List (Addr × Obj)) (s : Shared) (σ : St) (H : Hp) (Q : VK), Inv X pins σ H s → t σ H Q → wpAny (model X.prog X.w) X.A (eval e X.env) (EP X pins σ Q) X.xe s
def PT (X : Cx) (e : Expr) (t : TT) : Prop :=
  ∀ (pins : List (Addr × Obj)) (s : Shared) (σ : St) (H : Hp) (Q : Bool → Hp → Prop), Inv X pins σ H s → t σ H Q → wpAny (model X.prog X.w) X.A (isTrue e X.env (eval e X.env)) (TP X pins σ Q) X.xe s
def PW (X : Cx) (e : Expr) (t : TT) : Prop :=
  ∀ (whole : Sem Value) (pins : List (Addr × Obj)) (s : Shared) (σ : St) (H : Hp) (Q : Bool → Hp → Prop), Inv X pins σ H s → t σ H Q → wpAny (model X.prog X.w) X.A (isTrue e X.env whole) (TP X pins σ Q) X.xe s
theorem PW.pt {X : Cx} {e : Expr} {t : TT} (h : PW X e t) : PT X e t := h _
def PA (X : Cx) (es : List Expr) (t : TA) : Prop :=
  ∀ (pos : Pos) (pins : List (Addr × Obj)) (s : Shared) (σ : St) (H : Hp) (Q : List V → Hp → Prop), Inv X pins σ H s → t σ H Q → wpAny (model X.prog X.w) X.A (spliced (backTo pos (starEach es X.env))) (AP X pins σ Q) X.xe s
def PS (X : Cx) (st : Stmt) (t : TS) : Prop :=
  ∀ (pins : List (Addr × Obj)) (s : Shared) (σ : St) (H : Hp) (D : Ends), Inv X pins σ H s → t D σ H → wpAny (model X.prog X.w) X.A (exec st X.env) (SP X pins D) X.xe s
def PSs (X : Cx) (st : List Stmt) (t : TS) : Prop :=
  ∀ (pins : List (Addr × Obj)) (s : Shared) (σ : St) (H : Hp) (D : Ends), Inv X pins σ H s → t D σ H → wpAny (model X.prog X.w) X.A (execs st X.env) (SP X pins D) X.xe s
theorem thn {α : Type} {t : Sem α} {Q Q' : α → Shared → Prop} {M : Model} {A : Around} {E : Value → Shared → Prop} {s : Shared} (h : wpAny M A t Q E s) (hQ : ∀ a s, Q a s → Q' a s) : wpAny M A t Q' E s := wpAny_mono h hQ fun _ _ x => x
end L2
namespace L2
open PySem PySem.Spec PyProof.Rows
section
variable {X : Cx}
def tVar (i : Nat) : TE := fun σ H Q => ∃ v, σ[i]? = some (some v) ∧ Q v H
def tC (v : V) : TE := fun _ H Q => Q v H
theorem pe_var {i : Nat} {x : Str} {pos : Pos} (hN : X.N[i]? = some x) (hv : Vis X.env.scope x) (hd : (x == ("__debug__" : Str)) = false := by decide) (hcd : (x == ("__classdict__" : Str)) = false := by decide) : PE X (.Name x pos) (tVar i) := by
  intro pins s σ H Q I h
  obtain ⟨v, e, h⟩ := h
  obtain ⟨m, hn, hl⟩ := I.loc
  obtain ⟨u, r, l⟩ := hl i x v hN e hv
  have fin : EP X pins σ Q u s := ⟨v, H, I, r, h⟩
  rcases l with ⟨hk, hm⟩ | ⟨hk, c, hc, hcell⟩
  · exact wpAny_Name (wpAny_loadName_local I.ok.kind hk hn hm fin) hd
  · rcases hk with hk | hk
    · exact wpAny_Name (wpAny_loadName_cell I.ok.kind hk hc hcell fin) hd
    · exact wpAny_Name (wpAny_loadName_free I.ok.kind hk hc hcell fin hcd) hd
theorem pe_int {i j pos} : PE X (.Constant (.int i) j pos) (tC (.int i)) := fun _ _ _ H _ I h => wpAny_Constant_int ⟨.int i, H, I.tok _, ⟨_, rfl⟩, h⟩
theorem pe_bl {b j pos} : PE X (.Constant (.bool b) j pos) (tC (.bl b)) := fun _ _ _ H _ I h => Constant_bool ⟨.bl b, H, I, rfl, h⟩
theorem pe_non {j pos} : PE X (.Constant .none j pos) (tC .non) := fun _ _ _ H _ I h => Constant_none ⟨.non, H, I, rfl, h⟩
def Gl (X : Cx) (x : Str) : Prop := X.env.kindOf x = some .globalImplicit
theorem ld_glob {E : Value → Shared → Prop} {pins : List (Addr × Obj)} {s : Shared} {σ : St} {H : Hp} {x : Str} {u : Value} {pos : Pos} {Q : Value → Shared → Prop} (I : Inv X pins σ H s) (hg : Gl X x) (hm : X.mg x = some u) (h : Q u s)
    (hd : (x == ("__debug__" : Str)) = false := by decide) : wpAny (model X.prog X.w) X.A (eval (.Name x pos) X.env) Q E s :=
  Calls.Name_function_global I.ok.kind hg (Calls.loadGlobal_global (by rw [I.ok.glob]; exact I.mod.glob.keeps I.bk) hm h) hd
theorem ld_blt {E : Value → Shared → Prop} {pins : List (Addr × Obj)} {s : Shared} {σ : St} {H : Hp} {x : Str} {u : Value} {pos : Pos} {Q : Value → Shared → Prop} (I : Inv X pins σ H s) (hg : Gl X x) (hm : X.mg x = none) (hv : bootBuiltins x = some u) (h : Q u s)
    (hn : x ≠ "__name__" := by decide) (hd : (x == ("__debug__" : Str)) = false := by decide) : wpAny (model X.prog X.w) X.A (eval (.Name x pos) X.env) Q E s := by
  obtain ⟨mb, h1, h2⟩ := I.mod.blt
  exact Calls.Name_function_global I.ok.kind hg (Calls.loadGlobal_builtin (by rw [I.ok.glob]; exact I.mod.glob.keeps I.bk) hm (by rw [I.ok.blt]; exact h1.keeps I.bk) ((h2 x hn).trans hv) h) hd
theorem pe_glob {x : Str} {v : V} {u : Value} {pos : Pos} (hg : Gl X x) (hm : X.mg x = some u) (r : RelV v u) (hd : (x == ("__debug__" : Str)) = false := by decide) : PE X (.Name x pos) (tC v) :=
  fun _ _ _ H _ I h => ld_glob I hg hm ⟨v, H, I, r, h⟩ hd
variable {a b : Expr} {ta tb : TE} {pos : Pos}
def PC (X : Cx) (op : CmpOp) (a b : Expr) (t : TE) : Prop :=
  ∀ (pins : List (Addr × Obj)) (s : Shared) (σ : St) (H : Hp) (Q : VK), Inv X pins σ H s → t σ H Q →
    wpAny (model X.prog X.w) X.A (eval a X.env) (fun v s₁ => wpAny (model X.prog X.w) X.A (eval b X.env) (fun u s₂ => wpAny (model X.prog X.w) X.A (compareOp op v u) (EP X pins σ Q) X.xe s₂) X.xe s₁) X.xe s
def tB (t : TE) : TT := fun σ H Q => t σ H fun x H1 => ∃ c, x = .bl c ∧ Q c H1
theorem pe_cmp {op : CmpOp} {t : TE} (h : PC X op a b t) (h1 : behindInMarks op b = false := by first | exact nobehind _ (by decide) (by decide) | rfl) : PE X (.Compare a [op] [b] pos) t := fun pins s σ H Q I hw => wpAny_Compare1 (h pins s σ H Q I hw) h1
theorem pt_cmp {op : CmpOp} {t : TE} (h : PC X op a b t) (h1 : behindInMarks op b = false := by first | exact nobehind _ (by decide) (by decide) | rfl) : PT X (.Compare a [op] [b] pos) (tB t) := by
  intro pins s σ H Q I hw
  refine wpAny_isTrue_Compare1 (thn (h pins s σ H _ I hw) fun v s1 h1 => thn h1 fun u s2 h2 => thn h2 fun c s3 hw' => ?_) h1
  obtain ⟨x, H1, I1, r1, q1⟩ := hw'
  obtain ⟨d, rfl, q⟩ := q1
  cases r1
  exact wpAny_truthy_bool ⟨H1, I1, q⟩
theorem pt_val {e : Expr} {t : TE} (h : PE X e t) (he : ∀ whole, isTrue e X.env whole = (do let v ← whole; standAt e.pos; holding [v] (truthy v)) := by intro _; rfl) : PT X e (tB t) := by
  intro pins s σ H Q I hw
  refine isTrue_plain (thn (h pins s σ H _ I hw) fun v s1 ⟨x, H1, I1, r1, q1⟩ => ?_) (he _)
  obtain ⟨d, rfl, q⟩ := q1
  cases r1
  exact wpAny_truthy_bool ⟨H1, I1, q⟩
variable {tA tB' : TT} {rest : List Expr}
def tAnd (t u : TT) : TT := fun σ H Q => t σ H fun c H1 => if c = true then u σ H1 Q else Q false H1
def tOr (t u : TT) : TT := fun σ H Q => t σ H fun c H1 => if c = true then Q true H1 else u σ H1 Q
def tNot (t : TT) : TT := fun σ H Q => t σ H fun c H1 => Q (!c) H1
theorem pw_and1 (ha : PT X a tA) : PW X (.BoolOp .And [a] pos) tA := by
  intro wh pins s σ H Q I h
  refine isTrue_and (thn (ha pins s σ H Q I h) fun c s1 e => ?_)
  cases c with
  | true => exact isTrue_and_nil e
  | false => exact e
theorem pw_or1 (ha : PT X a tA) : PW X (.BoolOp .Or [a] pos) tA := by
  intro wh pins s σ H Q I h
  refine isTrue_or (thn (ha pins s σ H Q I h) fun c s1 e => ?_)
  cases c with
  | false => exact isTrue_or_nil e
  | true => exact e
theorem pw_and (ha : PT X a tA) (hb : PW X (.BoolOp .And (b :: rest) pos) tB') : PW X (.BoolOp .And (a :: b :: rest) pos) (tAnd tA tB') := by
  intro wh pins s σ H Q I h
  refine isTrue_and (thn (ha pins s σ H _ I h) fun c s1 ⟨H1, I1, q1⟩ => ?_)
  cases c with
  | true => exact hb wh pins s1 σ H1 Q I1 q1
  | false => exact ⟨H1, I1, q1⟩
theorem pw_or (ha : PT X a tA) (hb : PW X (.BoolOp .Or (b :: rest) pos) tB') : PW X (.BoolOp .Or (a :: b :: rest) pos) (tOr tA tB') := by
  intro wh pins s σ H Q I h
  refine isTrue_or (thn (ha pins s σ H _ I h) fun c s1 ⟨H1, I1, q1⟩ => ?_)
  cases c with
  | true => exact ⟨H1, I1, q1⟩
  | false => exact hb wh pins s1 σ H1 Q I1 q1
theorem pt_not (ha : PT X a tA) : PT X (.UnaryOp .Not a pos) (tNot tA) := by
  intro pins s σ H Q I h
  exact isTrue_not (ha pins s σ H (fun c H1 => Q (!c) H1) I h)
def tAndV (ta tb : TE) : TE := fun σ H Q => ta σ H fun x H1 => ∃ c, x = .bl c ∧ if c = true then tb σ H1 Q else Q (.bl false) H1
theorem pe_one {op} {t : TE} (h : PE X a t) : PE X (.BoolOp op [a] pos) t := fun pins s σ H Q I hw => BoolOp_one (h pins s σ H Q I hw)
theorem pe_and (ha : PE X a ta) (hb : PE X (.BoolOp .And (b :: rest) pos) tb) : PE X (.BoolOp .And (a :: b :: rest) pos) (tAndV ta tb) := by
  intro pins s σ H Q I h
  refine BoolOp_and (thn (ha pins s σ H _ I h) fun v s1 hw' => ?_)
  obtain ⟨x, H1, I1, r1, q1⟩ := hw'
  obtain ⟨c, rfl, q1⟩ := q1
  cases r1
  refine wpAny_truthy_bool ?_
  cases c with
  | true => exact hb pins s1 σ H1 Q I1 q1
  | false => exact ⟨.bl false, H1, I1, rfl, q1⟩
def tIf (t : TT) (ta tb : TE) : TE := fun σ H Q => t σ H fun c H1 => if c = true then ta σ H1 Q else tb σ H1 Q
theorem pe_ifExp {c : Expr} (hc : PT X c tA) (ha : PE X a ta) (hb : PE X b tb) : PE X (.IfExp c a b pos) (tIf tA ta tb) := by
  intro pins s σ H Q I h
  refine wpAny_IfExp (thn (hc pins s σ H _ I h) fun d s1 ⟨H1, I1, q1⟩ => ?_)
  cases d with
  | true => exact ha pins s1 σ H1 Q I1 q1
  | false => exact hb pins s1 σ H1 Q I1 q1
end
end L2
namespace L2
open PySem PySem.Spec PyProof.Rows
def SqL (K : PySem.W.Frag) (H : Hp) (a : Addr) (xs : List V) : Prop :=
  Rd H a (.lst xs) ∨
    ∃ (o : Obj) (its : Array Value) (n : Nat), K.lookup a = some o ∧ o.cls = .type "list" ∧ o.dict = none ∧ o.data = .seq its n ∧ its.size ≤ sizeLine ∧ Vals xs its.toList
def SqT (K : PySem.W.Frag) (H : Hp) (a : Addr) (xs : List V) : Prop :=
  Rd H a (.tup xs) ∨
    ∃ (o : Obj) (its : Array Value) (n : Nat), K.lookup a = some o ∧ o.cls = .type "tuple" ∧ o.data = .seq its n ∧ its.size ≤ sizeLine ∧ Vals xs its.toList
def absV : Value → Option V
  | .none => some .non
  | .bool b => some (.bl b)
  | .int i _ => some (.int i)
  | .str x _ => some (.str x)
  | .bytes b _ => some (.byt b)
  | .float b _ => some (.flt b)
  | .ref a => some (.ref a)
  | .type n => some (.ty n)
  | _ => none
theorem RelV.abs {x : V} {u : Value} (r : RelV x u) : absV u = some x := by
  cases x with
  | non => cases r; rfl
  | bl _ => cases r; rfl
  | int _ => obtain ⟨t, rfl⟩ := r; rfl
  | str _ => obtain ⟨t, rfl⟩ := r; rfl
  | byt _ => obtain ⟨t, rfl⟩ := r; rfl
  | flt _ => obtain ⟨t, rfl⟩ := r; rfl
  | ref _ => cases r; rfl
  | ty _ => cases r; rfl
theorem RelV.inj {x y : V} {u : Value} (r : RelV x u) (q : RelV y u) : x = y := Option.some.inj (r.abs.symm.trans q.abs)
theorem Vals.inj : ∀ {xs ys : List V} {us : List Value}, Vals xs us → Vals ys us → xs = ys
  | _, _, _, .nil, .nil => rfl
  | _, _, _, .cons r t, .cons r' t' => by rw [r.inj r', Vals.inj t t']
section
variable {X : Cx} {pins : List (Addr × Obj)} {σ : St} {H : Hp} {s : Shared} {a : Addr} {xs ys : List V}
theorem SqL.of {K : PySem.W.Frag} (h : H a = some (.lst xs)) : SqL K H a xs := .inl (.inl h)
theorem SqT.of {K : PySem.W.Frag} (h : H a = some (.tup xs)) : SqT K H a xs := .inl (.inl h)
theorem Inv.list (I : Inv X pins σ H s) (h : SqL X.K H a xs) : ∃ its : List Value, Vals xs its ∧ PlainL s.heap a its.toArray ∧ xs.length ≤ sizeLine := by
  rcases h with h | ⟨o, its, n, hk, hc, hd, hs, hz, r⟩
  · obtain ⟨z, its, n, r, e⟩ := h.ok I.hok
    exact ⟨its, r, ⟨_, n, e, rfl, rfl, rfl⟩, z⟩
  · refine ⟨its.toList, r, ⟨o, n, I.kIn a o hk, hc, hd, by simpa using hs⟩, ?_⟩
    have e := r.length
    simp only [Array.length_toList] at e
    omega
theorem Inv.tuple (I : Inv X pins σ H s) (h : SqT X.K H a xs) : ∃ its : List Value, Vals xs its ∧ IsTup s.heap a its.toArray ∧ xs.length ≤ sizeLine := by
  rcases h with h | ⟨o, its, n, hk, hc, hs, hz, r⟩
  · obtain ⟨z, its, r, p⟩ := h.ok I.hok
    exact ⟨its, r, p, z⟩
  · refine ⟨its.toList, r, ⟨o, I.kIn a o hk, hc, n, by simpa using hs⟩, ?_⟩
    have e := r.length
    simp only [Array.length_toList] at e
    omega
theorem Inv.list_inj (I : Inv X pins σ H s) (h : SqL X.K H a xs) (h' : SqL X.K H a ys) : xs = ys := by
  obtain ⟨its, r, ⟨o, n, e, _, _, d⟩, _⟩ := I.list h
  obtain ⟨its', r', ⟨o', n', e', _, _, d'⟩, _⟩ := I.list h'
  rw [e] at e'; cases e'
  rw [d] at d'
  injection d' with d1 _
  have : its = its' := by simpa using congrArg Array.toList d1
  subst this
  exact r.inj r'
end
abbrev Cx.wish (X : Cx) (E : Value → Shared → Prop) : Cx := { X with xe := E }
abbrev Cx.nox (X : Cx) : Cx := X.wish fun _ _ => False
theorem Cx.Ok.wish {X : Cx} (ok : X.Ok) (E : Value → Shared → Prop) : (X.wish E).Ok :=
  ⟨ok.mod, ok.kind, ok.glob, ok.blt, ok.above, ok.inj, ok.has, ok.cab, ok.hd, ok.frames, ok.stk, ok.exf, ok.bs, ok.bsz, ok.noex, ok.exfs, ok.funs, ok.frf⟩
theorem Cx.Ok.unwish {X : Cx} {E : Value → Shared → Prop} (ok : (X.wish E).Ok) : X.Ok :=
  ⟨ok.mod, ok.kind, ok.glob, ok.blt, ok.above, ok.inj, ok.has, ok.cab, ok.hd, ok.frames, ok.stk, ok.exf, ok.bs, ok.bsz, ok.noex, ok.exfs, ok.funs, ok.frf⟩
section
variable {X : Cx} {pins : List (Addr × Obj)} {σ : St} {H : Hp} {s : Shared} {E : Value → Shared → Prop}
theorem Inv.wish (I : Inv X pins σ H s) (E : Value → Shared → Prop) : Inv (X.wish E) pins σ H s := ⟨I.ok.wish E, I.os, I.bare, I.base, I.loc, I.cell, I.free, I.freeC, I.pin, I.hok, I.len⟩
theorem Inv.unwish (I : Inv (X.wish E) pins σ H s) : Inv X pins σ H s := ⟨I.ok.unwish, I.os, I.bare, I.base, I.loc, I.cell, I.free, I.freeC, I.pin, I.hok, I.len⟩
theorem SP.unwish {D : Ends} {f : Flow} {s' : Shared} (h : SP (X.wish E) pins D f s') : SP X pins D f s' := by
  cases f with
  | next => obtain ⟨σ', H', I, q⟩ := h; exact ⟨σ', H', I.unwish, q⟩
  | brk => obtain ⟨σ', H', I, q⟩ := h; exact ⟨σ', H', I.unwish, q⟩
  | cont => obtain ⟨σ', H', I, q⟩ := h; exact ⟨σ', H', I.unwish, q⟩
  | ret u => obtain ⟨v, σ', H', I, r, q⟩ := h; exact ⟨v, σ', H', I.unwish, r, q⟩
theorem PSs.nox {st : List Stmt} {t : TS} (h : PSs X.nox st t) : PSs X st t := fun pins s σ H D I hw =>
  wpAny_mono (h pins s σ H D (I.wish _) hw) (fun _ _ q => q.unwish) fun _ _ z => False.elim z
end
section
variable {X : Cx} {st : Stmt} {rest : List Stmt} {t u : TS} {e : Expr} {te : TE} {pos : Pos}
def tNext : TS := fun D σ H => D.nx σ H
def tSeq (t u : TS) : TS := fun D σ H => t { D with nx := u D } σ H
theorem pss_nil : PSs X [] tNext := fun _ _ σ H _ I h => wpAny_execs_nil ⟨σ, H, I, h⟩
theorem pss_cons (h1 : PS X st t) (h2 : PSs X rest u) : PSs X (st :: rest) (tSeq t u) := by
  intro pins s σ H D I h
  refine wpAny_execs_cons (thn (h1 pins s σ H { D with nx := u D } I h) fun f s1 q => ?_)
  cases f with
  | next =>
    obtain ⟨σ', H', I', q⟩ := q
    exact h2 pins s1 σ' H' D I' q
  | ret v => exact q
  | brk => exact q
  | cont => exact q
theorem pss_one (h1 : PS X st t) : PSs X [st] t := by
  intro pins s σ H D I h
  refine wpAny_execs_cons (thn (h1 pins s σ H D I h) fun f s1 q => ?_)
  cases f with
  | next => exact wpAny_execs_nil q
  | ret v => exact q
  | brk => exact q
  | cont => exact q
theorem Inv.quiet {pins : List (Addr × Obj)} {σ : St} {H : Hp} {s : Shared} (I : Inv X pins σ H s) : interactive X.env = false := by simp [interactive, I.ok.kind]
def tDrop (te : TE) : TS := fun D σ H => te σ H fun _ H1 => D.nx σ H1
theorem ps_expr (he : PE X e te) (hs : swapsWith e none pos.line X.env = pure false := by rfl) : PS X (.Expr e pos) (tDrop te) := by
  intro pins s σ H D I h
  exact wpAny_Expr_any (thn (he pins s σ H _ I h) fun v s1 ⟨x, H1, I1, r1, q1⟩ => ⟨σ, H1, I1, q1⟩) I.quiet hs
def tRet (te : TE) : TS := fun D σ H => te σ H D.rt
theorem ps_ret (he : PE X e te) : PS X (.Return (some e) pos) (tRet te) := by
  intro pins s σ H D I h
  exact wpAny_Return_some (thn (he pins s σ H _ I h) fun v s1 ⟨x, H1, I1, r1, q1⟩ => ⟨x, σ, H1, I1, r1, q1⟩)
def tIfS (c : TT) (t u : TS) : TS := fun D σ H => c σ H fun b H1 => if b = true then t D σ H1 else u D σ H1
theorem ps_if {c : Expr} {a b : List Stmt} {tc : TT} (hc : PT X c tc) (ha : PSs X a t) (hb : PSs X b u) : PS X (.If c a b pos) (tIfS tc t u) := by
  intro pins s σ H D I h
  refine wpAny_If (thn (hc pins s σ H _ I h) fun d s1 ⟨H1, I1, q1⟩ => ?_)
  cases d with
  | true => exact ha pins s1 σ H1 D I1 q1
  | false => exact hb pins s1 σ H1 D I1 q1
def tNever : TS := fun _ _ _ => False
theorem ps_never : PS X st tNever := fun _ _ _ _ _ _ h => h.elim
end
abbrev TG := V → St → Hp → (St → Hp → Prop) → Prop
abbrev TGs := List V → St → Hp → (St → Hp → Prop) → Prop
def PG (X : Cx) (target : Expr) (t : TG) : Prop :=
  ∀ (pins : List (Addr × Obj)) (s : Shared) (σ : St) (H : Hp) (v : V) (u : Value) (Q : St → Hp → Prop), Inv X pins σ H s → RelV v u → t v σ H Q →
    wpAny (model X.prog X.w) X.A (assign target X.env u) (fun _ s' => ∃ σ' H', Inv X pins σ' H' s' ∧ Q σ' H') X.xe s
def PGs (X : Cx) (ts : List Expr) (t : TGs) : Prop :=
  ∀ (pins : List (Addr × Obj)) (s : Shared) (σ : St) (H : Hp) (vs : List V) (us : List Value) (Q : St → Hp → Prop), Inv X pins σ H s → Vals vs us → t vs σ H Q →
    wpAny (model X.prog X.w) X.A (assignInOrder ((assignEach ts X.env).map (·.2)) us) (fun _ s' => ∃ σ' H', Inv X pins σ' H' s' ∧ Q σ' H') X.xe s
abbrev TSet := V → V → V → Hp → (Hp → Prop) → Prop
def PSet (X : Cx) (t : TSet) : Prop :=
  ∀ (pins : List (Addr × Obj)) (s : Shared) (σ : St) (H : Hp) (o i v : V) (ov iv u : Value) (Q : Hp → Prop), Inv X pins σ H s → RelV o ov → RelV i iv → RelV v u → t o i v H Q →
    wpAny (model X.prog X.w) X.A (setItem ov iv u) (fun _ s' => ∃ H', Inv X pins σ H' s' ∧ Q H') X.xe s
section
variable {X : Cx} {pos : Pos}
def gName (i : Nat) : TG := fun v σ H Q => Q (σ.set i (some v)) H
theorem pg_name {i : Nat} {x : Str} (hN : X.N.Nodup) (hi : X.N[i]? = some x) (hx : Loc X.env.scope x) (hf : X.fn x = true ∨ X.env.scope.names.lookup x = some .local := by first | exact .inl rfl | exact .inr rfl | assumption) : PG X (.Name x pos) (gName i) := by
  intro pins s σ H v u Q I r h
  exact wpAny_assign_Name (store_ok I hN hi hx r (fun s' I' => ⟨_, H, I', h⟩) hf)
def gNil : TGs := fun vs σ H Q => vs = [] ∧ Q σ H
def gCons (t : TG) (u : TGs) : TGs := fun vs σ H Q => ∃ v r, vs = v :: r ∧ t v σ H fun σ' H' => u r σ' H' Q
theorem pgs_nil : PGs X [] gNil := by
  intro pins s σ H vs us Q I r h
  obtain ⟨e, h⟩ := h
  subst e
  cases r
  exact assignInOrder_nil ⟨σ, H, I, h⟩
theorem pgs_cons {e : Expr} {es : List Expr} {t : TG} {u : TGs} (h1 : PG X e t) (h2 : PGs X es u)
    (hs : (assignEach (e :: es) X.env).map (·.2) = assign e X.env :: (assignEach es X.env).map (·.2) := by rfl) : PGs X (e :: es) (gCons t u) := by
  intro pins s σ H vs us Q I r h
  obtain ⟨v, vr, e1, h⟩ := h
  subst e1
  cases r with
  | cons r rr =>
    rw [hs]
    refine assignInOrder_cons (thn (h1 pins s σ H _ _ _ I r h) fun _ s1 hw' => ?_)
    obtain ⟨σ1, H1, I1, q1⟩ := hw'
    exact h2 pins s1 σ1 H1 _ _ Q I1 rr q1
def gTup (K : PySem.W.Frag) (n : Nat) (t : TGs) : TG := fun v σ H Q => ∃ a xs, v = .ref a ∧ SqT K H a xs ∧ xs.length = n ∧ t xs σ H Q
theorem pg_tup {es : List Expr} {k : Nat} {t : TGs} {n : Nat} (hc : X.calm = true) (h : PGs X es t)
    (hn : (assignEach es X.env).length = n := by rfl) (hst : (assignEach es X.env).findIdx? (·.1) = none := by rfl) : PG X (.Tuple es k pos) (gTup X.K n t) := by
  intro pins s σ H v u Q I r hw
  obtain ⟨a, xs, e1, hq, hl, hw⟩ := hw
  subst e1
  cases r
  obtain ⟨its, rv, ht, hz⟩ := I.tuple hq
  refine assign_Tuple_tuple (I.ok.hd hc) ht (by simp [hn, ← hl, rv.length]) hst fun h' hx => ?_
  have I1 : Inv X pins σ H { s with heap := h' } := I.kept (t' := s.toks) fun b o e => hx b o (Nat.ne_of_lt (Heap.lt_size e)) e
  exact h pins _ σ H xs _ Q I1 (by simpa using rv) hw
def gSub (to ti : TE) (t : TSet) : TG := fun v σ H Q => to σ H fun o H1 => ti σ H1 fun i H2 => t o i v H2 fun H3 => Q σ H3
theorem pg_sub {o i : Expr} {to ti : TE} {t : TSet} (ho : PE X o to) (hi : PE X i ti) (hs : PSet X t)
    (ha : ∀ v, assign (.Subscript o i pos) X.env v = (do
      let ov ← holding [v] (eval o X.env)
      let iv ← holding [v, ov] (eval i X.env)
      standAt pos
      holding [v, ov, iv] (setItem ov iv v)
      release [v, ov, iv] []) := by intro _; rfl) : PG X (.Subscript o i pos) (gSub to ti t) := by
  intro pins s σ H v u Q I r h
  rw [ha]
  refine wpAny_bind (wpAny_holding (thn (ho pins s σ H _ I h) fun ov s1 hw' => ?_))
  obtain ⟨x, H1, I1, r1, q1⟩ := hw'
  refine wpAny_bind (wpAny_holding (thn (hi pins s1 σ H1 _ I1 q1) fun iv s2 hw' => ?_))
  obtain ⟨y, H2, I2, r2, q2⟩ := hw'
  refine wpAny_bind (wpAny_standAt (wpAny_bind (wpAny_holding (thn (hs pins s2 σ H2 x y v ov iv u _ I2 r1 r2 r q2) fun _ s3 ⟨H3, I3, q3⟩ => ?_))))
  exact wpAny_release ⟨σ, H3, I3, q3⟩
def tAsg (te : TE) (g : TG) : TS := fun D σ H => te σ H fun x H1 => g x σ H1 D.nx
theorem ps_asg {tg e : Expr} {te : TE} {g : TG} (he : PE X e te) (hg : PG X tg g) (hs : swapsWithSole [tg] e pos.line X.env = pure false := by rfl) (hw : swappedStores [tg] e X.env = pure none := by rfl)
    (h1 : (assignEach [tg] X.env).map (·.2) = [assign tg X.env] := by rfl) : PS X (.Assign [tg] e pos) (tAsg te g) := by
  intro pins s σ H D I h
  refine wpAny_Assign_stores (thn (he pins s σ H _ I h) fun v s1 hw' => ?_) hs hw
  obtain ⟨x, H1, I1, r1, q1⟩ := hw'
  rw [h1]
  exact thn (hg pins s1 σ H1 x v _ I1 r1 q1) fun _ s2 q => q
theorem ps_set {i : Nat} {x : Str} {e : Expr} {te : TE} {pos' : Pos} (hN : X.N.Nodup) (hi : X.N[i]? = some x) (hx : Loc X.env.scope x) (he : PE X e te) (hs : swapsWith e (some (.Name x pos')) pos.line X.env = pure false := by rfl) (hf : X.fn x = true ∨ X.env.scope.names.lookup x = some .local := by first | exact .inl rfl | exact .inr rfl | assumption) :
    PS X (.Assign [.Name x pos'] e pos) (tAsg te (gName i)) := by
  intro pins s σ H D I h
  refine wpAny_Assign_Name (thn (he pins s σ H _ I h) fun v s1 hw' => ?_) hs
  obtain ⟨y, H1, I1, r1, q1⟩ := hw'
  exact store_ok I1 hN hi hx r1 (fun s2 I2 => ⟨_, H1, I2, q1⟩) hf
end
section
variable {X : Cx} {pos : Pos}
end
structure It where
  go : Nat → Hp → Prop
  yld : Nat → Hp → V → Hp → Prop
  stop : Nat → Hp → Prop
def FpOk (X : Cx) (pins : List (Addr × Obj)) (H : Hp) (b : Addr) : Prop :=
  H b = none ∧ b ≠ X.env.locals ∧ b ∉ X.fs ∧ (b ∈ X.ex ∨ X.s₀.heap.objs.size ≤ b) ∧ (∀ x c, X.env.cells.lookup x = some c → c ≠ b) ∧ ∀ p ∈ X.pn ++ pins, p.1 ≠ b
theorem Inv.fpOk {X : Cx} {pins : List (Addr × Obj)} {σ : St} {H H' : Hp} {s : Shared} {b : Addr} (I : Inv X pins σ H s) (hb : s.heap.objs.size ≤ b) (hn : H' b = none) : FpOk X pins H' b := by
  refine ⟨hn, Nat.ne_of_gt (Nat.lt_of_lt_of_le I.lt hb), I.nofs hb, .inr (Nat.le_trans I.sz hb), fun x c e z => ?_, fun p hp z => ?_⟩
  · obtain ⟨v, q⟩ := I.cell x c e
    exact absurd (Nat.lt_of_lt_of_le q.lt (by rw [z]; exact hb)) (Nat.lt_irrefl _)
  · exact absurd (Nat.lt_of_lt_of_le (Heap.lt_size (I.pin p hp).1) (by rw [z]; exact hb)) (Nat.lt_irrefl _)
structure Turn (P : Program) (w : World) (K : PySem.W.Frag) (tg : Expr) (J : It) (fp : List Addr) (it : Addr) (tn : Nat → Heap → Prop) : Prop where
  mem : it ∈ fp
  obj : ∀ i h, tn i h → ∀ b ∈ fp, ∃ o, h.get? b = some o ∧ ∀ v, o.data ≠ .cell v
  keep : ∀ i h h', tn i h → (∀ b ∈ fp, ∀ o, h.get? b = some o → h'.get? b = some o) → tn i h'
  item : ∀ (X : Cx), X.prog = P → X.w = w → X.K = K → X.calm = true → ∀ (i : Nat) (pins : List (Addr × Obj)) (s : Shared) (σ : St) (H : Hp) (E : Value → Shared → Prop), Inv X pins σ H s → (∀ b ∈ fp, FpOk X pins H b) → tn i s.heap → J.go i H →
    wpAny (model P w) X.A (pyNext (.ref it)) (fun r s1 => ∃ u, r = some u ∧
      wpAny (model P w) X.A (letOwnedTupleGo tg (.ref it) u) (fun _ s2 => ∃ x H', Inv X pins σ H' s2 ∧ RelV x u ∧ J.yld i H x H' ∧ tn (i + 1) s2.heap ∧ ∀ b ∈ fp, H' b = none) E s1) E s
  done : ∀ (X : Cx), X.prog = P → X.w = w → X.K = K → X.calm = true → ∀ (i : Nat) (pins : List (Addr × Obj)) (s : Shared) (σ : St) (H : Hp) (E : Value → Shared → Prop), Inv X pins σ H s → (∀ b ∈ fp, FpOk X pins H b) → tn i s.heap → J.stop i H →
    wpAny (model P w) X.A (pyNext (.ref it)) (fun r s1 => r = none ∧ Inv X pins σ H s1) E s
  self : ∀ (A : Around) (i : Nat) (s : Shared) (Q : Value → Shared → Prop) (E : Value → Shared → Prop), tn i s.heap → Q (.ref it) s → wpAny (model P w) A (pyIter (.ref it)) Q E s
abbrev TI := St → Hp → (It → Hp → Prop) → Prop
def PIE (X : Cx) (pins : List (Addr × Obj)) (σ : St) (tg : Expr) (R : It → Hp → Prop) (itv : Value) (s2 : Shared) : Prop :=
  ∃ (it : Addr) (fp : List Addr) (tn : Nat → Heap → Prop) (J : It) (H' : Hp), itv = .ref it ∧ Inv X pins σ H' s2 ∧ Turn X.prog X.w X.K tg J fp it tn ∧ tn 0 s2.heap ∧ (∀ b ∈ fp, FpOk X pins H' b) ∧ R J H'
def PI (X : Cx) (tg iter : Expr) (wi : TI) : Prop :=
  ∀ (pins : List (Addr × Obj)) (s : Shared) (σ : St) (H : Hp) (R : It → Hp → Prop), Inv X pins σ H s → wi σ H R →
    wpAny (model X.prog X.w) X.A (eval iter X.env) (fun v s1 => wpAny (model X.prog X.w) X.A (pyIter v) (PIE X pins σ tg R) X.xe s1) X.xe s
theorem go_of {M : Model} {A : Around} {E : Value → Shared → Prop} {s : Shared} {tg : Expr} {it : Addr} {u : Value} {o : Obj} {n : String} {vs : Array Value} {Q : Unit → Shared → Prop} (ho : s.heap.get? it = some o) (hc : o.cls = .type n) (hd : o.data = .fields vs)
    (hn : ["enumerate", "zip", "dict_itemiterator", "dict_reverseitemiterator", "odict_iterator", "itertools.zip_longest", "itertools.pairwise"].contains n = false) (hQ : Q () s) : wpAny M A (letOwnedTupleGo tg (.ref it) u) Q E s := by
  unfold letOwnedTupleGo
  cases tg <;> first
    | exact wpAny_pure hQ
    | (cases u <;> first
        | exact wpAny_pure hQ
        | (refine wpAny_bind (wpAny_load ho ?_)
           rw [hc, hd]
           show wpAny M A (if (["enumerate", "zip", "dict_itemiterator", "dict_reverseitemiterator", "odict_iterator", "itertools.zip_longest", "itertools.pairwise"].contains n && vs[0]? == some (rawInt _)) = true then _ else _) Q E s
           rw [if_neg (by intro h; rw [hn, Bool.false_and] at h; cases h)]
           exact wpAny_pure hQ))
def Itl (K : PySem.W.Frag) (a : Addr) : It :=
  ⟨fun i H => ∃ xs x, SqL K H a xs ∧ xs[i]? = some x, fun i H x H' => H' = H ∧ ∀ xs, SqL K H a xs → xs[i]? = some x, fun i H => ∃ xs, SqL K H a xs ∧ xs.length ≤ i⟩
def Itr (lo : Int) (n : Nat) : It := ⟨fun i _ => i < n, fun i H x H' => H' = H ∧ x = .int (lo + i), fun i _ => n ≤ i⟩
theorem turn_list {P : Program} {w : World} {K : PySem.W.Frag} {tg : Expr} (a it : Addr) : Turn P w K tg (Itl K a) [it] it (fun i h => h.IsListIter it a i) where
  mem := by simp
  obj := fun i h st b hb => by
    have e : b = it := by simpa using hb
    subst e
    obtain ⟨o, e, c, d⟩ := st
    exact ⟨o, e, fun v z => by rw [d] at z; cases z⟩
  keep := fun i h h' st k => st.at fun o e => k it (by simp) o e
  item := by
    intro X hP hw hK hc i pins s σ H E I hf st hg
    subst hP hw hK
    obtain ⟨xs, x, hq, hx⟩ := hg
    obtain ⟨its, rv, p, hz⟩ := I.list hq
    obtain ⟨u, hu, ru⟩ := rv.get hx
    obtain ⟨f0, f1, f2, f3, f4, f5⟩ := hf it (by simp)
    refine wpAny_pyNext_list_item st p.isList (x := u) (by simpa using hu) fun h' st' sb => ?_
    have I1 : Inv X pins σ H { s with heap := h' } := I.turned (t' := s.toks) (fun b o hb e => (sb.2 b hb).trans e) f0 f1 f3 f4 f5
    obtain ⟨o, e, c, d⟩ := id st'
    exact ⟨u, rfl, go_of (s := { s with heap := h' }) e c d (by decide) ⟨x, H, I1, ru, ⟨rfl, fun ys hy => by rw [I.list_inj hy hq]; exact hx⟩, st', fun b hb => (hf b hb).1⟩⟩
  done := by
    intro X hP hw hK hc i pins s σ H E I hf st hg
    subst hP hw hK
    obtain ⟨xs, hq, hx⟩ := hg
    obtain ⟨its, rv, p, hz⟩ := I.list hq
    obtain ⟨f0, f1, f2, f3, f4, f5⟩ := hf it (by simp)
    have hl := rv.length
    exact wpAny_pyNext_list_end (I.ok.hd hc) st p.isList (by simp; omega) fun h' eb => ⟨rfl, I.turned (t' := s.toks) (fun b o hb e => eb b o hb e) f0 f1 f3 f4 f5⟩
  self := fun _ _ _ _ _ st h => wpAny_pyIter_listiter st h
theorem turn_range {P : Program} {w : World} {K : PySem.W.Frag} {tg : Expr} (it : Addr) (lo : Int) (n : Nat) : Turn P w K tg (Itr lo n) [it] it (fun i h => IsRangeIter h it (lo + (i : Nat) * 1) ((n : Int) - (i : Nat)) 1) where
  mem := by simp
  obj := fun i h st b hb => by
    have e : b = it := by simpa using hb
    subst e
    exact ⟨_, st, fun v z => by
      have z' : Data.fields _ = Data.cell v := z
      cases z'⟩
  keep := fun i h h' st k => k it (by simp) _ st
  item := by
    intro X hP hw hK hc i pins s σ H E I hf st hg
    subst hP hw hK
    obtain ⟨f0, f1, f2, f3, f4, f5⟩ := hf it (by simp)
    have W := Walks.range (prog := X.prog) (w := X.w) (I.ok.hd hc) it lo 1 n
    refine W.item i s _ _ hg st fun v h' tk hv st' kk => ?_
    obtain ⟨t, rfl⟩ := hv
    have I1 : Inv X pins σ H { s with heap := h', toks := tk } := I.turned (fun b o hb e => kk b o (by simpa using hb) e) f0 f1 f3 f4 f5
    refine ⟨_, rfl, go_of (s := { s with heap := h', toks := tk }) (n := "range_iterator") st' rfl rfl (by decide) ⟨.int (lo + i), H, I1, ⟨t, ?_⟩, ⟨rfl, rfl⟩, st', fun b hb => (hf b hb).1⟩⟩
    rw [Int.mul_one]
  done := by
    intro X hP hw hK hc i pins s σ H E I hf st hg
    subst hP hw hK
    obtain ⟨f0, f1, f2, f3, f4, f5⟩ := hf it (by simp)
    exact wpAny_pyNext_range_end (I.ok.hd hc) st (by have : n ≤ i := hg; omega) fun h' eb => ⟨rfl, I.turned (t' := s.toks) (fun b o hb e => eb b o hb e) f0 f1 f3 f4 f5⟩
  self := fun _ _ _ _ _ st h => wpAny_pyIter_rangeiter st h
end L2
namespace L2
open PySem PySem.Spec PyProof.Rows
section
variable {X : Cx} {tg : Expr}
def iList (K : PySem.W.Frag) (tl : TE) : TI := fun σ H R => tl σ H fun x H1 => ∃ a, x = .ref a ∧ (∃ xs, SqL K H1 a xs) ∧ R (Itl K a) H1
theorem pi_list {l : Expr} {tl : TE} (hl : PE X l tl) : PI X tg l (iList X.K tl) := by
  intro pins s σ H R I h
  refine thn (hl pins s σ H _ I h) fun v s1 hw' => ?_
  obtain ⟨x, H1, I1, r1, q1⟩ := hw'
  obtain ⟨a, e, ⟨xs, hq⟩, q⟩ := q1
  subst e
  cases r1
  obtain ⟨its, rv, p, hz⟩ := I1.list hq
  refine wpAny_pyIter_list p.isList ?_
  refine ⟨s1.heap.objs.size, [s1.heap.objs.size], _, _, H1, rfl, I1.kept (t' := s1.toks) fun b o e => Heap.get?_push_of_some _ e, turn_list a _, ⟨_, Heap.get?_push_size _ rfl, rfl, rfl⟩, fun b hb => ?_, q⟩
  have e : b = s1.heap.objs.size := by simpa using hb
  subst e
  exact I1.fpOk (Nat.le_refl _) (I1.hok.fresh (Nat.le_refl _))
theorem range_it {pins : List (Addr × Obj)} {σ : St} {H : Hp} {s : Shared} {R : It → Hp → Prop} {E : Value → Shared → Prop} {lo hi : Int} {t u v : Tok} {tk : Nat} (I : Inv X pins σ H s) (h1 : -(2 ^ 62) ≤ lo) (h2 : lo < 2 ^ 62) (h3 : -(2 ^ 62) ≤ hi) (h4 : hi < 2 ^ 62)
    (q : R (Itr lo (hi - lo).toNat) H) : wpAny (model X.prog X.w) X.A (pyIter (.ref s.heap.objs.size)) (PIE X pins σ tg R) E { s with heap := s.heap.push { cls := .type "range", data := .fields #[.int lo t, .int hi u, .int 1 v] }, toks := tk } := by
  refine wpAny_pyIter_range (IsRange.new ..) (small_one h1 h2 h3 h4) ?_
  have I1 : Inv X pins σ H { s with heap := s.heap.push { cls := .type "range", data := .fields #[.int lo t, .int hi u, .int 1 v] }, toks := tk } := I.kept fun b o e => Heap.get?_push_of_some _ e
  refine ⟨(s.heap.push { cls := .type "range", data := .fields #[.int lo t, .int hi u, .int 1 v] }).objs.size, [(s.heap.push { cls := .type "range", data := .fields #[.int lo t, .int hi u, .int 1 v] }).objs.size], _, _, H, rfl,
    I1.kept (t' := tk) fun b o e => Heap.get?_push_of_some _ e, turn_range _ lo (hi - lo).toNat, ?_, fun b hb => ?_, q⟩
  · have e1 : lo + ((0 : Nat) : Int) * 1 = lo := by simp
    have e2 : (((hi - lo).toNat : Nat) : Int) - ((0 : Nat) : Int) = Builtin.Range.rangeSize lo hi 1 := by rw [rangeSize_one]; split <;> omega
    show IsRangeIter _ _ (lo + ((0 : Nat) : Int) * 1) ((((hi - lo).toNat : Nat) : Int) - ((0 : Nat) : Int)) 1
    rw [e1, e2]
    exact Heap.get?_push_size _ rfl
  · have e : b = (s.heap.push { cls := .type "range", data := .fields #[.int lo t, .int hi u, .int 1 v] }).objs.size := by simpa using hb
    subst e
    exact I1.fpOk (Nat.le_refl _) (I1.hok.fresh (Nat.le_refl _))
def iRng1 (ta : TA) : TI := fun σ H R => ta σ H fun vs H1 => ∃ j : Int, vs = [.int j] ∧ -(2 ^ 62) ≤ j ∧ j < 2 ^ 62 ∧ R (Itr 0 j.toNat) H1
theorem pi_range1 {a : Expr} {ta : TA} {p pos : Pos} (hg : Gl X "range") (hm : X.mg "range" = none) (ha : PA X [a] ta) (hs : starEach [a] X.env = [(false, eval a X.env)] := by rfl) : PI X tg (.Call (.Name "range" p) [a] [] pos) (iRng1 ta) := by
  intro pins s σ H R I h
  refine Call_ (ld_blt I hg hm boot_range (PyProof.Rows.callWith_type1 (thn (ha pos pins s σ H _ I h) fun us s1 hw' => ?_) hs rfl))
  obtain ⟨vs, H1, I1, r1, q1⟩ := hw'
  obtain ⟨j, e, q1, q2, q⟩ := q1
  subst e
  cases r1 with
  | cons r rr =>
    cases rr
    obtain ⟨t, rfl⟩ := r
    exact call_range_1 (range_it I1 (by omega) (by omega) q1 q2 (by simpa using q))
def tFor (wi : TI) (g : TG) (tb : TS) : TS := fun D σ H => wi σ H fun J H1 => ∃ W : Nat → Nat → St → Hp → Prop, (∃ m, W 0 m σ H1) ∧ ∀ i m σ H, W i m σ H →
  (J.stop i H ∧ D.nx σ H) ∨ (J.go i H ∧ ∃ N : St → Hp → Prop, (∀ σ' H', N σ' H' → ∃ m', m' < m ∧ W (i + 1) m' σ' H') ∧ ∀ x H', J.yld i H x H' → g x σ H' fun σ2 H2 => tb { D with nx := N, ct := N, bk := D.nx } σ2 H2)
def pinsAt (fp : List Addr) (h : Heap) : List (Addr × Obj) := fp.filterMap fun b => (h.get? b).map fun o => (b, o)
theorem mem_pinsAt {fp : List Addr} {h : Heap} {b : Addr} {o : Obj} (hb : b ∈ fp) (e : h.get? b = some o) : (b, o) ∈ pinsAt fp h := List.mem_filterMap.mpr ⟨b, hb, by rw [e]; rfl⟩
theorem of_pinsAt {fp : List Addr} {h : Heap} {p : Addr × Obj} (hp : p ∈ pinsAt fp h) : p.1 ∈ fp ∧ h.get? p.1 = some p.2 := by
  obtain ⟨b, hb, e⟩ := List.mem_filterMap.mp hp
  cases q : h.get? b with
  | none => rw [q] at e; cases e
  | some o =>
    rw [q] at e
    have e' : (b, o) = p := Option.some.inj e
    subst e'
    exact ⟨hb, q⟩
theorem Inv.pinned {pins : List (Addr × Obj)} {σ : St} {H : Hp} {s : Shared} {fp : List Addr} (I : Inv X pins σ H s) (hf : ∀ b ∈ fp, FpOk X pins H b) (ho : ∀ b ∈ fp, ∃ o, s.heap.get? b = some o ∧ ∀ v, o.data ≠ .cell v) : Inv X (pins ++ pinsAt fp s.heap) σ H s :=
  I.pins_of fun p hp => (List.mem_append.mp hp).elim (fun z => I.pin p (List.mem_append_right _ z)) fun z => by
    obtain ⟨hb, e⟩ := of_pinsAt z
    obtain ⟨f0, f1, f2, _⟩ := hf p.1 hb
    obtain ⟨o, e', d⟩ := ho p.1 hb
    rw [e] at e'; cases e'
    exact ⟨e, f0, f1, f2, d⟩
theorem Inv.unpinned {pins pl : List (Addr × Obj)} {σ : St} {H : Hp} {s : Shared} (I : Inv X (pins ++ pl) σ H s) : Inv X pins σ H s := I.pins_of fun p hp => I.pin p (List.mem_append_right _ (List.mem_append_left _ hp))
theorem ps_for {iter : Expr} {body : List Stmt} {wi : TI} {g : TG} {tb : TS} {pos : Pos} (hp : PassesOwn (model X.prog X.w) X.A X.env X.xe) (hc : X.calm = true) (hi : PI X tg iter wi) (hg : PG X tg g) (hb : PSs X body tb)
    (hs : ∀ x, foldedSetIterable iter X.env x = pure x := by intro _; rfl) : PS X (.For tg iter body [] pos) (tFor wi g tb) := by
  intro pins s σ H D I h
  refine wpAny_For (thn (hi pins s σ H _ I h) fun v s1 h1 => thn h1 fun itv s2 h2 => ?_) hs
  obtain ⟨it, fp, tn, J, H2, e, I2, T, st2, f2, W, ⟨m0, w0⟩, turn⟩ := h2
  subst e
  have stat : ∀ {H' : Hp}, (∀ b ∈ fp, H' b = none) → ∀ b ∈ fp, FpOk X pins H' b := fun hn b hb => ⟨hn b hb, (f2 b hb).2⟩
  refine codeAny_forLoop_any (fun n s' => ∃ i σ' H', Inv X pins σ' H' s' ∧ tn i s'.heap ∧ (∀ b ∈ fp, H' b = none) ∧ W i n σ' H') ?_ m0 ⟨0, σ, H2, I2, st2, fun b hb => (f2 b hb).1, w0⟩
  rintro n s3 ⟨i, σ3, H3, I3, st3, fr3, w3⟩
  rcases turn i n σ3 H3 w3 with ⟨stop, qn⟩ | ⟨go, N, hN, step⟩
  · refine wpAny_passesOwn hp (thn (T.done X rfl rfl rfl hc i pins s3 σ3 H3 X.xe I3 (stat fr3) st3 stop) fun r s4 ⟨hr, I4⟩ => ?_)
    subst hr
    exact wpAny_execs_nil ⟨σ3, H3, I4, qn⟩
  · refine wpAny_passesOwn hp (thn (T.item X rfl rfl rfl hc i pins s3 σ3 H3 X.xe I3 (stat fr3) st3 go) fun r s4 ⟨u, hr, h4⟩ => ?_)
    subst hr
    refine wpAny_passesOwn hp (thn h4 fun _ s5 hw' => ?_)
    obtain ⟨x, H5, I5, r5, y5, st5, fr5⟩ := hw'
    have I5' := I5.pinned (stat fr5) (T.obj _ _ st5)
    refine wpAny_passesOwn hp (thn (hg _ s5 σ3 H5 x u _ I5' r5 (step x H5 y5)) fun _ s6 hw' => ?_)
    obtain ⟨σ6, H6, I6, q6⟩ := hw'
    refine wpAny_passesOwn hp (thn (hb _ s6 σ6 H6 _ I6 q6) fun f s7 q7 => ?_)
    have again : ∀ {σ7 : St} {H7 : Hp}, Inv X (pins ++ pinsAt fp s5.heap) σ7 H7 s7 → N σ7 H7 → ∃ m, m < n ∧ ∃ i σ' H', Inv X pins σ' H' s7 ∧ tn i s7.heap ∧ (∀ b ∈ fp, H' b = none) ∧ W i m σ' H' := fun {σ7 H7} I7 n7 => by
      obtain ⟨m', hm, w7⟩ := hN σ7 H7 n7
      refine ⟨m', hm, i + 1, σ7, H7, I7.unpinned, T.keep _ _ _ st5 fun b hb o e => (I7.pin (b, o) (List.mem_append_right _ (List.mem_append_right _ (mem_pinsAt hb e)))).1, fun b hb => ?_, w7⟩
      obtain ⟨o, e, d⟩ := T.obj _ _ st5 b hb
      exact (I7.pin (b, o) (List.mem_append_right _ (List.mem_append_right _ (mem_pinsAt hb e)))).2.1
    cases f with
    | next => obtain ⟨σ7, H7, I7, n7⟩ := q7; exact again I7 n7
    | cont => obtain ⟨σ7, H7, I7, n7⟩ := q7; exact again I7 n7
    | brk => obtain ⟨σ7, H7, I7, q7⟩ := q7; exact ⟨σ7, H7, I7.unpinned, q7⟩
    | ret v => obtain ⟨x7, σ7, H7, I7, r7, q7⟩ := q7; exact ⟨x7, σ7, H7, I7.unpinned, r7, q7⟩
end
end L2
namespace L2
open PySem PySem.Spec PyProof.Rows
abbrev R2 := V → V → Hp → VK → Prop
def OpR (X : Cx) (f : Value → Value → Sem Value) (r : R2) : Prop :=
  ∀ (pins : List (Addr × Obj)) (s : Shared) (σ : St) (H : Hp) (x y : V) (v u : Value) (Q : VK), Inv X pins σ H s → RelV x v → RelV y u → r x y H Q →
    wpAny (model X.prog X.w) X.A (f v u) (EP X pins σ Q) X.xe s
def UnR (X : Cx) (f : Value → Sem Value) (r : V → Hp → VK → Prop) : Prop :=
  ∀ (pins : List (Addr × Obj)) (s : Shared) (σ : St) (H : Hp) (x : V) (v : Value) (Q : VK), Inv X pins σ H s → RelV x v → r x H Q →
    wpAny (model X.prog X.w) X.A (f v) (EP X pins σ Q) X.xe s
def CallR (X : Cx) (f : Value) (r : List V → Hp → VK → Prop) : Prop :=
  ∀ (pins : List (Addr × Obj)) (s : Shared) (σ : St) (H : Hp) (xs : List V) (us : List Value) (Q : VK), Inv X pins σ H s → Vals xs us → r xs H Q →
    wpAny (model X.prog X.w) X.A (call f us) (EP X pins σ Q) X.xe s
def tOp (r : R2) (ta tb : TE) : TE := fun σ H Q => ta σ H fun x H1 => tb σ H1 fun y H2 => r x y H2 Q
def tUn (r : V → Hp → VK → Prop) (ta : TE) : TE := fun σ H Q => ta σ H fun x H1 => r x H1 Q
def rI (C : Int → Int → Prop) (g : Int → Int → V) : R2 := fun x y H Q => ∃ i j, x = .int i ∧ y = .int j ∧ C i j ∧ Q (g i j) H
def rI0 (g : Int → Int → V) : R2 := fun x y H Q => ∃ i j, x = .int i ∧ y = .int j ∧ Q (g i j) H
def rU (g : Int → V) : V → Hp → VK → Prop := fun x H Q => ∃ i, x = .int i ∧ Q (g i) H
section
variable {X : Cx} {a b c : Expr} {ta tb tc : TE} {pos : Pos}
theorem binT (ha : PE X a ta) (hb : PE X b tb) {pins : List (Addr × Obj)} {s : Shared} {σ : St} {H : Hp} {R : V → V → Hp → Prop} (I : Inv X pins σ H s)
    (h : ta σ H fun x H1 => tb σ H1 fun y H2 => R x y H2) {Q : Value → Shared → Prop} {f : Value → Value → Sem Value}
    (hf : ∀ v u s2 x y H2, Inv X pins σ H2 s2 → RelV x v → RelV y u → R x y H2 → wpAny (model X.prog X.w) X.A (f v u) Q X.xe s2) :
    wpAny (model X.prog X.w) X.A (eval a X.env) (fun v s₁ => wpAny (model X.prog X.w) X.A (eval b X.env) (fun u s₂ => wpAny (model X.prog X.w) X.A (f v u) Q X.xe s₂) X.xe s₁) X.xe s := by
  refine thn (ha pins s σ H _ I h) fun v s1 hw' => ?_
  obtain ⟨x, H1, I1, r1, q1⟩ := hw'
  refine thn (hb pins s1 σ H1 _ I1 q1) fun u s2 hw' => ?_
  obtain ⟨y, H2, I2, r2, q2⟩ := hw'
  exact hf v u s2 x y H2 I2 r1 r2 q2
theorem pe_op {op : Operator} {r : R2} (ho : OpR X (binaryOp op) r) (ha : PE X a ta) (hb : PE X b tb) : PE X (.BinOp a op b pos) (tOp r ta tb) := by
  intro pins s σ H Q I h
  exact wpAny_BinOp (binT ha hb I h fun v u s2 x y H2 I2 rx ry q => ho pins s2 σ H2 x y v u Q I2 rx ry q)
theorem pe_un {op : UnaryOp} {r : V → Hp → VK → Prop} (ho : UnR X (unaryOp op) r) (ha : PE X a ta) : PE X (.UnaryOp op a pos) (tUn r ta) := by
  intro pins s σ H Q I h
  exact UnaryOp_ (thn (ha pins s σ H _ I h) fun v s1 ⟨x, H1, I1, r1, q1⟩ => ho pins s1 σ H1 x v Q I1 r1 q1)
theorem opI {f : Value → Value → Sem Value} {C : Int → Int → Prop} {g : Int → Int → Int}
    (rule : ∀ (i j : Int) (t u : Tok) (s : Shared) (Q : Value → Shared → Prop) (E : Value → Shared → Prop), C i j → Q (.int (g i j) s.toks) { s with toks := s.toks + 1 } → wpAny (model X.prog X.w) X.A (f (.int i t) (.int j u)) Q E s) :
    OpR X f (rI C fun i j => .int (g i j)) := by
  intro pins s σ H x y v u Q I rx ry h
  obtain ⟨i, j, rfl, rfl, hc, q⟩ := h
  obtain ⟨t, rfl⟩ := rx
  obtain ⟨t', rfl⟩ := ry
  exact rule i j t t' s _ _ hc ⟨.int (g i j), H, I.tok _, ⟨_, rfl⟩, q⟩
theorem opI0 {f : Value → Value → Sem Value} {g : Int → Int → Int}
    (rule : ∀ (i j : Int) (t u : Tok) (s : Shared) (Q : Value → Shared → Prop) (E : Value → Shared → Prop), Q (.int (g i j) s.toks) { s with toks := s.toks + 1 } → wpAny (model X.prog X.w) X.A (f (.int i t) (.int j u)) Q E s) :
    OpR X f (rI0 fun i j => .int (g i j)) := by
  intro pins s σ H x y v u Q I rx ry h
  obtain ⟨i, j, rfl, rfl, q⟩ := h
  obtain ⟨t, rfl⟩ := rx
  obtain ⟨t', rfl⟩ := ry
  exact rule i j t t' s _ _ ⟨.int (g i j), H, I.tok _, ⟨_, rfl⟩, q⟩
theorem opB0 {f : Value → Value → Sem Value} {g : Int → Int → Bool}
    (rule : ∀ (i j : Int) (t u : Tok) (s : Shared) (Q : Value → Shared → Prop) (E : Value → Shared → Prop), Q (.bool (g i j)) s → wpAny (model X.prog X.w) X.A (f (.int i t) (.int j u)) Q E s) :
    OpR X f (rI0 fun i j => .bl (g i j)) := by
  intro pins s σ H x y v u Q I rx ry h
  obtain ⟨i, j, rfl, rfl, q⟩ := h
  obtain ⟨t, rfl⟩ := rx
  obtain ⟨t', rfl⟩ := ry
  exact rule i j t t' s _ _ ⟨.bl (g i j), H, I, rfl, q⟩
def CDiv (i j : Int) : Prop := 0 < j ∧ j < 1073741824
def CPow (i j : Int) : Prop := 0 ≤ j ∧ j ≤ 1000000 ∧ i.natAbs < 2 ^ 64
def CMul (i j : Int) : Prop := (-(2 ^ 64) < i ∧ i < 2 ^ 64) ∨ (-(2 ^ 64) < j ∧ j < 2 ^ 64)
theorem CMul.ok {i j : Int} (h : CMul i j) : IntMulOk i j := by
  rcases h with ⟨h1, h2⟩ | ⟨h1, h2⟩
  · exact .of_left (intBits_le_64 h1 h2)
  · exact .of_right (intBits_le_64 h1 h2)
theorem two_pow_nn (k : Nat) : (0 : Int) ≤ 2 ^ k := by
  rw [two_pow_cast]
  exact Int.natCast_nonneg _
theorem op_add : OpR X (binaryOp .Add) (rI0 fun i j => .int (i + j)) := opI0 fun _ _ _ _ _ _ _ q => add_int q
theorem op_sub : OpR X (binaryOp .Sub) (rI0 fun i j => .int (i - j)) := opI0 fun _ _ _ _ _ _ _ q => sub_int q
theorem op_mul : OpR X (binaryOp .Mult) (rI CMul fun i j => .int (i * j)) := opI fun _ _ _ _ _ _ _ hc q => mul_int q hc.ok
theorem op_fdiv : OpR X (binaryOp .FloorDiv) (rI CDiv fun i j => .int (i / j)) := opI fun i j _ _ _ _ _ hc q => by
  have h1 : (0 : Int) < j := hc.1
  have h2 : j < 1073741824 := hc.2
  exact floordiv_int (by omega) (by rw [Int.fdiv_eq_ediv_of_nonneg i (by omega)]; exact q) (.inl (PyProof.noPylong_small (by omega)))
theorem op_mod : OpR X (binaryOp .Mod) (rI (fun _ j => 0 < j) fun i j => .int (i % j)) := opI fun i j _ _ _ _ _ hc q => by
  have h1 : (0 : Int) < j := hc
  exact mod_int' (by omega) (by rw [Int.fmod_eq_emod_of_nonneg i (by omega)]; exact q)
theorem op_shl : OpR X (binaryOp .LShift) (rI CPow fun i j => .int (i * 2 ^ j.toNat)) := opI fun _ _ _ _ _ _ _ hc q => lshift_int_small hc.1 hc.2.1 hc.2.2 q
theorem op_shr : OpR X (binaryOp .RShift) (rI (fun _ j => 0 ≤ j) fun i j => .int (i / 2 ^ j.toNat)) := opI fun i j _ _ _ _ _ hc q =>
  rshift_int hc (by rw [Int.fdiv_eq_ediv_of_nonneg i (two_pow_nn _)]; exact q)
theorem unI {f : Value → Sem Value} {g : Int → Int}
    (rule : ∀ (i : Int) (t : Tok) (s : Shared) (Q : Value → Shared → Prop) (E : Value → Shared → Prop), Q (.int (g i) s.toks) { s with toks := s.toks + 1 } → wpAny (model X.prog X.w) X.A (f (.int i t)) Q E s) :
    UnR X f (rU fun i => .int (g i)) := by
  intro pins s σ H x v Q I rx h
  obtain ⟨i, rfl, q⟩ := h
  obtain ⟨t, rfl⟩ := rx
  exact rule i t s _ _ ⟨.int (g i), H, I.tok _, ⟨_, rfl⟩, q⟩
theorem un_neg : UnR X (unaryOp .USub) (rU fun i => .int (-i)) := unI fun _ _ _ _ _ q => neg_int q
end
section
variable {X : Cx} {a b c : Expr} {ta tb tc : TE} {pos : Pos}
theorem fin_bl {pins : List (Addr × Obj)} {σ : St} {H : Hp} {s : Shared} {Q : VK} {k k' : Bool} (I : Inv X pins σ H s) (q : Q (.bl k) H) (e : k = k') : EP X pins σ Q (.bool k') s := by
  subst e
  exact ⟨.bl k, H, I, rfl, q⟩
theorem op_lt : OpR X (compareOp .Lt) (rI0 fun i j => .bl (decide (i < j))) := opB0 fun _ _ _ _ _ _ _ q => lt_int q
theorem op_le : OpR X (compareOp .LtE) (rI0 fun i j => .bl (decide (i ≤ j))) := opB0 fun _ _ _ _ _ _ _ q => le_int q
theorem op_gt : OpR X (compareOp .Gt) (rI0 fun i j => .bl (decide (j < i))) := opB0 fun _ _ _ _ _ _ _ q => gt_int q
theorem op_ge : OpR X (compareOp .GtE) (rI0 fun i j => .bl (decide (j ≤ i))) := opB0 fun _ _ _ _ _ _ _ q => ge_int q
theorem op_isN : OpR X (compareOp .Is) (fun x y H Q => y = .non ∧ Q (.bl (decide (x = .non))) H) := by
  intro pins s σ H x y v u Q I rx ry h
  obtain ⟨rfl, q⟩ := h
  cases ry
  refine is_none_gen (fin_bl I q ?_)
  cases x <;> first
    | (cases rx; rfl)
    | (obtain ⟨t, rfl⟩ := rx; rfl)
theorem op_notN : OpR X (compareOp .IsNot) (fun x y H Q => y = .non ∧ Q (.bl (!decide (x = .non))) H) := by
  intro pins s σ H x y v u Q I rx ry h
  obtain ⟨rfl, q⟩ := h
  cases ry
  refine isnot_none_gen (fin_bl I q ?_)
  cases x <;> first
    | (cases rx; rfl)
    | (obtain ⟨t, rfl⟩ := rx; rfl)
theorem nomark (b : Expr) {op : CmpOp} (h : op ≠ .In := by decide) (h2 : op ≠ .NotIn := by decide) : behindInMarks op b = false := by
  have e1 : (op == CmpOp.In) = false := by cases op <;> first | rfl | exact absurd rfl h
  have e2 : (op == CmpOp.NotIn) = false := by cases op <;> first | rfl | exact absurd rfl h2
  cases b <;> simp [behindInMarks, e1, e2]
theorem pe_cmpR {op : CmpOp} {r : R2} (ho : OpR X (compareOp op) r) (ha : PE X a ta) (hb : PE X b tb) (hm : behindInMarks op b = false) : PE X (.Compare a [op] [b] pos) (tOp r ta tb) := by
  intro pins s σ H Q I h
  exact wpAny_Compare1 (binT ha hb I h fun v u s2 x y H2 I2 rx ry q => ho pins s2 σ H2 x y v u Q I2 rx ry q) hm
def tTest (t : TE) : TT := fun σ H Q => t σ H fun x H' => ∃ k, x = .bl k ∧ Q k H'
theorem pt_cmpR {op : CmpOp} {r : R2} (ho : OpR X (compareOp op) r) (ha : PE X a ta) (hb : PE X b tb) (hm : behindInMarks op b = false) : PT X (.Compare a [op] [b] pos) (tTest (tOp r ta tb)) := by
  intro pins s σ H Q I h
  refine wpAny_isTrue_Compare1 (thn (ha pins s σ H _ I h) fun v s1 ⟨x, H1, I1, r1, q1⟩ => thn (hb pins s1 σ H1 _ I1 q1) fun u s2 ⟨y, H2, I2, r2, q2⟩ =>
    thn (ho pins s2 σ H2 x y v u _ I2 r1 r2 q2) fun c s3 hw' => ?_) hm
  obtain ⟨z, H3, I3, r3, k, e, q3⟩ := hw'
  subst e
  cases r3
  exact wpAny_truthy_bool ⟨H3, I3, q3⟩
def tChain (r r' : R2) (ta tb tc : TE) : TE := fun σ H Q => ta σ H fun x H1 => tb σ H1 fun y H2 => r x y H2 fun z H3 => ∃ k, z = .bl k ∧
  (if k = true then tc σ H3 fun w' H4 => r' y w' H4 Q else Q (.bl false) H3)
theorem pt_chain {op op' : CmpOp} {r r' : R2} (ho : OpR X (compareOp op) r) (ho' : OpR X (compareOp op') r') (ha : PE X a ta) (hb : PE X b tb) (hc : PE X c tc)
    (hm : lastMarks [op, op'] [b, c] = false := by with_unfolding_all rfl) : PT X (.Compare a [op, op'] [b, c] pos) (tTest (tChain r r' ta tb tc)) := by
  intro pins s σ H Q I h
  refine isTrue_chain (thn (ha pins s σ H _ I h) fun v s1 ⟨x, H1, I1, r1, q1⟩ => test_link (thn (hb pins s1 σ H1 _ I1 q1) fun u s2 ⟨y, H2, I2, r2, q2⟩ =>
    thn (ho pins s2 σ H2 x y v u _ I2 r1 r2 q2) fun d s3 hw' => ?_)) hm
  obtain ⟨z, H3, I3, r3, k, e, q3⟩ := hw'
  subst e
  cases r3
  refine wpAny_truthy_bool ?_
  cases k with
  | false =>
    obtain ⟨k', e', q'⟩ := q3
    cases e'
    exact ite_ff ⟨H3, I3, q'⟩
  | true =>
    refine ite_tt (test_last (thn (hc pins s3 σ H3 _ I3 q3) fun w' s4 ⟨z', H4, I4, r4, q4⟩ => thn (ho' pins s4 σ H4 y z' u w' _ I4 r2 r4 q4) fun d' s5 hw' => ?_))
    obtain ⟨z2, H5, I5, r5, k2, e2, q5⟩ := hw'
    subst e2
    cases r5
    exact wpAny_truthy_bool ⟨H5, I5, q5⟩
theorem line63 : (sizeLine : Nat) < 2 ^ 63 := by rw [sizeLine_eq]; decide
theorem op_add_str : OpR X (binaryOp .Add) (fun x y H Q => ∃ i j, x = .str i ∧ y = .str j ∧ i.length + j.length ≤ sizeLine ∧ Q (.str (i ++ j)) H) := by
  intro pins s σ H x y v u Q I rx ry h
  obtain ⟨i, j, rfl, rfl, hz, q⟩ := h
  obtain ⟨t, rfl⟩ := rx
  obtain ⟨t', rfl⟩ := ry
  exact add_str (fun t' tk => ⟨.str (i ++ j), H, I.tok _, ⟨_, rfl⟩, q⟩) hz
theorem vals1 {x : V} {us : List Value} (r : Vals [x] us) : ∃ u, us = [u] ∧ RelV x u := by
  cases r with
  | cons r1 r2 => cases r2; exact ⟨_, rfl, r1⟩
theorem vals2 {x y : V} {us : List Value} (r : Vals [x, y] us) : ∃ u w', us = [u, w'] ∧ RelV x u ∧ RelV y w' := by
  cases r with
  | cons r1 r2 =>
    cases r2 with
    | cons r3 r4 => cases r4; exact ⟨_, _, rfl, r1, r3⟩
theorem call_max2 (hc : X.calm = true) : CallR X (.builtin "max") (fun xs H Q => ∃ i j, xs = [.int i, .int j] ∧ Q (.int (if j > i then j else i)) H) := by
  intro pins s σ H xs us Q I r h
  obtain ⟨i, j, rfl, q⟩ := h
  obtain ⟨u, w', rfl, ⟨t, rfl⟩, ⟨t', rfl⟩⟩ := vals2 r
  refine max_two_ints (I.ok.hd hc) fun h' tk k => ⟨_, H, I.kept k, ?_, q⟩
  by_cases hj : j > i
  · rw [if_pos hj, if_pos hj]; exact ⟨_, rfl⟩
  · rw [if_neg hj, if_neg hj]; exact ⟨_, rfl⟩
theorem call_min2 (hc : X.calm = true) : CallR X (.builtin "min") (fun xs H Q => ∃ i j, xs = [.int i, .int j] ∧ Q (.int (if j < i then j else i)) H) := by
  intro pins s σ H xs us Q I r h
  obtain ⟨i, j, rfl, q⟩ := h
  obtain ⟨u, w', rfl, ⟨t, rfl⟩, ⟨t', rfl⟩⟩ := vals2 r
  refine min_two_ints (I.ok.hd hc) fun h' tk k => ⟨_, H, I.kept k, ?_, q⟩
  by_cases hj : j < i
  · rw [if_pos hj, if_pos hj]; exact ⟨_, rfl⟩
  · rw [if_neg hj, if_neg hj]; exact ⟨_, rfl⟩
theorem call_int1 : CallR X (.type "int") (fun xs H Q => (∃ i, xs = [.int i] ∧ Q (.int i) H) ∨ ∃ k, xs = [.bl k] ∧ Q (.int (if k then 1 else 0)) H) := by
  intro pins s σ H xs us Q I r h
  rcases h with ⟨i, rfl, q⟩ | ⟨k, rfl, q⟩
  · obtain ⟨u, rfl, t, rfl⟩ := vals1 r
    exact call_int_int ⟨.int i, H, I, ⟨_, rfl⟩, q⟩
  · obtain ⟨u, rfl, r1⟩ := vals1 r
    cases r1
    exact call_int_bool ⟨.int (if k then 1 else 0), H, I.tok _, ⟨_, rfl⟩, q⟩
end
end L2
namespace L2
open PySem PySem.Spec PyProof.Rows
structure ObjM (h : Heap) (x dx C : Addr) (mA : Str → Option Value) : Prop where
  obj : h.get? x = some (PySem.W.instObj C dx)
  ns : h.Ns1 dx mA
  ne : dx ≠ x
theorem lookIn_ns {h : Heap} {dx : Addr} {mA : Str → Option Value} (n : h.Ns1 dx mA) : ∃ od, h.get? dx = some od ∧ ∀ name, PySem.W.lookIn name od = some (mA name) := by
  obtain ⟨o, es, ep, ho, hd, hk, _, hm⟩ := n
  refine ⟨o, ho, fun name => ?_⟩
  have e := hm name
  unfold nsFind findBy at e
  rw [← Array.find?_toList] at e
  unfold PySem.W.lookIn
  rw [hd]
  dsimp only
  split
  · rename_i y q
    rw [q] at e
    exact congrArg some e
  · rename_i q
    rw [q] at e
    have a : es.toList.any (·.refKey) = false := by
      rw [List.any_eq_false]
      intro y hy
      obtain ⟨z, t, hkey⟩ := hk y (Array.mem_toList_iff.mp hy)
      simp [DictEntry.refKey, hkey]
    have a' : ¬ es.toList.any (·.refKey) = true := by rw [a]; exact Bool.false_ne_true
    rw [if_neg a']
    exact congrArg some e
theorem ObjM.look {h : Heap} {x dx C : Addr} {mA : Str → Option Value} (I : ObjM h x dx C mA) : ∃ od, PySem.W.InstAt h x (PySem.W.instObj C dx) C (some od) ∧ ∀ name, PySem.W.lookIn name od = some (mA name) :=
  let ⟨od, ho, hl⟩ := lookIn_ns I.ns
  ⟨od, ⟨I.obj, rfl, rfl, ho⟩, hl⟩
section
variable {prog : Program} {w : World} {A : Around} {E : Value → Shared → Prop} {s : Shared} {K : PySem.W.Frag} {x dx C f : Addr} {mA : Str → Option Value} {name : Str} {v : Value}
theorem get_map {expr : Bool} {Q : Value → Shared → Prop} (X : K.In s.heap) (I : ObjM s.heap x dx C mA) (hg : PySem.W.plainGet K C name = true) (hh : PySem.W.hasDictIn K C = true)
    (ha : PySem.W.findIn K (.ref C) name = some none) (hv : mA name = some v) (hv' : PySem.W.handedIn v = true) (h : Q v { s with toks := s.toks + 1 }) :
    wpAny (model prog w) A (getAttr (.ref x) name expr) Q E s := by
  obtain ⟨od, J, hl⟩ := I.look
  exact PySem.W.get_value X J (PySem.W.plainGet_of hg).1 (PySem.W.findObj_own hh ha rfl (by rw [hl, hv])) hv' h
theorem get_meth {pl : Sem Bool} {Q : Value × List Value → Shared → Prop} (X : K.In s.heap) (I : ObjM s.heap x dx C mA) (hg : PySem.W.plainGet K C name = true)
    (hf : PySem.W.findIn K (.ref C) name = some (some (.ref f))) (ht : PySem.W.isFn K (.ref f) = true) (hv : mA name = none) (h : Q (.ref f, [.ref x]) s) :
    wpAny (model prog w) A (getMethod (.ref x) name pl) Q E s := by
  obtain ⟨od, J, hl⟩ := I.look
  exact PySem.W.method_fn X J (PySem.W.plainGet_of hg).1 (PySem.W.plainGet_of hg).2 hf (beq_iff_eq.mp ht) (by show (PySem.W.lookIn name od).map (·.isSome) = some false; rw [hl, hv]; rfl) h
theorem set_map {ns : List Str} {Q : Unit → Shared → Prop} (X : K.In s.heap) (I : ObjM s.heap x dx C mA)
    (hs : PySem.W.findIn K (.ref C) "__setattr__" = some (some (.builtin "object.__setattr__"))) (hp : PySem.W.plainOver K C = true) (ht : PySem.W.takerIn K C name = some none) (hh : PySem.W.hasDictIn K C = true)
    (hw : PySem.Within mA ns) (hsz : ns.length ≤ sizeLine)
    (h : ∀ h', ObjM h' x dx C (fun y => if y = name then some v else mA y) → Heap.SameBut dx s.heap h' → Q () { s with heap := h', toks := s.toks + 2 }) :
    wpAny (model prog w) A (setAttr (.ref x) name v) Q E s := by
  obtain ⟨od, J, hl⟩ := I.look
  refine PySem.W.set_plain X J hs (PySem.W.osa_open (s := { s with toks := s.toks + 1 }) (r := none) X J hp ht fun b => ?_)
  obtain ⟨cd, hc, hd'⟩ := PySem.W.any_some hh
  have hx : s.heap.get? x = some ⟨.ref C, some dx, .plain, #[]⟩ := I.obj
  refine wpAny_bind (wpAny_pure (wpAny_bind (wpAny_bind (wpAny_loadPart hx (wpAny_bind (PySem.W.Looks.here (s := { s with toks := s.toks + 1 }) (PySem.W.looks_clsIn X hc) ?_))))))
  rw [hd']
  refine wpAny_pure (a := some dx) (wpAny_bind (wpAny_pure (wpAny_bind ?_)))
  refine wpAny_nsSet1 (s := { s with toks := s.toks + 1 }) I.ns fun h' hn2 hs2 => ?_
  obtain ⟨oD, esD, epD, hoD, hdD, hcD⟩ := hn2.count (PySem.Within.cons name v hw)
  refine wpAny_bind (wpAny_lookBehind hoD (by rw [hdD]; exact pastItsLine_dict (Nat.le_trans hcD (by rw [List.length_cons]; omega))) ?_)
  exact wpAny_pure (h _ ⟨(hs2.2 _ (Ne.symm I.ne)).trans I.obj, hn2, I.ne⟩ hs2)
theorem make_map {R : Result → Shared → Prop} {vs : List Value} {kw : List (Str × Value)} (X : K.In s.heap) (hm : PySem.W.makesIn K C = true)
    (hi : PySem.W.findIn K (.ref C) "__init__" = some (some (.ref f))) (hf : PySem.W.typeIn K (.ref f) = some (.type "function"))
    (h : codeAny (model prog w) (A.under (.builtin "type.__call__" ⟨.ref C :: vs, kw⟩)) (.call (.ref f) ⟨.ref (s.heap.objs.size + 1) :: vs, kw⟩) (PySem.W.InitBack (s.heap.objs.size + 1) R)
      { s with heap := (s.heap.push PySem.W.emptyDict).push (PySem.W.instObj C s.heap.objs.size) }) :
    codeAny (model prog w) A (.call (.ref C) ⟨vs, kw⟩) R s := by
  obtain ⟨hh, g, d, t, os⟩ := s
  exact PySem.W.make_core (PySem.W.makes_of X hm) (PySem.W.looks_findIn X hi) (fun self => PySem.W.bind_fn X self hf) (.inl rfl) h
end
def putF (f : Str) (v : V) : List (Str × V) → List (Str × V)
  | [] => [(f, v)]
  | (g, x) :: r => if g = f then (g, v) :: r else (g, x) :: putF f v r
theorem lookup_putF (f g : Str) (v : V) : ∀ fs : List (Str × V), (putF f v fs).lookup g = if g = f then some v else fs.lookup g
  | [] => by
    show List.lookup g [(f, v)] = _
    by_cases h : g = f
    · have hb : (g == f) = true := beq_iff_eq.mpr h
      simp only [List.lookup, hb, if_pos h]
    · have hb : (g == f) = false := beq_eq_false_iff_ne.mpr h
      simp only [List.lookup, hb, if_neg h]
  | (k, x) :: r => by
    have ih := lookup_putF f g v r
    rw [show putF f v ((k, x) :: r) = (if k = f then (k, v) :: r else (k, x) :: putF f v r) from rfl]
    by_cases hk : k = f
    · rw [if_pos hk]
      by_cases h : g = k
      · have hb : (g == k) = true := beq_iff_eq.mpr h
        simp only [List.lookup, hb, if_pos (h.trans hk)]
      · have hb : (g == k) = false := beq_eq_false_iff_ne.mpr h
        simp only [List.lookup, hb, if_neg (fun e : g = f => h (e.trans hk.symm))]
    · rw [if_neg hk]
      by_cases h : g = k
      · have hb : (g == k) = true := beq_iff_eq.mpr h
        simp only [List.lookup, hb, if_neg (fun e : g = f => hk (h.symm.trans e))]
      · have hb : (g == k) = false := beq_eq_false_iff_ne.mpr h
        simp only [List.lookup, hb]
        exact ih
theorem keys_putF (f : Str) (v : V) : ∀ fs : List (Str × V), f ∈ (putF f v fs).map (·.1) ∧ ∀ g, g ∈ fs.map (·.1) → g ∈ (putF f v fs).map (·.1)
  | [] => ⟨by simp [putF], fun g h => by simp at h⟩
  | (k, x) :: r => by
    obtain ⟨i1, i2⟩ := keys_putF f v r
    rw [show putF f v ((k, x) :: r) = (if k = f then (k, v) :: r else (k, x) :: putF f v r) from rfl]
    by_cases hk : k = f
    · rw [if_pos hk]
      subst hk
      exact ⟨by simp, fun g h => by simpa using h⟩
    · rw [if_neg hk]
      refine ⟨?_, fun g h => ?_⟩
      · rw [List.map_cons]
        exact List.mem_cons_of_mem _ i1
      · rw [List.map_cons] at h ⊢
        rcases List.mem_cons.mp h with e | e
        · exact List.mem_cons.mpr (.inl e)
        · exact List.mem_cons_of_mem _ (i2 g e)
theorem length_putF (f : Str) (v : V) : ∀ fs : List (Str × V), (putF f v fs).length ≤ fs.length + 1
  | [] => by simp [putF]
  | (k, x) :: r => by
    have ih := length_putF f v r
    rw [show putF f v ((k, x) :: r) = (if k = f then (k, v) :: r else (k, x) :: putF f v r) from rfl]
    by_cases hk : k = f
    · rw [if_pos hk, List.length_cons, List.length_cons]; omega
    · rw [if_neg hk, List.length_cons, List.length_cons]; omega
theorem RelO.some_of {v : V} {o : Option Value} (r : RelO (some v) o) : ∃ u, o = some u ∧ RelV v u := by
  cases o with
  | none => exact (show False from r).elim
  | some u => exact ⟨u, rfl, r⟩
theorem RelO.none_of {o : Option Value} (r : RelO none o) : o = none := by
  cases o with
  | none => rfl
  | some u => exact (show False from r).elim
theorem handed_of {v : V} {u : Value} (r : RelV v u) : PySem.W.handedIn u = true := by
  cases v with
  | non => cases (show u = Value.none from r); rfl
  | bl b => cases (show u = Value.bool b from r); rfl
  | int i => obtain ⟨t, e⟩ := (show ∃ t, u = Value.int i t from r); cases e; rfl
  | str x => obtain ⟨t, e⟩ := (show ∃ t, u = Value.str x t from r); cases e; rfl
  | byt b => obtain ⟨t, e⟩ := (show ∃ t, u = Value.bytes b t from r); cases e; rfl
  | flt b => obtain ⟨t, e⟩ := (show ∃ t, u = Value.float b t from r); cases e; rfl
  | ref a => cases (show u = Value.ref a from r); rfl
  | ty n => cases (show u = Value.type n from r); rfl
section
variable {P : Program} {w : World} {H H' : Hp} {h h' : Heap} {a C dx : Addr} {fs fs' : List (Str × V)}
theorem ins_get (hok : HOk P w H h) (e : H a = some (.ins C dx fs)) : ∃ mA, ObjM h a dx C mA ∧ (∀ f, RelO (fs.lookup f) (mA f)) ∧ PySem.Within mA (fs.map (·.1)) ∧ fs.length ≤ 1000 ∧ H dx = some (.own a) := by
  obtain ⟨d, z, ne, ob, mA, n, r, q⟩ := (show ObjOk P w H h a (.ins C dx fs) from hok a _ e)
  exact ⟨mA, ⟨ob, n, ne⟩, r, q, z, d⟩
end
structure Cls (K : PySem.W.Frag) (C : Addr) : Prop where
  pg : PySem.W.plainGet K C Str.empty = true
  hd : PySem.W.hasDictIn K C = true
  po : PySem.W.plainOver K C = true
  sa : PySem.W.findIn K (.ref C) "__setattr__" = some (some (.builtin "object.__setattr__"))
theorem Cls.get {K : PySem.W.Frag} {C : Addr} (c : Cls K C) (f : Str) : PySem.W.plainGet K C f = true := c.pg
def NoAttr (K : PySem.W.Frag) (C : Addr) (f : Str) : Prop := PySem.W.findIn K (.ref C) f = some none
theorem NoAttr.taker {K : PySem.W.Frag} {C : Addr} {f : Str} (n : NoAttr K C f) : PySem.W.takerIn K C f = some none := by
  unfold PySem.W.takerIn
  rw [show PySem.W.findIn K (.ref C) f = some none from n]
  rfl
structure Meth (K : PySem.W.Frag) (C : Addr) (m : Str) (f : Addr) : Prop where
  at_ : PySem.W.findIn K (.ref C) m = some (some (.ref f))
  fn : PySem.W.isFn K (.ref f) = true
  kp : PySem.W.keepIn K (.ref f) = true
section
variable {X : Cx} {pins : List (Addr × Obj)} {σ : St} {H : Hp} {s : Shared} {a C dx : Addr} {fs : List (Str × V)} {f : Str} {v : V} {A : Around} {E : Value → Shared → Prop}
theorem getattr_ok {b : Bool} {Q : Value → Shared → Prop} (I : Inv X pins σ H s) (e : H a = some (.ins C dx fs)) (c : Cls X.K C) (n : NoAttr X.K C f) (l : fs.lookup f = some v)
    (h : ∀ u s', Inv X pins σ H s' → RelV v u → Q u s') : wpAny (model X.prog X.w) A (getAttr (.ref a) f b) Q E s := by
  obtain ⟨mA, O, r, _, _, _⟩ := ins_get I.hok e
  obtain ⟨u, hu, ru⟩ := RelO.some_of (v := v) (o := mA f) (by rw [← l]; exact r f)
  exact get_map I.kIn O (c.get f) c.hd n hu (handed_of ru) (h u _ (I.tok _) ru)
theorem getmeth_ok {m : Str} {g : Addr} {pl : Sem Bool} {Q : Value × List Value → Shared → Prop} (I : Inv X pins σ H s) (e : H a = some (.ins C dx fs)) (c : Cls X.K C) (k : Meth X.K C m g) (l : fs.lookup m = none)
    (h : Q (.ref g, [.ref a]) s) : wpAny (model X.prog X.w) A (getMethod (.ref a) m pl) Q E s := by
  obtain ⟨mA, O, r, _, _, _⟩ := ins_get I.hok e
  have hn : mA m = none := RelO.none_of (by rw [← l]; exact r m)
  exact get_meth I.kIn O (c.get m) k.at_ k.fn hn h
theorem setattr_ok {y : V} {u : Value} {Q : Unit → Shared → Prop} (I : Inv X pins σ H s) (e : H a = some (.ins C dx fs)) (c : Cls X.K C) (n : NoAttr X.K C f) (hl : fs.length < 1000) (ry : RelV y u)
    (h : ∀ s', Inv X pins σ (upd H a (.ins C dx (putF f y fs))) s' → Q () s') : wpAny (model X.prog X.w) A (setAttr (.ref a) f u) Q E s := by
  obtain ⟨mA, O, r, wi, _, ho⟩ := ins_get I.hok e
  have hz : (fs.map (·.1)).length ≤ sizeLine := by rw [List.length_map, sizeLine_eq]; omega
  refine set_map I.kIn O c.sa c.po n.taker c.hd wi hz fun h' O' sb => h _ ?_
  have hd : ∃ o, h'.get? dx = some o := let ⟨o, _, _, e', _⟩ := O'.ns; ⟨o, e'⟩
  refine I.write (x := a) (e := dx) (by rw [e]; exact True.intro) (.inr ho) (fun b q hb z => (sb.2 b hb).trans z) hd ?_
  refine ⟨by rw [upd_ne O.ne]; exact ho, ?_, O.ne, O'.obj, _, O'.ns, fun g => ?_, fun g hg => ?_⟩
  · have := length_putF f y fs; omega
  · show RelO ((putF f y fs).lookup g) (if g = f then some u else mA g)
    rw [lookup_putF]
    by_cases q : g = f
    · rw [if_pos q, if_pos q]; exact ry
    · rw [if_neg q, if_neg q]; exact r g
  · by_cases q : g = f
    · rw [q]; exact (keys_putF f y fs).1
    · refine (keys_putF f y fs).2 g (wi g fun z => hg ?_)
      show (if g = f then some u else mA g) = none
      rw [if_neg q]; exact z
theorem Inv.made (I : Inv X pins σ H s) : Inv X pins σ (upd (upd H s.heap.objs.size (.own (s.heap.objs.size + 1))) (s.heap.objs.size + 1) (.ins C s.heap.objs.size []))
    { s with heap := (s.heap.push PySem.W.emptyDict).push (PySem.W.instObj C s.heap.objs.size) } := by
  have e1 : (s.heap.push PySem.W.emptyDict).get? s.heap.objs.size = some PySem.W.emptyDict := Heap.get?_push_size s.heap rfl
  have e2 : ((s.heap.push PySem.W.emptyDict).push (PySem.W.instObj C s.heap.objs.size)).get? (s.heap.objs.size + 1) = some (PySem.W.instObj C s.heap.objs.size) := by
    have := Heap.get?_push_size (s.heap.push PySem.W.emptyDict) (o := PySem.W.instObj C s.heap.objs.size) rfl
    rwa [Heap.size_push] at this
  have e3 : (s.heap.push PySem.W.emptyDict).Ns s.heap.objs.size (fun _ => none) := ⟨PySem.W.emptyDict, #[], _, e1, rfl, (fun e he => absurd he (by simp)), fun _ => rfl⟩
  have I1 := I.laid (a := s.heap.objs.size) (o := .own (s.heap.objs.size + 1)) (h' := s.heap.push PySem.W.emptyDict) (t' := s.toks) (fun b u q => Heap.get?_push_of_some _ q) (Nat.le_refl _) ⟨_, e1⟩
  refine I1.laid (a := s.heap.objs.size + 1) (o := .ins C s.heap.objs.size []) (t' := s.toks) (fun b u q => Heap.get?_push_of_some _ q) (Nat.le_of_eq (Heap.size_push _ _)) ?_
  have ne : s.heap.objs.size ≠ s.heap.objs.size + 1 := Nat.ne_of_lt (Nat.lt_succ_self _)
  refine ⟨by rw [upd_ne ne, upd_same], Nat.zero_le _, ne, e2, fun _ => none, (Heap.Ns1.of_empty e3).at fun o q => Heap.get?_push_of_some _ q, fun _ => True.intro, fun y hy => absurd rfl hy⟩
theorem attr_of {prog : Program} {w : World} {env : Env} {e : Expr} {f : Str} {pos : Pos} {s : Shared} {Q : Value → Shared → Prop} (hb : attributeBase e f env (eval e env) = eval e env)
    (h : wpAny (model prog w) A (eval e env) (fun o s₁ => wpAny (model prog w) A (getAttr o f true) Q E s₁) E s) : wpAny (model prog w) A (eval (.Attribute e f pos) env) Q E s :=
  Attribute_any_ h (by rw [arm_eval_Attribute, hb])
end
def tFld (K : PySem.W.Frag) (ta : TE) (f : Str) : TE := fun σ H Q => ta σ H fun x H1 => ∃ a C dx fs v, x = .ref a ∧ H1 a = some (.ins C dx fs) ∧ Cls K C ∧ NoAttr K C f ∧ fs.lookup f = some v ∧ Q v H1
def sFld (K : PySem.W.Frag) (ta tv : TE) (f : Str) : TS := fun D σ H => tv σ H fun y H1 => ta σ H1 fun x H2 => ∃ a C dx fs, x = .ref a ∧ H2 a = some (.ins C dx fs) ∧ Cls K C ∧ NoAttr K C f ∧ fs.length < 1000 ∧
  D.nx σ (upd H2 a (.ins C dx (putF f y fs)))
section
variable {X : Cx} {o e value : Expr} {f : Str} {pos pos' tpos : Pos} {ta tv : TE}
theorem pe_fld (he : PE X e ta) (hb : attributeBase e f X.env (eval e X.env) = eval e X.env) : PE X (.Attribute e f pos) (tFld X.K ta f) := by
  intro pins s σ H Q I h
  refine attr_of hb (thn (he pins s σ H _ I h) fun u s1 hw' => ?_)
  obtain ⟨x, H1, I1, rx, a, C, dx, fs, v, ex, ea, c, n, l, q⟩ := hw'
  subst ex
  obtain rfl : u = Value.ref a := rx
  exact getattr_ok I1 ea c n l fun u' s2 I2 ru => ⟨v, H1, I2, ru, q⟩
theorem ps_fld (ha : PE X o ta) (hv : PE X value tv) (hs : swapsWith value (some (.Attribute o f pos')) pos.line X.env = pure false) : PS X (.Assign [.Attribute o f pos'] value pos) (sFld X.K ta tv f) := by
  intro pins s σ H D I h
  refine plainObj_wpAny_Assign_Attribute (thn (hv pins s σ H _ I h) fun u s1 ⟨y, H1, I1, ry, q⟩ => thn (ha pins s1 σ H1 _ I1 q) fun ov s2 hw' => ?_) hs
  obtain ⟨x, H2, I2, rx, a, C, dx, fs, ex, ea, c, n, l, q2⟩ := hw'
  subst ex
  obtain rfl : ov = Value.ref a := rx
  exact setattr_ok I2 ea c n l ry fun s3 I3 => ⟨σ, _, I3, q2⟩
end
section
variable {X : Cx} {pins : List (Addr × Obj)} {σ : St} {H : Hp} {s : Shared} {A : Around} {E : Value → Shared → Prop} {Q : Value → Shared → Prop} {c : Value} {b : Bool}
end
end L2
namespace L2
open PySem PySem.Spec PyProof.Rows
structure Room (k : Nat) (A : Around) : Prop where
  hd : A.handled = none
  dp : A.depth + 3 * k + 5 < recursionLimit
  un : A.units + 16 * k + 200 < cLine
  gd : A.guards = some [] := by rfl
theorem Room.mono {j k : Nat} {A : Around} (r : Room k A) (h : j ≤ k) : Room j A := ⟨r.hd, by have := r.dp; omega, by have := r.un; omega, r.gd⟩
theorem Room.deeper {k : Nat} {A : Around} (r : Room (k + 1) A) (env : Env) : Room k (A.deeper env) :=
  ⟨r.hd, by have := r.dp; show A.depth + 1 + 3 * k + 5 < _; omega, by have := r.un; show A.units + 3 + 16 * k + 200 < _; omega, r.gd⟩
theorem Room.in1 {k : Nat} {A : Around} (r : Room (k + 1) A) : Room k A.in1 :=
  ⟨r.hd, by have := r.dp; show A.depth + 3 * k + 5 < _; omega, by have := r.un; show A.units + 1 + 16 * k + 200 < _; omega, r.gd⟩
theorem make_depth {A : Around} {C : Addr} {us : List Value} {kw : List (Str × Value)} : (A.under (.builtin "type.__call__" ⟨.ref C :: us, kw⟩)).depth = A.depth + 1 := by
  first | rfl | simp [Around.under, Code.weight, Code.isCreation, Code.isGuard, Code.isCaller, Code.frames, Code.isFrame, guardIds]
theorem make_units {A : Around} {C : Addr} {us : List Value} {kw : List (Str × Value)} : (A.under (.builtin "type.__call__" ⟨.ref C :: us, kw⟩)).units = A.units + 1 := by
  first | rfl | simp [Around.under, Code.cUnits, Code.frames, Code.isFrame]
theorem Room.make {k : Nat} {A : Around} (r : Room (k + 1) A) (C : Addr) (us : List Value) (kw : List (Str × Value)) : Room k (A.under (.builtin "type.__call__" ⟨.ref C :: us, kw⟩)) :=
  ⟨r.hd, by have := r.dp; rw [make_depth]; omega, by have := r.un; rw [make_units]; omega, by first | exact r.gd | simpa [Around.under, Code.isGuard, Code.frames, Code.isFrame, guardIds] using r.gd⟩
theorem Room.depth {k : Nat} {A : Around} (r : Room k A) : A.depth < recursionLimit := by have := r.dp; omega
theorem Room.units {k : Nat} {A : Around} (r : Room k A) : A.units + 64 < cLine := by have := r.un; omega
def tNil : TA := fun _ H Q => Q [] H
def tCons (ta : TE) (tr : TA) : TA := fun σ H Q => ta σ H fun x H1 => tr σ H1 fun xs H2 => Q (x :: xs) H2
section
variable {X : Cx} {e : Expr} {es : List Expr} {te : TE} {t : TA} {pos : Pos}
theorem pa_nil : PA X [] tNil := fun _ _ _ _ H Q I h => Calls.spliced_nil ⟨[], H, I, .nil, h⟩
theorem pa_cons (ha : PE X e te) (hr : PA X es t) (hs : starEach (e :: es) X.env = (false, eval e X.env) :: starEach es X.env := by rfl) : PA X (e :: es) (tCons te t) := by
  intro pos pins s σ H Q I h
  rw [hs]
  show wpAny _ _ (spliced ((false, eval e X.env) :: backTo pos (starEach es X.env))) _ _ s
  refine Calls.spliced_cons (thn (ha pins s σ H _ I h) fun u s1 hw' => ?_)
  obtain ⟨x, H1, I1, r1, q1⟩ := hw'
  exact thn (hr pos pins s1 σ H1 _ I1 q1) fun us s2 ⟨xs, H2, I2, r2, q2⟩ => ⟨x :: xs, H2, I2, .cons r1 r2, q2⟩
def tTup (t : TA) : TE := fun σ H Q => t σ H fun xs H1 => xs.length ≤ sizeLine ∧ ∀ p, H1 p = none → Q (.ref p) (upd H1 p (.tup xs))
def tLst (t : TA) : TE := fun σ H Q => t σ H fun xs H1 => xs.length ≤ sizeLine ∧ ∀ p, H1 p = none → Q (.ref p) (upd H1 p (.lst xs))
theorem pe_tup {x1} (h : PA X es t) : PE X (.Tuple es x1 pos) (tTup t) := by
  intro pins s σ H Q I hq
  refine wpAny_Tuple_spliced (thn (h pos pins s σ H _ I hq) fun us s1 ⟨xs, H1, I1, r, z, q⟩ => ⟨by rw [← r.length]; exact z, ?_⟩)
  have hf : H1 s1.heap.objs.size = none := I1.hok.fresh (Nat.le_refl _)
  refine ⟨.ref s1.heap.objs.size, upd H1 s1.heap.objs.size (.tup xs), I1.laid (t' := s1.toks) (fun b u e => Heap.get?_push_of_some _ e) (Nat.le_refl _) ?_, rfl, q _ hf⟩
  exact ⟨z, us, r, ⟨_, Heap.get?_push_size _ rfl, rfl, _, rfl⟩⟩
theorem pe_lst (h : PA X es t) : PE X (.List es pos) (tLst t) := by
  intro pins s σ H Q I hq
  refine wpAny_List_spliced (thn (h pos pins s σ H _ I hq) fun us s1 ⟨xs, H1, I1, r, z, q⟩ => ⟨by rw [← r.length]; exact z, ?_⟩)
  have hf : H1 s1.heap.objs.size = none := I1.hok.fresh (Nat.le_refl _)
  refine ⟨.ref s1.heap.objs.size, upd H1 s1.heap.objs.size (.lst xs), I1.laid (t' := s1.toks) (fun b u e => Heap.get?_push_of_some _ e) (Nat.le_refl _) ?_, rfl, q _ hf⟩
  exact ⟨z, us, 0, r, Heap.get?_push_size _ rfl⟩
end
abbrev Sp := List V → Hp → VK → XK → Prop
abbrev CXT := List Env → Hp → Shared → XK → Value → Shared → Prop
structure Env0 (P : Program) (w : World) (K : PySem.W.Frag) (mg : Str → Option Value) (base : Heap) (A : Around) (outer : List Env) (s : Shared) (H : Hp) : Prop where
  frames : A.frames = some outer
  mod : Mod K mg base
  bs : ∀ b o, base.get? b = some o → s.heap.get? b = some o ∧ H b = none
  bsz : base.objs.size ≤ s.heap.objs.size
  funs : s.heap.FunFrames base outer
  frf : ∀ b ∈ frs outer, H b = none
  hok : HOk P w H s.heap
  bare : AllBare s.gens
def CE (outer : List Env) (P : Program) (w : World) (H : Hp) (s : Shared) (Q : VK) (u : Value) (s' : Shared) : Prop :=
  ∃ v H', s'.os = s.os ∧ AllBare s'.gens ∧ Un (frs outer) [] H H' s.heap s'.heap ∧ HOk P w H' s'.heap ∧ RelV v u ∧ Q v H'
def CR (CX : CXT) (outer : List Env) (P : Program) (w : World) (H : Hp) (s : Shared) (Q : VK) (E : XK) (r : Result) (s' : Shared) : Prop :=
  match r with
  | .ok (.ret u) => CE outer P w H s Q u s'
  | .ok _ => False
  | .error e => CX outer H s E e s'
structure FnOk (P : Program) (w : World) (K : PySem.W.Frag) (mg : Str → Option Value) (base : Heap) (CX : CXT) (k : Nat) (f : Addr) (fd : FuncData) (ps : List Str) (sp : Sp) : Prop where
  len : ∀ vs H Q E, sp vs H Q E → vs.length = ps.length
  run : ∀ (A : Around) (outer : List Env) (s : Shared) (H : Hp) (args : Args) (us : List Value) (vs : List V) (Q : VK) (E : XK), Room k A → Env0 P w K mg base A outer s H → BindsTo s fd args (ps.zip us) → Vals vs us → sp vs H Q E →
    codeAny (model P w) A (.call (.ref f) args) (CR CX outer P w H s Q E) s
theorem FnOk.imp {P : Program} {w : World} {K : PySem.W.Frag} {mg : Str → Option Value} {base : Heap} {CX : CXT} {k : Nat} {f : Addr} {fd : FuncData} {ps : List Str} {sp sp' : Sp} (F : FnOk P w K mg base CX k f fd ps sp)
    (h : ∀ vs H Q E, sp' vs H Q E → sp vs H Q E) : FnOk P w K mg base CX k f fd ps sp' :=
  ⟨fun vs H Q E q => F.len vs H Q E (h _ _ _ _ q), fun A outer s H args us vs Q E hr he hb hv hs => F.run A outer s H args us vs Q E hr he hb hv (h _ _ _ _ hs)⟩
theorem Env0.make {P : Program} {w : World} {K : PySem.W.Frag} {mg : Str → Option Value} {base : Heap} {A : Around} {outer : List Env} {s : Shared} {H : Hp} (e : Env0 P w K mg base A outer s H) (C : Addr) (us : List Value) (kw : List (Str × Value)) :
    Env0 P w K mg base (A.under (.builtin "type.__call__" ⟨.ref C :: us, kw⟩)) outer s H := ⟨by first | exact e.frames | (simpa [Around.under, Code.envs, Code.isFrame, pushEnvs] using e.frames), e.mod, e.bs, e.bsz, e.funs, e.frf, e.hok, e.bare⟩
theorem Env0.in1 {P : Program} {w : World} {K : PySem.W.Frag} {mg : Str → Option Value} {base : Heap} {A : Around} {outer : List Env} {s : Shared} {H : Hp} (e : Env0 P w K mg base A outer s H) :
    Env0 P w K mg base A.in1 outer s H := ⟨e.frames, e.mod, e.bs, e.bsz, e.funs, e.frf, e.hok, e.bare⟩
section
variable {X : Cx} {pins : List (Addr × Obj)} {σ : St} {H : Hp} {s s' : Shared}
theorem Inv.env0 (I : Inv X pins σ H s) : Env0 X.prog X.w X.K X.mg X.base X.A X.stack s H :=
  ⟨I.ok.frames, I.ok.mod, I.bs, Nat.le_trans I.ok.bsz I.sz, I.stack, I.stkFree, I.hok, I.bare⟩
theorem Inv.after {Q : VK} {u : Value} (I : Inv X pins σ H s) (h : CE X.stack X.prog X.w H s Q u s') : EP X pins σ Q u s' := by
  obtain ⟨v, H', os, bare, un, hok, r, q⟩ := h
  obtain ⟨hh, g, d, t, os'⟩ := s'
  obtain rfl : os' = s.os := os
  exact ⟨v, H', I.call (h' := hh) (g' := g) (d' := d) (t' := t) (ch := []) un hok bare (fun b z => absurd z (by simp)), r, q⟩
end
def tCall (sp : Sp) (dvs : List V) (E : XK) (t : TA) : TE := fun σ H Q => t σ H fun vs H1 => sp (vs ++ dvs) H1 Q E
def tMeth (C : Addr) (m : Str) (sp : Sp) (dvs : List V) (E : XK) (ta : TE) (t : TA) : TE := fun σ H Q => ta σ H fun x H1 => ∃ a dx fs, x = .ref a ∧ H1 a = some (.ins C dx fs) ∧ fs.lookup m = none ∧
  t σ H1 fun vs H2 => sp (x :: (vs ++ dvs)) H2 Q E
def tMake (C : Addr) (sp : Sp) (dvs : List V) (E : XK) (t : TA) : TE := fun σ H Q => t σ H fun vs H1 => ∀ x dx, H1 x = none → H1 dx = none → dx ≠ x →
  sp (.ref x :: (vs ++ dvs)) (upd (upd H1 dx (.own x)) x (.ins C dx [])) (fun v H2 => v = .non ∧ Q (.ref x) H2) E
def Binds (K : PySem.W.Frag) (fd : FuncData) (ps : List Str) (ds : List Value) : Prop :=
  ∀ (s : Shared) (us : List Value), K.In s.heap → (us ++ ds).length = ps.length → BindsTo s fd ⟨us, []⟩ (ps.zip (us ++ ds))
theorem Binds.all {K : PySem.W.Frag} {fd : FuncData} {ps : List Str} (h : ∀ us : List Value, us.length = ps.length → bindArgs fd ⟨us, []⟩ = pure (ps.zip us)) : Binds K fd ps [] := fun s us _ hl => by
  rw [List.append_nil] at hl ⊢
  exact .of_eq (h us hl)
def Passes (CX : CXT) (X : Cx) (E : XK) : Prop := ∀ (pins : List (Addr × Obj)) (σ : St) (H : Hp) (s : Shared) (e : Value) (s' : Shared), Inv X pins σ H s → CX X.stack H s E e s' → X.xe e s'
section
variable {X : Cx} {CX : CXT} {k : Nat} {f C : Addr} {fd : FuncData} {ps : List Str} {sp : Sp} {dvs : List V} {ds : List Value} {E : XK} {x m : Str} {p pos apos : Pos} {e o : Expr} {es : List Expr} {ta : TE} {t : TA}
theorem run_fn {pins : List (Addr × Obj)} {σ : St} {H : Hp} {s : Shared} {Q : VK} {us : List Value} {vs : List V} (F : FnOk X.prog X.w X.K X.mg X.base CX k f fd ps sp) (hr : Room k X.A) (hb : Binds X.K fd ps ds) (hd : Vals dvs ds) (hx : Passes CX X E)
    (I : Inv X pins σ H s) (r : Vals vs us) (h : sp (vs ++ dvs) H Q E) : wpAny (model X.prog X.w) X.A (call (.ref f) us) (EP X pins σ Q) X.xe s := by
  have r2 : Vals (vs ++ dvs) (us ++ ds) := r.append hd
  have hl : (us ++ ds).length = ps.length := by rw [← r2.length]; exact F.len _ _ _ _ h
  refine wpAny_call (codeAny_mono (F.run X.A X.stack s H ⟨us, []⟩ (us ++ ds) (vs ++ dvs) Q E hr I.env0 (hb s us I.kIn hl) r2 h) fun r s' hq => ?_)
  cases r with
  | error e => exact hx pins σ H s e s' I hq
  | ok fl =>
    cases fl with
    | ret u => exact I.after hq
    | next => exact False.elim hq
    | brk => exact False.elim hq
    | cont => exact False.elim hq
theorem pe_call (F : FnOk X.prog X.w X.K X.mg X.base CX k f fd ps sp) (hr : Room k X.A) (hg : Gl X x) (hm : X.mg x = some (.ref f)) (hk : PySem.W.keepIn X.K (.ref f) = true) (hb : Binds X.K fd ps ds) (hd : Vals dvs ds) (hx : Passes CX X E)
    (ha : PA X (e :: es) t) (hdb : (x == ("__debug__" : Str)) = false := by decide) (he : starEach (e :: es) X.env = (false, eval e X.env) :: starEach es X.env := by rfl) (hpl : (backTo pos (starEach es X.env)).any (·.1) = false := by rfl) :
    PE X (.Call (.Name x p) (e :: es) [] pos) (tCall sp dvs E t) := by
  intro pins s σ H Q I h
  refine wpAny_Call_Name_kw (ld_glob I hg hm ?_ hdb)
  refine PySem.W.callWith_K (h₀ := X.base) I.ok.mod.kin hk (thn (ha pos pins s σ H _ I h) fun us s1 ⟨vs, H1, I1, r, q⟩ => ⟨I1.kIn, ?_⟩) he hpl
  exact run_fn F hr hb hd hx I1 r q
theorem pe_meth {pl : Sem Bool} (he : PE X o ta) (c : Cls X.K C) (hm : Meth X.K C m f) (F : FnOk X.prog X.w X.K X.mg X.base CX k f fd ps sp) (hr : Room k X.A) (hb : Binds X.K fd ps ds) (hd : Vals dvs ds) (hx : Passes CX X E) (ha : PA X (e :: es) t)
    (hst : starEach (e :: es) X.env = (false, eval e X.env) :: starEach es X.env := by rfl) (hpl : (backTo pos (starEach es X.env)).any (·.1) = false := by rfl)
    (ht : eval (.Call (.Attribute o m apos) (e :: es) [] pos) X.env = (do
      let ov ← eval o X.env
      standAt apos.atName
      let (f, first) ← holding [ov] (getMethod ov m pl)
      callWith pos f first (backTo pos (starEach (e :: es) X.env)) (backToKw pos (keywordEach [] X.env))) := by rfl) :
    PE X (.Call (.Attribute o m apos) (e :: es) [] pos) (tMeth C m sp dvs E ta t) := by
  intro pins s σ H Q I h
  refine PySem.W.methodCall_KW (pl := pl) (thn (he pins s σ H _ I h) fun u s1 hw' => ?_) ht
  obtain ⟨x, H1, I1, rx, a, dx, fs, ex, ea, l, q⟩ := hw'
  subst ex
  obtain rfl : u = Value.ref a := rx
  refine getmeth_ok I1 ea c hm l ?_
  refine PySem.W.callWith_K (first := [.ref a]) (h₀ := X.base) I.ok.mod.kin hm.kp (thn (ha pos pins s1 σ H1 _ I1 q) fun us s2 ⟨vs, H2, I2, r, q2⟩ => ⟨I2.kIn, ?_⟩) hst hpl
  exact run_fn (us := .ref a :: us) (vs := .ref a :: vs) F hr hb hd hx I2 (.cons rfl r) q2
theorem pe_meth0 {pl : Sem Bool} (he : PE X o ta) (c : Cls X.K C) (hm : Meth X.K C m f) (F : FnOk X.prog X.w X.K X.mg X.base CX k f fd ps sp) (hr : Room k X.A) (hb : Binds X.K fd ps ds) (hd : Vals dvs ds) (hx : Passes CX X E)
    (ht : eval (.Call (.Attribute o m apos) [] [] pos) X.env = (do
      let ov ← eval o X.env
      standAt apos.atName
      let (f, first) ← holding [ov] (getMethod ov m pl)
      callWith pos f first (backTo pos (starEach [] X.env)) (backToKw pos (keywordEach [] X.env))) := by rfl) :
    PE X (.Call (.Attribute o m apos) [] [] pos) (tMeth C m sp dvs E ta tNil) := by
  intro pins s σ H Q I h
  refine PySem.W.methodCall_KW (pl := pl) (thn (he pins s σ H _ I h) fun u s1 hw' => ?_) ht
  obtain ⟨x, H1, I1, rx, a, dx, fs, ex, ea, l, q⟩ := hw'
  subst ex
  obtain rfl : u = Value.ref a := rx
  refine getmeth_ok I1 ea c hm l ?_
  exact PySem.W.callWith_K0 (first := [.ref a]) I1.kIn hm.kp (run_fn (us := [.ref a]) (vs := [.ref a]) F hr hb hd hx I1 (.cons rfl .nil) q)
structure Mk (K : PySem.W.Frag) (C f : Addr) : Prop where
  makes : PySem.W.makesIn K C = true
  init : PySem.W.findIn K (.ref C) "__init__" = some (some (.ref f))
  fn : PySem.W.isFn K (.ref f) = true
  kp : PySem.W.keepIn K (.ref C) = true
theorem run_make {pins : List (Addr × Obj)} {σ : St} {H : Hp} {s : Shared} {Q : VK} {us : List Value} {vs : List V} (M : Mk X.K C f) (F : FnOk X.prog X.w X.K X.mg X.base CX k f fd ps sp) (hr : Room (k + 1) X.A) (hb : Binds X.K fd ps ds) (hd : Vals dvs ds)
    (hx : Passes CX X E) (I : Inv X pins σ H s) (r : Vals vs us)
    (h : ∀ x dx, H x = none → H dx = none → dx ≠ x → sp (.ref x :: (vs ++ dvs)) (upd (upd H dx (.own x)) x (.ins C dx [])) (fun v H2 => v = .non ∧ Q (.ref x) H2) E) :
    wpAny (model X.prog X.w) X.A (call (.ref C) us) (EP X pins σ Q) X.xe s := by
  have hq := h (s.heap.objs.size + 1) s.heap.objs.size (I.hok.fresh (Nat.le_succ _)) (I.hok.fresh (Nat.le_refl _)) (Nat.ne_of_lt (Nat.lt_succ_self _))
  have I2 := Inv.made (C := C) I
  have r2 : Vals (V.ref (s.heap.objs.size + 1) :: (vs ++ dvs)) (Value.ref (s.heap.objs.size + 1) :: (us ++ ds)) := .cons rfl (r.append hd)
  have hl : (Value.ref (s.heap.objs.size + 1) :: us ++ ds).length = ps.length := by
    have e := r2.length
    rw [F.len _ _ _ _ hq] at e
    exact e.symm
  refine wpAny_call (make_map (f := f) I.kIn M.makes M.init (beq_iff_eq.mp M.fn) (codeAny_mono (F.run _ X.stack _ _ ⟨Value.ref (s.heap.objs.size + 1) :: us, []⟩ (Value.ref (s.heap.objs.size + 1) :: (us ++ ds)) _ _ E (hr.make C us [])
    (I2.env0.make C us []) (hb _ (Value.ref (s.heap.objs.size + 1) :: us) I2.kIn hl) r2 hq) fun r s' hq' => ?_))
  cases r with
  | error e => exact hx pins σ _ _ e s' I2 hq'
  | ok fl =>
    cases fl with
    | ret u =>
      obtain ⟨v, H', I3, rv, ev, q3⟩ := I2.after hq'
      subst ev
      exact ⟨rv, ⟨V.ref (s.heap.objs.size + 1), H', I3, rfl, q3⟩⟩
    | next => exact False.elim hq'
    | brk => exact False.elim hq'
    | cont => exact False.elim hq'
theorem pe_make0 (M : Mk X.K C f) (F : FnOk X.prog X.w X.K X.mg X.base CX k f fd ps sp) (hr : Room (k + 1) X.A) (hg : Gl X x) (hm : X.mg x = some (.ref C)) (hb : Binds X.K fd ps ds) (hd : Vals dvs ds) (hx : Passes CX X E)
    (hdb : (x == ("__debug__" : Str)) = false := by decide) : PE X (.Call (.Name x p) [] [] pos) (tMake C sp dvs E tNil) := by
  intro pins s σ H Q I h
  refine wpAny_Call_Name_kw (ld_glob I hg hm ?_ hdb)
  exact PySem.W.callWith_K0 I.kIn M.kp (run_make (us := []) M F hr hb hd hx I .nil h)
end
def PK (X : Cx) (kws : List Keyword) (t : TA) : Prop :=
  ∀ (pos : Pos) (pins : List (Addr × Obj)) (s : Shared) (σ : St) (H : Hp) (Q : List V → Hp → Prop), Inv X pins σ H s → t σ H Q → wpAny (model X.prog X.w) X.A (evalAll ((backToKw pos (keywordEach kws X.env)).map (·.2))) (AP X pins σ Q) X.xe s
section
variable {X : Cx} {CX : CXT} {k : Nat} {f C : Addr} {fd : FuncData} {ps ks : List Str} {sp : Sp} {E : XK} {x m : Str} {p pos apos kpos : Pos} {e o : Expr} {es : List Expr} {kws : List Keyword} {te ta : TE} {t tk : TA} {nm : Option Str}
theorem pk_nil : PK X [] tNil := fun _ _ _ _ H Q I h => wpAny_evalAll_nil ⟨[], H, I, .nil, h⟩
theorem pk_cons (ha : PE X e te) (hr : PK X kws t) : PK X (⟨nm, e, kpos⟩ :: kws) (tCons te t) := by
  intro pos pins s σ H Q I h
  show wpAny _ _ (evalAll ((do let v ← eval e X.env; standAt pos; pure v) :: (backToKw pos (keywordEach kws X.env)).map (·.2))) _ _ s
  refine wpAny_evalAll_cons (wpAny_bind (thn (ha pins s σ H _ I h) fun u s1 ⟨x, H1, I1, r1, q1⟩ => wpAny_bind (wpAny_standAt (wpAny_pure ?_))))
  exact thn (hr pos pins s1 σ H1 _ I1 q1) fun us s2 ⟨xs, H2, I2, r2, q2⟩ => ⟨x :: xs, H2, I2, .cons r1 r2, q2⟩
variable {g : List Value → List Value → List Value} {gV : List V → List V → List V}
end
structure FnScope (N P : List Str) (sc : Scope) : Prop where
  kind : sc.kind = .function
  co : sc.isCoroutine = false
  gen : sc.isGenerator = false
  nd : N.Nodup
  pre : N.take P.length = P
  par : ∀ x ∈ P, sc.names.lookup x = some .local ∨ sc.names.lookup x = some .cell
  nofree : ∀ y ∈ sc.names, y.2 ≠ .free
theorem bindL_out {kindOf : Str → Option NameKind} {x : Str} : ∀ {binds : List (Str × Value)} {m : Str → Option Value}, (∀ v, (x, v) ∉ binds) → bindL kindOf binds m x = m x
  | [], _, _ => rfl
  | (n, v) :: r, m, h => by
    unfold bindL
    rw [bindL_out fun w hw => h w (List.mem_cons_of_mem _ hw)]
    split
    · have : x ≠ n := by rintro rfl; exact h v List.mem_cons_self
      simp [this]
    · rfl
theorem bindC_out {kindOf : Str → Option NameKind} {x : Str} : ∀ {binds : List (Str × Value)} {m : Str → Option Value}, (∀ v, (x, v) ∉ binds) → bindC kindOf binds m x = m x
  | [], _, _ => rfl
  | (n, v) :: r, m, h => by
    unfold bindC
    rw [bindC_out fun w hw => h w (List.mem_cons_of_mem _ hw)]
    split
    · rfl
    · have : x ≠ n := by rintro rfl; exact h v List.mem_cons_self
      simp [this]
theorem bindL_get {kindOf : Str → Option NameKind} {x : Str} {v : Value} : ∀ {P : List Str} {vs : List Value} {i : Nat} {m : Str → Option Value}, P.Nodup → P[i]? = some x → vs[i]? = some v → kindOf x = some .local →
    bindL kindOf (P.zip vs) m x = some v
  | [], _, _, _, _, h, _, _ => by simp at h
  | _ :: _, [], _, _, _, _, h, _ => by simp at h
  | p :: P, w :: vs, 0, m, nd, h1, h2, hk => by
    simp at h1 h2; subst h1; subst h2
    show bindL kindOf ((p, w) :: P.zip vs) m p = _
    unfold bindL
    rw [bindL_out fun v hv => (List.nodup_cons.mp nd).1 (List.of_mem_zip hv).1, if_pos hk]
    simp
  | p :: P, w :: vs, i + 1, m, nd, h1, h2, hk => by
    show bindL kindOf ((p, w) :: P.zip vs) m x = _
    unfold bindL
    exact bindL_get (i := i) (List.nodup_cons.mp nd).2 (by simpa using h1) (by simpa using h2) hk
theorem bindC_get {kindOf : Str → Option NameKind} {x : Str} {v : Value} : ∀ {P : List Str} {vs : List Value} {i : Nat} {m : Str → Option Value}, P.Nodup → P[i]? = some x → vs[i]? = some v → kindOf x ≠ some .local →
    bindC kindOf (P.zip vs) m x = some v
  | [], _, _, _, _, h, _, _ => by simp at h
  | _ :: _, [], _, _, _, _, h, _ => by simp at h
  | p :: P, w :: vs, 0, m, nd, h1, h2, hk => by
    simp at h1 h2; subst h1; subst h2
    show bindC kindOf ((p, w) :: P.zip vs) m p = _
    unfold bindC
    rw [bindC_out fun v hv => (List.nodup_cons.mp nd).1 (List.of_mem_zip hv).1, if_neg hk]
    simp
  | p :: P, w :: vs, i + 1, m, nd, h1, h2, hk => by
    show bindC kindOf ((p, w) :: P.zip vs) m x = _
    unfold bindC
    exact bindC_get (i := i) (List.nodup_cons.mp nd).2 (by simpa using h1) (by simpa using h2) hk
def start (N : List Str) (vs : List V) : St := vs.map some ++ List.replicate (N.length - vs.length) none
def cxOf (CX : CXT) (P : Program) (w : World) (K : PySem.W.Frag) (mg : Str → Option Value) (base : Heap) (N : List Str) (qual : Str) (scope : Scope) (f : Addr) (cd : Value) (A : Around) (outer : List Env) (s : Shared) (H : Hp) (E : XK) : Cx where
  prog := P
  w := w
  K := K
  mg := mg
  base := base
  A := A.deeper (envOfC qual scope s.heap.objs.size f cd)
  N := N
  s₀ := s
  H₀ := H
  env := envOfC qual scope s.heap.objs.size f cd
  outer := outer
  stack := envOfC qual scope s.heap.objs.size f cd :: outer
  ex := []
  calm := true
  fn := fun _ => true
  pn := []
  xe := fun e s' => wpAny (model P w) (A.deeper (envOfC qual scope s.heap.objs.size f cd)) (leaving (envOfC qual scope s.heap.objs.size f cd) e) (fun _ s'' => CX outer H s E e s'') (fun e' s'' => CX outer H s E e' s'') s'
theorem cell_has {sc : Scope} {n : Nat} {x : Str} (h : sc.names.lookup x = some .cell) : ∃ c, (cellsFrom n sc.names []).lookup x = some c := by
  have q := PySem.W.cellsFrom_some sc.names n [] (.inl h)
  exact Option.isSome_iff_exists.mp q
theorem inv_start {CX : CXT} {P : Program} {w : World} {K : PySem.W.Frag} {mg : Str → Option Value} {base : Heap} {N ps : List Str} {qual : Str} {scope : Scope} {f : Addr} {cd : Value} {A : Around} {outer : List Env} {s s1 : Shared} {H : Hp} {E : XK} {us : List Value} {vs : List V}
    (S : FnScope N ps scope) (hd : A.handled = none) (e0 : Env0 P w K mg base A outer s H) (hl : vs.length = ps.length) (r : Vals vs us)
    (x : InCallC s s.heap.objs.size (bindL (envOfC qual scope s.heap.objs.size f cd).kindOf (ps.zip us) fun _ => none) (cellsFrom (s.heap.objs.size + 1) scope.names []) (bindC (envOfC qual scope s.heap.objs.size f cd).kindOf (ps.zip us) fun _ => none) s1) :
    Inv (cxOf CX P w K mg base N qual scope f cd A outer s H E) [] (start N vs) H s1 := by
  have hpl : ps.length ≤ N.length := by have := congrArg List.length S.pre; rw [List.length_take] at this; omega
  obtain ⟨h1, tk, rfl, hk⟩ := x.done
  have noA : ∀ b : Addr, b ∉ (cxOf CX P w K mg base N qual scope f cd A outer s H E).ex := fun b z => absurd (show b ∈ ([] : List Addr) from z) (by simp)
  refine ⟨⟨e0.mod, S.kind, rfl, rfl, Nat.le_refl _, fun y z c h1 h2 => ?_, fun y hy => ?_, fun y c _ h => ?_, fun _ => hd, Around.frames_deeper e0.frames, .inr ⟨rfl, rfl⟩, fun b z => absurd z (noA b), e0.bs, e0.bsz, fun b _ _ => noA b, fun b z => absurd z (noA b), e0.funs, e0.frf⟩,
    rfl, e0.bare, Un.kept hk, ⟨_, x.toInCall.ns, fun i y v h1 h2 h3 => ?_⟩, fun y c h => ⟨_, x.cell y c h⟩, e0.hok.fresh (Nat.le_refl _), fun y c h => ?_, fun p hp => absurd (show p ∈ ([] : List (Addr × Obj)) from hp) (by simp), e0.hok.kept hk, ?_⟩
  · exact name_of_addr x.apart (PySem.mem_of_lookup h1) (PySem.mem_of_lookup h2)
  · have hy : scope.names.lookup y = some .cell ∨ scope.names.lookup y = some .free := hy
    rcases hy with hy | hy
    · exact cell_has hy
    · exact absurd rfl (S.nofree _ (PySem.mem_of_lookup hy))
  · exact Nat.le_of_lt (x.above y c (PySem.mem_of_lookup h))
  · have hi : i < vs.length := by
      unfold start at h2
      by_cases hi : i < vs.length
      · exact hi
      · rw [List.getElem?_append_right (by simpa using hi)] at h2
        rw [List.getElem?_replicate] at h2
        split at h2 <;> cases h2
    have ha : vs[i]? = some v := by
      unfold start at h2
      rw [List.getElem?_append_left (by simpa using hi), List.getElem?_map] at h2
      cases e : vs[i]? with
      | none => rw [e] at h2; cases h2
      | some a => rw [e] at h2; cases h2; rfl
    obtain ⟨u, hu, rv⟩ := r.get ha
    have hp : ps[i]? = some y := by
      rw [← S.pre, List.getElem?_take_of_lt (by omega)]; exact h1
    have ndP : ps.Nodup := by rw [← S.pre]; exact S.nd.sublist (List.take_sublist _ _)
    refine ⟨u, rv, ?_⟩
    rcases S.par y (List.mem_of_getElem? hp) with k | k
    · exact .inl ⟨k, bindL_get ndP hp hu k⟩
    · obtain ⟨c, e⟩ := cell_has (n := s.heap.objs.size + 1) k
      refine .inr ⟨.inl k, c, e, ?_⟩
      have q := x.cell y c e
      rw [bindC_get ndP hp hu (by show scope.names.lookup y ≠ _; rw [k]; decide)] at q
      exact q
  · exact e0.hok.fresh (Nat.le_of_lt (x.above y c (PySem.mem_of_lookup h)))
  · unfold start
    show _ = N.length
    rw [List.length_append, List.length_map, List.length_replicate]
    omega
theorem fn_of {CX : CXT} {P : Program} {w : World} {K : PySem.W.Frag} {mg : Str → Option Value} {base : Heap} {k : Nat} {f : Addr} {name qual : Str} {params : Arguments} {body : List Stmt} {scope : Scope} {dV kV doc pm cdv ct oc : Value} {an od : Option Addr}
    {osl : Array (Option Value)} {N ps : List Str} {sp : Sp} (lk : K.lookup f = some ⟨oc, od, .func (PySem.W.fnOf name qual params body scope dV kV doc pm an cdv ct), osl⟩) (hcd : PySem.W.codeIn K cdv qual = true) (S : FnScope N ps scope)
    (len : ∀ vs H Q E, sp vs H Q E → vs.length = ps.length)
    (hbody : ∀ (A : Around) (outer : List Env) (s : Shared) (H : Hp) (vs : List V) (Q : VK) (E : XK), Room k (A.deeper (envOfC qual scope s.heap.objs.size f cdv)) → sp vs H Q E →
      ∃ t, PSs (cxOf CX P w K mg base N qual scope f cdv A outer s H E) body t ∧ t { nx := fun _ H' => Q .non H', rt := Q } (start N vs) H) :
    FnOk P w K mg base CX (k + 1) f (PySem.W.fnOf name qual params body scope dV kV doc pm an cdv ct) ps sp := by
  refine ⟨len, fun A outer s H args us vs Q E hr e0 hb r hsp => ?_⟩
  have hl := len _ _ _ _ hsp
  have KX : K.In s.heap := e0.mod.kin.keeps fun b o e => (e0.bs b o e).1
  have lim : s.heap.NoLimit := e0.mod.nolimit.keeps fun b o e => (e0.bs b o e).1
  have hkind : ∀ y ∈ ps.zip us, scope.names.lookup y.1 = some .local ∨ (scope.names.lookup y.1 = some .cell ∧ ((cellsFrom (s.heap.objs.size + 1) scope.names []).lookup y.1).isSome = true) := fun hw' hy => by
    obtain ⟨n, v⟩ := hw'
    rcases S.par n (List.of_mem_zip hy).1 with q | q
    · exact .inl q
    · exact .inr ⟨q, PySem.W.cellsFrom_some _ _ _ (.inl q)⟩
  refine codeAny_call_function hr.depth (KX _ _ lk) rfl S.co S.gen rfl (PySem.W.codeRec_of KX hcd) (hb _ _ _ _ ?_)
  refine wpAny_newFunctionEnv_cells S.kind hkind fun env he s1 x => ?_
  subst he
  refine ⟨lim.keeps x.toInCall.keep, codeAny_func ?_⟩
  obtain ⟨t, ht, hq⟩ := hbody A outer s H vs Q E (hr.deeper _) hsp
  have I : Inv (cxOf CX P w K mg base N qual scope f cdv A outer s H E) [] (start N vs) H s1 := inv_start S hr.hd e0 hl r x
  refine wpAny_mono (ht [] s1 (start N vs) H _ I hq) (fun fl s' hs => ?_) fun e s' hs => hs
  have fin : ∀ {σ' : St} {H' : Hp} {v : V} {u : Value}, Inv (cxOf CX P w K mg base N qual scope f cdv A outer s H E) [] σ' H' s' → RelV v u → Q v H' → CE outer P w H s Q u s' :=
    fun {σ' H' v u} J rv q => ⟨v, H', J.os, J.bare, J.base, J.hok, rv, q⟩
  cases fl with
  | ret u =>
    obtain ⟨v, σ', H', J, rv, q⟩ := hs
    exact fin J rv q
  | next =>
    obtain ⟨σ', H', J, q⟩ := hs
    exact fin (v := V.non) (u := Value.none) J rfl q
  | brk =>
    obtain ⟨_, _, _, q⟩ := hs
    exact False.elim q
  | cont =>
    obtain ⟨_, _, _, q⟩ := hs
    exact False.elim q
end L2
namespace L2
open PySem PySem.Spec PyProof.Rows
section
variable {X : Cx} {x : Str} {p pos : Pos} {e : Expr} {es : List Expr} {t : TA} {id T : String} {r : List V → Hp → VK → Prop}
def tCB (r : List V → Hp → VK → Prop) (t : TA) : TE := fun σ H Q => t σ H fun vs H1 => r vs H1 Q
theorem pe_callB (hc : CallR X (.builtin id) r) (hg : Gl X x) (hm : X.mg x = none) (hv : bootBuiltins x = some (.builtin id)) (ha : PA X (e :: es) t) (hn : x ≠ "__name__" := by decide) (hdb : (x == ("__debug__" : Str)) = false := by decide)
    (he : starEach (e :: es) X.env = (false, eval e X.env) :: starEach es X.env := by rfl) (hpl : (backTo pos (starEach es X.env)).any (·.1) = false := by rfl) : PE X (.Call (.Name x p) (e :: es) [] pos) (tCB r t) := by
  intro pins s σ H Q I h
  refine wpAny_Call_Name_kw (ld_blt I hg hm hv ?_ hn hdb)
  exact PyProof.Rows.callWith_builtin1 (thn (ha pos pins s σ H _ I h) fun us s1 ⟨vs, H1, I1, r1, q1⟩ => hc pins s1 σ H1 vs us Q I1 r1 q1) he hpl
theorem pe_callTy (hc : CallR X (.type T) r) (hg : Gl X x) (hm : X.mg x = none) (hv : bootBuiltins x = some (.type T)) (ha : PA X (e :: es) t) (hn : x ≠ "__name__" := by decide) (hdb : (x == ("__debug__" : Str)) = false := by decide)
    (he : starEach (e :: es) X.env = (false, eval e X.env) :: starEach es X.env := by rfl) (hpl : (backTo pos (starEach es X.env)).any (·.1) = false := by rfl) : PE X (.Call (.Name x p) (e :: es) [] pos) (tCB r t) := by
  intro pins s σ H Q I h
  refine wpAny_Call_Name_kw (ld_blt I hg hm hv ?_ hn hdb)
  exact PyProof.Rows.callWith_type1 (thn (ha pos pins s σ H _ I h) fun us s1 ⟨vs, H1, I1, r1, q1⟩ => hc pins s1 σ H1 vs us Q I1 r1 q1) he hpl
end
end L2
namespace HT
open PySem PyProof.Rows
def lexLt : List Int → List Int → Bool
  | [], [] => false
  | [], _ :: _ => true
  | _ :: _, [] => false
  | x :: xs, y :: ys => if x = y then lexLt xs ys else decide (x < y)
theorem lexLt_cons (x y : Int) (xs ys : List Int) : lexLt (x :: xs) (y :: ys) = if x = y then lexLt xs ys else decide (x < y) := rfl
theorem lexLt_nil_nil : lexLt [] [] = false := rfl
theorem lexLt_nil_cons (y : Int) (ys : List Int) : lexLt [] (y :: ys) = true := rfl
theorem lexLt_cons_nil (x : Int) (xs : List Int) : lexLt (x :: xs) [] = false := rfl
theorem eqAt_int (A : Around) (s : Shared) (a : Int) (t : Tok) (c : Int) (u : Tok) : ∃ e, SeqAt.EqAt A s (.int a t) (.int c u) e ∧ (e = true ↔ a = c) :=
  ⟨(a == c), SeqAt.EqAt.int_int a t c u, by simp⟩
theorem rcLt_int (A : Around) (s : Shared) (a : Int) (t : Tok) (c : Int) (u : Tok) (prog : Program) (w : World) (E : Value → Shared → Prop) (Q : Value → Shared → Prop) (h : Q (.bool (decide (a < c))) s) :
    wpAny (model prog w) A (richCompare .Lt (.int a t) (.int c u)) Q E s :=
  (PyProof.Rows.lt_int h : wpAny (model prog w) A (compareOp .Lt (.int a t) (.int c u)) Q E s)
section
open PySem.SeqAt
open PySem.AutoSeq1 (wpAny_loadPart')
open PySem.MeetsSeq PySem.MeetsSeq2 PySem.MeetsSeq3
theorem tuple_lt_ints (l b : Addr) (items items2 : Array Value) (n n2 : Nat) (dd dd2 : Option Addr) (sl sl2 : Array (Option Value)) (ns ms : List Int) (hi : IntsAre items.toList ns) (hj : IntsAre items2.toList ms) :
    Meets (Builtin.«tuple.__lt__» ⟨[.ref l, .ref b], []⟩)
      (fun _ R s => s.heap.get? l = some { cls := .type "tuple", dict := dd, data := .seq items n, slots := sl } ∧ s.heap.get? b = some { cls := .type "tuple", dict := dd2, data := .seq items2 n2, slots := sl2 } ∧
        R (.ok (.ret (.bool (lexLt ns ms)))) s) :=
  .of_wp fun prog w A R s h => by
    obtain ⟨hp, g, d, tk, os⟩ := s; obtain ⟨hl, hb, h⟩ := h
    have f2 := AutoSeq1.sub_tuple_tuple
    have z1 : items.size = ns.length := by rw [← hi.length]; simp
    have z2 : items2.size = ms.length := by rw [← hj.length]; simp
    wp_walk using wpAny_loadPart' hl, wpAny_loadPart' hb, wpAny_forIn_list _ (fun rest b s' => b.1 = none ∧ s' = ⟨hp, g, d, tk, os⟩ ∧ ∃ (vs ws : List Value) (ns' ms' : List Int), rest = vs.zip ws ∧
      IntsAre vs ns' ∧ IntsAre ws ms' ∧ ns'.length + items2.size = ms'.length + items.size ∧ R (.ok (.ret (.bool (lexLt ns' ms')))) ⟨hp, g, d, tk, os⟩) _
    case turn =>
      rintro ⟨y, x⟩ rest b s' ⟨hb', rfl, vs, ws, ns', ms', hz, hvi, hwi, hlen, hR⟩
      cases hvi with
      | nil => rw [List.zip_nil_left] at hz; cases hz
      | cons a t hvi' =>
        cases hwi with
        | nil => rw [List.zip_nil_right] at hz; cases hz
        | cons c u hwi' =>
          rw [List.zip_cons_cons] at hz
          injection hz with hyx hrest
          injection hyx with hy hx
          subst hy hx
          rw [lexLt_cons] at hR
          simp only [List.length_cons] at hlen
          obtain ⟨e, he, hiff⟩ := eqAt_int A.in1 ⟨hp, g, d, tk, os⟩ a t c u
          refine wpAny_bind (he prog w _ _ ?_)
          cases e with
          | true =>
            rw [if_pos (hiff.mp rfl)] at hR
            wp_walk
            exact ⟨rfl, rfl, _, _, _, _, hrest, hvi', hwi', by omega, hR⟩
          | false =>
            rw [if_neg (fun q => absurd (hiff.mpr q) Bool.false_ne_true)] at hR
            have hri := rcLt_int A.in1 ⟨hp, g, d, tk, os⟩ a t c u prog w
            wp_walk using hri
            exact ⟨_, rfl, by simpa using hR⟩
    case fin =>
      rintro ⟨b1, b2⟩ s' ⟨hb', rfl, vs, ws, ns', ms', hz, hvi, hwi, hlen, hR⟩
      simp only at hb'
      subst hb'
      have hv : lexLt ns' ms' = decide (items.size < items2.size) := by
        cases hvi with
        | nil =>
          cases hwi with
          | nil =>
            simp only [List.length_nil] at hlen
            rw [lexLt_nil_nil]
            exact (decide_eq_false (by omega)).symm
          | cons c u hw =>
            simp only [List.length_nil, List.length_cons] at hlen
            rw [lexLt_nil_cons]
            exact (decide_eq_true (by omega)).symm
        | cons a t hv =>
          cases hwi with
          | nil =>
            simp only [List.length_nil, List.length_cons] at hlen
            rw [lexLt_cons_nil]
            exact (decide_eq_false (by omega)).symm
          | cons c u hw =>
            rw [List.zip_cons_cons] at hz
            cases hz
      rw [hv] at hR
      wp_walk
      exact ⟨_, rfl, by simpa [Builtin.Tuple.tupleCompareSizes] using hR⟩
    case h =>
      exact ⟨rfl, rfl, items.toList, items2.toList, ns, ms, rfl, hi, hj, by omega, h⟩
end
section
variable {prog : Program} {w : World} {A : Around} {E : Value → Shared → Prop} {s : Shared}
theorem lt_tupInts {l b : Addr} {items items2 : Array Value} {ns ms : List Int} {Q : Value → Shared → Prop} (hl : IsTup s.heap l items) (hb : IsTup s.heap b items2) (hi : IntsAre items.toList ns) (hj : IntsAre items2.toList ms)
    (hu : A.units < cLine) (h : Q (.bool (lexLt ns ms)) s) : wpAny (model prog w) A (compareOp .Lt (.ref l) (.ref b)) Q E s := by
  obtain ⟨⟨cls, dd, data, sl⟩, ho, hc, n, hd⟩ := id hl
  obtain ⟨⟨cls2, dd2, data2, sl2⟩, ho2, hc2, n2, hd2⟩ := id hb
  simp only at hc hd hc2 hd2
  subst hc hd hc2 hd2
  exact richCompare_meets_room (op := .Lt) ⟨_, ho, rfl⟩ ⟨_, ho2, rfl⟩ PySem.F.slot_tuple_lt PySem.F.entry_tuple_lt (PySem.F.args_tuple_lt_2 _ _) (tuple_lt_ints l b items items2 n n2 dd dd2 sl sl2 ns ms hi hj)
    ⟨ho, ho2, show Value.bool (lexLt ns ms) ≠ Value.notImplemented ∧ Q (.bool (lexLt ns ms)) s from ⟨(fun x => nomatch x), h⟩⟩ hu
def sIx (n d : Nat) : Option Int → Nat
  | none => d
  | some v => if v < 0 then (v + (n : Int)).toNat else min v.toNat n
theorem sIx_none (n d : Nat) : sIx n d none = d := rfl
theorem sIx_nat (n d k : Nat) : sIx n d (some (k : Int)) = min k n := by
  show (if (k : Int) < 0 then ((k : Int) + (n : Int)).toNat else min (k : Int).toNat n) = min k n
  rw [if_neg (by omega), Int.toNat_natCast]
end
end HT
namespace L2
open PySem PySem.Spec PyProof.Rows
abbrev TO := St → Hp → (Option Int → Hp → Prop) → Prop
def PO (X : Cx) (e : Option Expr) (t : TO) : Prop :=
  ∀ (pins : List (Addr × Obj)) (s : Shared) (σ : St) (H : Hp) (Q : Option Int → Hp → Prop), Inv X pins σ H s → t σ H Q →
    wpAny (model X.prog X.w) X.A (evalPart e X.env) (fun u s' => ∃ o H', Inv X pins σ H' s' ∧ IsPart u o ∧ Q o H') X.xe s
def tNoPart : TO := fun _ H Q => Q none H
def tPart (t : TE) : TO := fun σ H Q => t σ H fun x H1 => ∃ i, x = .int i ∧ Q (some i) H1
theorem intsAre_of {ns : List Int} : ∀ {us : List Value}, Vals (ns.map V.int) us → IntsAre us ns := by
  induction ns with
  | nil => intro us r; rw [List.map_nil] at r; cases r; exact .nil
  | cons n ns ih =>
    intro us r
    rw [List.map_cons] at r
    cases r with
    | cons r1 r2 =>
      obtain ⟨t, e⟩ := r1
      subst e
      exact .cons n t (ih r2)
section
variable {X : Cx} {e : Expr} {te : TE} {lo hi : Option Expr} {tl th : TO} {pos p2 : Pos}
theorem po_none : PO X none tNoPart := by
  intro pins s σ H Q I h
  rw [evalPart_none]
  exact wpAny_pure ⟨none, H, I, .none, h⟩
theorem po_some (h : PE X e te) : PO X (some e) (tPart te) := by
  intro pins s σ H Q I hw
  rw [evalPart_some]
  refine thn (h pins s σ H _ I hw) fun u s1 hw' => ?_
  obtain ⟨x, H1, I1, r1, q1⟩ := hw'
  obtain ⟨i, rfl, q⟩ := q1
  obtain ⟨t, rfl⟩ := r1
  exact ⟨some i, H1, I1, .int i t, q⟩
def SlR (X : Cx) (r : V → Option Int → Option Int → Hp → VK → Prop) : Prop :=
  ∀ (pins : List (Addr × Obj)) (s : Shared) (σ : St) (H : Hp) (x : V) (v vl vu : Value) (lo hi : Option Int) (sl : Addr) (Q : VK), Inv X pins σ H s → RelV x v → s.heap.IsSliceOf sl vl vu .none → IsPart vl lo → IsPart vu hi → r x lo hi H Q →
    ∃ T id, typeLookup (.type T) "__getitem__" = pure (some (.builtin id)) ∧ s.TypeIs v T ∧ wpAny (model X.prog X.w) X.A (getItem v (.ref sl)) (EP X pins σ Q) X.xe s
def tSl (r : V → Option Int → Option Int → Hp → VK → Prop) (te : TE) (tl th : TO) : TE := fun σ H Q => te σ H fun x H1 => tl σ H1 fun l H2 => th σ H2 fun u H3 => r x l u H3 Q
theorem pe_slice {r : V → Option Int → Option Int → Hp → VK → Prop} (hr : SlR X r) (he : PE X e te) (hl : PO X lo tl) (hu : PO X hi th) : PE X (.Subscript e (.Slice lo hi none p2) pos) (tSl r te tl th) := by
  intro pins s σ H Q I h
  refine Subscript_ (thn (he pins s σ H _ I h) fun v s1 hw' => ?_)
  obtain ⟨x, H1, I1, r1, q1⟩ := hw'
  refine wpAny_Slice (thn (hl pins s1 σ H1 _ I1 q1) fun vl s2 ⟨l, H2, I2, pl, q2⟩ => thn (hu pins s2 σ H2 _ I2 q2) fun vu s3 hw' => ?_)
  obtain ⟨u, H3, I3, pu, q3⟩ := hw'
  rw [evalPart_none]
  refine wpAny_pure ?_
  have I4 : Inv X pins σ H3 { s3 with heap := s3.heap.push { cls := .type "slice", data := .fields #[vl, vu, .none] } } := I3.kept (t' := s3.toks) fun b ob q => Heap.get?_push_of_some _ q
  obtain ⟨T, id, hT, ht, hg⟩ := hr pins { s3 with heap := s3.heap.push { cls := .type "slice", data := .fields #[vl, vu, .none] } } σ H3 x v vl vu l u s3.heap.objs.size Q I4 r1 (Heap.IsSliceOf.new ..) pl pu q3
  show wpAny (model X.prog X.w) X.A (subscriptTail e (.Slice lo hi none p2) v (.ref s3.heap.objs.size)) (EP X pins σ Q) X.xe { s3 with heap := s3.heap.push { cls := .type "slice", data := .fields #[vl, vu, .none] } }
  exact tail_any (ops := [.ref s3.heap.objs.size, v]) ht hT hg (by with_unfolding_all rfl)
def cutV (xs : List V) (lo hi : Option Int) : List V := (xs.drop (HT.sIx xs.length 0 lo)).take (HT.sIx xs.length xs.length hi - HT.sIx xs.length 0 lo)
theorem cutV_length (xs : List V) (lo hi : Option Int) : (cutV xs lo hi).length ≤ xs.length := by
  unfold cutV
  rw [List.length_take, List.length_drop]
  omega
end
end L2
namespace L2
open PySem PySem.Spec PyProof.Rows
def ixN (n : Nat) (i : Int) : Option Nat := if 0 ≤ i then (if i < n then some i.toNat else none) else if -(n : Int) ≤ i then some (i + n).toNat else none
def atI {α : Type} (xs : List α) (i : Int) : Option α := (ixN xs.length i).bind fun j => xs[j]?
theorem ixN_seq {n : Nat} {i : Int} {j : Nat} (h : ixN n i = some j) : seqIndex? i n = some j ∧ j < n ∧ -(n : Int) ≤ i ∧ i < n := by
  unfold ixN at h
  by_cases h0 : 0 ≤ i
  · rw [if_pos h0] at h
    by_cases h1 : i < n
    · rw [if_pos h1] at h
      have e : i.toNat = j := Option.some.inj h
      exact ⟨by rw [seqIndex_of h0 h1, e], by omega, by omega, h1⟩
    · rw [if_neg h1] at h; cases h
  · rw [if_neg h0] at h
    by_cases h1 : -(n : Int) ≤ i
    · rw [if_pos h1] at h
      have e : (i + n).toNat = j := Option.some.inj h
      exact ⟨by rw [seqIndex_neg (by omega) h1, e], by omega, h1, by omega⟩
    · rw [if_neg h1] at h; cases h
theorem atI_get {α : Type} {xs : List α} {i : Int} {v : α} (h : atI xs i = some v) : ∃ j, seqIndex? i xs.length = some j ∧ xs[j]? = some v ∧ j < xs.length ∧ -(xs.length : Int) ≤ i ∧ i < xs.length := by
  unfold atI at h
  cases e : ixN xs.length i with
  | none => rw [e] at h; cases h
  | some j =>
    rw [e] at h
    obtain ⟨h1, h2, h3, h4⟩ := ixN_seq e
    exact ⟨j, h1, h, h2, h3, h4⟩
theorem atI_nat {α : Type} {xs : List α} {j : Nat} {v : α} (h : xs[j]? = some v) : atI xs (j : Int) = some v := by
  have hj : j < xs.length := (List.getElem?_eq_some_iff.mp h).1
  have e : ixN xs.length (j : Int) = some j := by
    unfold ixN
    rw [if_pos (by omega), if_pos (by omega)]; simp
  unfold atI; rw [e]; exact h
def PlainIx (b : Expr) : Prop := ∀ o i, subscripted b false o i = operate [o, i] (getItem o i)
def IxR (X : Cx) (r : R2) : Prop :=
  ∀ (value slice : Expr) (pins : List (Addr × Obj)) (s : Shared) (σ : St) (H : Hp) (x y : V) (v u : Value) (Q : VK), Inv X pins σ H s → RelV x v → RelV y u → r x y H Q →
    subscripted slice false v u = operate [v, u] (getItem v u) → wpAny (model X.prog X.w) X.A (subscriptTail value slice v u) (EP X pins σ Q) X.xe s
def MtR (X : Cx) (id : String) (r : V → List V → Hp → VK → Prop) : Prop :=
  ∀ (pins : List (Addr × Obj)) (s : Shared) (σ : St) (H : Hp) (x : V) (xs : List V) (v : Value) (us : List Value) (Q : VK), Inv X pins σ H s → RelV x v → Vals xs us → r x xs H Q →
    wpAny (model X.prog X.w) X.A (call (.builtin id) (v :: us)) (EP X pins σ Q) X.xe s
section
variable {X : Cx} {a b : Expr} {ta tb : TE} {pos : Pos}
theorem IxR.or {r r' : R2} (h : IxR X r) (h' : IxR X r') : IxR X (fun x y H Q => r x y H Q ∨ r' x y H Q) := by
  intro value slice pins s σ H x y v u Q I rx ry q hs
  rcases q with q | q
  · exact h value slice pins s σ H x y v u Q I rx ry q hs
  · exact h' value slice pins s σ H x y v u Q I rx ry q hs
theorem pe_ix {r : R2} (hr : IxR X r) (ha : PE X a ta) (hb : PE X b tb) (hs : PlainIx b) : PE X (.Subscript a b pos) (tOp r ta tb) := by
  intro pins s σ H Q I h
  exact Subscript_ (binT ha hb I h fun v u s2 x y H2 I2 rx ry q => hr a b pins s2 σ H2 x y v u Q I2 rx ry q (hs _ _))
def rIxL (K : PySem.W.Frag) : R2 := fun x y H Q => ∃ p xs i v, x = .ref p ∧ y = .int i ∧ SqL K H p xs ∧ atI xs i = some v ∧ Q v H
def rIxT (K : PySem.W.Frag) : R2 := fun x y H Q => ∃ p xs i v, x = .ref p ∧ y = .int i ∧ SqT K H p xs ∧ atI xs i = some v ∧ Q v H
def rIxS : R2 := fun x y H Q => ∃ z i c, x = .str z ∧ y = .int i ∧ z.length ≤ sizeLine ∧ atI z.cps.toList i = some c ∧ Q (.str ⟨#[c]⟩) H
theorem ix_list : IxR X (rIxL X.K) := by
  intro value slice pins s σ H x y v u Q I rx ry h hs
  obtain ⟨p, xs, i, z, rfl, rfl, hq, he, q⟩ := h
  cases rx
  obtain ⟨t, rfl⟩ := ry
  obtain ⟨its, r, pl, hz⟩ := I.list hq
  obtain ⟨j, h1, h2, h3, h4, h5⟩ := atI_get he
  obtain ⟨w, ew, rw'⟩ := r.get h2
  have hl := r.length
  have hn := line63
  have fin : EP X pins σ Q w s := ⟨z, H, I, rw', q⟩
  by_cases h0 : 0 ≤ i
  · have hj : i.toNat = j := by
      rw [seqIndex_of h0 h5] at h1
      exact Option.some.inj h1
    exact item_listR pl.isList h0 (by omega) (by rw [hj]; simpa using ew) fin hs
  · have hj : (i + (its.toArray.size : Int)).toNat = j := by
      rw [seqIndex_neg (by omega) h4] at h1
      rw [List.size_toArray, ← hl]
      exact Option.some.inj h1
    exact subscriptTail_builtinR (x := w) pl.isList.typeIs slot_list_getitem.lookup
      (wpAny_getItem_list_neg (Q := fun r s' => r = w ∧ EP X pins σ Q r s') pl.isList (by omega) (by rw [List.size_toArray] <;> omega) (by omega) (by rw [hj]; simpa using ew) ⟨rfl, fin⟩) hs
theorem ix_tup : IxR X (rIxT X.K) := by
  intro value slice pins s σ H x y v u Q I rx ry h hs
  obtain ⟨p, xs, i, z, rfl, rfl, hq, he, q⟩ := h
  cases rx
  obtain ⟨t, rfl⟩ := ry
  obtain ⟨its, r, pl, hz⟩ := I.tuple hq
  obtain ⟨j, h1, h2, h3, h4, h5⟩ := atI_get he
  obtain ⟨w, ew, rw'⟩ := r.get h2
  have hl := r.length
  have hn := line63
  have fin : EP X pins σ Q w s := ⟨z, H, I, rw', q⟩
  exact subscriptTail_builtinR (x := w) pl.typeIs slot_tuple_getitem.lookup
    (getItem_tuple (j := j) (Q := fun r s' => r = w ∧ EP X pins σ Q r s') pl (by omega) (by omega) (by rw [List.size_toArray, ← hl]; exact h1) (by simpa using ew) ⟨rfl, fin⟩) hs
theorem ix_str : IxR X rIxS := by
  intro value slice pins s σ H x y v u Q I rx ry h hs
  obtain ⟨z, i, c, rfl, rfl, hz, he, q⟩ := h
  obtain ⟨t, rfl⟩ := rx
  obtain ⟨t', rfl⟩ := ry
  obtain ⟨j, h1, h2, h3, h4, h5⟩ := atI_get he
  have hl : z.cps.toList.length = z.length := by simp [Str.length]
  rw [hl] at h1 h4 h5
  have hn := line63
  exact tail_any (typeIs_str s z t) slot_str_getitem.lookup (getItem_str (c := c) (by
    have e1 : decide (i < -(2 ^ 63 : Int)) = false := decide_eq_false (by omega)
    have e2 : decide (i ≥ 2 ^ 63) = false := decide_eq_false (by omega)
    rw [e1, e2, Bool.or_false]) (by rw [h1]; simpa using h2) ⟨.str ⟨#[c]⟩, H, I.tok _, ⟨_, rfl⟩, q⟩) hs
def rIx (K : PySem.W.Frag) : R2 := fun x y H Q => rIxL K x y H Q ∨ rIxT K x y H Q ∨ rIxS x y H Q
theorem ix_seq : IxR X (rIx X.K) := ix_list.or (ix_tup.or ix_str)
theorem mapSeq_set (its : List Value) (n j : Nat) (u : Value) : Obj.mapSeq (·.setIfInBounds j u) { cls := .type "list", data := .seq its.toArray n } = { cls := .type "list", data := .seq (its.set j u).toArray n } := by
  simp [Obj.mapSeq]
theorem Inv.lst {pins : List (Addr × Obj)} {σ : St} {H : Hp} {s : Shared} {p : Addr} {xs : List V} (I : Inv X pins σ H s) (h : H p = some (.lst xs)) :
    ∃ (its : List Value) (n : Nat), Vals xs its ∧ s.heap.get? p = some { cls := .type "list", data := .seq its.toArray n } ∧ xs.length ≤ sizeLine := by
  obtain ⟨z, its, n, r, e⟩ := I.hok p _ h
  exact ⟨its, n, r, e, z⟩
theorem Inv.lstUpd {pins : List (Addr × Obj)} {σ : St} {H : Hp} {s : Shared} {p : Addr} {xs ys : List V} {its its' : List Value} {n n' : Nat} {f : Obj → Obj} (I : Inv X pins σ H s) (h : H p = some (.lst xs))
    (ho : s.heap.get? p = some { cls := .type "list", data := .seq its.toArray n }) (hf : f { cls := .type "list", data := .seq its.toArray n } = { cls := .type "list", data := .seq its'.toArray n' }) (r : Vals ys its') (hz : ys.length ≤ sizeLine) (t : Nat) :
    Inv X pins σ (upd H p (.lst ys)) { s with heap := s.heap.update p f, toks := t } := by
  have e : (s.heap.update p f).get? p = some { cls := .type "list", data := .seq its'.toArray n' } := by
    rw [Heap.get?_update_self f ho (by rw [hf] <;> rfl), hf]
  refine I.write (x := p) (e := p) (by rw [h]; trivial) (.inl rfl) (fun b u hb q => (Heap.get?_update_other _ _ (Ne.symm hb)).trans q) ⟨_, e⟩ ?_
  exact ⟨hz, its', n', r, e⟩
def rSetL : V → V → V → Hp → (Hp → Prop) → Prop := fun o i v H Q => ∃ p xs k j, o = .ref p ∧ i = .int k ∧ H p = some (.lst xs) ∧ ixN xs.length k = some j ∧ Q (upd H p (.lst (xs.set j v)))
theorem set_list : PSet X rSetL := by
  intro pins s σ H o i v ov iv u Q I ro ri rv h
  obtain ⟨p, xs, k, j, rfl, rfl, hp, hj, q⟩ := h
  cases ro
  obtain ⟨t, rfl⟩ := ri
  obtain ⟨its, n, r, ho, hz⟩ := I.lst hp
  obtain ⟨h1, h2, h3, h4⟩ := ixN_seq hj
  have hl := r.length
  have hn := line63
  have I' : Inv X pins σ (upd H p (.lst (xs.set j v))) { s with heap := s.heap.update p (Obj.mapSeq (·.setIfInBounds j u)) } :=
    I.lstUpd hp ho (mapSeq_set its n j u) (r.set rv j) (by rw [List.length_set]; exact hz) s.toks
  by_cases h0 : 0 ≤ k
  · have hk : k.toNat = j := by
      rw [seqIndex_of h0 h4] at h1
      exact Option.some.inj h1
    exact PySem.W.ki_setAt ho h0 (by omega) (by rw [List.size_toArray, ← hl]; exact h4) (by rw [hk]; exact ⟨_, I', q⟩)
  · have hk : (k + (its.toArray.size : Int)).toNat = j := by
      rw [seqIndex_neg (by omega) h3] at h1
      rw [List.size_toArray, ← hl]
      exact Option.some.inj h1
    exact PySem.W.ki_setBack ho (by omega) (by rw [List.size_toArray, ← hl]; exact h3) (by omega) (by rw [hk]; exact ⟨_, I', q⟩)
theorem slice_bounds (lo hi : Option Int) (n : Nat) : (sliceBounds lo hi none n).1 = ((HT.sIx n 0 lo : Nat) : Int) ∧ (sliceBounds lo hi none n).2.1 = ((HT.sIx n n hi : Nat) : Int) ∧ (sliceBounds lo hi none n).2.2 = 1 := by
  refine ⟨?_, ?_, rfl⟩
  · cases lo with
    | none => simp [sliceBounds, HT.sIx]
    | some i =>
      simp only [sliceBounds, HT.sIx, Option.getD_none, show (1 : Int) > 0 by decide, if_true]
      by_cases h : i < 0
      · simp only [h, if_true] <;> omega
      · simp only [h, if_false] <;> omega
  · cases hi with
    | none => simp [sliceBounds, HT.sIx]
    | some i =>
      simp only [sliceBounds, HT.sIx, Option.getD_none, show (1 : Int) > 0 by decide, if_true]
      by_cases h : i < 0
      · simp only [h, if_true] <;> omega
      · simp only [h, if_false] <;> omega
theorem slicePick_cut (its : List Value) (lo hi : Option Int) : slicePick its.toArray lo hi none = ((its.drop (HT.sIx its.length 0 lo)).take (HT.sIx its.length its.length hi - HT.sIx its.length 0 lo)).toArray := by
  obtain ⟨h1, h2, h3⟩ := slice_bounds lo hi its.toArray.size
  unfold slicePick
  rw [h1, h2, h3]
  simp only [sliceRange_one, pick_run, List.size_toArray] <;> rfl
def rSlL (K : PySem.W.Frag) : V → Option Int → Option Int → Hp → VK → Prop := fun x lo hi H Q => ∃ a xs, x = .ref a ∧ SqL K H a xs ∧ ∀ p, H p = none → Q (.ref p) (upd H p (.lst (cutV xs lo hi)))
theorem sl_list : SlR X (rSlL X.K) := by
  intro pins s σ H x v vl vu lo hi sl Q I rx hs pl pu h
  obtain ⟨a, xs, rfl, hx, q⟩ := h
  cases rx
  obtain ⟨its, r, ht, hz⟩ := I.list hx
  have hlen := r.length
  refine ⟨"list", _, slot_list_getitem.lookup, ht.isList.typeIs, ?_⟩
  refine wpAny_getItem_list_slice ht.isList hs pl pu .none (by simp) ?_ (by rw [List.size_toArray] <;> omega)
  rw [slicePick_cut, ← hlen]
  refine ⟨.ref s.heap.objs.size, _, I.laid (t' := s.toks) (o := .lst (cutV xs lo hi)) (fun b ob q => Heap.get?_push_of_some _ q) (Nat.le_refl _) ?_, rfl, q _ (I.hok.fresh (Nat.le_refl _))⟩
  exact ⟨Nat.le_trans (cutV_length xs lo hi) hz, _, 0, (r.drop (HT.sIx xs.length 0 lo)).take (HT.sIx xs.length xs.length hi - HT.sIx xs.length 0 lo), Heap.get?_push_size _ rfl⟩
theorem call_len_seq : CallR X (.builtin "len") (fun xs H Q => ∃ p ys, xs = [.ref p] ∧ (SqL X.K H p ys ∨ SqT X.K H p ys) ∧ Q (.int ys.length) H) := by
  intro pins s σ H xs us Q I r h
  obtain ⟨p, ys, rfl, hq, q⟩ := h
  obtain ⟨u, rfl, rx⟩ := vals1 r
  cases rx
  have hn := line63
  rcases hq with hq | hq
  · obtain ⟨its, r', pl, hz⟩ := I.list hq
    have hlen := r'.length
    exact Calls.call_len_list pl.isList (by simp only [List.size_toArray] <;> omega) ⟨.int ys.length, H, I.tok _, ⟨s.toks + 1, by rw [List.size_toArray, hlen]⟩, q⟩
  · obtain ⟨its, r', pl, hz⟩ := I.tuple hq
    have hlen := r'.length
    exact len_tuple pl (by simp only [List.size_toArray] <;> omega) ⟨.int ys.length, H, I.tok _, ⟨s.toks + 1, by rw [List.size_toArray, hlen]⟩, q⟩
theorem call_len_str : CallR X (.builtin "len") (fun xs H Q => ∃ z, xs = [.str z] ∧ z.length ≤ sizeLine ∧ Q (.int z.length) H) := by
  intro pins s σ H xs us Q I r h
  obtain ⟨z, rfl, hz, q⟩ := h
  obtain ⟨u, rfl, t, rfl⟩ := vals1 r
  have hn := line63
  exact len_str (by omega) ⟨.int z.length, H, I.tok _, ⟨_, rfl⟩, q⟩
theorem call_list_of : CallR X (.type "list") (fun xs H Q => ∃ p ys, xs = [.ref p] ∧ (SqL X.K H p ys ∨ SqT X.K H p ys) ∧ ∀ l, H l = none → Q (.ref l) (upd H l (.lst ys))) := by
  intro pins s σ H xs us Q I r h
  obtain ⟨p, ys, rfl, hq, q⟩ := h
  obtain ⟨u, rfl, rx⟩ := vals1 r
  cases rx
  have fin : ∀ (its : List Value), Vals ys its → ys.length ≤ sizeLine → ∀ (h' : Heap) (c' : Nat), (∀ b o', s.heap.get? b = some o' → h'.get? b = some o') →
      h'.get? s.heap.objs.size = some { cls := .type "list", dict := none, data := .seq its.toArray c', slots := #[] } → EP X pins σ Q (.ref s.heap.objs.size) { s with heap := h' } := fun its r' hz h' c' kp e =>
    ⟨.ref s.heap.objs.size, _, I.laid (t' := s.toks) kp (Nat.le_refl _) (show ObjOk X.prog X.w _ h' _ (.lst ys) from ⟨hz, its, c', r', e⟩), rfl, q _ (I.hok.fresh (Nat.le_refl _))⟩
  rcases hq with hq | hq
  · obtain ⟨its, r', pl, hz⟩ := I.list hq
    have hlen := r'.length
    obtain ⟨o, ho, hc, n, hd⟩ := pl.isList
    exact call_list_seq p (.inl rfl) ho hc hd (fun h' c' kp e => fin its r' hz h' c' kp e) (by simp only [List.size_toArray] <;> omega)
  · obtain ⟨its, r', pl, hz⟩ := I.tuple hq
    have hlen := r'.length
    obtain ⟨o, ho, hc, n, hd⟩ := pl
    exact call_list_seq p (.inr rfl) ho hc hd (fun h' c' kp e => fin its r' hz h' c' kp e) (by simp only [List.size_toArray] <;> omega)
def tyV (K : PySem.W.Frag) (T : String) (x : V) (H : Hp) : Prop := match x with
  | .str _ => T = "str"
  | .int _ => T = "int"
  | .ref p => (T = "list" ∧ ∃ xs, SqL K H p xs) ∨ (T = "tuple" ∧ ∃ o, K.lookup p = some o ∧ o.cls = .type "tuple" ∧ o.dict = none) ∨
      (T = "dict" ∧ ((∃ kvs, H p = some (.dK kvs)) ∨ ∃ kvs, H p = some (.dT kvs))) ∨ (T = "set" ∧ ∃ S n, H p = some (.set S n))
  | _ => False
theorem tyV_is {pins : List (Addr × Obj)} {σ : St} {H : Hp} {s : Shared} {T : String} {x : V} {v : Value} (I : Inv X pins σ H s) (r : RelV x v) (ty : tyV X.K T x H) :
    s.TypeIs v T ∧ ∀ a, v = .ref a → ∃ ob, s.heap.get? a = some ob ∧ ob.dict = none := by
  cases x with
  | str z =>
    obtain ⟨t, rfl⟩ := r
    cases (show T = "str" from ty)
    exact ⟨typeIs_str s z t, fun _ e => nomatch e⟩
  | int i =>
    obtain ⟨t, rfl⟩ := r
    cases (show T = "int" from ty)
    exact ⟨typeIs_int s i t, fun _ e => nomatch e⟩
  | ref p =>
    cases r
    rcases ty with ⟨rfl, xs, hq⟩ | ⟨rfl, o, hk, hc, hd⟩ | ⟨rfl, hk⟩ | ⟨rfl, S, n, hk⟩
    · obtain ⟨its, _, pl, _⟩ := I.list hq
      refine ⟨pl.isList.typeIs, fun a e => ?_⟩
      cases e
      obtain ⟨o, n, e, c, hd, _⟩ := pl
      exact ⟨o, e, hd⟩
    · refine ⟨⟨o, I.kIn p o hk, hc⟩, fun a e => ?_⟩
      cases e
      exact ⟨o, I.kIn _ o hk, hd⟩
    · have z : ∃ o, s.heap.get? p = some o ∧ o.ExactDict := by
        rcases hk with ⟨kvs, hk⟩ | ⟨kvs, hk⟩
        · obtain ⟨_, _, _, _, o, _, _, e, ex, _⟩ := I.hok p _ hk
          exact ⟨o, e, ex⟩
        · obtain ⟨_, _, _, _, o, _, _, e, ex, _⟩ := I.hok p _ hk
          exact ⟨o, e, ex⟩
      obtain ⟨o, e, ex⟩ := z
      refine ⟨⟨o, e, ex.1⟩, fun a e2 => ?_⟩
      cases e2
      exact ⟨o, e, ex.2.1⟩
    · obtain ⟨o, _, _, _, e, ex, _⟩ := I.hok p _ hk
      refine ⟨⟨o, e, ex.1⟩, fun a e2 => ?_⟩
      cases e2
      exact ⟨o, e, ex.2.1⟩
  | _ => exact False.elim ty
def tBM0 (K : PySem.W.Frag) (T : String) (r : V → List V → Hp → VK → Prop) (to : TE) : TE := fun σ H Q => to σ H fun x H1 => tyV K T x H1 ∧ r x [] H1 Q
def tBM (K : PySem.W.Frag) (T : String) (r : V → List V → Hp → VK → Prop) (to : TE) (t : TA) : TE := fun σ H Q => to σ H fun x H1 => tyV K T x H1 ∧ t σ H1 fun xs H2 => r x xs H2 Q
variable {o e : Expr} {es : List Expr} {to : TE} {t : TA} {name : Str} {apos cpos : Pos} {T id : String} {r : V → List V → Hp → VK → Prop}
theorem pe_bm0 (pa : PlainAttrs T) (slot : Slot T name id) (hty : typeOf (.builtin id) = pure (.type "method_descriptor")) (hm : MtR X id r) (ho : PE X o to)
    (hbase : attributeBase o name X.env (eval o X.env) = eval o X.env := by rfl) (hline : (apos.endLine == cpos.line) = true := by rfl) : PE X (.Call (.Attribute o name apos) [] [] cpos) (tBM0 X.K T r to) := by
  intro pins s σ H Q I h
  refine wpAny_Call_method0_late hbase hline (thn (ho pins s σ H _ I h) fun v s1 hw' => ?_)
  obtain ⟨x, H1, I1, r1, ty, q1⟩ := hw'
  obtain ⟨h1, h2⟩ := tyV_is I1 r1 ty
  exact ⟨T, id, pa, slot, hty, h1, h2, Calls.callWith_builtin rfl (PySem.evalArgs_none (hm pins s1 σ H1 x [] v [] Q I1 r1 .nil q1))⟩
theorem pe_bm (pa : PlainAttrs T) (slot : Slot T name id) (hty : typeOf (.builtin id) = pure (.type "method_descriptor")) (hm : MtR X id r) (ho : PE X o to) (ha : PA X (e :: es) t)
    (hbase : attributeBase o name X.env (eval o X.env) = eval o X.env := by rfl)
    (hfew : ((backTo cpos (starEach (e :: es) X.env)).all (fun x => !x.1) && (backToKw cpos (keywordEach [] X.env)).all (fun x => x.1.isSome)
      && decide ((e :: es).length + ([] : List Keyword).length + (if ([] : List Keyword).isEmpty then 0 else 1) < 30)) = true := by rfl)
    (hline : (apos.endLine == cpos.line) = true := by rfl) (hs : starEach (e :: es) X.env = (false, eval e X.env) :: starEach es X.env := by rfl) (hplain : (backTo cpos (starEach es X.env)).any (·.1) = false := by rfl) :
    PE X (.Call (.Attribute o name apos) (e :: es) [] cpos) (tBM X.K T r to t) := by
  intro pins s σ H Q I h
  refine wpAny_Call_method_late hbase hfew hline rfl (thn (ho pins s σ H _ I h) fun v s1 hw' => ?_)
  obtain ⟨x, H1, I1, r1, ty, q1⟩ := hw'
  obtain ⟨h1, h2⟩ := tyV_is I1 r1 ty
  refine ⟨T, id, pa, slot, hty, h1, h2, ?_⟩
  have hA := ha cpos pins s1 σ H1 _ I1 q1
  rw [hs] at hA ⊢
  refine Calls.callWith_builtin (by show (false || (backTo cpos (starEach es X.env)).any (·.1)) = false; rw [hplain] <;> rfl) (Calls.evalArgs_plain ?_)
  exact thn hA fun us s2 ⟨vs, H2, I2, r2, q2⟩ => hm pins s2 σ H2 x vs v us Q I2 r1 r2 q2
/- xs.append(e), list.index on a module's tuple .. are MtR facts of 06m -/
end
end L2
namespace L2
open PySem PySem.Spec PyProof.Rows
def MtM (X : Cx) (id : String) (r : V → List V → Hp → VK → Prop) : Prop :=
  ∀ (pins : List (Addr × Obj)) (s : Shared) (σ : St) (H : Hp) (x : V) (xs : List V) (v : Value) (us : List Value) (Q : VK), Inv X pins σ H s → RelV x v → Vals xs us → r x xs H Q →
    wpAny (model X.prog X.w) X.A (call (.builtin id) (v :: us)) (EP X pins σ Q) X.xe s
theorem Vals.one : ∀ {x : V} {us : List Value}, Vals [x] us → ∃ u, us = [u] ∧ RelV x u
  | _, _, .cons r .nil => ⟨_, rfl, r⟩
theorem Vals.zero : ∀ {us : List Value}, Vals [] us → us = []
  | _, .nil => rfl
theorem Vals.rep {xs : List V} {us : List Value} (h : Vals xs us) : ∀ k : Nat, Vals (List.replicate k xs).flatten (List.replicate k us).flatten
  | 0 => .nil
  | k + 1 => by
    rw [List.replicate_succ, List.replicate_succ, List.flatten_cons, List.flatten_cons]
    exact Vals.append h (Vals.rep h k)
theorem foldl_rep (its : List Value) : ∀ (k : Nat) (acc : List Value),
    List.foldl (fun x1 x2 => x1 ++ x2) acc.toArray (List.replicate k its.toArray) = (acc ++ (List.replicate k its).flatten).toArray
  | 0, acc => by simp
  | k + 1, acc => by
    have e : acc.toArray ++ its.toArray = (acc ++ its).toArray := by simp
    have e2 : (acc ++ its) ++ (List.replicate k its).flatten = acc ++ (List.replicate (k + 1) its).flatten := by
      rw [List.replicate_succ, List.flatten_cons, List.append_assoc]
    rw [← e2, ← foldl_rep its k (acc ++ its), ← e, List.replicate_succ, List.foldl_cons]
section
variable {X : Cx} {pins : List (Addr × Obj)} {σ : St} {H : Hp} {s : Shared} {l b : Addr} {xs ys zs : List V}
theorem Inv.lset {its its' : List Value} {n : Nat} {f : Array Value → Array Value} {t' : Nat} (I : Inv X pins σ H s) (hH : H l = some (.lst xs))
    (e : s.heap.get? l = some { cls := .type "list", data := .seq its.toArray n }) (hf : f its.toArray = its'.toArray) (hv : Vals ys its') (hz : ys.length ≤ sizeLine) :
    Inv X pins σ (upd H l (.lst ys)) { s with heap := s.heap.update l (Obj.mapSeq f), toks := t' } := by
  have q := PySem.IsL.update e f
  rw [hf] at q
  refine I.write (x := l) (e := l) (by rw [hH]; exact trivial) (.inl rfl) (fun b' u hb hu => (Heap.get?_update_other s.heap (Obj.mapSeq f) (Ne.symm hb)).trans hu) ⟨_, q⟩ ?_
  exact ⟨hz, its', _, hv, q⟩
theorem Inv.lnew {its : List Value} {t' : Nat} (I : Inv X pins σ H s) (hv : Vals ys its) (hz : ys.length ≤ sizeLine) :
    Inv X pins σ (upd H s.heap.objs.size (.lst ys)) { s with heap := s.heap.push { cls := .type "list", data := .seq its.toArray }, toks := t' } :=
  I.laid (fun _ _ q => Heap.get?_push_of_some _ q) (Nat.le_refl _) ⟨hz, its, 0, hv, Heap.get?_push_size _ rfl⟩
theorem Inv.fresh (I : Inv X pins σ H s) : H s.heap.objs.size = none := I.hok.fresh (Nat.le_refl _)
theorem Inv.lstM (I : Inv X pins σ H s) (hH : H l = some (.lst xs)) : xs.length ≤ sizeLine ∧ ∃ (its : List Value) (n : Nat), Vals xs its ∧ xs.length = its.length ∧ s.heap.get? l = some { cls := .type "list", data := .seq its.toArray n } := by
  obtain ⟨z, its, n, r, e⟩ := I.hok l _ hH
  exact ⟨z, its, n, r, r.length, e⟩
theorem notLongL {n : Nat} (h : n ≤ sizeLine) : Builtin.List.listTooLong n = false := by
  unfold Builtin.List.listTooLong
  exact decide_eq_false (by omega)
end
section
variable {X : Cx}
def rAppend : V → List V → Hp → VK → Prop := fun x vs H Q => ∃ l xs y, x = .ref l ∧ vs = [y] ∧ H l = some (.lst xs) ∧ xs.length < sizeLine ∧ Q .non (upd H l (.lst (xs ++ [y])))
theorem mt_append : MtM X "list.append" rAppend := by
  intro pins s σ H x vs v us Q I rx rv h
  obtain ⟨l, xs, y, rfl, rfl, hH, hz, q⟩ := h
  cases rx
  obtain ⟨u, rfl, ru⟩ := rv.one
  obtain ⟨z, its, n, r, hl, e⟩ := I.lstM hH
  refine call_meets F.slot_list_append ⟨_, e, rfl⟩ F.entry_list_append (F.args_list_append_2 _ _) (PySem.list_append l its.toArray n u (by rw [List.size_toArray]; omega)) ⟨e, ?_⟩
  refine ⟨.non, _, I.lset (its' := its ++ [u]) hH e (by simp) (r.append (.cons ru .nil)) ?_, rfl, q⟩
  rw [List.length_append, List.length_singleton]
  omega
def rClear : V → List V → Hp → VK → Prop := fun x vs H Q => ∃ l xs, x = .ref l ∧ vs = [] ∧ H l = some (.lst xs) ∧ Q .non (upd H l (.lst []))
theorem mt_clear : MtM X "list.clear" rClear := by
  intro pins s σ H x vs v us Q I rx rv h
  obtain ⟨l, xs, rfl, rfl, hH, q⟩ := h
  cases rx
  have hus := rv.zero
  subst hus
  obtain ⟨z, its, n, r, hl, e⟩ := I.lstM hH
  refine call_meets F.slot_list_clear ⟨_, e, rfl⟩ F.entry_list_clear (F.args_list_clear_1 _) (AutoSeq1.list_clear_list_0 l its.toArray n (by rw [List.size_toArray]; omega)) ⟨e, ?_⟩
  exact ⟨.non, _, I.lset (its' := []) (ys := []) hH e rfl .nil (Nat.zero_le _), rfl, q⟩
def rCat : R2 := fun x y H Q => ∃ l b xs zs, x = .ref l ∧ y = .ref b ∧ H l = some (.lst xs) ∧ H b = some (.lst zs) ∧ xs.length + zs.length ≤ sizeLine ∧ ∀ p, H p = none → Q (.ref p) (upd H p (.lst (xs ++ zs)))
theorem op_cat : OpR X (binaryOp .Add) rCat := by
  intro pins s σ H x y v u Q I rx ry h
  obtain ⟨l, b, xs, zs, rfl, rfl, hH, hB, hz, q⟩ := h
  cases rx
  cases ry
  obtain ⟨z, its, n, r, hl, e⟩ := I.lstM hH
  obtain ⟨z2, its2, n2, r2, hl2, e2⟩ := I.lstM hB
  refine PySem.P.add_list e e2 ?_ (by rw [List.size_toArray, List.size_toArray]; omega)
  have ea : its.toArray ++ its2.toArray = (its ++ its2).toArray := by simp
  rw [ea]
  exact ⟨.ref _, _, I.lnew (t' := s.toks) (r.append r2) (by rw [List.length_append]; omega), rfl, q _ I.fresh⟩
def rRep : R2 := fun x y H Q => ∃ l k xs, x = .ref l ∧ y = .int k ∧ H l = some (.lst xs) ∧ -(2 ^ 63) ≤ k ∧ k < 2 ^ 63 ∧ xs.length * k.toNat ≤ sizeLine ∧
  ∀ p, H p = none → Q (.ref p) (upd H p (.lst (List.replicate k.toNat xs).flatten))
theorem len_rep {α : Type} (xs : List α) (k : Nat) : (List.replicate k xs).flatten.length = k * xs.length := by
  induction k with
  | zero => simp
  | succ k ih => rw [List.replicate_succ, List.flatten_cons, List.length_append, ih, Nat.succ_mul, Nat.add_comm]
theorem op_rep : OpR X (binaryOp .Mult) rRep := by
  intro pins s σ H x y v u Q I rx ry h
  obtain ⟨l, k, xs, rfl, rfl, hH, h1, h2, hz, q⟩ := h
  cases rx
  obtain ⟨t, rfl⟩ := ry
  obtain ⟨z, its, n, r, hl, e⟩ := I.lstM hH
  have hlen : its.toArray.size * k.toNat ≤ sizeLine := by rw [List.size_toArray, ← hl]; exact hz
  have hcap : ¬ its.toArray.size * k.toNat > (2 ^ 63 - 1) / 8 := by
    have : (sizeLine : Nat) ≤ (2 ^ 63 - 1) / 8 := by decide
    omega
  have hfit : ¬ (!Builtin.List.listFitsIndex k) = true := by
    rw [fitsIndex_both h1 h2]
    exact Bool.false_ne_true
  have hlong : ¬ Builtin.List.listTooLong (its.toArray.size * k.toNat) = true := by
    rw [notLongL hlen]
    exact Bool.false_ne_true
  have hnew : List.foldl (fun x1 x2 => x1 ++ x2) #[] (List.replicate (if its.toArray.isEmpty = true then 0 else k.toNat) its.toArray) = (List.replicate k.toNat its).flatten.toArray := by
    have f0 : ∀ m : Nat, List.foldl (fun x1 x2 => x1 ++ x2) #[] (List.replicate m its.toArray) = (List.replicate m its).flatten.toArray := fun m => by
      have := foldl_rep its m []
      rw [List.nil_append] at this
      exact this
    rw [f0]
    cases its with
    | nil => simp
    | cons a r' => rw [if_neg (by simp)]
  refine wpAny_binaryOp_repeat_ref (T := "list") (U := "int") (by decide) ⟨_, e, rfl⟩ (fun s' => typeIs_int s' k t) noFill_list_mul F.fills_int_mul F.slot_int_rmul repeat_list F.slot_int_index.lookup
    (call_meets F.slot_int_rmul (typeIs_int s k t) F.entry_int_rmul (F.args_int_rmul_2 _ _) (int___rmul___int_list k t l its.toArray n)
      ⟨e, rfl, ⟨_, e, rfl⟩, call_meets F.slot_list_mul ⟨_, e, rfl⟩ F.entry_list_mul (F.args_list_mul_2 _ _) (AutoListH.list___mul___list_int_3 l its.toArray n k t hfit hcap hlong) ⟨e, ?_⟩⟩)
  rw [hnew]
  exact ⟨.ref _, _, I.lnew (t' := s.toks) (r.rep k.toNat) (by rw [len_rep, Nat.mul_comm]; exact hz), rfl, q _ I.fresh⟩
end
section
variable {prog : Program} {w : World} {A : Around} {E : Value → Shared → Prop} {s : Shared}
set_option maxRecDepth 100000 in
end
section
variable {X : Cx}
end
end L2
namespace L2
open PySem PySem.Spec PyProof.Rows
section
variable {κ : Type} [DecidableEq κ]
def valV (kvs : List (κ × V)) (k : κ) : Option V := (kvs.find? fun kv => decide (kv.1 = k)).map (·.2)
def putK (kvs : List (κ × V)) (k : κ) (v : V) : List (κ × V) :=
  if (kvs.any fun kv => decide (kv.1 = k)) = true then kvs.map (fun kv => if kv.1 = k then (kv.1, v) else kv) else kvs ++ [(k, v)]
def dropK (kvs : List (κ × V)) (k : κ) : List (κ × V) := kvs.filter fun kv => decide (kv.1 ≠ k)
theorem valV_pos {p : κ × V} {r : List (κ × V)} {k : κ} (e : p.1 = k) : valV (p :: r) k = some p.2 := by simp [valV, List.find?_cons, e]
theorem valV_neg {p : κ × V} {r : List (κ × V)} {k : κ} (e : ¬ p.1 = k) : valV (p :: r) k = valV r k := by simp [valV, List.find?_cons, e]
theorem valV_any (k : κ) : ∀ kvs : List (κ × V), (kvs.any fun kv => decide (kv.1 = k)) = (valV kvs k).isSome
  | [] => rfl
  | p :: r => by
    rw [List.any_cons]
    by_cases e : p.1 = k
    · simp only [valV_pos e, decide_eq_true e, Bool.true_or, Option.isSome_some]
    · rw [valV_neg e, decide_eq_false e, Bool.false_or]; exact valV_any k r
theorem length_putK (kvs : List (κ × V)) (k : κ) (v : V) : (putK kvs k v).length ≤ kvs.length + 1 := by
  unfold putK
  split
  · rw [List.length_map]; omega
  · rw [List.length_append, List.length_cons, List.length_nil]; omega
theorem RelO.isSome_eq {o : Option V} {u : Option Value} (r : RelO o u) : o.isSome = u.isSome := by
  cases o with
  | none => cases u with
    | none => rfl
    | some _ => exact (show False from r).elim
  | some _ => cases u with
    | none => exact (show False from r).elim
    | some _ => rfl
theorem RelO.getD {o : Option V} {u : Option Value} {d : V} {d' : Value} (r : RelO o u) (rd : RelV d d') : RelV (o.getD d) (u.getD d') := by
  cases o with
  | none => cases u with
    | none => exact rd
    | some _ => exact (show False from r).elim
  | some _ => cases u with
    | none => exact (show False from r).elim
    | some _ => exact r
theorem KV.val {kvs : List (κ × V)} {vs : List (κ × Value)} (r : KV kvs vs) (k : κ) : RelO (valV kvs k) (valueAt vs k) := by
  unfold KV at r
  induction r with
  | nil => exact True.intro
  | @cons p q ps qs h t ih =>
    obtain ⟨h1, h2⟩ := h
    by_cases e : p.1 = k
    · have e' : q.1 = k := h1.symm.trans e
      have b : valueAt (q :: qs) k = some q.2 := by simp [valueAt, List.find?_cons, e']
      rw [valV_pos e, b]; exact h2
    · have e' : ¬ q.1 = k := fun z => e (h1.trans z)
      have b : valueAt (q :: qs) k = valueAt qs k := by simp [valueAt, List.find?_cons, e']
      rw [valV_neg e, b]; exact ih
theorem KV.any {kvs : List (κ × V)} {vs : List (κ × Value)} (r : KV kvs vs) (k : κ) : (kvs.any fun kv => decide (kv.1 = k)) = vs.any fun kv => decide (kv.1 = k) := by
  unfold KV at r
  induction r with
  | nil => rfl
  | cons h t ih => rw [List.any_cons, List.any_cons, ih, h.1]
theorem KV.repl {kvs : List (κ × V)} {vs : List (κ × Value)} (r : KV kvs vs) (k : κ) {y : V} {u : Value} (ry : RelV y u) :
    KV (kvs.map fun kv => if kv.1 = k then (kv.1, y) else kv) (vs.map fun kv => if kv.1 = k then (kv.1, u) else kv) := by
  unfold KV at r ⊢
  induction r with
  | nil => exact .nil
  | @cons p q ps qs h t ih =>
    rw [List.map_cons, List.map_cons]
    refine .cons ?_ ih
    obtain ⟨h1, h2⟩ := h
    by_cases e : p.1 = k
    · rw [if_pos e, if_pos (h1.symm.trans e)]; exact ⟨h1, ry⟩
    · rw [if_neg e, if_neg (fun z => e (h1.trans z))]; exact ⟨h1, h2⟩
theorem KV.put {kvs : List (κ × V)} {vs : List (κ × Value)} (r : KV kvs vs) (k : κ) {y : V} {u : Value} (ry : RelV y u) : KV (putK kvs k y) (stored vs k u) := by
  unfold putK stored
  rw [r.any k]
  by_cases e : (vs.any fun kv => decide (kv.1 = k)) = true
  · rw [if_pos e, if_pos e]; exact r.repl k ry
  · rw [if_neg e, if_neg e]; exact Paired.snoc r ⟨rfl, ry⟩
theorem KV.drop {kvs : List (κ × V)} {vs : List (κ × Value)} (r : KV kvs vs) (k : κ) : KV (dropK kvs k) (without vs k) := by
  unfold KV at r ⊢
  unfold dropK without
  induction r with
  | nil => exact .nil
  | @cons p q ps qs h t ih =>
    obtain ⟨h1, h2⟩ := h
    rw [List.filter_cons, List.filter_cons]
    by_cases e : p.1 = k
    · have a : ¬ decide (p.1 ≠ k) = true := by simp [e]
      have b : ¬ decide (q.1 ≠ k) = true := by simp [h1.symm.trans e]
      rw [if_neg a, if_neg b]; exact ih
    · have e' : ¬ q.1 = k := fun z => e (h1.trans z)
      have a : decide (p.1 ≠ k) = true := by simp [e]
      have b : decide (q.1 ≠ k) = true := by simp [e']
      rw [if_pos a, if_pos b]; exact .cons ⟨h1, h2⟩ ih
theorem KV.keys {kvs : List (κ × V)} {vs : List (κ × Value)} (r : KV kvs vs) : kvs.map (·.1) = vs.map (·.1) := by
  unfold KV at r
  induction r with
  | nil => rfl
  | cons h t ih => rw [List.map_cons, List.map_cons, ih, h.1]
theorem KV.length {kvs : List (κ × V)} {vs : List (κ × Value)} (r : KV kvs vs) : kvs.length = vs.length := Paired.length r
theorem dropK_le (kvs : List (κ × V)) (k : κ) : (dropK kvs k).length ≤ kvs.length := List.length_filter_le _ _
end
theorem kV_is {P : Program} {w : World} {k : Key} {u : Value} (r : RelV (kV k) u) : (mixKind P w).is k u = true := by
  cases k with
  | inl i => obtain ⟨t, e⟩ := (show ∃ t, u = Value.int i t from r); subst e; exact mixKind_int P w i t
  | inr x => obtain ⟨t, e⟩ := (show ∃ t, u = Value.str x t from r); subst e; exact mixKind_str P w x t
theorem items_are {P : Program} {w : World} : ∀ {ks : List Key} {us : List Value}, Vals (ks.map kV) us → ItemsAre (mixKind P w) ks us
  | [], _, r => by rw [List.map_nil] at r; cases r; exact .nil
  | k :: ks, _, r => by
    rw [List.map_cons] at r
    cases r with
    | cons h t => exact .cons (kV_is h) (items_are t)
abbrev KT (H : Hp) : List (List Key × V) → List (List Key × Addr × Value) → Prop := Paired fun p q => p.1 = q.1 ∧ H q.2.1 = some (.tup (p.1.map kV)) ∧ RelV p.2 q.2.2
theorem KT.val {H : Hp} {kvs : List (List Key × V)} {xs : List (List Key × Addr × Value)} (r : KT H kvs xs) (k : List Key) : RelO (valV kvs k) ((atKey xs k).map (·.2)) := by
  induction r with
  | nil => exact True.intro
  | @cons p q ps qs h t ih =>
    obtain ⟨h1, _, h2⟩ := h
    by_cases e : p.1 = k
    · have e' : q.1 = k := h1.symm.trans e
      have b : atKey (q :: qs) k = some q.2 := by simp [atKey, List.find?_cons, e']
      rw [valV_pos e, b]; exact h2
    · have e' : ¬ q.1 = k := fun z => e (h1.trans z)
      have b : atKey (q :: qs) k = atKey qs k := by simp [atKey, List.find?_cons, e']
      rw [valV_neg e, b]; exact ih
theorem KT.repl {H : Hp} {kvs : List (List Key × V)} {xs : List (List Key × Addr × Value)} (r : KT H kvs xs) (k : List Key) {y : V} {u : Value} (ry : RelV y u) :
    KT H (kvs.map fun kv => if kv.1 = k then (kv.1, y) else kv) (xs.map (putAt k u)) := by
  induction r with
  | nil => exact .nil
  | @cons p q ps qs h t ih =>
    rw [List.map_cons, List.map_cons]
    refine .cons ?_ ih
    obtain ⟨h1, h2, h3⟩ := h
    unfold putAt
    by_cases e : p.1 = k
    · rw [if_pos e, if_pos (h1.symm.trans e)]; exact ⟨h1, h2, ry⟩
    · rw [if_neg e, if_neg (fun z => e (h1.trans z))]; exact ⟨h1, h2, h3⟩
theorem KT.put {H : Hp} {kvs : List (List Key × V)} {xs : List (List Key × Addr × Value)} (r : KT H kvs xs) (k : List Key) {b : Addr} {y : V} {u : Value} (hb : H b = some (.tup (k.map kV))) (ry : RelV y u) :
    KT H (putK kvs k y) (storedH xs k b u) := by
  have e : (kvs.any fun kv => decide (kv.1 = k)) = (atKey xs k).isSome := by
    rw [valV_any, (r.val k).isSome_eq, Option.isSome_map]
  unfold putK storedH
  rw [e]
  by_cases q : (atKey xs k).isSome = true
  · rw [if_pos q, if_pos q]; exact r.repl k ry
  · rw [if_neg q, if_neg q]; exact Paired.snoc r ⟨rfl, hb, ry⟩
theorem KT.keeps {H H' : Hp} {kvs : List (List Key × V)} {xs : List (List Key × Addr × Value)} (r : KT H kvs xs) (ht : ∀ b ys, H b = some (.tup ys) → H' b = some (.tup ys)) : KT H' kvs xs :=
  Paired.mapP r fun _ _ z => ⟨z.1, ht _ _ z.2.1, z.2.2⟩
section
variable {P : Program} {w : World} {H : Hp} {h : Heap} {a : Addr}
theorem rd_of {u : HO} (ok : HOk P w H h) (e : Rd H a u) : ObjOk P w H h a u := e.ok ok
theorem dk_rd {kvs : List (Key × V)} (ok : HOk P w H h) (e : Rd H a (.dK kvs)) : kvs.length ≤ sizeLine ∧ (a == sysModules) = false ∧ ∃ vs, KV kvs vs ∧ h.DictOf (mixKind P w) a vs :=
  show ObjOk P w H h a (.dK kvs) from rd_of ok e
theorem dk_of {kvs : List (Key × V)} (ok : HOk P w H h) (e : H a = some (.dK kvs)) : kvs.length ≤ sizeLine ∧ (a == sysModules) = false ∧ ∃ vs, KV kvs vs ∧ h.DictOf (mixKind P w) a vs := dk_rd ok (.inl e)
theorem key_of {ks : List Key} (ok : HOk P w H h) (e : H a = some (.tup (ks.map kV))) : (tupleKind (mixKind P w)).is h ks a := by
  obtain ⟨_, its, r, o, h1, h2, n, h3⟩ := (show ObjOk P w H h a (.tup (ks.map kV)) from ok a _ e)
  exact ⟨o, its.toArray, n, h1, h2, h3, by simpa using items_are r⟩
theorem dt_rd {kvs : List (List Key × V)} (ok : HOk P w H h) (e : Rd H a (.dT kvs)) : kvs.length ≤ sizeLine ∧ (a == sysModules) = false ∧
    ∃ xs, KT H kvs xs ∧ h.DictOfH (tupleKind (mixKind P w)) a xs := by
  obtain ⟨z, y, xs, r, o, es, ep, h1, h2, h3, h4, h5⟩ := (show ObjOk P w H h a (.dT kvs) from rd_of ok e)
  refine ⟨z, y, xs, r, o, es, ep, h1, h2, h3, h4, fun x hx => ?_, h5⟩
  have all : ∀ {l : List (List Key × V)} {m : List (List Key × Addr × Value)}, KT H l m → ∀ x ∈ m, (tupleKind (mixKind P w)).is h x.1 x.2.1 := by
    intro l m q
    induction q with
    | nil => intro x hx; exact nomatch hx
    | @cons p q ps qs hq t ih =>
      intro x hx
      rcases List.mem_cons.mp hx with e | hx
      · subst e
        exact key_of ok (by rw [← hq.1]; exact hq.2.1)
      · exact ih x hx
  exact all r x hx
theorem dt_of {kvs : List (List Key × V)} (ok : HOk P w H h) (e : H a = some (.dT kvs)) : kvs.length ≤ sizeLine ∧ (a == sysModules) = false ∧
    ∃ xs, KT H kvs xs ∧ h.DictOfH (tupleKind (mixKind P w)) a xs := dt_rd ok (.inl e)
end
def DGet (H : Hp) (a : Addr) (y : V) (r : Option V) : Prop :=
  (∃ kvs k, Rd H a (.dK kvs) ∧ y = kV k ∧ r = valV kvs k) ∨ ∃ kvs k b, Rd H a (.dT kvs) ∧ y = .ref b ∧ H b = some (.tup (k.map kV)) ∧ r = valV kvs k
def DPut (H : Hp) (a : Addr) (y v : V) (H' : Hp) : Prop :=
  (∃ kvs k, H a = some (.dK kvs) ∧ y = kV k ∧ kvs.length < sizeLine ∧ H' = upd H a (.dK (putK kvs k v))) ∨
  ∃ kvs k b, H a = some (.dT kvs) ∧ y = .ref b ∧ H b = some (.tup (k.map kV)) ∧ kvs.length < sizeLine ∧ H' = upd H a (.dT (putK kvs k v))
theorem DGet.k {H : Hp} {a : Addr} {kvs : List (Key × V)} {k : Key} (e : H a = some (.dK kvs)) : DGet H a (kV k) (valV kvs k) := .inl ⟨kvs, k, .inl e, rfl, rfl⟩
theorem DGet.t {H : Hp} {a b : Addr} {kvs : List (List Key × V)} {k : List Key} (e : H a = some (.dT kvs)) (eb : H b = some (.tup (k.map kV))) : DGet H a (.ref b) (valV kvs k) := .inr ⟨kvs, k, b, .inl e, rfl, eb, rfl⟩
theorem DPut.k {H : Hp} {a : Addr} {kvs : List (Key × V)} {k : Key} {v : V} (e : H a = some (.dK kvs)) (hl : kvs.length < sizeLine) : DPut H a (kV k) v (upd H a (.dK (putK kvs k v))) := .inl ⟨kvs, k, e, rfl, hl, rfl⟩
theorem DPut.t {H : Hp} {a b : Addr} {kvs : List (List Key × V)} {k : List Key} {v : V} (e : H a = some (.dT kvs)) (eb : H b = some (.tup (k.map kV))) (hl : kvs.length < sizeLine) :
    DPut H a (.ref b) v (upd H a (.dT (putK kvs k v))) := .inr ⟨kvs, k, b, e, rfl, eb, hl, rfl⟩
section
variable {X : Cx} {pins : List (Addr × Obj)} {σ : St} {H : Hp} {s : Shared} {a : Addr} {y v : V} {u r : Value} {o : Option V} {A : Around} {E : Value → Shared → Prop}
theorem Inv.big (I : Inv X pins σ H s) : sysModules < s.heap.objs.size := by
  have h : mainGlobals < s.heap.objs.size := (I.mod.glob.keeps I.bk).lt
  exact Nat.lt_trans (by decide) h
theorem d_getItem {Q : Value → Shared → Prop} (hu : A.units + 1 < cLine) (I : Inv X pins σ H s) (g : DGet H a y (some v)) (ry : RelV y u) (h : ∀ w' s', Inv X pins σ H s' → RelV v w' → Q w' s') :
    wpAny (model X.prog X.w) A (getItem (.ref a) u) Q E s := by
  rcases g with ⟨kvs, k, e, ey, l⟩ | ⟨kvs, k, b, e, ey, eb, l⟩
  · subst ey
    obtain ⟨z, hd, vs, rel, dd⟩ := dk_rd I.hok e
    obtain ⟨w', hw, rw'⟩ := RelO.some_of (v := v) (o := valueAt vs k) (by rw [l]; exact rel.val k)
    exact wpAny_getItem_of (kV_is ry) dd.mapOf hw (h w' _ (I.tok _) rw')
  · subst ey
    cases (show u = Value.ref b from ry)
    obtain ⟨z, hd, xs, rel, dd⟩ := dt_rd I.hok e
    obtain ⟨w', hw, rw'⟩ := RelO.some_of (v := v) (o := (atKey xs k).map (·.2)) (by rw [l]; exact rel.val k)
    obtain ⟨p, hp, hp2⟩ := Option.map_eq_some_iff.mp hw
    refine wpAny_getItem_heap (tupleKind_room_in1 hu) (key_of I.hok eb) dd hp ?_
    rw [hp2]
    exact h w' _ (I.tok _) rw'
theorem d_in {Q : Value → Shared → Prop} (hu : A.units + 1 < cLine) (I : Inv X pins σ H s) (g : DGet H a y o) (ry : RelV y u) (h : ∀ s', Inv X pins σ H s' → Q (.bool o.isSome) s') :
    wpAny (model X.prog X.w) A (compareOp .In u (.ref a)) Q E s := by
  rcases g with ⟨kvs, k, e, ey, l⟩ | ⟨kvs, k, b, e, ey, eb, l⟩
  · subst ey
    obtain ⟨z, hd, vs, rel, dd⟩ := dk_rd I.hok e
    refine wpAny_in_of (kV_is ry) hd dd.mapOf ?_
    rw [← (rel.val k).isSome_eq, ← l]
    exact h _ (I.tok _)
  · subst ey
    cases (show u = Value.ref b from ry)
    obtain ⟨z, hd, xs, rel, dd⟩ := dt_rd I.hok e
    refine wpAny_in_heap (tupleKind_room_in1 hu) (key_of I.hok eb) hd dd ?_
    have q := (rel.val k).isSome_eq
    rw [Option.isSome_map] at q
    rw [← q, ← l]
    exact h _ (I.tok _)
theorem d_notIn {Q : Value → Shared → Prop} (hu : A.units + 1 < cLine) (I : Inv X pins σ H s) (g : DGet H a y o) (ry : RelV y u) (h : ∀ s', Inv X pins σ H s' → Q (.bool (!o.isSome)) s') :
    wpAny (model X.prog X.w) A (compareOp .NotIn u (.ref a)) Q E s := by
  rcases g with ⟨kvs, k, e, ey, l⟩ | ⟨kvs, k, b, e, ey, eb, l⟩
  · subst ey
    obtain ⟨z, hd, vs, rel, dd⟩ := dk_rd I.hok e
    refine wpAny_notIn_of (kV_is ry) hd dd.mapOf ?_
    rw [← (rel.val k).isSome_eq, ← l]
    exact h _ (I.tok _)
  · subst ey
    cases (show u = Value.ref b from ry)
    obtain ⟨z, hd, xs, rel, dd⟩ := dt_rd I.hok e
    refine wpAny_notIn_heap (tupleKind_room_in1 hu) (key_of I.hok eb) hd dd ?_
    have q := (rel.val k).isSome_eq
    rw [Option.isSome_map] at q
    rw [← q, ← l]
    exact h _ (I.tok _)
theorem d_write {h' : Heap} {t' : Nat} {ob : HO} (I : Inv X pins σ H s) (mu : Mut (H a)) (hs : Heap.SameBut a s.heap h') (he : ∃ q, h'.get? a = some q) (new : ObjOk X.prog X.w (upd H a ob) h' a ob) :
    Inv X pins σ (upd H a ob) { s with heap := h', toks := t' } :=
  I.write (x := a) (e := a) mu (.inl rfl) (fun b q hb z => (hs.2 b hb).trans z) he new
theorem dk_new {P : Program} {w : World} {H' : Hp} {h' : Heap} {kvs : List (Key × V)} {vs : List (Key × Value)} (z : kvs.length ≤ sizeLine) (hd : (a == sysModules) = false) (rel : KV kvs vs) (dd : h'.DictOf (mixKind P w) a vs) :
    ObjOk P w H' h' a (.dK kvs) := ⟨z, hd, vs, rel, dd⟩
theorem d_setItem {H' : Hp} {Q : Unit → Shared → Prop} (hu : A.units + 1 < cLine) (I : Inv X pins σ H s) (g : DPut H a y v H') (ry : RelV y u) (rv : RelV v r) (h : ∀ s', Inv X pins σ H' s' → Q () s') :
    wpAny (model X.prog X.w) A (setItem (.ref a) u r) Q E s := by
  rcases g with ⟨kvs, k, e, ey, l, eH⟩ | ⟨kvs, k, b, e, ey, eb, l, eH⟩
  · subst ey eH
    obtain ⟨z, hd, vs, rel, dd⟩ := dk_of I.hok e
    have hz : vs.length ≤ sizeLine := by rw [← rel.length]; exact z
    have hl : (putK kvs k v).length ≤ sizeLine := by have := length_putK kvs k v; omega
    refine wpAny_setItem_pairs (hsz := hz) (kV_is ry) dd fun h' dd' hs => h _ ?_
    have he : ∃ q, h'.get? a = some q := let ⟨q, _, _, hq, _⟩ := dd'; ⟨q, hq⟩
    exact d_write I (by rw [e]; exact True.intro) hs he (dk_new hl hd (rel.put k rv) dd')
  · subst ey eH
    cases (show u = Value.ref b from ry)
    obtain ⟨z, hd, xs, rel, dd⟩ := dt_of I.hok e
    have hz : xs.length ≤ sizeLine := by rw [← Paired.length rel]; exact z
    have hl : (putK kvs k v).length ≤ sizeLine := by have := length_putK kvs k v; omega
    refine wpAny_setItem_heap (hsz := hz) (tupleKind_room_in1 hu) (key_of I.hok eb) dd fun h' dd' hs => h _ ?_
    obtain ⟨q, es, ep, hq, h2, h3, h4, _, h5⟩ := dd'
    refine d_write I (by rw [e]; exact True.intro) hs ⟨q, hq⟩ ⟨hl, hd, _, (rel.put k eb rv).keeps fun c ys ec => ?_, q, es, ep, hq, h2, h3, h4, h5⟩
    rw [upd_ne (ne_of ec e (fun z => nomatch z))]
    exact ec
end
section
variable {X : Cx} {pins : List (Addr × Obj)} {σ : St} {H : Hp} {s : Shared} {a : Addr} {kvs : List (Key × V)} {k : Key} {u : Value} {A : Around} {E : Value → Shared → Prop}
theorem d_pop {v : V} {more : List Value} {Q : Value → Shared → Prop} (I : Inv X pins σ H s) (e : H a = some (.dK kvs)) (ry : RelV (kV k) u) (l : valV kvs k = some v) (hm : more = [] ∨ ∃ x, more = [x])
    (h : ∀ w' s', Inv X pins σ (upd H a (.dK (dropK kvs k))) s' → RelV v w' → Q w' s') : wpAny (model X.prog X.w) A (call (.builtin "dict.pop") (.ref a :: u :: more)) Q E s := by
  obtain ⟨z, hd, vs, rel, dd⟩ := dk_of I.hok e
  obtain ⟨w', hw, rw'⟩ := RelO.some_of (v := v) (o := valueAt vs k) (by rw [← l]; exact rel.val k)
  have hp : (keyPart u).isSome = true := by
    cases k with
    | inl i => obtain ⟨t, q⟩ := (show ∃ t, u = Value.int i t from ry); subst q; rfl
    | inr x => obtain ⟨t, q⟩ := (show ∃ t, u = Value.str x t from ry); subst q; rfl
  have ha : argsOk "dict.pop" ⟨.ref a :: u :: more, []⟩ := by
    rcases hm with q | ⟨x, q⟩
    · subst q; exact PySem.F.args_dict_pop_2 _ _
    · subst q; exact PySem.F.args_dict_pop_3 _ _ _
  refine call_meetsIn PySem.F.slot_dict_pop dd.typeIs PySem.F.entry_dict_pop ha (meets_dict_pop_there (mixKind X.prog X.w) a (kV_is ry) more hm hp)
    ⟨vs, w', dd, by rw [← rel.length]; exact z, hw, fun h' dd' hs => h w' _ ?_ rw'⟩
  have he : ∃ q, h'.get? a = some q := let ⟨q, _, _, hq, _⟩ := dd'; ⟨q, hq⟩
  exact d_write I (by rw [e]; exact True.intro) hs he (dk_new (Nat.le_trans (dropK_le kvs k) z) hd (rel.drop k) dd')
theorem d_len {Q : Value → Shared → Prop} (I : Inv X pins σ H s) (e : Rd H a (.dK kvs)) (h : ∀ t s', Inv X pins σ H s' → Q (.int kvs.length t) s') : wpAny (model X.prog X.w) A (call (.builtin "len") [.ref a]) Q E s := by
  obtain ⟨z, hd, vs, rel, dd⟩ := dk_rd I.hok e
  refine call_len_dict hd dd (by rw [← rel.length]; rw [sizeLine_eq] at z; omega) ?_
  rw [← rel.length]
  exact h _ _ (I.tok _)
end
def NoSl (i : Expr) : Prop := ∀ ov iv, subscripted i false ov iv = operate [ov, iv] (getItem ov iv)
theorem subD_of {prog : Program} {w : World} {A : Around} {E : Value → Shared → Prop} {s : Shared} {env : Env} {value slice : Expr} {pos : Pos} {T id : String} {Q : Value → Shared → Prop}
    (hl : typeLookup (.type T) "__getitem__" = pure (some (.builtin id))) (hs : NoSl slice)
    (h : wpAny (model prog w) A (eval value env) (fun o s₁ => wpAny (model prog w) A (eval slice env) (fun i s₂ => s₂.TypeIs o T ∧ wpAny (model prog w) A (getItem o i) Q E s₂) E s₁) E s) :
    wpAny (model prog w) A (eval (.Subscript value slice pos) env) Q E s := by
  refine Subscript_ (wpAny_mono h (fun o s₁ h₁ => wpAny_mono h₁ (fun i s₂ h₂ => ?_) fun _ _ x => x) fun _ _ x => x)
  obtain ⟨hT, h₂⟩ := h₂
  unfold subscriptTail
  refine wpAny_bind ?_
  rw [getitemInPython_of_ne hT.not_modules]
  refine wpAny_bind (wpAny_specialOf hT hl ?_)
  have fin : wpAny (model prog w) A (subscripted slice false o i) (fun r s₃ => wpAny (model prog w) A (letTemporaryGo value o r >>= fun _ => pure r) Q E s₃) E s₂ := by
    rw [hs o i]
    exact wpAny_operating (wpAny_mono h₂ (fun r s₃ h₃ => wpAny_bind (wpAny_letTemporaryGo (wpAny_pure h₃))) fun _ _ x => x)
  first
    | exact wpAny_pure (wpAny_bind fin)
    | exact wpAny_bind (wpAny_pure (wpAny_bind fin))
    | exact wpAny_bind fin
theorem dict_typeIs {X : Cx} {pins : List (Addr × Obj)} {σ : St} {H : Hp} {s : Shared} {a : Addr} {y : V} {o : Option V} (I : Inv X pins σ H s) (g : DGet H a y o) : s.TypeIs (.ref a) "dict" := by
  rcases g with ⟨kvs, k, e, _, _⟩ | ⟨kvs, k, b, e, _, _, _⟩
  · obtain ⟨_, _, vs, _, dd⟩ := dk_rd I.hok e
    exact dd.typeIs
  · obtain ⟨_, _, xs, _, dd⟩ := dt_rd I.hok e
    exact dd.typeIs
def tDGet (td ty : TE) : TE := fun σ H Q => td σ H fun x H1 => ty σ H1 fun y H2 => ∃ a v, x = .ref a ∧ DGet H2 a y (some v) ∧ Q v H2
def tDIn (ty td : TE) : TE := fun σ H Q => ty σ H fun y H1 => td σ H1 fun x H2 => ∃ a o, x = .ref a ∧ DGet H2 a y o ∧ Q (.bl o.isSome) H2
def tDNotIn (ty td : TE) : TE := fun σ H Q => ty σ H fun y H1 => td σ H1 fun x H2 => ∃ a o, x = .ref a ∧ DGet H2 a y o ∧ Q (.bl (!o.isSome)) H2
def sDPut (td ty tv : TE) : TS := fun D σ H => tv σ H fun v H1 => td σ H1 fun x H2 => ty σ H2 fun y H3 => ∃ a H4, x = .ref a ∧ DPut H3 a y v H4 ∧ D.nx σ H4
section
variable {X : Cx} {o i e value : Expr} {pos pos' tpos : Pos} {td ty tv : TE}
theorem pe_dget (hu : X.A.units + 1 < cLine) (ho : PE X o td) (hi : PE X i ty) (hs : NoSl i) : PE X (.Subscript o i pos) (tDGet td ty) := by
  intro pins s σ H Q I h
  refine subD_of PySem.F.slot_dict_getitem.lookup hs (thn (ho pins s σ H _ I h) fun u s1 ⟨x, H1, I1, rx, q1⟩ => thn (hi pins s1 σ H1 _ I1 q1) fun iv s2 hw' => ?_)
  obtain ⟨y, H2, I2, ry, a, v, ex, g, q2⟩ := hw'
  subst ex
  obtain rfl : u = Value.ref a := rx
  exact ⟨dict_typeIs I2 g, d_getItem hu I2 g ry fun w' s3 I3 rw' => ⟨v, H2, I3, rw', q2⟩⟩
theorem pc_din (hu : X.A.units + 1 < cLine) (hi : PE X i ty) (ho : PE X o td) : PC X .In i o (tDIn ty td) := by
  intro pins s σ H Q I h
  refine thn (hi pins s σ H _ I h) fun iv s1 ⟨y, H1, I1, ry, q1⟩ => thn (ho pins s1 σ H1 _ I1 q1) fun u s2 hw' => ?_
  obtain ⟨x, H2, I2, rx, a, ov, ex, g, q2⟩ := hw'
  subst ex
  obtain rfl : u = Value.ref a := rx
  exact d_in hu I2 g ry fun s3 I3 => ⟨.bl ov.isSome, H2, I3, rfl, q2⟩
theorem pc_dnotin (hu : X.A.units + 1 < cLine) (hi : PE X i ty) (ho : PE X o td) : PC X .NotIn i o (tDNotIn ty td) := by
  intro pins s σ H Q I h
  refine thn (hi pins s σ H _ I h) fun iv s1 ⟨y, H1, I1, ry, q1⟩ => thn (ho pins s1 σ H1 _ I1 q1) fun u s2 hw' => ?_
  obtain ⟨x, H2, I2, rx, a, ov, ex, g, q2⟩ := hw'
  subst ex
  obtain rfl : u = Value.ref a := rx
  exact d_notIn hu I2 g ry fun s3 I3 => ⟨.bl (!ov.isSome), H2, I3, rfl, q2⟩
theorem ps_dput (hu : X.A.units + 1 < cLine) (ho : PE X o td) (hi : PE X i ty) (hv : PE X value tv) (hs : swapsWith value (some (.Subscript o i pos')) pos.line X.env = pure false) :
    PS X (.Assign [.Subscript o i pos'] value pos) (sDPut td ty tv) := by
  intro pins s σ H D I h
  refine wpAny_Assign_Subscript (thn (hv pins s σ H _ I h) fun r s1 ⟨v, H1, I1, rv, q1⟩ => thn (ho pins s1 σ H1 _ I1 q1) fun u s2 ⟨x, H2, I2, rx, q2⟩ => thn (hi pins s2 σ H2 _ I2 q2) fun iv s3 hw' => ?_) hs
  obtain ⟨y, H3, I3, ry, a, H4, ex, g, q3⟩ := hw'
  subst ex
  obtain rfl : u = Value.ref a := rx
  exact d_setItem hu I3 g ry rv fun s4 I4 => ⟨σ, H4, I4, q3⟩
end
theorem dt_empty {P : Program} {w : World} {H : Hp} (h : Heap) (hb : sysModules < h.objs.size) : ObjOk P w H (h.push { cls := .type "dict", data := .dict #[] }) h.objs.size (.dT []) :=
  ⟨Nat.zero_le _, beq_eq_false_iff_ne.mpr (Ne.symm (Nat.ne_of_lt hb)), [], .nil, _, #[], 0, Heap.get?_push_size _ rfl, ⟨rfl, rfl, rfl⟩, rfl, rfl, List.nodup_nil⟩
def tDNewT : TE := fun _ H Q => ∀ p, H p = none → Q (.ref p) (upd H p (.dT []))
section
variable {X : Cx} {pos : Pos}
theorem pe_dnewT : PE X (.Dict [] [] pos) tDNewT := fun pins s σ H Q I h =>
  wpAny_Dict_empty ⟨.ref s.heap.objs.size, _, I.laid (a := s.heap.objs.size) (o := .dT []) (t' := s.toks) (fun _ _ q => Heap.get?_push_of_some _ q) (Nat.le_refl _) (dt_empty s.heap I.big), rfl, h _ (I.hok.fresh (Nat.le_refl _))⟩
end
structure M1 (X : Cx) (o : Expr) (m : Str) (apos : Pos) (e : Expr) (cpos : Pos) : Prop where
  base : attributeBase o m X.env (eval o X.env) = eval o X.env
  few : ((backTo cpos (starEach [e] X.env)).all (fun x => !x.1) && (backToKw cpos (keywordEach [] X.env)).all (fun x => x.1.isSome)
    && decide (([e] : List Expr).length + ([] : List Keyword).length + (if ([] : List Keyword).isEmpty then 0 else 1) < 30)) = true
  line : (apos.endLine == cpos.line) = true
  trees : backTo cpos (starEach [e] X.env) = [(false, eval e X.env)]
structure M2 (X : Cx) (o : Expr) (m : Str) (apos : Pos) (e f : Expr) (cpos : Pos) : Prop where
  base : attributeBase o m X.env (eval o X.env) = eval o X.env
  few : ((backTo cpos (starEach [e, f] X.env)).all (fun x => !x.1) && (backToKw cpos (keywordEach [] X.env)).all (fun x => x.1.isSome)
    && decide (([e, f] : List Expr).length + ([] : List Keyword).length + (if ([] : List Keyword).isEmpty then 0 else 1) < 30)) = true
  line : (apos.endLine == cpos.line) = true
  trees : backTo cpos (starEach [e, f] X.env) = [(false, eval e X.env), (false, eval f X.env)]
def IsD (H : Hp) (a : Addr) : Prop := (∃ kvs, Rd H a (.dK kvs)) ∨ ∃ kvs, Rd H a (.dT kvs)
theorem isD_at {X : Cx} {pins : List (Addr × Obj)} {σ : St} {H : Hp} {s : Shared} {a : Addr} (I : Inv X pins σ H s) (d : IsD H a) :
    s.TypeIs (.ref a) "dict" ∧ (∀ b, Value.ref a = .ref b → ∃ ob, s.heap.get? b = some ob ∧ ob.dict = none) ∧ (a == sysModules) = false := by
  rcases d with ⟨kvs, e⟩ | ⟨kvs, e⟩
  · obtain ⟨_, hd, vs, _, dd⟩ := dk_rd I.hok e
    refine ⟨dd.typeIs, fun b q => ?_, hd⟩
    cases q
    obtain ⟨ob, _, _, h1, h2, _⟩ := dd
    exact ⟨ob, h1, h2.2.1⟩
  · obtain ⟨_, hd, xs, _, dd⟩ := dt_rd I.hok e
    refine ⟨dd.typeIs, fun b q => ?_, hd⟩
    cases q
    obtain ⟨ob, _, _, h1, h2, _⟩ := dd
    exact ⟨ob, h1, h2.2.1⟩
section
variable {X : Cx} {pins : List (Addr × Obj)} {σ : St} {H : Hp} {s : Shared} {a : Addr} {y d : V} {u r : Value} {o : Option V} {A : Around} {E : Value → Shared → Prop}
theorem d_get1 {Q : Value → Shared → Prop} (hu : A.units + 1 < cLine) (I : Inv X pins σ H s) (g : DGet H a y o) (ry : RelV y u) (h : ∀ w' s', Inv X pins σ H s' → RelV (o.getD .non) w' → Q w' s') :
    wpAny (model X.prog X.w) A (call (.builtin "dict.get") [.ref a, u]) Q E s := by
  rcases g with ⟨kvs, k, e, ey, l⟩ | ⟨kvs, k, b, e, ey, eb, l⟩
  · subst ey
    obtain ⟨z, hd, vs, rel, dd⟩ := dk_rd I.hok e
    refine call_meetsIn PySem.F.slot_dict_get dd.typeIs PySem.F.entry_dict_get (PySem.F.args_dict_get_2 _ _) (meets_dict_get (mixKind X.prog X.w) a (kV_is ry) hd) ⟨_, dd.mapOf, h _ _ (I.tok _) ?_⟩
    rw [l]
    exact (rel.val k).getD rfl
  · subst ey
    cases (show u = Value.ref b from ry)
    obtain ⟨z, hd, xs, rel, dd⟩ := dt_rd I.hok e
    refine call_meetsIn PySem.F.slot_dict_get dd.typeIs PySem.F.entry_dict_get (PySem.F.args_dict_get_2 _ _) (meetsH_dict_get (tupleKind (mixKind X.prog X.w)) a b hd) ⟨tupleKind_room_in1 hu, k, xs, key_of I.hok eb, dd, h _ _ (I.tok _) ?_⟩
    rw [l]
    exact (rel.val k).getD rfl
theorem d_get2 {Q : Value → Shared → Prop} (hu : A.units + 1 < cLine) (I : Inv X pins σ H s) (g : DGet H a y o) (ry : RelV y u) (rd : RelV d r) (h : ∀ w' s', Inv X pins σ H s' → RelV (o.getD d) w' → Q w' s') :
    wpAny (model X.prog X.w) A (call (.builtin "dict.get") [.ref a, u, r]) Q E s := by
  rcases g with ⟨kvs, k, e, ey, l⟩ | ⟨kvs, k, b, e, ey, eb, l⟩
  · subst ey
    obtain ⟨z, hd, vs, rel, dd⟩ := dk_rd I.hok e
    refine call_meetsIn PySem.F.slot_dict_get dd.typeIs PySem.F.entry_dict_get (PySem.F.args_dict_get_3 _ _ _) (meets_dict_get_default (mixKind X.prog X.w) a (kV_is ry) hd r) ⟨_, dd.mapOf, h _ _ (I.tok _) ?_⟩
    rw [l]
    exact (rel.val k).getD rd
  · subst ey
    cases (show u = Value.ref b from ry)
    obtain ⟨z, hd, xs, rel, dd⟩ := dt_rd I.hok e
    refine call_meetsIn PySem.F.slot_dict_get dd.typeIs PySem.F.entry_dict_get (PySem.F.args_dict_get_3 _ _ _) (meetsH_dict_get_default (tupleKind (mixKind X.prog X.w)) a b hd r) ⟨tupleKind_room_in1 hu, k, xs, key_of I.hok eb, dd, h _ _ (I.tok _) ?_⟩
    rw [l]
    exact (rel.val k).getD rd
end
def tDGet1 (td ty : TE) : TE := fun σ H Q => td σ H fun x H1 => ∃ a, x = .ref a ∧ IsD H1 a ∧ ty σ H1 fun y H2 => ∃ o, DGet H2 a y o ∧ Q (o.getD .non) H2
def tDGet2 (td ty tx : TE) : TE := fun σ H Q => td σ H fun x H1 => ∃ a, x = .ref a ∧ IsD H1 a ∧ ty σ H1 fun y H2 => tx σ H2 fun z H3 => ∃ o, DGet H3 a y o ∧ Q (o.getD z) H3
section
variable {X : Cx} {o e f : Expr} {apos cpos : Pos} {td ty tx : TE}
theorem pe_dget1 (hu : X.A.units + 1 < cLine) (ho : PE X o td) (he : PE X e ty) (m : M1 X o "get" apos e cpos) : PE X (.Call (.Attribute o "get" apos) [e] [] cpos) (tDGet1 td ty) := by
  intro pins s σ H Q I h
  refine wpAny_Call_method m.base m.few m.line PySem.F.plainAttrs_dict PySem.F.slot_dict_get PySem.F.type_dict_get (thn (ho pins s σ H _ I h) fun u s1 hw' => ?_)
  obtain ⟨x, H1, I1, rx, a, ex, d, q1⟩ := hw'
  subst ex
  obtain rfl : u = Value.ref a := rx
  obtain ⟨t1, t2, _⟩ := isD_at I1 d
  refine ⟨t1, t2, ?_⟩
  rw [m.trees]
  refine Calls.callWith_builtin rfl (Calls.evalArgs_plain (Calls.spliced_cons (thn (he pins s1 σ H1 _ I1 q1) fun iv s2 ⟨y, H2, I2, ry, ov, g, q2⟩ => Calls.spliced_nil ?_)))
  exact d_get1 hu I2 g ry fun w' s3 I3 rw' => ⟨_, H2, I3, rw', q2⟩
theorem pe_dget2 (hu : X.A.units + 1 < cLine) (ho : PE X o td) (he : PE X e ty) (hf : PE X f tx) (m : M2 X o "get" apos e f cpos) : PE X (.Call (.Attribute o "get" apos) [e, f] [] cpos) (tDGet2 td ty tx) := by
  intro pins s σ H Q I h
  refine wpAny_Call_method m.base m.few m.line PySem.F.plainAttrs_dict PySem.F.slot_dict_get PySem.F.type_dict_get (thn (ho pins s σ H _ I h) fun u s1 hw' => ?_)
  obtain ⟨x, H1, I1, rx, a, ex, d, q1⟩ := hw'
  subst ex
  obtain rfl : u = Value.ref a := rx
  obtain ⟨t1, t2, _⟩ := isD_at I1 d
  refine ⟨t1, t2, ?_⟩
  rw [m.trees]
  refine Calls.callWith_builtin rfl (Calls.evalArgs_plain (Calls.spliced_cons (thn (he pins s1 σ H1 _ I1 q1) fun iv s2 ⟨y, H2, I2, ry, q2⟩ =>
    Calls.spliced_cons (thn (hf pins s2 σ H2 _ I2 q2) fun fv s3 ⟨z, H3, I3, rz, ov, g, q3⟩ => Calls.spliced_nil ?_))))
  exact d_get2 hu I3 g ry rz fun w' s4 I4 rw' => ⟨_, H3, I4, rw', q3⟩
end
section
variable {X : Cx} {pins : List (Addr × Obj)} {σ : St} {H : Hp} {s : Shared} {a : Addr} {kvs : List (Key × V)} {A : Around} {E : Value → Shared → Prop}
end
section
variable {X : Cx} {pins : List (Addr × Obj)} {σ : St} {H : Hp} {s : Shared} {a : Addr} {y : V} {u : Value} {A : Around} {E : Value → Shared → Prop}
end
end L2
namespace Att
open PySem PySem.W PySem.Calls PyProof.Rows
theorem ints_of_wellAll {P : Params} {h : Heap} : ∀ (ns : List Int) (vs : List Value), WellAll P h vs (ns.map WData.int) → IntsAre vs ns := by
  intro ns
  induction ns with
  | nil =>
    intro vs w
    rw [List.map_nil] at w
    cases w
    exact .nil
  | cons n ns ih =>
    intro vs w
    rw [List.map_cons] at w
    cases w with
    | cons a b =>
      cases a
      exact .cons _ _ (ih _ b)
theorem script_of {l : OpenLaw} {n : Nat} (hn : l.most = some n) {P : Params} {h : Heap} {args : List WData} {vals : List Value}
    (hpre : l.row.toRowW.claim.pre args = true) (hwl : WellAll P h vals args) :
    ∃ a vs ns, vals = [Value.ref a] ∧ args = [WData.list (ns.map WData.int)] ∧ h.get? a = some { cls := .type "list", data := .seq vs.toArray } ∧ IntsAre vs ns ∧ ns.length ≤ n := by
  have hsh : WShape.hasAll [] args [.list .int] = true := (pre_splitW hpre).1
  have hc : l.pre.holds [] { args := args } = true := (pre_splitW hpre).2
  obtain ⟨d, r, rfl, h1, h2⟩ := hasAllW_cons hsh
  obtain rfl := hasAllW_nil h2
  obtain ⟨xs, rfl, h3⟩ := hasW_list h1
  obtain ⟨ns, rfl⟩ := items_int h3
  have hlen : ns.length ≤ n := by
    unfold OpenLaw.pre at hc
    have h4 : (WTm.not (.lt (.lit (.int (n : Int))) (.len (.arg 0)))).holds [] { args := [.list (ns.map .int)] } = true := by
      have h4 := (holds_andW hc).1
      rw [hn] at h4
      exact h4
    have h5 := condW_of h4 (w_not (w_lt w_lit (w_len_list (w_arg rfl))))
    rw [List.length_map] at h5
    refine Nat.le_of_not_lt fun q => ?_
    have q' : (n : Int) < ((ns.length : Nat) : Int) := by omega
    first
      | (rw [decide_eq_true q'] at h5; exact absurd h5 (by decide))
      | (simp at h5; omega)
  cases hwl with
  | cons w1 w2 =>
    cases w2
    cases w1 with
    | list ho hall => exact ⟨_, _, ns, rfl, rfl, ho, ints_of_wellAll ns _ hall, hlen⟩
theorem post_true (l : OpenLaw) (args : List WData) : l.row.toRowW.claim.post args (.bool true) args = true :=
  postW_of (r := l.row.toRowW) (X := (true == true))
    (show WShape.has [] (.bool true) .bool = true by first | rfl | decide | simp [WShape.has, WShape.arms, WShape.armsAll])
    (show (WTm.eq .res (.lit (.bool true))).value [] { args := args, res := some (.bool true), after := args } = some (.bool (true == true)) from w_eq_bool (w_res rfl) w_lit) rfl
theorem attach_call {l : OpenLaw} {n : Nat} {q : Program} {loose : List Str} {XP : (Str → Option Value) → Heap → Prop} {YP : World → Heap → Prop} {d : DefRec}
    (hn : l.most = some n) (hdf : d.params.defaults = [])
    (call : ∀ (w : World) (s₀ s₁ : Shared) (mg mb : Str → Option Value) (fa : Addr) (o : Obj) (pm cd doc : Value) (a : Addr) (vs : List Value) (ns : List Int),
      Ground q loose [] XP w s₀ mg mb s₁.heap → YP w s₁.heap →
      s₁.heap.get? fa = some o → o.data = .func (docDef d.name d.params d.body d.scope pm cd doc) → s₁.heap.CodeRec cd d.name → mg d.name = some (.ref fa) →
      s₁.heap.get? a = some { cls := .type "list", data := .seq vs.toArray } → IntsAre vs ns → ns.length ≤ n → s₁.gens = #[] →
      codeAny (model l.prog w) callerA (.call (.ref fa) ⟨[.ref a], []⟩) (fun r s' => r = .ok (.ret (.bool true)) ∧ OldK s₁.heap s'.heap ∧ s'.os = s₁.os ∧ AllBare s'.gens) s₁) :
    WalkO q loose XP YP l.row.toRowW d [] (fun f vs => PySem.call f vs) := by
  intro w s₀ s₁ mg mb G Y fa o pm cd doc dV kV ho hd hcd hD hmg hg args vals as hpre hlay hrd hwl hlo
  obtain rfl : dV = .none := Dflts.none hD hdf
  obtain rfl : kV = .none := Dflts.noKw hD
  obtain ⟨a, vs, ns, rfl, rfl, hobj, hints, hlen⟩ := script_of hn hpre hwl
  refine enter_call (codeAny_mono (call w s₀ s₁ mg mb fa o pm cd doc a vs ns G Y ho (fd_plain hd) hcd hmg hobj hints hlen hg) fun r s' hq => ?_)
  obtain ⟨rfl, h2, h3, h4⟩ := hq
  exact ⟨.inl ⟨.bool true, .bool true, [], rfl, fun _ => rfl, .bool true, post_true l _, fun _ => ⟨List.Pairwise.nil, fun _ hm => (nomatch hm)⟩⟩, h2, h3, h4⟩
section
variable {prog : Program} {w : World} {A : Around} {E : Value → Shared → Prop} {s : Shared} {K : Frag}
def ledger (h : Heap) (L d : Addr) : List (Addr × Obj) := (List.range h.objs.size).filterMap fun a => if a = L ∨ a = d then none else (h.get? a).map fun o => (a, o)
end
end Att
namespace L2
open PySem PySem.Spec PyProof.Rows
theorem vals_ints : ∀ {vs : List Value} {ns : List Int}, IntsAre vs ns → Vals (ns.map V.int) vs
  | _, _, .nil => .nil
  | _, _, .cons n t h => .cons ⟨t, rfl⟩ (vals_ints h)
def Only (H : Hp) : Prop := ∀ b, H b = none ∨ ∃ o xs, H b = some (.frz o (.lst xs))
theorem law_call {P : Program} {w : World} {K : PySem.W.Frag} {mg mb : Str → Option Value} {CX : CXT} {k : Nat} {fa a : Addr} {fd : FuncData} {x : Str} {sp : Sp} {s₁ : Shared} {vs : List Value} {ns : List Int}
    (KX : K.In s₁.heap) (hns : s₁.heap.Ns mainGlobals mg) (hb : s₁.heap.Ns builtinsNs mb) (hbb : ∀ x : Str, x ≠ "__name__" → mb x = bootBuiltins x) (hlim : s₁.heap.NoLimit) (hg : s₁.gens = #[])
    (ha : s₁.heap.get? a = some { cls := .type "list", data := .seq vs.toArray }) (hi : IntsAre vs ns) (hl : ns.length ≤ sizeLine) (hr : Room k callerA)
    (F : ∀ base : Heap, K.In base → base.Ns mainGlobals mg → FnOk P w K mg base CX k fa fd [x] sp) (hbind : ∀ (s : Shared) (u : Value), BindsTo s fd ⟨[u], []⟩ [(x, u)])
    (hsp : ∀ H : Hp, Only H → SqL K H a (ns.map V.int) → sp [.ref a] H (fun v _ => v = .bl true) fun _ _ _ => False)
    (hCX : ∀ H e s', CX [] H s₁ (fun _ _ _ => False) e s' → False) :
    codeAny (model P w) callerA (.call (.ref fa) ⟨[.ref a], []⟩) (fun r s' => r = .ok (.ret (.bool true)) ∧ OldK s₁.heap s'.heap ∧ s'.os = s₁.os ∧ AllBare s'.gens) s₁ := by
  have rv := vals_ints hi
  have lenV := hi.length
  have core : ∀ H : Hp, Only H → SqL K H a (ns.map V.int) → HOk P w H s₁.heap → (∀ b, H b ≠ none → b = a) → (H a ≠ none → K.lookup a = none) →
      codeAny (model P w) callerA (.call (.ref fa) ⟨[.ref a], []⟩) (fun r s' => r = .ok (.ret (.bool true)) ∧ OldK s₁.heap s'.heap ∧ s'.os = s₁.os ∧ AllBare s'.gens) s₁ := by
    intro H hO hS hok hA hK
    have base_of : ∀ {b : Addr} {o : Obj}, s₁.heap.get? b = some o → H b = none → (hidT s₁.heap H).get? b = some o := fun e n => hidT_get e n
    have noA : ∀ {b : Addr} {o : Obj} {es : Array DictEntry} {ep : Nat}, s₁.heap.get? b = some o → o.data = .dict es ep → H b = none := fun {b o es ep} e d => by
      cases q : H b with
      | none => rfl
      | some u =>
        have e' : b = a := hA b (by rw [q]; simp)
        subst e'
        rw [ha] at e; cases e
        have d' : Data.seq vs.toArray _ = Data.dict es ep := d
        cases d'
    have nsK : ∀ {b : Addr} {m : Str → Option Value}, s₁.heap.Ns b m → (hidT s₁.heap H).Ns b m := fun {b m} ⟨o, es, ep, e, d, r⟩ => ⟨o, es, ep, base_of e (noA e d), d, r⟩
    have hKb : K.In (hidT s₁.heap H) := fun b o e => base_of (KX b o e) (by
      cases q : H b with
      | none => rfl
      | some u =>
        have e' : b = a := hA b (by rw [q]; simp)
        subst e'
        rw [hK (by rw [q]; simp)] at e; cases e)
    have hM : Mod K mg (hidT s₁.heap H) := ⟨hKb, nsK hns, ⟨mb, nsK hb, hbb⟩, let ⟨mc, h1, h2⟩ := hlim; ⟨mc, nsK h1, h2⟩⟩
    have e0 : Env0 P w K mg (hidT s₁.heap H) callerA [] s₁ H := ⟨rfl, hM, fun b o e => of_hidT e, Nat.le_of_eq (hidT_size _ _), trivial, fun b hb => absurd (show b ∈ ([] : List Addr) from hb) (by simp), hok, .of_eq hg⟩
    refine codeAny_mono ((F _ hKb (nsK hns)).run callerA [] s₁ H ⟨[.ref a], []⟩ [.ref a] [.ref a] _ _ hr e0 (hbind s₁ (.ref a)) (.cons rfl .nil) (hsp H hO hS)) fun r s' h => ?_
    cases r with
    | error e => exact (hCX H e s' h).elim
    | ok fl =>
      cases fl with
      | next => exact False.elim h
      | brk => exact False.elim h
      | cont => exact False.elim h
      | ret u =>
        obtain ⟨v, H', os, bare, un, hok', r', q⟩ := h
        have q' : v = .bl true := q
        subst q'
        obtain rfl : u = Value.bool true := r'
        refine ⟨rfl, OldK.of_keep fun b o e => ?_, os, bare⟩
        cases q : H b with
        | none => exact un.keep b o e q (by intro z; exact absurd (show b ∈ ([] : List Addr) from z) (by simp)) (by simp)
        | some u =>
          rcases hO b with z | ⟨ob, xs, z⟩
          · rw [q] at z; cases z
          · have z2 := un.frzs b ob _ z
            obtain ⟨e1, _⟩ := hok b _ z
            obtain ⟨e2, _⟩ := hok' b _ z2
            rw [e] at e1; cases e1
            exact e2
  cases hk : K.lookup a with
  | some o =>
    have e := KX a o hk
    rw [ha] at e
    cases e
    refine core (fun _ => none) (fun _ => .inl rfl) (.inr ⟨_, vs.toArray, _, hk, rfl, rfl, rfl, by rw [List.size_toArray, lenV]; exact hl, by simpa using rv⟩) (fun b u z => by have z' : (none : Option HO) = some u := z; cases z') (fun b z => absurd rfl z) fun z => absurd rfl z
  | none =>
    refine core (fun b => if b = a then some (.frz { cls := .type "list", data := .seq vs.toArray } (.lst (ns.map V.int))) else none) (fun b => ?_) (.inl (.inr ⟨{ cls := .type "list", data := .seq vs.toArray }, if_pos rfl⟩)) (fun b u z => ?_) (fun b z => ?_) fun _ => hk
    · by_cases hb : b = a
      · exact .inr ⟨_, _, if_pos hb⟩
      · exact .inl (if_neg hb)
    · by_cases hb : b = a
      · have z' := (if_pos hb).symm.trans z
        cases z'
        subst hb
        exact ⟨ha, by rw [List.length_map]; exact hl, vs, _, rv, ha⟩
      · have z' := (if_neg hb).symm.trans z
        cases z'
    · by_cases hb : b = a
      · exact hb
      · exact absurd (if_neg hb) z
end L2
namespace L2
open PySem PySem.Spec PyProof.Rows
abbrev KOf {K : PySem.W.Frag} {h : Heap} (_ : K.In h) : PySem.W.Frag := K
theorem walk_of {l : PySem.W.OpenLaw} {n k : Nat} {q : Program} {loose : List Str} {XP : (Str → Option Value) → Heap → Prop} {YP : World → Heap → Prop} {d : DefRec} {K : Params → PySem.W.Frag} {CX : World → CXT} {sp : World → Sp} {x : Str}
    (hn : l.most = some n) (hn2 : n ≤ sizeLine) (hdf : d.params.defaults = []) (hr : Room k callerA)
    (hY : ∀ (w : World) (h : Heap), YP w h → (K w.params).In h)
    (F : ∀ (w : World) (mg : Str → Option Value) (fa : Addr) (h : Heap), (K w.params).In h → h.Ns mainGlobals mg → mg d.name = some (.ref fa) →
      ∃ fd : FuncData, (∀ (s : Shared) (u : Value), BindsTo s fd ⟨[u], []⟩ [(x, u)]) ∧
        ∀ base : Heap, (K w.params).In base → base.Ns mainGlobals mg → FnOk l.prog w (K w.params) mg base (CX w) k fa fd [x] (sp w))
    (hsp : ∀ (w : World) (H : Hp) (a : Addr) (ns : List Int), ns.length ≤ n → Only H → SqL (K w.params) H a (ns.map V.int) → sp w [.ref a] H (fun v _ => v = .bl true) fun _ _ _ => False)
    (hCX : ∀ (w : World) (H : Hp) (s : Shared) (e : Value) (s' : Shared), CX w [] H s (fun _ _ _ => False) e s' → False) :
    PySem.W.WalkO q loose XP YP l.row.toRowW d [] (fun f vs => PySem.call f vs) := by
  refine Att.attach_call hn hdf fun w s₀ s₁ mg mb fa o pm cd doc a vs ns G Y ho hd hcd hmg hobj hints hlen hg => ?_
  have KX := hY w _ Y
  obtain ⟨fd, hb, hF⟩ := F w mg fa _ KX G.T.g hmg
  exact law_call KX G.T.g G.T.b G.T.builtins G.T.nolimit hg hobj hints (Nat.le_trans hlen hn2) hr hF hb (fun H hO hS => hsp w H a ns hlen hO hS) fun H e s' => hCX w H s₁ e s'
end L2
/- THE LAST THEOREM (shape; LID, My.* are yours):
   My.Adr: a structure of the addresses that your layer names (classes, functions); My.Txt K t: a structure (Prop) of the equations over K;
   My.txt_mk : {K} {implicit addresses ..} (e1 : nsIn K mainGlobals "law" = some (some (.ref f))) (e2 : K.lookup f = some ⟨oc, od, .func (fnOf "law" "law" params body scope dV kV doc pm an cdv ct), sl⟩) (e3 : codeIn K cdv "law" = true) .. : ∃ t, My.Txt K t
set_option maxRecDepth 100000 in
set_option maxHeartbeats 0 in
theorem PySem.Challenge.cw_LID_holds : PySem.Challenge.rw_LID.Holds := by
  w_on; o_law; k_head; (case hw => w_witness2)
  k_fill
  refine L2.walk_of (l := PySem.Challenge.rw_LID) (n := 63) (k := 40) (x := "script") (CX := fun w => ..) (sp := fun _ => My.sp_law) rfl (by decide) rfl ⟨rfl, by decide, by decide⟩ (fun w h Y => PySem.W.kIn_of Y) ?F ?S ?C
  case F =>
    intro w mg fa h KX G hmg
    have T : ∃ t, My.Txt (L2.KOf KX) t := by
      dsimp only [L2.KOf]                          -- K must stand as «<heap const> w.params» for k_is
      refine' My.txt_mk ?e1 ?e2 ?e3 ..
      (case e1 => PySem.W.k_is)                    -- in the order: a name -> its address -> its object -> its parts
      (case e2 => PySem.W.k_is)
      ..
    obtain ⟨t, T⟩ := T
    have e0 := hmg.symm.trans (PySem.W.mg_of KX G T.law)
    cases e0                                       -- fa is the law's own address
    exact ⟨_, fun s u => .of_eq rfl, fun base kb nb => My.law_fn T kb nb⟩     -- if «.of_eq rfl» comes too early: refine' ⟨_, ?b, fun base kb nb => My.law_fn T kb nb⟩; exact fun s u => .of_eq rfl
  case S => exact fun w H a ns hl hO hS => ..
  case C => exact ..
(the tactic k_is has no namespace: write k_is) -/
namespace L2
open PySem PySem.Spec PyProof.Rows
def inClass (s : Stmt) (j : Nat) : Stmt := match s with
  | .ClassDef _ _ _ body _ _ _ _ _ _ _ => body.getD j (.Pass ⟨0, 0, 0, 0⟩)
  | _ => .Pass ⟨0, 0, 0, 0⟩
def defArgs (s : Stmt) : Arguments := match s with
  | .FunctionDef _ a _ _ _ _ _ _ _ _ => a
  | _ => { posonlyargs := [], args := [], vararg := none, kwonlyargs := [], kw_defaults := [], kwarg := none, defaults := [] }
def defBody (s : Stmt) : List Stmt := match s with
  | .FunctionDef _ _ b _ _ _ _ _ _ _ => b
  | _ => []
def defScope (s : Stmt) : Scope := match s with
  | .FunctionDef _ _ _ _ _ _ sc _ _ _ => sc
  | _ => { kind := .function, names := [], isGenerator := false, isCoroutine := false }
abbrev CX0 : CXT := fun _ _ _ _ _ _ => False
abbrev E0 : XK := fun _ _ _ => False
theorem pass0 {X : Cx} : Passes CX0 X E0 := fun _ _ _ _ _ _ _ h => h.elim
structure Fun (K : PySem.W.Frag) (x qual : Str) (st : Stmt) (f : Addr) (fd : FuncData) : Prop where
  ex : ∃ (oc : Value) (od : Option Addr) (kV doc pm : Value) (an : Option Addr) (cdv ct : Value) (osl : Array (Option Value)),
    fd = PySem.W.fnOf x qual (defArgs st) (defBody st) (defScope st) .none kV doc pm an cdv ct ∧ K.lookup f = some ⟨oc, od, .func fd, osl⟩ ∧ PySem.W.codeIn K cdv qual = true
  kp : PySem.W.keepIn K (.ref f) = true
section
variable {P : Program} {w : World} {K : PySem.W.Frag} {mg : Str → Option Value} {base : Heap}
theorem Fun.ok {x qual : Str} {st : Stmt} {f : Addr} {fd : FuncData} {N ps : List Str} {k : Nat} {sp : Sp} (F : Fun K x qual st f fd) (S : FnScope N ps (defScope st)) (len : ∀ vs H Q E, sp vs H Q E → vs.length = ps.length)
    (hbody : ∀ (cdv : Value) (A : Around) (outer : List Env) (s : Shared) (H : Hp) (vs : List V) (Q : VK) (E : XK), Room k (A.deeper (envOfC qual (defScope st) s.heap.objs.size f cdv)) → sp vs H Q E →
      ∃ t, PSs (cxOf CX0 P w K mg base N qual (defScope st) f cdv A outer s H E).nox (defBody st) t ∧ t { nx := fun _ H' => Q .non H', rt := Q } (start N vs) H) : FnOk P w K mg base CX0 (k + 1) f fd ps sp := by
  obtain ⟨oc, od, kV, doc, pm, an, cdv, ct, osl, rfl, lk, hcd⟩ := F.ex
  refine fn_of lk hcd S len fun A outer s H vs Q E hr hsp => ?_
  obtain ⟨t, h, q⟩ := hbody cdv A outer s H vs Q E hr hsp
  exact ⟨t, h.nox, q⟩
theorem Fun.binds {x qual : Str} {st : Stmt} {f : Addr} {fd : FuncData} {ps : List Str} (F : Fun K x qual st f fd)
    (h : ∀ (kV doc pm : Value) (an : Option Addr) (cdv ct : Value) (us : List Value), us.length = ps.length → bindArgs (PySem.W.fnOf x qual (defArgs st) (defBody st) (defScope st) .none kV doc pm an cdv ct) ⟨us, []⟩ = pure (ps.zip us)) : Binds K fd ps [] := by
  obtain ⟨oc, od, kV, doc, pm, an, cdv, ct, osl, rfl, lk, hcd⟩ := F.ex
  exact .all (h kV doc pm an cdv ct)
theorem fun_mk {x qual : Str} {st : Stmt} {f : Addr} {oc : Value} {od an : Option Addr} {osl : Array (Option Value)} {kV doc pm cdv ct : Value} (l : K.lookup f = some ⟨oc, od, .func (PySem.W.fnOf x qual (defArgs st) (defBody st) (defScope st) .none kV doc pm an cdv ct), osl⟩)
    (c : PySem.W.codeIn K cdv qual = true) (k : PySem.W.keepIn K (.ref f) = true) : Fun K x qual st f (PySem.W.fnOf x qual (defArgs st) (defBody st) (defScope st) .none kV doc pm an cdv ct) := ⟨⟨oc, od, kV, doc, pm, an, cdv, ct, osl, rfl, l, c⟩, k⟩
end
theorem hu_of {A : Around} {k : Nat} (hr : Room k A) : A.units + 1 < cLine := Nat.lt_of_le_of_lt (Nat.add_le_add_left (by decide : 1 ≤ 64) _) hr.units
section
variable {X : Cx}
theorem pv (i : Nat) {x : Str} {pos : Pos} (hN : X.N[i]? = some x := by rfl) (hv : Vis X.env.scope x := by first | exact Or.inl rfl | exact Or.inr (Or.inl rfl) | exact Or.inr (Or.inr rfl)) (hd : (x == ("__debug__" : Str)) = false := by decide)
    (hcd : (x == ("__classdict__" : Str)) = false := by decide) : PE X (.Name x pos) (tVar i) := pe_var hN hv hd hcd
end
theorem iteF {A B : Prop} (h : B) : if false = true then A else B := by
  rw [if_neg Bool.false_ne_true]
  exact h
theorem iteT {A B : Prop} (h : A) : if true = true then A else B := by
  rw [if_pos rfl]
  exact h
def Same (H H' : Hp) : Prop := ∀ b o, H b = some o → H' b = some o
theorem Same.refl (H : Hp) : Same H H := fun _ _ h => h
theorem Same.trans {H H1 H2 : Hp} (a : Same H H1) (b : Same H1 H2) : Same H H2 := fun c o h => b c o (a c o h)
theorem Same.seq {K : PySem.W.Frag} {H H' : Hp} {a : Addr} {xs : List V} (e : Same H H') (h : SqL K H a xs) : SqL K H' a xs := by
  rcases h with (h | ⟨o, h⟩) | h
  · exact .inl (.inl (e _ _ h))
  · exact .inl (.inr ⟨o, e _ _ h⟩)
  · exact .inr h
end L2
namespace L2
open PySem PySem.Spec PyProof.Rows
section
variable {X : Cx}
end
section
variable {κ : Type} [DecidableEq κ]
end
end L2
set_option Elab.async false
set_option linter.all false
set_option maxRecDepth 100000
set_option genSizeOf false
set_option bootstrap.genMatcherCode false
namespace L2
open PySem PySem.Spec PyProof.Rows
def clos (cells : List (Str × Addr)) : List (Str × NameKind) → List (Str × Addr) → List (Str × Addr)
  | [], acc => acc
  | (n, k) :: r, acc => clos cells r (if k == .free then (n, (cells.lookup n).getD 0) :: acc else acc)
theorem clos_run {env : Env} : ∀ (names : List (Str × NameKind)) (acc : List (Str × Addr)), (∀ y ∈ names, y.2 = .free → ∃ c, env.cells.lookup y.1 = some c) →
    (forIn names acc (fun (x : Str × NameKind) (r : List (Str × Addr)) => if (x.2 == NameKind.free) = true then (do let a ← cellOf env x.1; pure (ForInStep.yield ((x.1, a) :: r))) else pure (ForInStep.yield r)) : Sem (List (Str × Addr))) = pure (clos env.cells names acc)
  | [], acc, _ => rfl
  | (n, k) :: r, acc, h => by
    rw [List.forIn_cons]
    have ih := fun a => clos_run r a fun y hy => h y (List.mem_cons_of_mem _ hy)
    cases hk : (k == NameKind.free) with
    | true =>
      have hk' : k = .free := by cases k <;> first | rfl | exact absurd hk (by decide)
      obtain ⟨c, hc⟩ := h (n, k) List.mem_cons_self hk'
      have hc' : env.cells.lookup n = some c := hc
      have e : cellOf env n = pure c := by unfold cellOf; rw [hc']
      dsimp only
      rw [if_pos rfl, e]
      show (forIn r ((n, c) :: acc) _ : Sem _) = _
      rw [ih]
      conv => rhs; unfold clos
      rw [if_pos hk, hc']
      rfl
    | false =>
      dsimp only
      rw [if_neg (by decide)]
      show (forIn r acc _ : Sem _) = _
      rw [ih]
      conv => rhs; unfold clos
      rw [if_neg (by rw [hk]; decide)]
theorem closure_of {scope : Scope} {env : Env} (h : ∀ y ∈ scope.names, y.2 = .free → ∃ c, env.cells.lookup y.1 = some c) : closureFor scope env = pure (clos env.cells scope.names []) := by
  have e := clos_run scope.names [] h
  simp only [closureFor]
  rw [e]
  rfl
theorem clos_in {cells : List (Str × Addr)} : ∀ {names : List (Str × NameKind)} {acc : List (Str × Addr)} {x : Str} {c : Addr}, (∀ y ∈ names, y.2 = .free → ∃ c, cells.lookup y.1 = some c) → (∀ x c, acc.lookup x = some c → cells.lookup x = some c) →
    (clos cells names acc).lookup x = some c → cells.lookup x = some c
  | [], acc, x, c, _, ha, h => ha x c h
  | (n, k) :: r, acc, x, c, hn, ha, h => by
    unfold clos at h
    refine clos_in (fun y hy => hn y (List.mem_cons_of_mem _ hy)) (fun y d hy => ?_) h
    split at hy
    · rename_i hk
      have hk' : k = .free := by cases k <;> first | rfl | exact absurd hk (by decide)
      obtain ⟨c', hc⟩ := hn (n, k) List.mem_cons_self hk'
      have hc' : cells.lookup n = some c' := hc
      rw [List.lookup_cons] at hy
      cases e : (y == n) with
      | true =>
        rw [e] at hy
        have ey : y = n := by simpa using e
        subst ey
        rw [hc'] at hy ⊢
        exact hy
      | false =>
        rw [e] at hy
        exact ha y d hy
    · exact ha y d hy
theorem clos_acc {cells : List (Str × Addr)} : ∀ {names : List (Str × NameKind)} {acc : List (Str × Addr)} {x : Str}, (∃ c, acc.lookup x = some c) → ∃ c, (clos cells names acc).lookup x = some c
  | [], _, _, h => h
  | (n, k) :: r, acc, x, h => by
    unfold clos
    refine clos_acc ?_
    split
    · rw [List.lookup_cons]
      cases (x == n) with
      | true => exact ⟨_, rfl⟩
      | false => exact h
    · exact h
theorem clos_has {cells : List (Str × Addr)} : ∀ {names : List (Str × NameKind)} {acc : List (Str × Addr)} {x : Str}, (x, NameKind.free) ∈ names → ∃ c, (clos cells names acc).lookup x = some c
  | [], _, _, h => by cases h
  | (n, k) :: r, acc, x, h => by
    unfold clos
    rcases List.mem_cons.mp h with e | e
    · cases e
      refine clos_acc ?_
      rw [if_pos (by decide), List.lookup_cons]
      simp
    · exact clos_has e
def cxComp (X : Cx) (N : List Str) (scope : Scope) (cl : List (Str × Addr)) (C : Addr) (fp : List Addr) (s : Shared) (H : Hp) : Cx :=
  { X with N := N, s₀ := s, H₀ := H, env := compEnvC scope cl C X.env, outer := X.stack, stack := X.stack, ex := fp, fn := fun _ => false, pn := [], xe := fun _ _ => False }
def inner (μ : List (Option Nat)) (σ : St) : St := μ.map fun o => o.bind fun j => (σ[j]?).join
def muOk (oN : List Str) (osc : Scope) (N : List Str) (isc : Scope) (μ : List (Option Nat)) : Bool :=
  decide (μ.length = N.length) && (μ.zip N).all fun (o, x) => match o with
    | none => true
    | some j => decide (oN[j]? = some x) && decide (osc.names.lookup x = some .cell) && (decide (isc.names.lookup x = some .cell) || decide (isc.names.lookup x = some .free))
theorem muOk.get {oN N : List Str} {osc isc : Scope} {μ : List (Option Nat)} (h : muOk oN osc N isc μ = true) {i j : Nat} {x : Str} (h1 : μ[i]? = some (some j)) (h2 : N[i]? = some x) :
    oN[j]? = some x ∧ osc.names.lookup x = some .cell ∧ (isc.names.lookup x = some .cell ∨ isc.names.lookup x = some .free) := by
  unfold muOk at h
  rw [Bool.and_eq_true] at h
  have hz : (μ.zip N)[i]? = some (some j, x) := by rw [List.getElem?_zip_eq_some]; exact ⟨h1, h2⟩
  have q := List.all_eq_true.mp h.2 _ (List.mem_of_getElem? hz)
  simp only [Bool.and_eq_true, Bool.or_eq_true, decide_eq_true_eq] at q
  exact ⟨q.1.1, q.1.2, q.2⟩
section
variable {prog : Program} {w : World} {A : Around} {R : Result → Shared → Prop} {s : Shared}
theorem compLoop_go {elt target iter : Expr} {ifs : List Expr} {scope : Scope} {pos : Pos} {it acc : Value} {env : Env} (I : Nat → Shared → Prop)
    (turn : ∀ n s, I n s → wpAny (model prog w) A (pyNext it) (fun r s₁ => match r with
      | none => R (.ok .next) s₁
      | some v => wpAny (model prog w) A (letOwnedTupleGo target it v) (fun _ s₂ => wpAny (model prog w) A (assign target env v) (fun _ s₂ =>
          wpAny (model prog w) A (forIn ifs true fun c r => if r = true then do let ok ← isTrue c env (eval c env); pure (ForInStep.yield ok) else pure (ForInStep.yield r)) (fun ok s₃ =>
            if ok = true then wpAny (model prog w) A (eval elt env) (fun x s₄ =>
              wpAny (model prog w) A (call (.builtin "list.append") [acc, x]) (fun _ s₅ => ∃ m, m < n ∧ I m s₅) (fun _ _ => False) s₄) (fun _ _ => False) s₃
            else ∃ m, m < n ∧ I m s₃) (fun _ _ => False) s₂) (fun _ _ => False) s₂) (fun _ _ => False) s₁) (fun _ _ => False) s)
    (n : Nat) (h : I n s) :
    codeAny (model prog w) A (.compLoop (.ListComp elt [⟨target, iter, ifs, 0⟩] scope pos) 0 it acc env) R s := by
  refine codeAny_loop rfl I (fun n s hI => ?_) n h
  show wpAny _ A ((compTurn (.ListComp elt [⟨target, iter, ifs, 0⟩] scope pos) 0 it acc env).onRaise (fun x => do noteFrame x env; theTreesLotGoes x)) _ _ s
  refine wpAny_noted ?_
  rw [compTurn_list]
  refine wpAny_bind (wpAny_standAt (wpAny_bind (wpAny_mono (turn n s hI) (fun r s₁ h₁ => ?_) fun _ _ h' => h'.elim)))
  cases r with
  | none => exact wpAny_pure h₁
  | some v =>
    refine wpAny_bind (wpAny_mono h₁ (fun _ s₂ h₂ => wpAny_bind (wpAny_mono h₂ (fun _ s₃ h₃ => wpAny_bind (wpAny_mono h₃ (fun ok s₄ h₄ => ?_) fun _ _ h' => h'.elim)) fun _ _ h' => h'.elim)) fun _ _ h' => h'.elim)
    cases ok with
    | false => exact wpAny_pure ⟨rfl, h₄⟩
    | true =>
      exact wpAny_bind (wpAny_bind (wpAny_mono h₄ (fun x s₅ h₅ => wpAny_bind (wpAny_mono h₅ (fun _ s₆ h₆ => wpAny_pure (wpAny_pure ⟨rfl, h₆⟩)) fun _ _ h' => h'.elim)) fun _ _ h' => h'.elim))
end
def PTs (X : Cx) (ifs : List Expr) (t : TT) : Prop :=
  ∀ (pins : List (Addr × Obj)) (s : Shared) (σ : St) (H : Hp) (Q : Bool → Hp → Prop), Inv X pins σ H s → t σ H Q →
    wpAny (model X.prog X.w) X.A (forIn ifs true fun c r => if r = true then do let ok ← isTrue c X.env (eval c X.env); pure (ForInStep.yield ok) else pure (ForInStep.yield r)) (TP X pins σ Q) X.xe s
theorem pts_nil {X : Cx} : PTs X [] (fun _ H Q => Q true H) := fun pins s σ H Q I h => wpAny_tests_nil ⟨H, I, h⟩
theorem pts_one {X : Cx} {c : Expr} {t : TT} (h : PT X c t) : PTs X [c] t := fun pins s σ H Q I hw => wpAny_tests_one (h pins s σ H Q I hw)
def compW (μ : List (Option Nat)) (g : TG) (tt : TT) (te : TE) (σ : St) (Q : VK) (J : It) (H1 : Hp) : Prop :=
  ∀ p, H1 p = none → ∃ W : Nat → Nat → St → Hp → Prop, (∃ m, W 0 m (inner μ σ) (upd H1 p (.lst []))) ∧ ∀ i m σ' H', W i m σ' H' →
    (J.stop i H' ∧ Q (.ref p) H') ∨ (J.go i H' ∧ ∃ Nn : St → Hp → Prop, (∀ σ2 H2, Nn σ2 H2 → ∃ m', m' < m ∧ W (i + 1) m' σ2 H2) ∧
      ∀ x H2, J.yld i H' x H2 → g x σ' H2 fun σ3 H3 => tt σ3 H3 fun b H4 => if b = true then te σ3 H4 fun y H5 => ∃ ys, H5 p = some (.lst ys) ∧ ys.length < sizeLine ∧ Nn σ3 (upd H5 p (.lst (ys ++ [y]))) else Nn σ3 H4)
def tComp (μ : List (Option Nat)) (wi : TI) (g : TG) (tt : TT) (te : TE) : TE := fun σ H Q => wi σ H (compW μ g tt te σ Q)
section
variable {X : Cx} {pins : List (Addr × Obj)} {σ : St} {H2 : Hp} {s2 : Shared} {tg iter elt : Expr} {ifs : List Expr} {scope : Scope} {pos : Pos} {it : Addr} {fp : List Addr} {tn : Nat → Heap → Prop} {J : It} {N : List Str} {μ : List (Option Nat)} {g : TG} {tt : TT} {te : TE} {Q : VK}
theorem comp_core {RR : Value → Addr → Result → Shared → Prop} (I2 : Inv X pins σ H2 s2) (T : Turn X.prog X.w X.K tg J fp it tn) (st2 : tn 0 s2.heap) (f2 : ∀ b ∈ fp, FpOk X pins H2 b) (hc : X.calm = true)
    (hcell : ∀ y ∈ scope.names, y.2 ≠ .cell) (hkind : scope.kind = .function) (hfr : ∀ y ∈ scope.names, y.2 = .free → ∃ c, X.env.cells.lookup y.1 = some c)
    (hhas : ∀ x, ((relabel scope X.env).names.lookup x = some .cell ∨ (relabel scope X.env).names.lookup x = some .free) → (x, NameKind.free) ∈ scope.names)
    (hμ : muOk X.N X.env.scope N (relabel scope X.env) μ = true)
    (hg : ∀ C s H, PG (cxComp X N scope (clos X.env.cells scope.names []) C fp s H) tg g) (ht : ∀ C s H, PTs (cxComp X N scope (clos X.env.cells scope.names []) C fp s H) ifs tt) (he : ∀ C s H, PE (cxComp X N scope (clos X.env.cells scope.names []) C fp s H) elt te)
    (hW : compW μ g tt te σ Q J H2)
    (hRR : ∀ p C s' H' m, Inv X pins σ H' s' → s'.heap.Ns C m → FpOk X pins H' C → Q (.ref p) H' → RR (.ref p) C (.ok .next) s') :
    wpAny (model X.prog X.w) X.A (newList []) (fun acc s₃ => wpAny (model X.prog X.w) X.A (newFunctionEnv scope X.env.globals (clos X.env.cells scope.names []) [] X.env.qual none .none (some X.env)) (fun cenv s₄ =>
      codeAny (model X.prog X.w) X.A (.compStart (.ListComp elt [⟨tg, iter, ifs, 0⟩] scope pos) 0 (.ref it) acc { cenv with scope := relabel scope X.env }) (RR acc cenv.locals) s₄) X.xe s₃) X.xe s2 := by
  refine wpAny_newObj_type (wpAny_newFunctionEnv hcell (by intro y hy; simp at hy) (fun h₁ hns₁ hsb₁ => ?_) hkind)
  dsimp only at hns₁ hsb₁ ⊢
  generalize hH2 : s2.heap.push { cls := .type "list", dict := none, data := .seq ([] : List Value).toArray } = G at hns₁ hsb₁ ⊢
  have hC : G.objs.size = s2.heap.objs.size + 1 := by rw [← hH2, Heap.size_push]
  have hDC : s2.heap.objs.size ≠ G.objs.size := by rw [hC]; exact Nat.ne_of_lt (Nat.lt_succ_self _)
  have hCle : s2.heap.objs.size ≤ G.objs.size := by rw [hC]; exact Nat.le_succ _
  have below : ∀ b, b < s2.heap.objs.size → b ≠ G.objs.size ∧ b ≠ s2.heap.objs.size := fun b hb => ⟨by rw [hC]; exact Nat.ne_of_lt (Nat.lt_succ_of_lt hb), Nat.ne_of_lt hb⟩
  have old : ∀ b o, s2.heap.get? b = some o → h₁.get? b = some o := fun b o e => hsb₁.extBut b o (below b (Heap.lt_size e)).1 (Heap.get?_push_of_some _ (hH2 ▸ Heap.get?_push_of_some _ e))
  have hobj : h₁.get? s2.heap.objs.size = some { cls := .type "list", dict := none, data := .seq ([] : List Value).toArray } := hsb₁.extBut _ _ hDC (Heap.get?_push_of_some _ (hH2 ▸ Heap.get?_push_size _ rfl))
  have hclin : ∀ x c, (clos X.env.cells scope.names []).lookup x = some c → X.env.cells.lookup x = some c := fun x c h => clos_in hfr (fun _ _ z => by simp at z) h
  have cellt : ∀ x c, (clos X.env.cells scope.names []).lookup x = some c → c < s2.heap.objs.size := fun x c h => by
    obtain ⟨v, o, ho, _⟩ := I2.cell x c (hclin x c h)
    exact Heap.lt_size ho
  have fplt : ∀ b ∈ fp, b < s2.heap.objs.size := fun b hb => by
    obtain ⟨o, ho, _⟩ := T.obj 0 _ st2 b hb
    exact Heap.lt_size ho
  have Hn : ∀ a, s2.heap.objs.size ≤ a → H2 a = none := fun a ha => I2.hok.fresh ha
  obtain ⟨W, ⟨m0, w0⟩, turn⟩ := hW s2.heap.objs.size (Hn _ (Nat.le_refl _))
  have okc : (cxComp X N scope (clos X.env.cells scope.names []) G.objs.size fp s2 H2).Ok := by
    refine ⟨I2.ok.mod, by show (relabel scope X.env).kind = _; exact hkind, I2.ok.glob, I2.ok.blt, hCle, fun x y c h1 h2 => ?_, fun x hx => ?_, fun _ _ z => (by cases z), I2.ok.hd, I2.ok.frames, .inl rfl, fun b hb => ⟨?_, fun x c h z => ?_⟩, I2.bs, Nat.le_trans I2.ok.bsz I2.sz, fun b o e hb => ?_, fun b hb z => ?_, I2.stack, I2.stkFree⟩
    · exact I2.ok.inj x y c (hclin x c h1) (hclin y c h2)
    · exact clos_has (hhas x hx)
    · exact (below b (fplt b hb)).1
    · exact (f2 b hb).2.2.2.2.1 x c (hclin x c h) z
    · rcases (f2 b hb).2.2.2.1 with z | z
      · exact I2.ok.noex b o e z
      · exact absurd (Nat.lt_of_lt_of_le (Heap.lt_size e) (Nat.le_trans I2.ok.bsz z)) (Nat.lt_irrefl _)
    · rcases List.mem_cons.mp (I2.stkSub b z) with e | e
      · exact (f2 b hb).2.1 e
      · exact (f2 b hb).2.2.1 e
  have Hfree : ∀ b, b ≠ s2.heap.objs.size → H2 b = none → (upd H2 s2.heap.objs.size (.lst [])) b = none := fun b h1 h2 => by rw [upd_ne h1]; exact h2
  have I3 : Inv (cxComp X N scope (clos X.env.cells scope.names []) G.objs.size fp s2 H2) [] (inner μ σ) (upd H2 s2.heap.objs.size (.lst [])) { s2 with heap := h₁, toks := s2.toks + ([] : List (Str × Value)).length } := by
    refine ⟨okc, rfl, I2.bare, Un.laid old (Nat.le_refl _) (Hn _ (Nat.le_refl _)), ⟨_, hns₁, fun i x v e1 e2 e3 => ?_⟩, fun x c h => ?_, Hfree _ hDC.symm (Hn _ hCle), fun x c h => Hfree _ (below c (cellt x c h)).2 (I2.freeC x c (hclin x c h)), fun p hp => absurd (show p ∈ ([] : List (Addr × Obj)) from hp) (by simp), I2.hok.laid old (Nat.le_refl _) ⟨by decide, [], 0, .nil, hobj⟩, ?_⟩
    · have e1' : N[i]? = some x := e1
      have e2' : (μ.map fun o => o.bind fun j => (σ[j]?).join)[i]? = some (some v) := e2
      rw [List.getElem?_map] at e2'
      cases q : μ[i]? with
      | none => rw [q] at e2'; cases e2'
      | some o =>
        rw [q] at e2'
        cases o with
        | none => cases e2'
        | some j =>
          have e4 : (σ[j]?).join = some v := Option.some.inj e2'
          have e5 : σ[j]? = some (some v) := by
            cases z : σ[j]? with
            | none => rw [z] at e4; cases e4
            | some y => rw [z] at e4; cases y with
              | none => cases e4
              | some y => rw [show y = v from Option.some.inj e4]
          obtain ⟨a1, a2, a3⟩ := muOk.get hμ q e1'
          obtain ⟨m, hn, hl⟩ := I2.loc
          obtain ⟨u, r, l⟩ := hl j x v a1 e5 (.inr (.inl a2))
          refine ⟨u, r, ?_⟩
          rcases l with ⟨k, _⟩ | ⟨_, c, hcc, hce⟩
          · exact absurd ((show X.env.scope.names.lookup x = some .local from k).symm.trans a2) (by intro z; cases z)
          · obtain ⟨c', hc'⟩ : ∃ c, (clos X.env.cells scope.names []).lookup x = some c := clos_has (hhas x a3)
            have ec : c' = c := Option.some.inj ((hclin x c' hc').symm.trans hcc)
            subst ec
            exact .inr ⟨a3, c', hc', hce.keeps old⟩
    · obtain ⟨v, z⟩ := I2.cell x c (hclin x c h)
      exact ⟨v, z.keeps old⟩
    · show (μ.map _).length = N.length
      rw [List.length_map]
      have q := hμ
      unfold muOk at q
      rw [Bool.and_eq_true] at q
      exact of_decide_eq_true q.1
  have fin : ∀ {σ' : St} {H' : Hp} {s' : Shared}, Inv (cxComp X N scope (clos X.env.cells scope.names []) G.objs.size fp s2 H2) [] σ' H' s' → Q (.ref s2.heap.objs.size) H' → RR (.ref s2.heap.objs.size) G.objs.size (.ok .next) s' := fun {σ' H' s'} I4 q => by
    have I5 : Inv X pins σ H' s' := I2.call' (ch := fp) I4.os I4.base I4.hok I4.bare fun b hb => ⟨(f2 b hb).2.2.2.1, (f2 b hb).2.1, (f2 b hb).2.2.2.2.1, (f2 b hb).2.2.2.2.2⟩
    obtain ⟨m, hn, _⟩ := I4.loc
    have hn' : s'.heap.Ns G.objs.size m := hn
    refine hRR _ _ s' H' m I5 hn' ⟨I4.free, Nat.ne_of_gt (Nat.lt_of_lt_of_le I2.lt hCle), I2.nofs hCle, .inr (Nat.le_trans I2.sz hCle), fun x c h z => ?_, fun p hp z => ?_⟩ q
    · obtain ⟨v, o, ho, _⟩ := I2.cell x c h
      exact (below c (Heap.lt_size ho)).1 z
    · exact (below p.1 (Heap.lt_size (I2.pin p hp).1)).1 z
  have stat : ∀ {H' : Hp}, (∀ b ∈ fp, H' b = none) → ∀ b ∈ fp, FpOk (cxComp X N scope (clos X.env.cells scope.names []) G.objs.size fp s2 H2) [] H' b := fun {H'} hn b hb => by
    refine ⟨hn b hb, (below b (fplt b hb)).1, fun z => ?_, .inl hb, fun x c h z => (f2 b hb).2.2.2.2.1 x c (hclin x c h) z, fun p hp => absurd (show p ∈ ([] : List (Addr × Obj)) from hp) (by simp)⟩
    exact okc.exfs b hb z
  have loop : codeAny (model X.prog X.w) X.A (.compLoop (.ListComp elt [⟨tg, iter, ifs, 0⟩] scope pos) 0 (.ref it) (.ref s2.heap.objs.size) (compEnvC scope (clos X.env.cells scope.names []) G.objs.size X.env))
      (RR (.ref s2.heap.objs.size) G.objs.size) { s2 with heap := h₁, toks := s2.toks + ([] : List (Str × Value)).length } := by
    refine compLoop_go (fun n s' => ∃ i σ' H', Inv (cxComp X N scope (clos X.env.cells scope.names []) G.objs.size fp s2 H2) [] σ' H' s' ∧ tn i s'.heap ∧ (∀ b ∈ fp, H' b = none) ∧ W i n σ' H') ?_ m0
      ⟨0, inner μ σ, _, I3, T.keep _ _ _ st2 (fun b hb o e => old b o e), fun b hb => Hfree b (below b (fplt b hb)).2 (f2 b hb).1, w0⟩
    rintro n s3 ⟨i, σ3, H3, I3, st3, fr3, w3⟩
    rcases turn i n σ3 H3 w3 with ⟨stop, qn⟩ | ⟨go, Nn, hN, step⟩
    · refine thn (T.done (cxComp X N scope (clos X.env.cells scope.names []) G.objs.size fp s2 H2) rfl rfl rfl hc i [] s3 σ3 H3 _ I3 (stat fr3) st3 stop) fun r s4 ⟨hr, I4⟩ => ?_
      subst hr
      exact fin I4 qn
    · refine thn (T.item (cxComp X N scope (clos X.env.cells scope.names []) G.objs.size fp s2 H2) rfl rfl rfl hc i [] s3 σ3 H3 _ I3 (stat fr3) st3 go) fun r s4 ⟨u, hr, h4⟩ => ?_
      subst hr
      refine thn h4 fun _ s5 hw' => ?_
      obtain ⟨x, H5, I5, r5, y5, st5, fr5⟩ := hw'
      have I5' := I5.pinned (stat fr5) (T.obj _ _ st5)
      have again : ∀ {σ7 : St} {H7 : Hp} {s7 : Shared}, Inv (cxComp X N scope (clos X.env.cells scope.names []) G.objs.size fp s2 H2) ([] ++ pinsAt fp s5.heap) σ7 H7 s7 → Nn σ7 H7 →
          ∃ m, m < n ∧ ∃ i σ' H', Inv (cxComp X N scope (clos X.env.cells scope.names []) G.objs.size fp s2 H2) [] σ' H' s7 ∧ tn i s7.heap ∧ (∀ b ∈ fp, H' b = none) ∧ W i m σ' H' := fun {σ7 H7 s7} I7 n7 => by
        obtain ⟨m', hm, w7⟩ := hN σ7 H7 n7
        refine ⟨m', hm, i + 1, σ7, H7, I7.unpinned, T.keep _ _ _ st5 fun b hb o e => (I7.pin (b, o) (List.mem_append_right _ (List.mem_append_right _ (mem_pinsAt hb e)))).1, fun b hb => ?_, w7⟩
        obtain ⟨o, e, d⟩ := T.obj _ _ st5 b hb
        exact (I7.pin (b, o) (List.mem_append_right _ (List.mem_append_right _ (mem_pinsAt hb e)))).2.1
      refine thn (hg G.objs.size s2 H2 _ s5 σ3 H5 x u _ I5' r5 (step x H5 y5)) fun _ s6 hw' => ?_
      obtain ⟨σ6, H6, I6, q6⟩ := hw'
      refine thn (ht G.objs.size s2 H2 _ s6 σ6 H6 _ I6 q6) fun ok s7 ⟨H7, I7, q7⟩ => ?_
      cases ok with
      | false =>
        rw [if_neg (by decide)] at q7 ⊢
        exact again I7 q7
      | true =>
        rw [if_pos rfl] at q7 ⊢
        refine thn (he G.objs.size s2 H2 _ s7 σ6 H7 _ I7 q7) fun u8 s8 hw' => ?_
        obtain ⟨y, H8, I8, r8, ys, e8, l8, q8⟩ := hw'
        have ma := mt_append (X := cxComp X N scope (clos X.env.cells scope.names []) G.objs.size fp s2 H2) _ s8 σ6 H8 (.ref s2.heap.objs.size) [y] (.ref s2.heap.objs.size) [u8]
          (fun _ H9 => Nn σ6 H9) I8 rfl (.cons r8 .nil) ⟨_, ys, y, rfl, rfl, e8, l8, q8⟩
        exact thn ma fun _ s9 ⟨_, H9, I9, _, q9⟩ => again I9 q9
  exact codeAny_compStart_list loop (T.self _ 0 _ _ _ (T.keep _ _ _ st2 (fun b hb o e => old b o e)) loop)
theorem pe_comp {wi : TI} (hc : X.calm = true) (hcell : ∀ y ∈ scope.names, y.2 ≠ .cell) (hkind : scope.kind = .function) (hnames : ∀ y ∈ scope.names, y.2 = .local → scope.names.lookup y.1 = some .local)
    (hfree : ∀ y ∈ scope.names, y.2 = .free → X.env.kindOf y.1 = some .cell ∨ X.env.kindOf y.1 = some .free)
    (hhas : ∀ x, ((relabel scope X.env).names.lookup x = some .cell ∨ (relabel scope X.env).names.lookup x = some .free) → (x, NameKind.free) ∈ scope.names)
    (hμ : muOk X.N X.env.scope N (relabel scope X.env) μ = true) (hi : PI X tg iter wi)
    (hg : ∀ fp C s H, PG (cxComp X N scope (clos X.env.cells scope.names []) C fp s H) tg g) (ht : ∀ fp C s H, PTs (cxComp X N scope (clos X.env.cells scope.names []) C fp s H) ifs tt) (he : ∀ fp C s H, PE (cxComp X N scope (clos X.env.cells scope.names []) C fp s H) elt te)
    (hs : ∀ x, foldedSetIterable iter X.env x = pure x := by intro _; rfl) : PE X (.ListComp elt [⟨tg, iter, ifs, 0⟩] scope pos) (tComp μ wi g tt te) := by
  intro pins s σ H Q I h
  have hfr : ∀ y ∈ scope.names, y.2 = .free → ∃ c, X.env.cells.lookup y.1 = some c := fun y hy hk => I.ok.has y.1 (hfree y hy hk)
  rw [eval_ListComp]
  refine wpAny_comprehension_free (use := none) rfl hs (closure_of hfr) hkind hnames (thn (hi pins s σ H _ I h) fun v s1 h1 => thn h1 fun itv s2 h2 => ?_)
  obtain ⟨it, fp, tn, J, H2, rfl, I2, T, st2, f2, W⟩ := h2
  refine comp_core (RR := fun acc C => compPost (model X.prog X.w) X.A X.xe none (EP X pins σ Q) acc C) I2 T st2 f2 hc hcell hkind hfr hhas hμ (hg fp) (ht fp) (he fp) W ?_
  intro p C s' H' m I' hn fc q
  exact ⟨m, hn, fun h' hsb => ⟨.ref p, H', I'.turned (t' := s'.toks) (fun b o ne e => (hsb.2 b ne).trans e) fc.1 (Ne.symm fc.2.1).symm fc.2.2.2.1 fc.2.2.2.2.1 fc.2.2.2.2.2, rfl, q⟩⟩
end
end L2
set_option Elab.async false
set_option linter.all false
set_option maxRecDepth 100000
set_option genSizeOf false
set_option bootstrap.genMatcherCode false
namespace DL
open PySem PySem.Spec PyProof.Rows L2
abbrev St := L2.St
inductive D where
  | non | bl (b : Bool) | int (i : Int) | str (x : Str) | tup (xs : List D) | lst (xs : List D) | scr (ns : List Int) | obj (n : Nat)
mutual
def Is (K : PySem.W.Frag) (α : List Addr) (F : Hp) : D → V → Prop
  | .non, v => v = .non
  | .bl b, v => v = .bl b
  | .int i, v => v = .int i
  | .str x, v => v = .str x
  | .tup xs, v => ∃ a vs, v = .ref a ∧ F a = some (.tup vs) ∧ IsL K α F xs vs
  | .lst xs, v => ∃ a vs, v = .ref a ∧ F a = some (.lst vs) ∧ IsL K α F xs vs
  | .scr ns, v => ∃ a, v = .ref a ∧ SqL K F a (ns.map V.int)
  | .obj n, v => ∃ a, α[n]? = some a ∧ v = .ref a
def IsL (K : PySem.W.Frag) (α : List Addr) (F : Hp) : List D → List V → Prop
  | [], vs => vs = []
  | d :: ds, vs => ∃ v r, vs = v :: r ∧ Is K α F d v ∧ IsL K α F ds r
end
section
variable {K : PySem.W.Frag} {α α' : List Addr} {F F' : Hp}
mutual
theorem Is.mono (ff : Same F F') (al : ∃ more, α' = α ++ more) : ∀ (d : D) {v : V}, Is K α F d v → Is K α' F' d v
  | .non, _, h => by rw [Is] at h ⊢; exact h
  | .bl _, _, h => by rw [Is] at h ⊢; exact h
  | .int _, _, h => by rw [Is] at h ⊢; exact h
  | .str _, _, h => by rw [Is] at h ⊢; exact h
  | .tup xs, _, h => by
    rw [Is] at h ⊢
    obtain ⟨a, vs, e, q, r⟩ := h
    exact ⟨a, vs, e, ff _ _ q, IsL.mono ff al xs r⟩
  | .lst xs, _, h => by
    rw [Is] at h ⊢
    obtain ⟨a, vs, e, q, r⟩ := h
    exact ⟨a, vs, e, ff _ _ q, IsL.mono ff al xs r⟩
  | .scr ns, _, h => by
    rw [Is] at h ⊢
    obtain ⟨a, e, q⟩ := h
    exact ⟨a, e, ff.seq q⟩
  | .obj n, _, h => by
    rw [Is] at h ⊢
    obtain ⟨a, e, q⟩ := h
    obtain ⟨more, rfl⟩ := al
    refine ⟨a, ?_, q⟩
    rw [List.getElem?_append_left (List.getElem?_eq_some_iff.mp e).1]
    exact e
theorem IsL.mono (ff : Same F F') (al : ∃ more, α' = α ++ more) : ∀ (ds : List D) {vs : List V}, IsL K α F ds vs → IsL K α' F' ds vs
  | [], _, h => by rw [IsL] at h ⊢; exact h
  | d :: ds, _, h => by
    rw [IsL] at h ⊢
    obtain ⟨v, r, e, h1, h2⟩ := h
    exact ⟨v, r, e, Is.mono ff al d h1, IsL.mono ff al ds h2⟩
end
theorem IsL.nil : IsL K α F [] [] := by rw [IsL]
theorem IsL.cons {d : D} {v : V} {ds : List D} {vs : List V} (h : Is K α F d v) (r : IsL K α F ds vs) : IsL K α F (d :: ds) (v :: vs) := by rw [IsL]; exact ⟨v, vs, rfl, h, r⟩
theorem IsL.of_nil {vs : List V} (h : IsL K α F [] vs) : vs = [] := by rw [IsL] at h; exact h
theorem IsL.of_cons {d : D} {ds : List D} {vs : List V} (h : IsL K α F (d :: ds) vs) : ∃ v r, vs = v :: r ∧ Is K α F d v ∧ IsL K α F ds r := by rw [IsL] at h; exact h
theorem IsL.length : ∀ {ds : List D} {vs : List V}, IsL K α F ds vs → ds.length = vs.length
  | [], vs, h => by rw [h.of_nil]; rfl
  | d :: ds, vs, h => by
    obtain ⟨v, r, rfl, _, t⟩ := h.of_cons
    rw [List.length_cons, List.length_cons, t.length]
theorem IsL.append : ∀ {ds es : List D} {vs us : List V}, IsL K α F ds vs → IsL K α F es us → IsL K α F (ds ++ es) (vs ++ us)
  | [], _, _, _, h, q => by rw [h.of_nil]; exact q
  | d :: ds, es, vs, us, h, q => by
    obtain ⟨v, r, rfl, h1, t⟩ := h.of_cons
    exact .cons h1 (t.append q)
theorem IsL.take : ∀ {ds : List D} {vs : List V} (n : Nat), IsL K α F ds vs → IsL K α F (ds.take n) (vs.take n)
  | [], _, n, h => by rw [h.of_nil, List.take_nil, List.take_nil]; exact .nil
  | d :: ds, vs, 0, h => by rw [List.take_zero, List.take_zero]; exact .nil
  | d :: ds, vs, n + 1, h => by
    obtain ⟨v, r, rfl, h1, t⟩ := h.of_cons
    exact .cons h1 (t.take n)
theorem IsL.drop : ∀ {ds : List D} {vs : List V} (n : Nat), IsL K α F ds vs → IsL K α F (ds.drop n) (vs.drop n)
  | [], _, n, h => by rw [h.of_nil, List.drop_nil, List.drop_nil]; exact .nil
  | d :: ds, vs, 0, h => h
  | d :: ds, vs, n + 1, h => by
    obtain ⟨v, r, rfl, h1, t⟩ := h.of_cons
    exact t.drop n
theorem IsL.get : ∀ {ds : List D} {vs : List V} {i : Nat} {d : D}, IsL K α F ds vs → ds[i]? = some d → ∃ v, vs[i]? = some v ∧ Is K α F d v
  | [], _, _, _, _, e => by simp at e
  | d :: ds, vs, 0, x, h, e => by
    obtain ⟨v, r, rfl, h1, t⟩ := h.of_cons
    rw [List.getElem?_cons_zero] at e
    cases e
    exact ⟨v, rfl, h1⟩
  | d :: ds, vs, i + 1, x, h, e => by
    obtain ⟨v, r, rfl, h1, t⟩ := h.of_cons
    rw [List.getElem?_cons_succ] at e
    obtain ⟨u, e1, q⟩ := t.get e
    exact ⟨u, by rw [List.getElem?_cons_succ]; exact e1, q⟩
theorem IsL.rep {ds : List D} {vs : List V} (h : IsL K α F ds vs) : ∀ n : Nat, IsL K α F (List.replicate n ds).flatten (List.replicate n vs).flatten
  | 0 => .nil
  | n + 1 => by
    rw [List.replicate_succ, List.replicate_succ, List.flatten_cons, List.flatten_cons]
    exact h.append (h.rep n)
theorem IsL.ints : ∀ (ns : List Int), IsL K α F (ns.map D.int) (ns.map V.int)
  | [] => .nil
  | n :: ns => .cons (by rw [Is]) (IsL.ints ns)
end
structure E4 where
  α : List Addr
  F : Hp
  A : Addr → Prop
  H : Hp
structure Ext (e e' : E4) : Prop where
  fz : ∀ b o u, e.H b = some (.frz o u) → e'.H b = some (.frz o u)
  hk : ∀ b o, e.H b = some o → ¬ e.A b → e'.H b = some o
  dm : ∀ b o, e.H b = some o → ∃ o', e'.H b = some o'
  ff : Same e.F e'.F
  fn : ∀ b o, e'.F b = some o → e.F b = some o ∨ e.H b = none ∨ ((∃ xs, o = .tup xs) ∧ e.H b = some o ∧ ¬ e.A b)
  an : ∀ b, e'.A b → e.A b ∨ e.H b = none
  aa : ∀ b, e.A b → e'.A b
  al : ∃ more, e'.α = e.α ++ more
theorem Ext.refl (e : E4) : Ext e e := ⟨fun _ _ _ h => h, fun _ _ h _ => h, fun _ o h => ⟨o, h⟩, Same.refl _, fun _ _ h => .inl h, fun _ h => .inl h, fun _ h => h, [], by simp⟩
theorem Ext.back {e e' : E4} (x : Ext e e') {b : Addr} (h : e'.H b = none) : e.H b = none := by
  cases q : e.H b with
  | none => rfl
  | some o => obtain ⟨o', z⟩ := x.dm b o q; rw [h] at z; cases z
theorem Ext.trans {a b c : E4} (x : Ext a b) (y : Ext b c) : Ext a c := by
  refine ⟨fun p o u h => y.fz p o u (x.fz p o u h), fun p o h hn => y.hk p o (x.hk p o h hn) fun z => ?_, fun p o h => ?_, x.ff.trans y.ff, fun p o h => ?_, fun p h => ?_, fun p h => y.aa p (x.aa p h), ?_⟩
  · rcases x.an p z with q | q
    · exact hn q
    · rw [q] at h; cases h
  · obtain ⟨o', h'⟩ := x.dm p o h
    exact y.dm p o' h'
  · rcases y.fn p o h with q | q | ⟨q1, q2, q3⟩
    · exact x.fn p o q
    · exact .inr (.inl (x.back q))
    · have n : ¬ a.A p := fun z => q3 (x.aa p z)
      cases z : a.H p with
      | none => exact .inr (.inl rfl)
      | some o' =>
        have z' := x.hk p o' z n
        rw [q2] at z'
        cases z'
        exact .inr (.inr ⟨q1, rfl, n⟩)
  · rcases y.an p h with q | q
    · exact x.an p q
    · exact .inr (x.back q)
  · obtain ⟨m, e1⟩ := x.al
    obtain ⟨n, e2⟩ := y.al
    exact ⟨m ++ n, by rw [e2, e1, List.append_assoc]⟩
theorem Ext.keepOwn {e e' : E4} (x : Ext e e') {a : Addr} {vs : List V} (h : e.H a = some (.lst vs)) (hF : e.F a = none) (hA : ¬ e.A a) : e'.H a = some (.lst vs) ∧ e'.F a = none ∧ ¬ e'.A a := by
  refine ⟨x.hk a _ h hA, ?_, fun z => ?_⟩
  · cases z : e'.F a with
    | none => rfl
    | some o =>
      rcases x.fn a o z with y | y | ⟨⟨xs, rfl⟩, y, _⟩
      · rw [hF] at y; cases y
      · rw [h] at y; cases y
      · rw [h] at y; cases y
  · rcases x.an a z with y | y
    · exact hA y
    · rw [h] at y; cases y
inductive OS where
  | mls (xs : List D) | dead | exc (c : Str) | ins (c : Str) (fs : List (Str × D)) | fzK (kvs : List (Key × D)) | dK (kvs : List (Key × D)) | dT (kvs : List (List Key × D))
def PsIs (K : PySem.W.Frag) (α : List Addr) (F : Hp) {κ : Type} : List (κ × D) → List (κ × V) → Prop
  | [], vs => vs = []
  | p :: r, vs => ∃ v t, vs = (p.1, v) :: t ∧ Is K α F p.2 v ∧ PsIs K α F r t
theorem PsIs.mono {K : PySem.W.Frag} {α α' : List Addr} {F F' : Hp} {κ : Type} (ff : Same F F') (al : ∃ more, α' = α ++ more) : ∀ {ps : List (κ × D)} {vs : List (κ × V)}, PsIs K α F ps vs → PsIs K α' F' ps vs
  | [], _, h => h
  | p :: r, _, ⟨v, t, e, i, q⟩ => ⟨v, t, e, Is.mono ff al _ i, PsIs.mono ff al q⟩
abbrev Cl := Str → Option Addr
def OSIs (K : PySem.W.Frag) (C : Cl) (e : E4) (a : Addr) : OS → Prop
  | .mls xs => ∃ vs, e.H a = some (.lst vs) ∧ IsL K e.α e.F xs vs
  | .dead => True
  | .exc c => ∃ Ca ob u, C c = some Ca ∧ e.H a = some (.frz ob u) ∧ ob.cls = .ref Ca
  | .ins c fs => ∃ Ca dx fvs, C c = some Ca ∧ e.H a = some (.ins Ca dx fvs) ∧ PsIs K e.α e.F fs fvs
  | .fzK kvs => ∃ vs o, e.H a = some (.frz o (.dK vs)) ∧ PsIs K e.α e.F kvs vs
  | .dK kvs => ∃ vs, e.H a = some (.dK vs) ∧ PsIs K e.α e.F kvs vs
  | .dT kvs => ∃ vs, e.H a = some (.dT vs) ∧ PsIs K e.α e.F kvs vs
structure Wf (K : PySem.W.Frag) (C : Cl) (e : E4) (Ω : List OS) : Prop where
  fh : Same e.F e.H
  fa : ∀ b, e.A b → e.F b = none
  ah : ∀ b, e.A b → e.H b ≠ none ∧ ∀ xs, e.H b ≠ some (.tup xs)
  ol : e.α.length = Ω.length
  nd : e.α.Nodup
  ob : ∀ (n : Nat) (a : Addr) (o : OS), e.α[n]? = some a → Ω[n]? = some o → e.A a ∧ OSIs K C e a o
section
variable {K : PySem.W.Frag} {C : Cl} {e e' : E4} {Ω Ω' : List OS}
theorem Is.ext (x : Ext e e') {d : D} {v : V} (h : Is K e.α e.F d v) : Is K e'.α e'.F d v := Is.mono x.ff x.al d h
theorem IsL.ext (x : Ext e e') {d : List D} {v : List V} (h : IsL K e.α e.F d v) : IsL K e'.α e'.F d v := IsL.mono x.ff x.al d h
def E4.new (e : E4) (p : Addr) (o : HO) : E4 := ⟨e.α, upd e.F p o, e.A, upd e.H p o⟩
theorem Wf.nF (w : Wf K C e Ω) {p : Addr} (hp : e.H p = none) : e.F p = none := by
  cases q : e.F p with
  | none => rfl
  | some o => rw [w.fh p o q] at hp; cases hp
theorem Wf.new_ext (w : Wf K C e Ω) {p : Addr} {o : HO} (hp : e.H p = none) : Ext e (e.new p o) := by
  refine ⟨fun b o' u h => ?_, fun b u h _ => ?_, fun b u h => ⟨u, ?_⟩, fun b u h => ?_, fun b u h => ?_, fun b h => .inl h, fun b h => h, [], by simp [E4.new]⟩
  · show upd e.H p o b = some (.frz o' u); rw [upd_ne (ne_of_none h hp)]; exact h
  · show upd e.H p o b = some u; rw [upd_ne (ne_of_none h hp)]; exact h
  · show upd e.H p o b = some u; rw [upd_ne (ne_of_none h hp)]; exact h
  · show upd e.F p o b = some u; rw [upd_ne (ne_of_none h (w.nF hp))]; exact h
  · have h : upd e.F p o b = some u := h
    by_cases hb : b = p
    · subst hb; exact .inr (.inl hp)
    · rw [upd_ne hb] at h; exact .inl h
theorem OSIs.keep {a : Addr} {o : OS} (h : OSIs K C e a o) (hH : ∀ u, e.H a = some u → e'.H a = some u) (ff : Same e.F e'.F) (al : ∃ more, e'.α = e.α ++ more) : OSIs K C e' a o := by
  cases o with
  | mls xs => obtain ⟨vs, h1, h2⟩ := h; exact ⟨vs, hH _ h1, IsL.mono ff al xs h2⟩
  | dead => trivial
  | exc c => obtain ⟨Ca, ob, u, h1, h2, h3⟩ := h; exact ⟨Ca, ob, u, h1, hH _ h2, h3⟩
  | ins c fs => obtain ⟨Ca, dx, fvs, h1, h2, h3⟩ := h; exact ⟨Ca, dx, fvs, h1, hH _ h2, h3.mono ff al⟩
  | fzK kvs => obtain ⟨vs, ob, h1, h2⟩ := h; exact ⟨vs, ob, hH _ h1, h2.mono ff al⟩
  | dK kvs => obtain ⟨vs, h1, h2⟩ := h; exact ⟨vs, hH _ h1, h2.mono ff al⟩
  | dT kvs => obtain ⟨vs, h1, h2⟩ := h; exact ⟨vs, hH _ h1, h2.mono ff al⟩
theorem Wf.new (w : Wf K C e Ω) {p : Addr} {o : HO} (hp : e.H p = none) : Wf K C (e.new p o) Ω := by
  have x : Ext e (e.new p o) := w.new_ext hp
  have ne : ∀ b, e.A b → b ≠ p := fun b h z => by subst z; exact (w.ah b h).1 hp
  refine ⟨fun b u h => ?_, fun b h => ?_, fun b h => ?_, w.ol, w.nd, fun n a u h1 h2 => ⟨(w.ob n a u h1 h2).1, (w.ob n a u h1 h2).2.keep (fun v hv => ?_) x.ff x.al⟩⟩
  · have h : upd e.F p o b = some u := h
    show upd e.H p o b = some u
    by_cases hb : b = p
    · subst hb; rw [upd_same] at h ⊢; exact h
    · rw [upd_ne hb] at h ⊢; exact w.fh b u h
  · show upd e.F p o b = none
    rw [upd_ne (ne b h)]; exact w.fa b h
  · show upd e.H p o b ≠ none ∧ ∀ xs, upd e.H p o b ≠ some (.tup xs)
    rw [upd_ne (ne b h)]; exact w.ah b h
  · show upd e.H p o a = some v
    rw [upd_ne (ne a (w.ob n a u h1 h2).1)]; exact hv
end
inductive Sl where
  | und | dat (d : D) | own (xs : List D)
structure RelE (K : PySem.W.Frag) (e : E4) (σ : St) (ρ : List Sl) : Prop where
  len : σ.length = ρ.length
  dat : ∀ (i : Nat) (d : D), ρ[i]? = some (.dat d) → ∃ v, σ[i]? = some (some v) ∧ Is K e.α e.F d v
  own : ∀ (i : Nat) (ds : List D), ρ[i]? = some (.own ds) → ∃ a vs, σ[i]? = some (some (.ref a)) ∧ e.H a = some (.lst vs) ∧ IsL K e.α e.F ds vs ∧ e.F a = none ∧ ¬ e.A a
  sep : ∀ (i j : Nat) (ds es : List D) (a : Addr), ρ[i]? = some (.own ds) → ρ[j]? = some (.own es) → σ[i]? = some (some (.ref a)) → σ[j]? = some (some (.ref a)) → i = j
section
variable {K : PySem.W.Frag} {C : Cl} {e e' e₀ : E4} {Ω Ω' : List OS} {σ : St} {ρ : List Sl}
theorem RelE.ext (r : RelE K e σ ρ) (x : Ext e e') : RelE K e' σ ρ := by
  refine ⟨r.len, fun i d h => ?_, fun i ds h => ?_, r.sep⟩
  · obtain ⟨v, e1, q⟩ := r.dat i d h
    exact ⟨v, e1, q.ext x⟩
  · obtain ⟨a, vs, e1, e2, q, n1, n2⟩ := r.own i ds h
    obtain ⟨z1, z2, z3⟩ := x.keepOwn e2 n1 n2
    exact ⟨a, vs, e1, z1, q.ext x, z2, z3⟩
theorem RelE.set (r : RelE K e σ ρ) (i : Nat) {d : D} {v : V} (h : Is K e.α e.F d v) : RelE K e (σ.set i (some v)) (ρ.set i (.dat d)) := by
  refine ⟨by simp [r.len], fun j d' hj => ?_, fun j ds hj => ?_, fun j k ds es a hj hk h1 h2 => ?_⟩
  · by_cases e1 : i = j
    · subst e1
      have hl : i < ρ.length := by
        have := (List.getElem?_eq_some_iff.mp hj).1
        simpa using this
      rw [List.getElem?_set_self hl] at hj
      cases hj
      exact ⟨v, List.getElem?_set_self (by rw [r.len]; exact hl), h⟩
    · rw [List.getElem?_set_ne e1] at hj ⊢
      exact r.dat j d' hj
  · by_cases e1 : i = j
    · subst e1
      have hl : i < ρ.length := by
        have := (List.getElem?_eq_some_iff.mp hj).1
        simpa using this
      rw [List.getElem?_set_self hl] at hj
      cases hj
    · rw [List.getElem?_set_ne e1] at hj ⊢
      exact r.own j ds hj
  · have ne : ∀ (j : Nat) (ds : List D), (ρ.set i (.dat d))[j]? = some (.own ds) → i ≠ j := fun j ds hj e1 => by
      subst e1
      have hl : i < ρ.length := by
        have := (List.getElem?_eq_some_iff.mp hj).1
        simpa using this
      rw [List.getElem?_set_self hl] at hj
      cases hj
    have n1 := ne j ds hj
    have n2 := ne k es hk
    rw [List.getElem?_set_ne n1] at hj h1
    rw [List.getElem?_set_ne n2] at hk h2
    exact r.sep j k ds es a hj hk h1 h2
end
abbrev Den := List Sl → List OS → Option (D × List OS)
abbrev TDen := List Sl → List OS → Option (Bool × List OS)
abbrev ADen := List Sl → List OS → Option (List D × List OS)
def tD (K : PySem.W.Frag) (C : Cl) (g : Den) : TE := fun σ H Q => ∃ e Ω ρ d Ω', e.H = H ∧ Wf K C e Ω ∧ RelE K e σ ρ ∧ g ρ Ω = some (d, Ω') ∧ ∀ v e', Ext e e' → Wf K C e' Ω' → Is K e'.α e'.F d v → Q v e'.H
def tDT (K : PySem.W.Frag) (C : Cl) (g : TDen) : TT := fun σ H Q => ∃ e Ω ρ b Ω', e.H = H ∧ Wf K C e Ω ∧ RelE K e σ ρ ∧ g ρ Ω = some (b, Ω') ∧ ∀ e', Ext e e' → Wf K C e' Ω' → Q b e'.H
def tDA (K : PySem.W.Frag) (C : Cl) (g : ADen) : TA := fun σ H Q => ∃ e Ω ρ ds Ω', e.H = H ∧ Wf K C e Ω ∧ RelE K e σ ρ ∧ g ρ Ω = some (ds, Ω') ∧ ∀ vs e', Ext e e' → Wf K C e' Ω' → IsL K e'.α e'.F ds vs → Q vs e'.H
def PD (X : Cx) (C : Cl) (x : Expr) (g : Den) : Prop := PE X x (tD X.K C g)
def PDT (X : Cx) (C : Cl) (x : Expr) (g : TDen) : Prop := PT X x (tDT X.K C g)
def PDW (X : Cx) (C : Cl) (x : Expr) (g : TDen) : Prop := PW X x (tDT X.K C g)
def PDA (X : Cx) (C : Cl) (xs : List Expr) (g : ADen) : Prop := PA X xs (tDA X.K C g)
section
variable {X : Cx} {C : Cl} {x : Expr}
theorem pe_imp {t t' : TE} (h : PE X x t) (i : ∀ σ H Q, t' σ H Q → t σ H Q) : PE X x t' := fun pins s σ H Q I hw => h pins s σ H Q I (i σ H Q hw)
theorem pt_imp {t t' : TT} (h : PT X x t) (i : ∀ σ H Q, t' σ H Q → t σ H Q) : PT X x t' := fun pins s σ H Q I hw => h pins s σ H Q I (i σ H Q hw)
theorem pw_imp {t t' : TT} (h : PW X x t) (i : ∀ σ H Q, t' σ H Q → t σ H Q) : PW X x t' := fun whole pins s σ H Q I hw => h whole pins s σ H Q I (i σ H Q hw)
theorem pa_imp {xs : List Expr} {t t' : TA} (h : PA X xs t) (i : ∀ σ H Q, t' σ H Q → t σ H Q) : PA X xs t' := fun pos pins s σ H Q I hw => h pos pins s σ H Q I (i σ H Q hw)
theorem ps_imp {st : Stmt} {t t' : TS} (h : PS X st t) (i : ∀ D σ H, t' D σ H → t D σ H) : PS X st t' := fun pins s σ H D I hw => h pins s σ H D I (i D σ H hw)
theorem pss_imp {st : List Stmt} {t t' : TS} (h : PSs X st t) (i : ∀ D σ H, t' D σ H → t D σ H) : PSs X st t' := fun pins s σ H D I hw => h pins s σ H D I (i D σ H hw)
def gVar (i : Nat) : Den := fun ρ Ω => match ρ[i]? with | some (.dat d) => some (d, Ω) | _ => none
theorem pd_var {i : Nat} (h : PE X x (tVar i)) : PD X C x (gVar i) := pe_imp h fun σ H Q hw' => by
  obtain ⟨e, Ω, ρ, d, Ω', eH, w, r, g, k⟩ := hw'
  subst eH
  unfold gVar at g
  cases q : ρ[i]? with
  | none => rw [q] at g; cases g
  | some s =>
    rw [q] at g
    cases s with
    | dat d' =>
      cases g
      obtain ⟨v, e1, i1⟩ := r.dat _ _ q
      exact ⟨v, e1, k v e (Ext.refl e) w i1⟩
    | und => cases g
    | own _ => cases g
def gC (d : D) : Den := fun _ Ω => some (d, Ω)
theorem pd_c {v : V} {d : D} (h : PE X x (tC v)) (hd : ∀ α F, Is X.K α F d v) : PD X C x (gC d) := pe_imp h fun σ H Q hw' => by
  obtain ⟨e, Ω, ρ, d', Ω', eH, w, r, g, k⟩ := hw'
  subst eH
  cases g
  exact k v e (Ext.refl e) w (hd _ _)
theorem pd_int {i : Int} {j pos} : PD X C (.Constant (.int i) j pos) (gC (.int i)) := pd_c pe_int fun _ _ => by rw [Is]
theorem pd_bl {b : Bool} {j pos} : PD X C (.Constant (.bool b) j pos) (gC (.bl b)) := pd_c pe_bl fun _ _ => by rw [Is]
theorem pd_non {j pos} : PD X C (.Constant .none j pos) (gC .non) := pd_c pe_non fun _ _ => by rw [Is]
theorem pd_globI {n : Str} {i : Int} {t : Tok} {pos : Pos} (hg : Gl X n) (hm : X.mg n = some (.int i t)) (hd : (n == ("__debug__" : Str)) = false := by decide) : PD X C (.Name n pos) (gC (.int i)) :=
  pd_c (pe_glob (v := .int i) hg hm ⟨t, rfl⟩ hd) fun _ _ => by rw [Is]
end
def OpD (X : Cx) (C : Cl) (f : Value → Value → Sem Value) (r : D → D → Option D) : Prop :=
  OpR X f fun x y H Q => ∃ e Ω d₁ d₂ z, e.H = H ∧ Wf X.K C e Ω ∧ Is X.K e.α e.F d₁ x ∧ Is X.K e.α e.F d₂ y ∧ r d₁ d₂ = some z ∧ ∀ v e', Ext e e' → Wf X.K C e' Ω → Is X.K e'.α e'.F z v → Q v e'.H
def gOp (r : D → D → Option D) (f g : Den) : Den := fun ρ Ω => match f ρ Ω with
  | some (x, Ω₁) => match g ρ Ω₁ with
    | some (y, Ω₂) => match r x y with
      | some z => some (z, Ω₂)
      | none => none
    | none => none
  | none => none
section
variable {X : Cx} {C : Cl} {a b : Expr} {f g : Den} {r : D → D → Option D} {pos : Pos}
theorem op_read {K : PySem.W.Frag} {r' : R2} (hr : ∀ x y H Q, (∃ e Ω d₁ d₂ z, e.H = H ∧ Wf K C e Ω ∧ Is K e.α e.F d₁ x ∧ Is K e.α e.F d₂ y ∧ r d₁ d₂ = some z ∧ ∀ v e', Ext e e' → Wf K C e' Ω → Is K e'.α e'.F z v → Q v e'.H) → r' x y H Q)
    {σ : St} {H : Hp} {Q : VK} (h : tD K C (gOp r f g) σ H Q) : tOp r' (tD K C f) (tD K C g) σ H Q := by
  obtain ⟨e, Ω, ρ, d, Ω', eH, w, rl, q, k⟩ := h
  unfold gOp at q
  cases q1 : f ρ Ω with
  | none => rw [q1] at q; cases q
  | some p1 =>
    obtain ⟨x, Ω₁⟩ := p1
    rw [q1] at q
    dsimp only at q
    cases q2 : g ρ Ω₁ with
    | none => rw [q2] at q; cases q
    | some p2 =>
      obtain ⟨y, Ω₂⟩ := p2
      rw [q2] at q
      dsimp only at q
      cases q3 : r x y with
      | none => rw [q3] at q; cases q
      | some z =>
        rw [q3] at q
        cases q
        refine ⟨e, Ω, ρ, x, Ω₁, eH, w, rl, q1, fun v e1 x1 w1 i1 => ?_⟩
        refine ⟨e1, Ω₁, ρ, y, _, rfl, w1, rl.ext x1, q2, fun u e2 x2 w2 i2 => ?_⟩
        exact hr v u e2.H Q ⟨e2, _, x, y, d, rfl, w2, i1.ext x2, i2, q3, fun v' e3 x3 w3 i3 => k v' e3 ((x1.trans x2).trans x3) w3 i3⟩
theorem pd_op {op : Operator} (ho : OpD X C (binaryOp op) r) (ha : PD X C a f) (hb : PD X C b g) : PD X C (.BinOp a op b pos) (gOp r f g) :=
  pe_imp (pe_op ho ha hb) fun σ H Q h => op_read (fun _ _ _ _ h => h) h
theorem pd_cmp {op : CmpOp} (ho : OpD X C (compareOp op) r) (ha : PD X C a f) (hb : PD X C b g) (hm : behindInMarks op b = false) : PD X C (.Compare a [op] [b] pos) (gOp r f g) :=
  pe_imp (pe_cmpR ho ha hb hm) fun σ H Q h => op_read (fun _ _ _ _ h => h) h
def gT (g : Den) : TDen := fun ρ Ω => match g ρ Ω with
  | some (.bl b, Ω') => some (b, Ω')
  | _ => none
theorem gT_read {K : PySem.W.Frag} {σ : St} {H : Hp} {Q : Bool → Hp → Prop} (h : tDT K C (gT g) σ H Q) : tD K C g σ H fun x H' => ∃ c, x = V.bl c ∧ Q c H' := by
  obtain ⟨e, Ω, ρ, b, Ω', eH, w, rl, q, k⟩ := h
  unfold gT at q
  cases q1 : g ρ Ω with
  | none => rw [q1] at q; cases q
  | some p1 =>
    obtain ⟨x, Ω₁⟩ := p1
    rw [q1] at q
    cases x with
    | bl c =>
      cases q
      refine ⟨e, Ω, ρ, _, _, eH, w, rl, q1, fun v e1 x1 w1 i1 => ?_⟩
      rw [Is] at i1
      exact ⟨b, i1, k e1 x1 w1⟩
    | _ => cases q
theorem pdt_cmp {op : CmpOp} (ho : OpD X C (compareOp op) r) (ha : PD X C a f) (hb : PD X C b g) (hm : behindInMarks op b = false) : PDT X C (.Compare a [op] [b] pos) (gT (gOp r f g)) :=
  pt_imp (pt_cmpR ho ha hb hm) fun σ H Q h => op_read (fun _ _ _ _ h => h) (gT_read h)
theorem pdt_val {x : Expr} (h : PD X C x g) (he : ∀ whole, isTrue x X.env whole = (do let v ← whole; standAt x.pos; holding [v] (truthy v)) := by intro _; rfl) : PDT X C x (gT g) :=
  pt_imp (pt_val h he) fun σ H Q h => gT_read h
def dI (c : Int → Int → Bool) (f : Int → Int → Int) : D → D → Option D
  | .int i, .int j => if c i j = true then some (.int (f i j)) else none
  | _, _ => none
def dB (f : Int → Int → Bool) : D → D → Option D
  | .int i, .int j => some (.bl (f i j))
  | _, _ => none
theorem dI_inv {c : Int → Int → Bool} {f : Int → Int → Int} {d₁ d₂ z : D} (h : dI c f d₁ d₂ = some z) : ∃ i j, d₁ = .int i ∧ d₂ = .int j ∧ c i j = true ∧ z = .int (f i j) := by
  unfold dI at h
  split at h
  · split at h
    · cases h; exact ⟨_, _, rfl, rfl, ‹_›, rfl⟩
    · cases h
  · cases h
theorem dB_inv {f : Int → Int → Bool} {d₁ d₂ z : D} (h : dB f d₁ d₂ = some z) : ∃ i j, d₁ = .int i ∧ d₂ = .int j ∧ z = .bl (f i j) := by
  unfold dB at h
  split at h
  · cases h; exact ⟨_, _, rfl, rfl, rfl⟩
  · cases h
theorem is_i {K : PySem.W.Frag} {α : List Addr} {F : Hp} {i : Int} {v : V} (h : Is K α F (.int i) v) : v = .int i := by rw [Is] at h; exact h
theorem opD_I {h : Value → Value → Sem Value} {P : Int → Int → Prop} {c : Int → Int → Bool} {k : Int → Int → Int} (ho : OpR X h (rI P fun i j => .int (k i j))) (hc : ∀ i j, c i j = true → P i j) : OpD X C h (dI c k) := by
  rintro pins s σ H x y v u Q I rx ry ⟨e, Ω, d₁, d₂, z, eH, w, i1, i2, q, kk⟩
  obtain ⟨i, j, e1, e2, hcc, e3⟩ := dI_inv q
  rw [e1] at i1
  rw [e2] at i2
  refine ho pins s σ _ x y v u Q I rx ry ⟨i, j, is_i i1, is_i i2, hc i j hcc, ?_⟩
  rw [← eH]
  exact kk _ e (Ext.refl e) w (by rw [e3, Is])
theorem opD_I0 {h : Value → Value → Sem Value} {k : Int → Int → Int} (ho : OpR X h (rI0 fun i j => .int (k i j))) : OpD X C h (dI (fun _ _ => true) k) := by
  rintro pins s σ H x y v u Q I rx ry ⟨e, Ω, d₁, d₂, z, eH, w, i1, i2, q, kk⟩
  obtain ⟨i, j, e1, e2, hcc, e3⟩ := dI_inv q
  rw [e1] at i1
  rw [e2] at i2
  refine ho pins s σ _ x y v u Q I rx ry ⟨i, j, is_i i1, is_i i2, ?_⟩
  rw [← eH]
  exact kk _ e (Ext.refl e) w (by rw [e3, Is])
theorem opD_B {h : Value → Value → Sem Value} {k : Int → Int → Bool} (ho : OpR X h (rI0 fun i j => .bl (k i j))) : OpD X C h (dB k) := by
  rintro pins s σ H x y v u Q I rx ry ⟨e, Ω, d₁, d₂, z, eH, w, i1, i2, q, kk⟩
  obtain ⟨i, j, e1, e2, e3⟩ := dB_inv q
  rw [e1] at i1
  rw [e2] at i2
  refine ho pins s σ _ x y v u Q I rx ry ⟨i, j, is_i i1, is_i i2, ?_⟩
  rw [← eH]
  exact kk _ e (Ext.refl e) w (by rw [e3, Is])
end
end DL
set_option Elab.async false
set_option linter.all false
set_option maxRecDepth 100000
set_option genSizeOf false
set_option bootstrap.genMatcherCode false
namespace DL
open PySem PySem.Spec PyProof.Rows L2
abbrev big : Nat := 100000
theorem big_line {n : Nat} (h : n ≤ big) : n ≤ sizeLine := Nat.le_trans h (by decide)
theorem big_lt {n : Nat} (h : n < big) : n < sizeLine := Nat.lt_of_lt_of_le h (by decide)
open Classical in
noncomputable def grd {β : Type} (P : Prop) (x : Option β) : Option β := if P then x else none
theorem grd_pos {β : Type} {P : Prop} {x : Option β} (h : P) : grd P x = x := if_pos h
theorem grd_some {β : Type} {P : Prop} {x : Option β} {z : β} (h : grd P x = some z) : P ∧ x = some z := by
  by_cases q : P
  · rw [grd_pos q] at h; exact ⟨q, h⟩
  · have e : grd P x = none := if_neg q
    rw [e] at h; cases h
section
variable {X : Cx} {C : Cl} {a b c x : Expr} {f g h : Den} {r : D → D → Option D} {pos : Pos}
def addD : D → D → Option D
  | .int i, .int j => some (.int (i + j))
  | .lst xs, .lst ys => if xs.length + ys.length ≤ big then some (.lst (xs ++ ys)) else none
  | .str p, .str q => if p.length + q.length ≤ big then some (.str (p ++ q)) else none
  | _, _ => none
theorem add_inv {d₁ d₂ z : D} (q : addD d₁ d₂ = some z) : (∃ i j, d₁ = .int i ∧ d₂ = .int j ∧ z = .int (i + j)) ∨ (∃ xs ys, d₁ = .lst xs ∧ d₂ = .lst ys ∧ xs.length + ys.length ≤ big ∧ z = .lst (xs ++ ys)) ∨
    ∃ xs ys, d₁ = .str xs ∧ d₂ = .str ys ∧ xs.length + ys.length ≤ big ∧ z = .str (xs ++ ys) := by
  unfold addD at q
  split at q
  · cases q; exact .inl ⟨_, _, rfl, rfl, rfl⟩
  · split at q
    · cases q; exact .inr (.inl ⟨_, _, rfl, rfl, ‹_›, rfl⟩)
    · cases q
  · split at q
    · cases q; exact .inr (.inr ⟨_, _, rfl, rfl, ‹_›, rfl⟩)
    · cases q
  · cases q
theorem opD_add : OpD X C (binaryOp .Add) addD := by
  intro pins s σ H x y v u Q I rx ry hw
  obtain ⟨e, Ω, d₁, d₂, z, eH, w, i1, i2, q, kk⟩ := hw
  subst eH
  rcases add_inv q with ⟨i, j, rfl, rfl, rfl⟩ | ⟨xs, ys, rfl, rfl, hl, rfl⟩ | ⟨i, j, rfl, rfl, hl, rfl⟩
  · rw [Is] at i1 i2
    subst i1 i2
    exact op_add pins s σ _ _ _ v u Q I rx ry ⟨i, j, rfl, rfl, kk _ e (Ext.refl e) w (by rw [Is])⟩
  · rw [Is] at i1 i2
    obtain ⟨l, vs, rfl, h1, r1⟩ := i1
    obtain ⟨m, us, rfl, h2, r2⟩ := i2
    refine op_cat pins s σ _ _ _ v u Q I rx ry ⟨l, m, vs, us, rfl, rfl, w.fh _ _ h1, w.fh _ _ h2, by rw [← r1.length, ← r2.length]; exact big_line hl, fun p hp => ?_⟩
    refine kk _ (e.new p _) (w.new_ext hp) (w.new hp) ?_
    rw [Is]
    exact ⟨p, _, rfl, upd_same, (r1.append r2).ext (w.new_ext hp)⟩
  · rw [Is] at i1 i2
    subst i1 i2
    exact op_add_str pins s σ _ _ _ v u Q I rx ry ⟨i, j, rfl, rfl, big_line hl, kk _ e (Ext.refl e) w (by rw [Is])⟩
noncomputable def mulD : D → D → Option D
  | .int i, .int j => grd ((-(2 ^ 64) < i ∧ i < 2 ^ 64) ∨ (-(2 ^ 64) < j ∧ j < 2 ^ 64)) (some (.int (i * j)))
  | .lst xs, .int k => grd (-(2 ^ 62) ≤ k ∧ k < 2 ^ 62 ∧ xs.length * k.toNat ≤ big) (some (.lst (List.replicate k.toNat xs).flatten))
  | _, _ => none
theorem mul_inv {d₁ d₂ z : D} (q : mulD d₁ d₂ = some z) : (∃ i j, d₁ = .int i ∧ d₂ = .int j ∧ ((-(2 ^ 64) < i ∧ i < 2 ^ 64) ∨ (-(2 ^ 64) < j ∧ j < 2 ^ 64)) ∧ z = .int (i * j)) ∨
    ∃ xs k, d₁ = .lst xs ∧ d₂ = .int k ∧ (-(2 ^ 62) ≤ k ∧ k < 2 ^ 62 ∧ xs.length * k.toNat ≤ big) ∧ z = .lst (List.replicate k.toNat xs).flatten := by
  unfold mulD at q
  split at q
  · obtain ⟨hl, q⟩ := grd_some q; cases q; exact .inl ⟨_, _, rfl, rfl, hl, rfl⟩
  · obtain ⟨hl, q⟩ := grd_some q; cases q; exact .inr ⟨_, _, rfl, rfl, hl, rfl⟩
  · cases q
theorem opD_mul : OpD X C (binaryOp .Mult) mulD := by
  intro pins s σ H x y v u Q I rx ry hw
  obtain ⟨e, Ω, d₁, d₂, z, eH, w, i1, i2, q, kk⟩ := hw
  subst eH
  rcases mul_inv q with ⟨i, j, rfl, rfl, hl, rfl⟩ | ⟨xs, k, rfl, rfl, hl, rfl⟩
  · rw [Is] at i1 i2
    subst i1 i2
    exact op_mul pins s σ _ _ _ v u Q I rx ry ⟨i, j, rfl, rfl, hl, kk _ e (Ext.refl e) w (by rw [Is])⟩
  · rw [Is] at i1
    rw [Is] at i2
    obtain ⟨l, vs, rfl, h1, r1⟩ := i1
    subst i2
    refine op_rep pins s σ _ _ _ v u Q I rx ry ⟨l, k, vs, rfl, rfl, w.fh _ _ h1, by omega, by omega, by rw [← r1.length]; exact big_line hl.2.2, fun p hp => ?_⟩
    refine kk _ (e.new p _) (w.new_ext hp) (w.new hp) ?_
    rw [Is]
    exact ⟨p, _, rfl, upd_same, (r1.rep _).ext (w.new_ext hp)⟩
abbrev subD : D → D → Option D := dI (fun _ _ => true) fun i j => i - j
theorem opD_sub : OpD X C (binaryOp .Sub) subD := opD_I0 op_sub
abbrev modD : D → D → Option D := dI (fun _ j => decide (0 < j)) fun i j => i % j
theorem opD_mod : OpD X C (binaryOp .Mod) modD := opD_I op_mod fun _ _ h => of_decide_eq_true h
abbrev divD : D → D → Option D := dI (fun _ j => decide (0 < j) && decide (j < 1073741824)) fun i j => i / j
theorem opD_div : OpD X C (binaryOp .FloorDiv) divD := opD_I op_fdiv fun _ _ h => by
  rw [Bool.and_eq_true, decide_eq_true_eq, decide_eq_true_eq] at h
  exact h
abbrev shrD : D → D → Option D := dI (fun _ j => decide (0 ≤ j)) fun i j => i / 2 ^ j.toNat
theorem opD_shr : OpD X C (binaryOp .RShift) shrD := opD_I op_shr fun _ _ h => of_decide_eq_true h
abbrev shlD : D → D → Option D := dI (fun i j => decide (0 ≤ j) && decide (j ≤ 1000000) && decide (i.natAbs < 2 ^ 64)) fun i j => i * 2 ^ j.toNat
theorem opD_shl : OpD X C (binaryOp .LShift) shlD := opD_I op_shl fun _ _ h => by
  rw [Bool.and_eq_true, Bool.and_eq_true, decide_eq_true_eq, decide_eq_true_eq, decide_eq_true_eq] at h
  exact ⟨h.1.1, h.1.2, h.2⟩
abbrev ltD : D → D → Option D := dB fun i j => decide (i < j)
theorem opD_lt : OpD X C (compareOp .Lt) ltD := opD_B op_lt
abbrev leD : D → D → Option D := dB fun i j => decide (i ≤ j)
theorem opD_le : OpD X C (compareOp .LtE) leD := opD_B op_le
abbrev gtD : D → D → Option D := dB fun i j => decide (j < i)
theorem opD_gt : OpD X C (compareOp .Gt) gtD := opD_B op_gt
abbrev geD : D → D → Option D := dB fun i j => decide (j ≤ i)
theorem opD_ge : OpD X C (compareOp .GtE) geD := opD_B op_ge
mutual
def toP : D → PyData
  | .non => .none
  | .bl b => .bool b
  | .int i => .int i
  | .str x => .str x
  | .tup xs => .tuple (toPs xs)
  | .lst xs => .list (toPs xs)
  | .scr ns => .list (ns.map PyData.int)
  | .obj _ => .dict []
def toPs : List D → List PyData
  | [] => []
  | d :: ds => toP d :: toPs ds
end
end
section
variable {X : Cx} {pins : List (Addr × Obj)} {σ : St} {H : Hp} {s : Shared} {K : PySem.W.Frag} {α : List Addr} {F : Hp}
mutual
theorem reads_of (I : Inv X pins σ H s) (hK : K = X.K) (ff : Same F H) : ∀ (d : D) {v : V} {u : Value}, (toP d).canLay0 = true → Is K α F d v → RelV v u → ∃ as, Reads s.heap u (toP d) as
  | .non, v, u, _, h, r => by
    rw [Is] at h; subst h; cases (show u = Value.none from r); rw [toP]; exact ⟨_, .none⟩
  | .bl b, v, u, _, h, r => by
    rw [Is] at h; subst h; cases (show u = Value.bool b from r); rw [toP]; exact ⟨_, .bool b⟩
  | .int i, v, u, _, h, r => by
    rw [Is] at h; subst h; obtain ⟨t, q⟩ := (show ∃ t, u = Value.int i t from r); subst q; rw [toP]; exact ⟨_, .int i t⟩
  | .str x, v, u, _, h, r => by
    rw [Is] at h; subst h; obtain ⟨t, q⟩ := (show ∃ t, u = Value.str x t from r); subst q; rw [toP]; exact ⟨_, .str x t⟩
  | .tup xs, v, u, hc, h, r => by
    rw [Is] at h
    obtain ⟨a, vs, rfl, e, q⟩ := h
    cases (show u = Value.ref a from r)
    obtain ⟨_, its, rv, o, e1, e2, n, e3⟩ := (show ObjOk X.prog X.w H s.heap a (.tup vs) from I.hok a _ (ff _ _ e))
    rw [toP] at hc ⊢
    obtain ⟨as, z⟩ := readsL_of I hK ff xs (by simpa [PyData.canLay0] using hc) q rv
    exact ⟨as, .tuple e1 e2 e3 (by simpa using z)⟩
  | .lst xs, v, u, hc, h, r => by
    rw [Is] at h
    obtain ⟨a, vs, rfl, e, q⟩ := h
    cases (show u = Value.ref a from r)
    obtain ⟨_, its, n, rv, e1⟩ := (show ObjOk X.prog X.w H s.heap a (.lst vs) from I.hok a _ (ff _ _ e))
    rw [toP] at hc ⊢
    obtain ⟨as, z⟩ := readsL_of I hK ff xs (by simpa [PyData.canLay0] using hc) q rv
    exact ⟨_, .list e1 rfl rfl (by simpa using z)⟩
  | .scr ns, v, u, hc, h, r => by
    rw [Is] at h
    obtain ⟨a, rfl, q⟩ := h
    cases (show u = Value.ref a from r)
    subst hK
    obtain ⟨its, rv, pl, _⟩ := I.list (ff.seq q)
    rw [toP]
    exact ⟨_, reads_newData pl.isList (PySem.W.ke_carried (intsAre_of rv))⟩
  | .obj n, v, u, hc, h, r => by rw [toP] at hc; simp [PyData.canLay0] at hc
theorem readsL_of (I : Inv X pins σ H s) (hK : K = X.K) (ff : Same F H) : ∀ (ds : List D) {vs : List V} {us : List Value}, PyData.canLayAll0 (toPs ds) = true → IsL K α F ds vs → Vals vs us → ∃ as, ReadsAll s.heap us (toPs ds) as
  | [], vs, us, _, h, r => by
    rw [h.of_nil] at r; cases r; rw [toPs]; exact ⟨_, .nil⟩
  | d :: ds, vs, us, hc, h, r => by
    obtain ⟨v, t, rfl, h1, h2⟩ := h.of_cons
    cases r with
    | cons r1 r2 =>
      rw [toPs] at hc ⊢
      have hc' : (toP d).canLay0 = true ∧ PyData.canLayAll0 (toPs ds) = true := by simpa [PyData.canLayAll0] using hc
      obtain ⟨as, z1⟩ := reads_of I hK ff d hc'.1 h1 r1
      obtain ⟨bs, z2⟩ := readsL_of I hK ff ds hc'.2 h2 r2
      exact ⟨_, .cons z1 z2⟩
end
end
end DL
set_option Elab.async false
set_option linter.all false
set_option maxRecDepth 100000
set_option genSizeOf false
set_option bootstrap.genMatcherCode false
namespace DL
open PySem PySem.Spec PyProof.Rows L2
section
variable {X : Cx} {C : Cl} {a b c x : Expr} {f g h : Den} {r : D → D → Option D} {pos : Pos}
def eqD (neg : Bool) (p q : D) : Option D := if SeqAt.shaped (toP p) && SeqAt.shaped (toP q) then some (.bl (if neg then !PyData.eqv (toP p) (toP q) else PyData.eqv (toP p) (toP q))) else none
theorem opD_eq (hu : X.A.units + 64 < cLine) : OpD X C (compareOp .Eq) (eqD false) := by
  intro pins s σ H x y v u Q I rx ry hw
  obtain ⟨e, Ω, d₁, d₂, z, eH, w, i1, i2, q, kk⟩ := hw
  subst eH
  unfold eqD at q
  split at q
  · rename_i hs
    rw [Bool.and_eq_true] at hs
    cases q
    obtain ⟨as, r1⟩ := reads_of I rfl w.fh d₁ (SeqAt.canLay_of_shaped hs.1) i1 rx
    obtain ⟨bs, r2⟩ := reads_of I rfl w.fh d₂ (SeqAt.canLay_of_shaped hs.2) i2 ry
    exact eq_dataH r1 r2 hs.1 hs.2 hu ⟨.bl _, e.H, I, rfl, kk _ e (Ext.refl e) w (by rw [Is]; rfl)⟩
  · cases q
theorem opD_ne (hu : X.A.units + 64 < cLine) : OpD X C (compareOp .NotEq) (eqD true) := by
  intro pins s σ H x y v u Q I rx ry hw
  obtain ⟨e, Ω, d₁, d₂, z, eH, w, i1, i2, q, kk⟩ := hw
  subst eH
  unfold eqD at q
  split at q
  · rename_i hs
    rw [Bool.and_eq_true] at hs
    cases q
    obtain ⟨as, r1⟩ := reads_of I rfl w.fh d₁ (SeqAt.canLay_of_shaped hs.1) i1 rx
    obtain ⟨bs, r2⟩ := reads_of I rfl w.fh d₂ (SeqAt.canLay_of_shaped hs.2) i2 ry
    exact ne_dataH r1 r2 hs.1 hs.2 hu ⟨.bl _, e.H, I, rfl, kk _ e (Ext.refl e) w (by rw [Is]; rfl)⟩
  · cases q
def isNone : D → Bool
  | .non => true
  | _ => false
def othB : D → Bool
  | .non => true
  | .int _ => true
  | .tup _ => true
  | .lst _ => true
  | _ => false
def isB (neg p : Bool) : D → Option D
  | .bl q => some (.bl (if neg then !(q == p) else q == p))
  | d => if othB d then some (.bl neg) else none
def isD (neg : Bool) (d : D) : D → Option D
  | .non => some (.bl (if neg then !isNone d else isNone d))
  | .bl p => isB neg p d
  | _ => none
theorem none_iff {K : PySem.W.Frag} {α : List Addr} {F : Hp} {d : D} {v : V} (h : Is K α F d v) : decide (v = .non) = isNone d := by
  cases d <;> rw [Is] at h
  · subst h; rfl
  · subst h; rfl
  · subst h; rfl
  · subst h; rfl
  · obtain ⟨a, vs, rfl, _⟩ := h; rfl
  · obtain ⟨a, vs, rfl, _⟩ := h; rfl
  · obtain ⟨a, rfl, _⟩ := h; rfl
  · obtain ⟨a, _, rfl⟩ := h; rfl
theorem oth_val {K : PySem.W.Frag} {α : List Addr} {F : Hp} {d : D} {v : V} {u : Value} {p : Bool} (h : othB d = true) (i : Is K α F d v) (r : RelV v u) : plainIs u (.bool p) = true ∧ u ≠ .bool p := by
  cases d with
  | non => rw [Is] at i; subst i; cases (show u = Value.none from r); exact ⟨rfl, fun z => by cases z⟩
  | int i' => rw [Is] at i; subst i; obtain ⟨t, rfl⟩ := (show ∃ t, u = Value.int i' t from r); exact ⟨rfl, fun z => by cases z⟩
  | tup _ => rw [Is] at i; obtain ⟨l, vs, rfl, _⟩ := i; cases (show u = Value.ref l from r); exact ⟨rfl, fun z => by cases z⟩
  | lst _ => rw [Is] at i; obtain ⟨l, vs, rfl, _⟩ := i; cases (show u = Value.ref l from r); exact ⟨rfl, fun z => by cases z⟩
  | _ => cases h
theorem isB_inv {neg p : Bool} {d z : D} (q : isB neg p d = some z) : (∃ r, d = .bl r ∧ z = .bl (if neg then !(r == p) else r == p)) ∨ (othB d = true ∧ z = .bl neg) := by
  unfold isB at q
  split at q
  · cases q; exact .inl ⟨_, rfl, rfl⟩
  · split at q
    · cases q; exact .inr ⟨‹_›, rfl⟩
    · cases q
theorem isD_inv {neg : Bool} {d₁ d₂ z : D} (q : isD neg d₁ d₂ = some z) : (d₂ = .non ∧ z = .bl (if neg then !isNone d₁ else isNone d₁)) ∨ ∃ p, d₂ = .bl p ∧ isB neg p d₁ = some z := by
  unfold isD at q
  split at q
  · cases q; exact .inl ⟨rfl, rfl⟩
  · exact .inr ⟨_, rfl, q⟩
  · cases q
theorem beq_bools (p r : Bool) : (Value.bool p == Value.bool r) = (p == r) := by cases p <;> cases r <;> rfl
theorem opD_is : OpD X C (compareOp .Is) (isD false) := by
  intro pins s σ H x y v u Q I rx ry hw
  obtain ⟨e, Ω, d₁, d₂, z, eH, w, i1, i2, q, kk⟩ := hw
  subst eH
  rcases isD_inv q with ⟨rfl, rfl⟩ | ⟨p, rfl, q⟩
  · rw [Is] at i2
    subst i2
    refine op_isN pins s σ _ _ _ v u Q I rx ry ⟨rfl, ?_⟩
    rw [none_iff i1]
    exact kk _ e (Ext.refl e) w (by rw [Is]; rfl)
  · rw [Is] at i2
    subst i2
    cases (show u = Value.bool p from ry)
    rcases isB_inv q with ⟨r, rfl, rfl⟩ | ⟨ho, rfl⟩
    · rw [Is] at i1
      subst i1
      cases (show v = Value.bool r from rx)
      refine wpAny_is_plain rfl ?_
      rw [beq_bools]
      exact ⟨.bl _, e.H, I, rfl, kk _ e (Ext.refl e) w (by rw [Is]; rfl)⟩
    · obtain ⟨h1, h2⟩ := oth_val (p := p) ho i1 rx
      exact wpAny_is_other h1 h2 ⟨.bl _, e.H, I, rfl, kk _ e (Ext.refl e) w (by rw [Is])⟩
theorem opD_isnot : OpD X C (compareOp .IsNot) (isD true) := by
  intro pins s σ H x y v u Q I rx ry hw
  obtain ⟨e, Ω, d₁, d₂, z, eH, w, i1, i2, q, kk⟩ := hw
  subst eH
  rcases isD_inv q with ⟨rfl, rfl⟩ | ⟨p, rfl, q⟩
  · rw [Is] at i2
    subst i2
    refine op_notN pins s σ _ _ _ v u Q I rx ry ⟨rfl, ?_⟩
    rw [none_iff i1]
    exact kk _ e (Ext.refl e) w (by rw [Is]; rfl)
  · rw [Is] at i2
    subst i2
    cases (show u = Value.bool p from ry)
    rcases isB_inv q with ⟨r, rfl, rfl⟩ | ⟨ho, rfl⟩
    · rw [Is] at i1
      subst i1
      cases (show v = Value.bool r from rx)
      refine wpAny_isNot_plain rfl ?_
      rw [beq_bools]
      exact ⟨.bl _, e.H, I, rfl, kk _ e (Ext.refl e) w (by rw [Is]; rfl)⟩
    · obtain ⟨h1, h2⟩ := oth_val (p := p) ho i1 rx
      exact wpAny_isNot_other h1 h2 ⟨.bl _, e.H, I, rfl, kk _ e (Ext.refl e) w (by rw [Is])⟩
def gAndT (p q : TDen) : TDen := fun ρ Ω => match p ρ Ω with
  | some (true, Ω') => q ρ Ω'
  | some (false, Ω') => some (false, Ω')
  | none => none
def gOrT (p q : TDen) : TDen := fun ρ Ω => match p ρ Ω with
  | some (true, Ω') => some (true, Ω')
  | some (false, Ω') => q ρ Ω'
  | none => none
def gNotT (p : TDen) : TDen := fun ρ Ω => match p ρ Ω with
  | some (k, Ω') => some (!k, Ω')
  | none => none
variable {p q : TDen} {rest : List Expr}
theorem and_read {K : PySem.W.Frag} {σ : St} {H : Hp} {Q : Bool → Hp → Prop} (hw : tDT K C (gAndT p q) σ H Q) : tAnd (tDT K C p) (tDT K C q) σ H Q := by
  obtain ⟨e, Ω, ρ, k, Ω', eH, w, rl, e1, kk⟩ := hw
  unfold gAndT at e1
  cases e2 : p ρ Ω with
  | none => rw [e2] at e1; cases e1
  | some z =>
    obtain ⟨k1, Ω1⟩ := z
    rw [e2] at e1
    refine ⟨e, Ω, ρ, k1, Ω1, eH, w, rl, e2, fun e' x' w' => ?_⟩
    cases k1 with
    | true =>
      rw [if_pos rfl]
      exact ⟨e', Ω1, ρ, k, Ω', rfl, w', rl.ext x', e1, fun e'' x'' w'' => kk e'' (x'.trans x'') w''⟩
    | false =>
      rw [if_neg (by decide)]
      cases e1
      exact kk e' x' w'
theorem or_read {K : PySem.W.Frag} {σ : St} {H : Hp} {Q : Bool → Hp → Prop} (hw : tDT K C (gOrT p q) σ H Q) : tOr (tDT K C p) (tDT K C q) σ H Q := by
  obtain ⟨e, Ω, ρ, k, Ω', eH, w, rl, e1, kk⟩ := hw
  unfold gOrT at e1
  cases e2 : p ρ Ω with
  | none => rw [e2] at e1; cases e1
  | some z =>
    obtain ⟨k1, Ω1⟩ := z
    rw [e2] at e1
    refine ⟨e, Ω, ρ, k1, Ω1, eH, w, rl, e2, fun e' x' w' => ?_⟩
    cases k1 with
    | true =>
      rw [if_pos rfl]
      cases e1
      exact kk e' x' w'
    | false =>
      rw [if_neg (by decide)]
      exact ⟨e', Ω1, ρ, k, Ω', rfl, w', rl.ext x', e1, fun e'' x'' w'' => kk e'' (x'.trans x'') w''⟩
theorem pdw_and1 (ha : PDT X C a p) : PDW X C (.BoolOp .And [a] pos) p := pw_and1 ha
theorem pdw_or1 (ha : PDT X C a p) : PDW X C (.BoolOp .Or [a] pos) p := pw_or1 ha
theorem pdw_and (ha : PDT X C a p) (hb : PDW X C (.BoolOp .And (b :: rest) pos) q) : PDW X C (.BoolOp .And (a :: b :: rest) pos) (gAndT p q) := pw_imp (pw_and ha hb) fun _ _ _ h => and_read h
theorem pdw_or (ha : PDT X C a p) (hb : PDW X C (.BoolOp .Or (b :: rest) pos) q) : PDW X C (.BoolOp .Or (a :: b :: rest) pos) (gOrT p q) := pw_imp (pw_or ha hb) fun _ _ _ h => or_read h
theorem PDW.pt (h : PDW X C x p) : PDT X C x p := PW.pt h
theorem pdt_not (ha : PDT X C a p) : PDT X C (.UnaryOp .Not a pos) (gNotT p) := pt_imp (pt_not ha) fun σ H Q hw' => by
  obtain ⟨e, Ω, ρ, k, Ω', eH, w, rl, e1, kk⟩ := hw'
  unfold gNotT at e1
  cases e2 : p ρ Ω with
  | none => rw [e2] at e1; cases e1
  | some z =>
    obtain ⟨k1, Ω1⟩ := z
    rw [e2] at e1
    cases e1
    exact ⟨e, Ω, ρ, k1, _, eH, w, rl, e2, kk⟩
def gAndV (f g : Den) : Den := fun ρ Ω => match f ρ Ω with
  | some (.bl true, Ω') => g ρ Ω'
  | some (.bl false, Ω') => some (.bl false, Ω')
  | _ => none
theorem pd_one {op} (h : PD X C a f) : PD X C (.BoolOp op [a] pos) f := pe_one h
theorem pd_and (ha : PD X C a f) (hb : PD X C (.BoolOp .And (b :: rest) pos) g) : PD X C (.BoolOp .And (a :: b :: rest) pos) (gAndV f g) := pe_imp (pe_and ha hb) fun σ H Q hw' => by
  obtain ⟨e, Ω, ρ, d, Ω', eH, w, rl, e1, kk⟩ := hw'
  unfold gAndV at e1
  cases e2 : f ρ Ω with
  | none => rw [e2] at e1; cases e1
  | some z =>
    obtain ⟨d1, Ω1⟩ := z
    rw [e2] at e1
    refine ⟨e, Ω, ρ, d1, Ω1, eH, w, rl, e2, fun v e' x' w' i' => ?_⟩
    cases d1 with
    | bl k1 =>
      rw [Is] at i'
      refine ⟨k1, i', ?_⟩
      cases k1 with
      | true =>
        rw [if_pos rfl]
        exact ⟨e', Ω1, ρ, d, Ω', rfl, w', rl.ext x', e1, fun v e'' x'' w'' => kk v e'' (x'.trans x'') w''⟩
      | false =>
        rw [if_neg (by decide)]
        cases e1
        exact kk _ e' x' w' (by rw [Is])
    | _ => cases e1
def gIf (p : TDen) (f g : Den) : Den := fun ρ Ω => match p ρ Ω with
  | some (true, Ω') => f ρ Ω'
  | some (false, Ω') => g ρ Ω'
  | none => none
theorem pd_if (hc : PDT X C c p) (ha : PD X C a f) (hb : PD X C b g) : PD X C (.IfExp c a b pos) (gIf p f g) := pe_imp (pe_ifExp hc ha hb) fun σ H Q hw' => by
  obtain ⟨e, Ω, ρ, d, Ω', eH, w, rl, e1, kk⟩ := hw'
  unfold gIf at e1
  cases e2 : p ρ Ω with
  | none => rw [e2] at e1; cases e1
  | some z =>
    obtain ⟨k1, Ω1⟩ := z
    rw [e2] at e1
    refine ⟨e, Ω, ρ, k1, Ω1, eH, w, rl, e2, fun e' x' w' => ?_⟩
    cases k1 with
    | true =>
      rw [if_pos rfl]
      exact ⟨e', Ω1, ρ, d, Ω', rfl, w', rl.ext x', e1, fun v e'' x'' w'' => kk v e'' (x'.trans x'') w''⟩
    | false =>
      rw [if_neg (by decide)]
      exact ⟨e', Ω1, ρ, d, Ω', rfl, w', rl.ext x', e1, fun v e'' x'' w'' => kk v e'' (x'.trans x'') w''⟩
def gChain (r r' : D → D → Option D) (f g h : Den) : Den := fun ρ Ω => match f ρ Ω with
  | some (x, Ω1) => match g ρ Ω1 with
    | some (y, Ω2) => match r x y with
      | some (.bl true) => match h ρ Ω2 with
        | some (z, Ω3) => match r' y z with
          | some d => some (d, Ω3)
          | none => none
        | none => none
      | some (.bl false) => some (.bl false, Ω2)
      | _ => none
    | none => none
  | none => none
theorem chain_read {K : PySem.W.Frag} {r r' : D → D → Option D} {R R' : R2}
    (hr : ∀ x y H Q, (∃ e Ω d₁ d₂ z, e.H = H ∧ Wf K C e Ω ∧ Is K e.α e.F d₁ x ∧ Is K e.α e.F d₂ y ∧ r d₁ d₂ = some z ∧ ∀ v e', Ext e e' → Wf K C e' Ω → Is K e'.α e'.F z v → Q v e'.H) → R x y H Q)
    (hr' : ∀ x y H Q, (∃ e Ω d₁ d₂ z, e.H = H ∧ Wf K C e Ω ∧ Is K e.α e.F d₁ x ∧ Is K e.α e.F d₂ y ∧ r' d₁ d₂ = some z ∧ ∀ v e', Ext e e' → Wf K C e' Ω → Is K e'.α e'.F z v → Q v e'.H) → R' x y H Q)
    {σ : St} {H : Hp} {Q : VK} (hw : tD K C (gChain r r' f g h) σ H Q) : tChain R R' (tD K C f) (tD K C g) (tD K C h) σ H Q := by
  obtain ⟨e, Ω, ρ, d, Ω', eH, w, rl, q, k⟩ := hw
  unfold gChain at q
  cases q1 : f ρ Ω with
  | none => rw [q1] at q; cases q
  | some p1 =>
    obtain ⟨x, Ω₁⟩ := p1
    rw [q1] at q
    dsimp only at q
    cases q2 : g ρ Ω₁ with
    | none => rw [q2] at q; cases q
    | some p2 =>
      obtain ⟨y, Ω₂⟩ := p2
      rw [q2] at q
      dsimp only at q
      refine ⟨e, Ω, ρ, x, Ω₁, eH, w, rl, q1, fun v e1 x1 w1 i1 => ?_⟩
      refine ⟨e1, Ω₁, ρ, y, Ω₂, rfl, w1, rl.ext x1, q2, fun u e2 x2 w2 i2 => ?_⟩
      cases q3 : r x y with
      | none => rw [q3] at q; cases q
      | some z =>
        rw [q3] at q
        refine hr _ _ _ _ ⟨e2, Ω₂, x, y, z, rfl, w2, i1.ext x2, i2, q3, fun v' e3 x3 w3 i3 => ?_⟩
        cases z with
        | bl k1 =>
          rw [Is] at i3
          refine ⟨k1, i3, ?_⟩
          cases k1 with
          | true =>
            dsimp only at q
            rw [if_pos rfl]
            cases q4 : h ρ Ω₂ with
            | none => rw [q4] at q; cases q
            | some p4 =>
              obtain ⟨z4, Ω₃⟩ := p4
              rw [q4] at q
              dsimp only at q
              cases q5 : r' y z4 with
              | none => rw [q5] at q; cases q
              | some d5 =>
                rw [q5] at q
                cases q
                refine ⟨e3, Ω₂, ρ, z4, _, rfl, w3, (rl.ext x1).ext (x2.trans x3), q4, fun v4 e4 x4 w4 i4 => ?_⟩
                exact hr' _ _ _ _ ⟨e4, _, y, z4, _, rfl, w4, (i2.ext x3).ext x4, i4, q5, fun v5 e5 x5 w5 i5 => k v5 e5 ((((x1.trans x2).trans x3).trans x4).trans x5) w5 i5⟩
          | false =>
            rw [if_neg (by decide)]
            cases q
            exact k _ e3 ((x1.trans x2).trans x3) w3 (by rw [Is])
        | _ => cases q
theorem pdt_chain {op op' : CmpOp} {r r' : D → D → Option D} (ho : OpD X C (compareOp op) r) (ho' : OpD X C (compareOp op') r') (ha : PD X C a f) (hb : PD X C b g) (hc : PD X C c h)
    (hm : lastMarks [op, op'] [b, c] = false := by with_unfolding_all rfl) : PDT X C (.Compare a [op, op'] [b, c] pos) (gT (gChain r r' f g h)) :=
  pt_imp (pt_chain ho ho' ha hb hc hm) fun _ _ _ hw => chain_read (fun _ _ _ _ z => z) (fun _ _ _ _ z => z) (gT_read hw)
end
end DL
set_option Elab.async false
set_option linter.all false
set_option maxRecDepth 100000
set_option genSizeOf false
set_option bootstrap.genMatcherCode false
namespace DL
open PySem PySem.Spec PyProof.Rows L2
section
variable {X : Cx} {C : Cl} {a b c x : Expr} {es : List Expr} {f g h : Den} {ga : ADen} {pos : Pos}
def gNil : ADen := fun _ Ω => some ([], Ω)
def gCons (f : Den) (g : ADen) : ADen := fun ρ Ω => match f ρ Ω with
  | some (d, Ω1) => match g ρ Ω1 with
    | some (ds, Ω2) => some (d :: ds, Ω2)
    | none => none
  | none => none
theorem pda_nil : PDA X C [] gNil := pa_imp pa_nil fun σ H Q hw' => by
  obtain ⟨e, Ω, ρ, ds, Ω', eH, w, rl, e1, kk⟩ := hw'
  subst eH
  cases e1
  exact kk [] e (Ext.refl e) w .nil
theorem pda_cons (ha : PD X C x f) (hr : PDA X C es ga) (hs : starEach (x :: es) X.env = (false, eval x X.env) :: starEach es X.env := by rfl) : PDA X C (x :: es) (gCons f ga) :=
  pa_imp (pa_cons ha hr hs) fun σ H Q hw' => by
    obtain ⟨e, Ω, ρ, ds, Ω', eH, w, rl, e1, kk⟩ := hw'
    unfold gCons at e1
    cases q1 : f ρ Ω with
    | none => rw [q1] at e1; cases e1
    | some p1 =>
      obtain ⟨d, Ω1⟩ := p1
      rw [q1] at e1
      dsimp only at e1
      cases q2 : ga ρ Ω1 with
      | none => rw [q2] at e1; cases e1
      | some p2 =>
        obtain ⟨ds', Ω2⟩ := p2
        rw [q2] at e1
        cases e1
        refine ⟨e, Ω, ρ, d, Ω1, eH, w, rl, q1, fun v e' x' w' i' => ?_⟩
        exact ⟨e', Ω1, ρ, ds', _, rfl, w', rl.ext x', q2, fun vs e'' x'' w'' i'' => kk _ e'' (x'.trans x'') w'' (.cons (i'.ext x'') i'')⟩
def gTup (g : ADen) : Den := fun ρ Ω => match g ρ Ω with
  | some (ds, Ω') => if ds.length ≤ big then some (.tup ds, Ω') else none
  | none => none
def gLst (g : ADen) : Den := fun ρ Ω => match g ρ Ω with
  | some (ds, Ω') => if ds.length ≤ big then some (.lst ds, Ω') else none
  | none => none
theorem pd_tup {x1} (ha : PDA X C es ga) : PD X C (.Tuple es x1 pos) (gTup ga) := pe_imp (pe_tup ha) fun σ H Q hw' => by
  obtain ⟨e, Ω, ρ, d, Ω', eH, w, rl, e1, kk⟩ := hw'
  unfold gTup at e1
  cases q1 : ga ρ Ω with
  | none => rw [q1] at e1; cases e1
  | some p1 =>
    obtain ⟨ds, Ω1⟩ := p1
    rw [q1] at e1
    dsimp only at e1
    split at e1
    · rename_i hl
      cases e1
      refine ⟨e, Ω, ρ, ds, _, eH, w, rl, q1, fun vs e' x' w' i' => ⟨by rw [← i'.length]; exact big_line hl, fun p hp => ?_⟩⟩
      refine kk _ (e'.new p (.tup vs)) (x'.trans (w'.new_ext hp)) (w'.new hp) ?_
      rw [Is]
      exact ⟨p, vs, rfl, upd_same, i'.ext (w'.new_ext hp)⟩
    · cases e1
theorem pd_lst (ha : PDA X C es ga) : PD X C (.List es pos) (gLst ga) := pe_imp (pe_lst ha) fun σ H Q hw' => by
  obtain ⟨e, Ω, ρ, d, Ω', eH, w, rl, e1, kk⟩ := hw'
  unfold gLst at e1
  cases q1 : ga ρ Ω with
  | none => rw [q1] at e1; cases e1
  | some p1 =>
    obtain ⟨ds, Ω1⟩ := p1
    rw [q1] at e1
    dsimp only at e1
    split at e1
    · rename_i hl
      cases e1
      refine ⟨e, Ω, ρ, ds, _, eH, w, rl, q1, fun vs e' x' w' i' => ⟨by rw [← i'.length]; exact big_line hl, fun p hp => ?_⟩⟩
      refine kk _ (e'.new p (.lst vs)) (x'.trans (w'.new_ext hp)) (w'.new hp) ?_
      rw [Is]
      exact ⟨p, vs, rfl, upd_same, i'.ext (w'.new_ext hp)⟩
    · cases e1
def ixD : D → D → Option D
  | .lst xs, .int i => atI xs i
  | .tup xs, .int i => atI xs i
  | .scr ns, .int i => (atI ns i).map D.int
  | .str z, .int i => if z.length ≤ big then (atI z.cps.toList i).map fun c => D.str ⟨#[c]⟩ else none
  | _, _ => none
theorem atI_is {K : PySem.W.Frag} {α : List Addr} {F : Hp} {ds : List D} {vs : List V} {i : Int} {d : D} (r : IsL K α F ds vs) (h : atI ds i = some d) : ∃ v, atI vs i = some v ∧ Is K α F d v := by
  unfold atI at h ⊢
  rw [← r.length]
  cases q : ixN ds.length i with
  | none => rw [q] at h; cases h
  | some j =>
    rw [q] at h
    exact r.get h
theorem ixD_read {K : PySem.W.Frag} : ∀ x y H Q, (∃ e Ω d₁ d₂ z, e.H = H ∧ Wf K C e Ω ∧ Is K e.α e.F d₁ x ∧ Is K e.α e.F d₂ y ∧ ixD d₁ d₂ = some z ∧ ∀ v e', Ext e e' → Wf K C e' Ω → Is K e'.α e'.F z v → Q v e'.H) → rIx K x y H Q := by
  rintro x y H Q ⟨e, Ω, d₁, d₂, z, eH, w, i1, i2, q, kk⟩
  subst eH
  unfold ixD at q
  cases d₁ <;> cases d₂ <;> first | cases q | skip
  · rename_i zz i
    dsimp only at q
    simp only [Is] at i1 i2
    subst i1 i2
    split at q
    · rename_i hl
      cases e2 : atI zz.cps.toList i with
      | none => rw [e2] at q; cases q
      | some c =>
        rw [e2] at q
        cases q
        exact .inr (.inr ⟨zz, i, c, rfl, rfl, big_line hl, e2, kk _ e (Ext.refl e) w (by rw [Is])⟩)
    · cases q
  · rename_i xs i
    simp only [Is] at i1 i2
    obtain ⟨p, vs, rfl, h1, r1⟩ := i1
    subst i2
    obtain ⟨v, e1, i3⟩ := atI_is r1 q
    exact .inr (.inl ⟨p, vs, i, v, rfl, rfl, SqT.of (w.fh _ _ h1), e1, kk v e (Ext.refl e) w i3⟩)
  · rename_i xs i
    simp only [Is] at i1 i2
    obtain ⟨p, vs, rfl, h1, r1⟩ := i1
    subst i2
    obtain ⟨v, e1, i3⟩ := atI_is r1 q
    exact .inl ⟨p, vs, i, v, rfl, rfl, SqL.of (w.fh _ _ h1), e1, kk v e (Ext.refl e) w i3⟩
  · rename_i ns i
    simp only [Is] at i1 i2
    obtain ⟨p, rfl, h1⟩ := i1
    subst i2
    dsimp only at q
    cases e2 : atI ns i with
    | none => rw [e2] at q; cases q
    | some n =>
      rw [e2] at q
      cases q
      refine .inl ⟨p, ns.map V.int, i, .int n, rfl, rfl, w.fh.seq h1, ?_, kk _ e (Ext.refl e) w (by rw [Is])⟩
      unfold atI at e2 ⊢
      rw [List.length_map]
      cases e3 : ixN ns.length i with
      | none => rw [e3] at e2; cases e2
      | some j =>
        rw [e3] at e2
        show (ns.map V.int)[j]? = _
        rw [List.getElem?_map, show ns[j]? = some n from e2]
        rfl
theorem pd_ix (ha : PD X C a f) (hb : PD X C b g) (hs : PlainIx b := by intro _ _; rfl) : PD X C (.Subscript a b pos) (gOp ixD f g) :=
  pe_imp (pe_ix ix_seq ha hb hs) fun σ H Q hw => op_read ixD_read hw
abbrev PDen := List Sl → List OS → Option (Option Int × List OS)
def gNoPart : PDen := fun _ Ω => some (none, Ω)
def gPart (g : Den) : PDen := fun ρ Ω => match g ρ Ω with
  | some (.int i, Ω') => some (some i, Ω')
  | _ => none
def tDO (K : PySem.W.Frag) (C : Cl) (g : PDen) : TO := fun σ H Q => ∃ e Ω ρ o Ω', e.H = H ∧ Wf K C e Ω ∧ RelE K e σ ρ ∧ g ρ Ω = some (o, Ω') ∧ ∀ e', Ext e e' → Wf K C e' Ω' → Q o e'.H
def PDO (X : Cx) (C : Cl) (e : Option Expr) (g : PDen) : Prop := PO X e (tDO X.K C g)
theorem po_imp {o : Option Expr} {t t' : TO} (h : PO X o t) (i : ∀ σ H Q, t' σ H Q → t σ H Q) : PO X o t' := fun pins s σ H Q I hw => h pins s σ H Q I (i σ H Q hw)
theorem pdo_none : PDO X C none gNoPart := po_imp po_none fun σ H Q hw' => by
  obtain ⟨e, Ω, ρ, o, Ω', eH, w, rl, e1, kk⟩ := hw'
  subst eH
  cases e1
  exact kk e (Ext.refl e) w
theorem pdo_some (h : PD X C x g) : PDO X C (some x) (gPart g) := po_imp (po_some h) fun σ H Q hw' => by
  obtain ⟨e, Ω, ρ, o, Ω', eH, w, rl, e1, kk⟩ := hw'
  unfold gPart at e1
  cases q1 : g ρ Ω with
  | none => rw [q1] at e1; cases e1
  | some p1 =>
    obtain ⟨d, Ω1⟩ := p1
    rw [q1] at e1
    cases d with
    | int i =>
      cases e1
      refine ⟨e, Ω, ρ, _, _, eH, w, rl, q1, fun v e' x' w' i' => ?_⟩
      rw [Is] at i'
      exact ⟨i, i', kk e' x' w'⟩
    | _ => cases e1
def cutL {β : Type} (xs : List β) (lo hi : Option Int) : List β := (xs.drop (HT.sIx xs.length 0 lo)).take (HT.sIx xs.length xs.length hi - HT.sIx xs.length 0 lo)
def slD : D → Option Int → Option Int → Option D
  | .lst xs, lo, hi => some (.lst (cutL xs lo hi))
  | .scr ns, lo, hi => some (.lst ((cutL ns lo hi).map D.int))
  | _, _, _ => none
def gSl (f : Den) (lo hi : PDen) : Den := fun ρ Ω => match f ρ Ω with
  | some (d, Ω1) => match lo ρ Ω1 with
    | some (l, Ω2) => match hi ρ Ω2 with
      | some (u, Ω3) => match slD d l u with
        | some z => some (z, Ω3)
        | none => none
      | none => none
    | none => none
  | none => none
theorem pd_sl {lo hi : Option Expr} {gl gh : PDen} {p2 : Pos} (ha : PD X C a f) (hl : PDO X C lo gl) (hh : PDO X C hi gh) : PD X C (.Subscript a (.Slice lo hi none p2) pos) (gSl f gl gh) :=
  pe_imp (pe_slice sl_list ha hl hh) fun σ H Q hw' => by
    obtain ⟨e, Ω, ρ, d, Ω', eH, w, rl, e1, kk⟩ := hw'
    unfold gSl at e1
    cases q1 : f ρ Ω with
    | none => rw [q1] at e1; cases e1
    | some p1 =>
      obtain ⟨d1, Ω1⟩ := p1
      rw [q1] at e1
      dsimp only at e1
      cases q2 : gl ρ Ω1 with
      | none => rw [q2] at e1; cases e1
      | some p2 =>
        obtain ⟨l, Ω2⟩ := p2
        rw [q2] at e1
        dsimp only at e1
        cases q3 : gh ρ Ω2 with
        | none => rw [q3] at e1; cases e1
        | some p3 =>
          obtain ⟨u, Ω3⟩ := p3
          rw [q3] at e1
          dsimp only at e1
          cases q4 : slD d1 l u with
          | none => rw [q4] at e1; cases e1
          | some z =>
            rw [q4] at e1
            cases e1
            refine ⟨e, Ω, ρ, d1, Ω1, eH, w, rl, q1, fun v e' x' w' i' => ?_⟩
            refine ⟨e', Ω1, ρ, l, Ω2, rfl, w', rl.ext x', q2, fun e2 x2 w2 => ?_⟩
            refine ⟨e2, Ω2, ρ, u, _, rfl, w2, (rl.ext x').ext x2, q3, fun e3 x3 w3 => ?_⟩
            have i3 := i'.ext (x2.trans x3)
            unfold slD at q4
            cases d1 with
            | lst xs =>
              cases q4
              rw [Is] at i3
              obtain ⟨p, vs, rfl, h1, r1⟩ := i3
              refine ⟨p, vs, rfl, SqL.of (w3.fh _ _ h1), fun p' hp => ?_⟩
              refine kk _ (e3.new p' _) (((x'.trans x2).trans x3).trans (w3.new_ext hp)) (w3.new hp) ?_
              rw [Is]
              refine ⟨p', _, rfl, upd_same, ?_⟩
              unfold cutL cutV
              rw [← r1.length]
              exact ((r1.drop _).take _).ext (w3.new_ext hp)
            | scr ns =>
              cases q4
              rw [Is] at i3
              obtain ⟨p, rfl, h1⟩ := i3
              refine ⟨p, _, rfl, w3.fh.seq h1, fun p' hp => ?_⟩
              refine kk _ (e3.new p' _) (((x'.trans x2).trans x3).trans (w3.new_ext hp)) (w3.new hp) ?_
              rw [Is]
              refine ⟨p', _, rfl, upd_same, ?_⟩
              unfold cutL cutV
              rw [List.length_map, List.map_take, List.map_drop]
              exact (((IsL.ints ns).drop _).take _)
            | _ => cases q4
def CallD (X : Cx) (C : Cl) (f : Value) (r : List D → Option D) : Prop :=
  CallR X f fun xs H Q => ∃ e Ω ds z, e.H = H ∧ Wf X.K C e Ω ∧ IsL X.K e.α e.F ds xs ∧ r ds = some z ∧ ∀ v e', Ext e e' → Wf X.K C e' Ω → Is X.K e'.α e'.F z v → Q v e'.H
def gCB (r : List D → Option D) (g : ADen) : Den := fun ρ Ω => match g ρ Ω with
  | some (ds, Ω1) => match r ds with
    | some z => some (z, Ω1)
    | none => none
  | none => none
theorem cb_read {K : PySem.W.Frag} {r : List D → Option D} {σ : St} {H : Hp} {Q : VK} (hw : tD K C (gCB r ga) σ H Q) :
    tCB (fun xs H Q => ∃ e Ω ds z, e.H = H ∧ Wf K C e Ω ∧ IsL K e.α e.F ds xs ∧ r ds = some z ∧ ∀ v e', Ext e e' → Wf K C e' Ω → Is K e'.α e'.F z v → Q v e'.H) (tDA K C ga) σ H Q := by
  obtain ⟨e, Ω, ρ, d, Ω', eH, w, rl, e1, kk⟩ := hw
  unfold gCB at e1
  cases q1 : ga ρ Ω with
  | none => rw [q1] at e1; cases e1
  | some p1 =>
    obtain ⟨ds, Ω1⟩ := p1
    rw [q1] at e1
    dsimp only at e1
    cases q2 : r ds with
    | none => rw [q2] at e1; cases e1
    | some z =>
      rw [q2] at e1
      cases e1
      exact ⟨e, Ω, ρ, ds, _, eH, w, rl, q1, fun vs e' x' w' i' => ⟨e', _, ds, _, rfl, w', i', q2, fun v e'' x'' w'' => kk v e'' (x'.trans x'') w''⟩⟩
theorem pd_callB {id : String} {n : Str} {p : Pos} {r : List D → Option D} (hc : CallD X C (.builtin id) r) (hg : Gl X n) (hm : X.mg n = none) (hv : bootBuiltins n = some (.builtin id)) (ha : PDA X C (x :: es) ga) (hn : n ≠ "__name__" := by decide) (hdb : (n == ("__debug__" : Str)) = false := by decide)
    (he : starEach (x :: es) X.env = (false, eval x X.env) :: starEach es X.env := by rfl) (hpl : (backTo pos (starEach es X.env)).any (·.1) = false := by rfl) : PD X C (.Call (.Name n p) (x :: es) [] pos) (gCB r ga) :=
  pe_imp (pe_callB hc hg hm hv ha hn hdb he hpl) fun _ _ _ hw => cb_read hw
theorem pd_callTy {T : String} {n : Str} {p : Pos} {r : List D → Option D} (hc : CallD X C (.type T) r) (hg : Gl X n) (hm : X.mg n = none) (hv : bootBuiltins n = some (.type T)) (ha : PDA X C (x :: es) ga) (hn : n ≠ "__name__" := by decide) (hdb : (n == ("__debug__" : Str)) = false := by decide)
    (he : starEach (x :: es) X.env = (false, eval x X.env) :: starEach es X.env := by rfl) (hpl : (backTo pos (starEach es X.env)).any (·.1) = false := by rfl) : PD X C (.Call (.Name n p) (x :: es) [] pos) (gCB r ga) :=
  pe_imp (pe_callTy hc hg hm hv ha hn hdb he hpl) fun _ _ _ hw => cb_read hw
theorem isL_one {K : PySem.W.Frag} {α : List Addr} {F : Hp} {d : D} {vs : List V} (h : IsL K α F [d] vs) : ∃ v, vs = [v] ∧ Is K α F d v := by
  obtain ⟨v, r, rfl, i, t⟩ := h.of_cons
  rw [t.of_nil]
  exact ⟨v, rfl, i⟩
theorem isL_two {K : PySem.W.Frag} {α : List Addr} {F : Hp} {d d' : D} {vs : List V} (h : IsL K α F [d, d'] vs) : ∃ v u, vs = [v, u] ∧ Is K α F d v ∧ Is K α F d' u := by
  obtain ⟨v, r, rfl, i, t⟩ := h.of_cons
  obtain ⟨u, rfl, i2⟩ := isL_one t
  exact ⟨v, u, rfl, i, i2⟩
def lenD : List D → Option D
  | [.lst xs] => some (.int xs.length)
  | [.tup xs] => some (.int xs.length)
  | [.scr ns] => some (.int ns.length)
  | [.str z] => if z.length ≤ big then some (.int z.length) else none
  | _ => none
theorem callD_len : CallD X C (.builtin "len") lenD := by
  intro pins s σ H xs us Q I r hw
  obtain ⟨e, Ω, ds, z, eH, w, i, q, kk⟩ := hw
  subst eH
  match ds, q with
  | [.lst ys], q =>
    obtain ⟨v, rfl, iv⟩ := isL_one i
    rw [Is] at iv
    obtain ⟨p, vs, rfl, h1, r1⟩ := iv
    cases q
    exact call_len_seq pins s σ _ _ us Q I r ⟨p, vs, rfl, .inl (SqL.of (w.fh _ _ h1)), kk _ e (Ext.refl e) w (by rw [Is, r1.length])⟩
  | [.tup ys], q =>
    obtain ⟨v, rfl, iv⟩ := isL_one i
    rw [Is] at iv
    obtain ⟨p, vs, rfl, h1, r1⟩ := iv
    cases q
    exact call_len_seq pins s σ _ _ us Q I r ⟨p, vs, rfl, .inr (SqT.of (w.fh _ _ h1)), kk _ e (Ext.refl e) w (by rw [Is, r1.length])⟩
  | [.scr ns], q =>
    obtain ⟨v, rfl, iv⟩ := isL_one i
    rw [Is] at iv
    obtain ⟨p, rfl, h1⟩ := iv
    cases q
    exact call_len_seq pins s σ _ _ us Q I r ⟨p, _, rfl, .inl (w.fh.seq h1), kk _ e (Ext.refl e) w (by rw [Is, List.length_map])⟩
  | [.str zz], q =>
    obtain ⟨v, rfl, iv⟩ := isL_one i
    rw [Is] at iv
    subst iv
    have q : (if zz.length ≤ big then some (D.int zz.length) else none) = some z := q
    split at q
    · rename_i hl
      cases q
      exact call_len_str pins s σ _ _ us Q I r ⟨zz, rfl, big_line hl, kk _ e (Ext.refl e) w (by rw [Is])⟩
    · cases q
def min2D : List D → Option D
  | [.int i, .int j] => some (.int (if j < i then j else i))
  | _ => none
theorem callD_min (hc : X.calm = true) : CallD X C (.builtin "min") min2D := by
  intro pins s σ H xs us Q I r hw
  obtain ⟨e, Ω, ds, z, eH, w, i, q, kk⟩ := hw
  subst eH
  match ds, q with
  | [.int k, .int j], q =>
    obtain ⟨v, u, rfl, i1, i2⟩ := isL_two i
    simp only [Is] at i1 i2
    subst i1 i2
    cases q
    exact call_min2 hc pins s σ _ _ us Q I r ⟨k, j, rfl, kk _ e (Ext.refl e) w (by rw [Is])⟩
def max2D : List D → Option D
  | [.int i, .int j] => some (.int (if j > i then j else i))
  | _ => none
theorem callD_max (hc : X.calm = true) : CallD X C (.builtin "max") max2D := by
  intro pins s σ H xs us Q I r hw
  obtain ⟨e, Ω, ds, z, eH, w, i, q, kk⟩ := hw
  subst eH
  match ds, q with
  | [.int k, .int j], q =>
    obtain ⟨v, u, rfl, i1, i2⟩ := isL_two i
    simp only [Is] at i1 i2
    subst i1 i2
    cases q
    exact call_max2 hc pins s σ _ _ us Q I r ⟨k, j, rfl, kk _ e (Ext.refl e) w (by rw [Is])⟩
def int1D : List D → Option D
  | [.int i] => some (.int i)
  | [.bl k] => some (.int (if k then 1 else 0))
  | _ => none
theorem callD_int : CallD X C (.type "int") int1D := by
  intro pins s σ H xs us Q I r hw
  obtain ⟨e, Ω, ds, z, eH, w, i, q, kk⟩ := hw
  subst eH
  match ds, q with
  | [.int k], q =>
    obtain ⟨v, rfl, iv⟩ := isL_one i
    rw [Is] at iv
    subst iv
    cases q
    exact call_int1 pins s σ _ _ us Q I r (.inl ⟨k, rfl, kk _ e (Ext.refl e) w (by rw [Is])⟩)
  | [.bl k], q =>
    obtain ⟨v, rfl, iv⟩ := isL_one i
    rw [Is] at iv
    subst iv
    cases q
    exact call_int1 pins s σ _ _ us Q I r (.inr ⟨k, rfl, kk _ e (Ext.refl e) w (by rw [Is])⟩)
def list1D : List D → Option D
  | [.lst xs] => some (.lst xs)
  | [.tup xs] => some (.lst xs)
  | [.scr ns] => some (.lst (ns.map D.int))
  | _ => none
theorem callD_list : CallD X C (.type "list") list1D := by
  intro pins s σ H xs us Q I r hw
  obtain ⟨e, Ω, ds, z, eH, w, i, q, kk⟩ := hw
  subst eH
  match ds, q with
  | [.lst ys], q =>
    obtain ⟨v, rfl, iv⟩ := isL_one i
    rw [Is] at iv
    obtain ⟨p, vs, rfl, h1, r1⟩ := iv
    cases q
    refine call_list_of pins s σ _ _ us Q I r ⟨p, vs, rfl, .inl (SqL.of (w.fh _ _ h1)), fun l hl => kk _ (e.new l _) (w.new_ext hl) (w.new hl) ?_⟩
    rw [Is]
    exact ⟨l, vs, rfl, upd_same, r1.ext (w.new_ext hl)⟩
  | [.tup ys], q =>
    obtain ⟨v, rfl, iv⟩ := isL_one i
    rw [Is] at iv
    obtain ⟨p, vs, rfl, h1, r1⟩ := iv
    cases q
    refine call_list_of pins s σ _ _ us Q I r ⟨p, vs, rfl, .inr (SqT.of (w.fh _ _ h1)), fun l hl => kk _ (e.new l _) (w.new_ext hl) (w.new hl) ?_⟩
    rw [Is]
    exact ⟨l, vs, rfl, upd_same, r1.ext (w.new_ext hl)⟩
  | [.scr ns], q =>
    obtain ⟨v, rfl, iv⟩ := isL_one i
    rw [Is] at iv
    obtain ⟨p, rfl, h1⟩ := iv
    cases q
    refine call_list_of pins s σ _ _ us Q I r ⟨p, _, rfl, .inl (w.fh.seq h1), fun l hl => kk _ (e.new l _) (w.new_ext hl) (w.new hl) ?_⟩
    rw [Is]
    exact ⟨l, _, rfl, upd_same, IsL.ints ns⟩
end
end DL
set_option Elab.async false
set_option linter.all false
set_option maxRecDepth 100000
set_option genSizeOf false
set_option bootstrap.genMatcherCode false
namespace DL
open PySem PySem.Spec PyProof.Rows L2
inductive Out where
  | nx (ρ : List Sl) (Ω : List OS) | rt (d : D) (Ω : List OS) | bk (ρ : List Sl) (Ω : List OS) | ct (ρ : List Sl) (Ω : List OS)
abbrev SDen := List Sl → List OS → Option Out
structure RelS (K : PySem.W.Frag) (C : Cl) (e₀ e : E4) (Ω : List OS) (σ : St) (ρ : List Sl) : Prop where
  wf : Wf K C e Ω
  rel : RelE K e σ ρ
  ext : Ext e₀ e
  fresh : ∀ (i : Nat) (ds : List D) (a : Addr), ρ[i]? = some (.own ds) → σ[i]? = some (some (.ref a)) → e₀.H a = none
def OutOk (K : PySem.W.Frag) (C : Cl) (e₀ : E4) (Dn : Ends) : Out → Prop
  | .nx ρ Ω => ∀ e σ, RelS K C e₀ e Ω σ ρ → Dn.nx σ e.H
  | .bk ρ Ω => ∀ e σ, RelS K C e₀ e Ω σ ρ → Dn.bk σ e.H
  | .ct ρ Ω => ∀ e σ, RelS K C e₀ e Ω σ ρ → Dn.ct σ e.H
  | .rt d Ω => ∀ e v, Ext e₀ e → Wf K C e Ω → Is K e.α e.F d v → Dn.rt v e.H
def tDS (K : PySem.W.Frag) (C : Cl) (e₀ : E4) (g : SDen) : TS := fun Dn σ H => ∃ e Ω ρ o, e.H = H ∧ RelS K C e₀ e Ω σ ρ ∧ g ρ Ω = some o ∧ OutOk K C e₀ Dn o
def PDS (X : Cx) (C : Cl) (st : Stmt) (g : SDen) : Prop := ∀ e₀, PS X st (tDS X.K C e₀ g)
def PDB (X : Cx) (C : Cl) (st : List Stmt) (g : SDen) : Prop := ∀ e₀, PSs X st (tDS X.K C e₀ g)
section
variable {K : PySem.W.Frag} {C : Cl} {e₀ e e' : E4} {Ω Ω' : List OS} {σ : St} {ρ : List Sl}
theorem RelS.to (r : RelS K C e₀ e Ω σ ρ) (x : Ext e e') (w : Wf K C e' Ω') : RelS K C e₀ e' Ω' σ ρ := ⟨w, r.rel.ext x, r.ext.trans x, r.fresh⟩
theorem set_own_ne {i j : Nat} {d : D} {ds : List D} (h : (ρ.set i (.dat d))[j]? = some (.own ds)) : i ≠ j := fun e1 => by
  subst e1
  have hl : i < ρ.length := by
    have := (List.getElem?_eq_some_iff.mp h).1
    simpa using this
  rw [List.getElem?_set_self hl] at h
  cases h
theorem RelS.set (r : RelS K C e₀ e Ω σ ρ) (i : Nat) {d : D} {v : V} (h : Is K e.α e.F d v) : RelS K C e₀ e Ω (σ.set i (some v)) (ρ.set i (.dat d)) :=
  ⟨r.wf, r.rel.set i h, r.ext, fun j ds a h1 h2 => by
    have n := set_own_ne h1
    rw [List.getElem?_set_ne n] at h1 h2
    exact r.fresh j ds a h1 h2⟩
end
section
variable {X : Cx} {C : Cl} {a b c x : Expr} {f g : Den} {p : TDen} {st : Stmt} {rest sts sts' : List Stmt} {s t : SDen} {pos : Pos}
def sNext : SDen := fun ρ Ω => some (.nx ρ Ω)
def sSeq (s t : SDen) : SDen := fun ρ Ω => match s ρ Ω with
  | some (.nx ρ' Ω') => t ρ' Ω'
  | r => r
theorem pdb_nil : PDB X C [] sNext := fun e₀ => pss_imp pss_nil fun Dn σ H hw' => by
  obtain ⟨e, Ω, ρ, o, eH, r, q, k⟩ := hw'
  subst eH
  cases q
  exact k e σ r
theorem pdb_cons (h1 : PDS X C st s) (h2 : PDB X C rest t) : PDB X C (st :: rest) (sSeq s t) := fun e₀ => pss_imp (pss_cons (h1 e₀) (h2 e₀)) fun Dn σ H hw' => by
  obtain ⟨e, Ω, ρ, o, eH, r, q, k⟩ := hw'
  unfold sSeq at q
  cases q1 : s ρ Ω with
  | none => rw [q1] at q; cases q
  | some o1 =>
    rw [q1] at q
    refine ⟨e, Ω, ρ, o1, eH, r, q1, ?_⟩
    cases o1 with
    | nx ρ' Ω' => exact fun e' σ' r' => ⟨e', Ω', ρ', o, rfl, r', q, k⟩
    | rt d Ω' => cases q; exact k
    | bk ρ' Ω' => cases q; exact k
    | ct ρ' Ω' => cases q; exact k
theorem pdb_one (h1 : PDS X C st s) : PDB X C [st] s := fun e₀ => pss_one (h1 e₀)
def sGhost (γ : List Sl → Option (List Sl)) (s : SDen) : SDen := fun ρ Ω => match γ ρ with
  | some ρ' => s ρ' Ω
  | none => none
def Ghost (γ : List Sl → Option (List Sl)) : Prop := ∀ (K : PySem.W.Frag) (C : Cl) (e₀ e : E4) (Ω : List OS) (σ : St) (ρ ρ' : List Sl), γ ρ = some ρ' → RelS K C e₀ e Ω σ ρ → ∃ e', e'.H = e.H ∧ RelS K C e₀ e' Ω σ ρ'
theorem pdb_ghost {γ : List Sl → Option (List Sl)} (hγ : Ghost γ) (h : PDB X C sts s) : PDB X C sts (sGhost γ s) := fun e₀ => pss_imp (h e₀) fun Dn σ H hw' => by
  obtain ⟨e, Ω, ρ, o, eH, r, q, k⟩ := hw'
  unfold sGhost at q
  cases q1 : γ ρ with
  | none => rw [q1] at q; cases q
  | some ρ' =>
    rw [q1] at q
    obtain ⟨e', he, r'⟩ := hγ _ _ _ _ _ _ _ _ q1 r
    exact ⟨e', Ω, ρ', o, he.trans eH, r', q, k⟩
def frz (i : Nat) : List Sl → Option (List Sl) := fun ρ => match ρ[i]? with
  | some (.own ds) => some (ρ.set i (.dat (.lst ds)))
  | _ => some ρ
theorem ghost_frz (i : Nat) : Ghost (frz i) := by
  intro K C e₀ e Ω σ ρ ρ' h r
  unfold frz at h
  cases q : ρ[i]? with
  | none => rw [q] at h; cases h; exact ⟨e, rfl, r⟩
  | some sl =>
    rw [q] at h
    cases sl with
    | und => cases h; exact ⟨e, rfl, r⟩
    | dat d => cases h; exact ⟨e, rfl, r⟩
    | own ds =>
      cases h
      obtain ⟨a, vs, e1, e2, i1, n1, n2⟩ := r.rel.own i ds q
      have h0 := r.fresh i ds a q e1
      have ff : Same e.F (upd e.F a (.lst vs)) := fun b o hb => by rw [upd_ne (ne_of_none hb n1)]; exact hb
      have fh : Same (upd e.F a (.lst vs)) e.H := fun b o hb => by
        by_cases hba : b = a
        · subst hba; rw [upd_same] at hb; cases hb; exact e2
        · rw [upd_ne hba] at hb; exact r.wf.fh b o hb
      have fn : ∀ b o, (upd e.F a (.lst vs)) b = some o → e.F b = some o ∨ b = a := fun b o hb => by
        by_cases hba : b = a
        · exact .inr hba
        · rw [upd_ne hba] at hb; exact .inl hb
      refine ⟨⟨e.α, upd e.F a (.lst vs), e.A, e.H⟩, rfl, ⟨fh, fun b hb => ?_, r.wf.ah, r.wf.ol, r.wf.nd, fun n b o h1 h2 => ⟨(r.wf.ob n b o h1 h2).1, (r.wf.ob n b o h1 h2).2.keep (fun u hu => hu) ff ⟨[], by simp⟩⟩⟩, ⟨by simp [r.rel.len], fun j d hj => ?_, fun j es hj => ?_, fun j k ds' es b hj hk hj' hk' => ?_⟩, ⟨r.ext.fz, r.ext.hk, r.ext.dm, r.ext.ff.trans ff, fun b o hb => ?_, r.ext.an, r.ext.aa, r.ext.al⟩, fun j es b hj hj' => ?_⟩
      · show upd e.F a _ b = none
        rw [upd_ne (fun z => n2 (by rw [← z]; exact hb))]
        exact r.wf.fa b hb
      · by_cases e3 : i = j
        · subst e3
          have hl : i < ρ.length := (List.getElem?_eq_some_iff.mp q).1
          rw [List.getElem?_set_self hl] at hj
          cases hj
          refine ⟨.ref a, e1, ?_⟩
          rw [Is]
          exact ⟨a, vs, rfl, upd_same, IsL.mono ff ⟨[], by simp⟩ ds i1⟩
        · rw [List.getElem?_set_ne e3] at hj
          obtain ⟨v, z1, z2⟩ := r.rel.dat j d hj
          exact ⟨v, z1, Is.mono ff ⟨[], by simp⟩ d z2⟩
      · have n := set_own_ne hj
        rw [List.getElem?_set_ne n] at hj
        obtain ⟨a', vs', z1, z2, z3, z4, z5⟩ := r.rel.own j es hj
        have na : a' ≠ a := fun z => n (r.rel.sep i j ds es a q hj e1 (by rw [← z]; exact z1))
        exact ⟨a', vs', z1, z2, IsL.mono ff ⟨[], by simp⟩ es z3, by show upd e.F a _ a' = none; rw [upd_ne na]; exact z4, z5⟩
      · have n := set_own_ne hj
        have n' := set_own_ne hk
        rw [List.getElem?_set_ne n] at hj
        rw [List.getElem?_set_ne n'] at hk
        exact r.rel.sep j k ds' es b hj hk hj' hk'
      · rcases fn b o hb with z | z
        · exact r.ext.fn b o z
        · subst z; exact .inr (.inl h0)
      · have n := set_own_ne hj
        rw [List.getElem?_set_ne n] at hj
        exact r.fresh j es b hj hj'
def sSet (i : Nat) (g : Den) : SDen := fun ρ Ω => match g ρ Ω with
  | some (d, Ω') => some (.nx (ρ.set i (.dat d)) Ω')
  | none => none
theorem set_read {K : PySem.W.Frag} {e₀ : E4} {i : Nat} {Dn : Ends} {σ : St} {H : Hp} (hw : tDS K C e₀ (sSet i g) Dn σ H) : tAsg (tD K C g) (gName i) Dn σ H := by
  obtain ⟨e, Ω, ρ, o, eH, r, q, k⟩ := hw
  unfold sSet at q
  cases q1 : g ρ Ω with
  | none => rw [q1] at q; cases q
  | some p1 =>
    obtain ⟨d, Ω'⟩ := p1
    rw [q1] at q
    cases q
    exact ⟨e, Ω, ρ, d, Ω', eH, r.wf, r.rel, q1, fun v e' x' w' i' => k e' _ ((r.to x' w').set i i')⟩
theorem pds_set {i : Nat} {n : Str} {pos' : Pos} (hN : X.N.Nodup) (hi : X.N[i]? = some n) (hx : Loc X.env.scope n) (he : PD X C x g) (hs : swapsWith x (some (.Name n pos')) pos.line X.env = pure false := by rfl) (hf : X.fn n = true ∨ X.env.scope.names.lookup n = some .local := by first | exact .inl rfl | exact .inr rfl | assumption) :
    PDS X C (.Assign [.Name n pos'] x pos) (sSet i g) := fun e₀ => ps_imp (ps_set hN hi hx he hs hf) fun Dn σ H h => set_read h
def sRet (g : Den) : SDen := fun ρ Ω => match g ρ Ω with
  | some (d, Ω') => some (.rt d Ω')
  | none => none
theorem pds_ret (he : PD X C x g) : PDS X C (.Return (some x) pos) (sRet g) := fun e₀ => ps_imp (ps_ret he) fun Dn σ H hw' => by
  obtain ⟨e, Ω, ρ, o, eH, r, q, k⟩ := hw'
  unfold sRet at q
  cases q1 : g ρ Ω with
  | none => rw [q1] at q; cases q
  | some p1 =>
    obtain ⟨d, Ω'⟩ := p1
    rw [q1] at q
    cases q
    exact ⟨e, Ω, ρ, d, Ω', eH, r.wf, r.rel, q1, fun v e' x' w' i' => k e' v (r.ext.trans x') w' i'⟩
def sIf (p : TDen) (s t : SDen) : SDen := fun ρ Ω => match p ρ Ω with
  | some (true, Ω') => s ρ Ω'
  | some (false, Ω') => t ρ Ω'
  | none => none
theorem pds_if (hc : PDT X C c p) (ha : PDB X C sts s) (hb : PDB X C sts' t) : PDS X C (.If c sts sts' pos) (sIf p s t) := fun e₀ => ps_imp (ps_if hc (ha e₀) (hb e₀)) fun Dn σ H hw' => by
  obtain ⟨e, Ω, ρ, o, eH, r, q, k⟩ := hw'
  unfold sIf at q
  cases q1 : p ρ Ω with
  | none => rw [q1] at q; cases q
  | some p1 =>
    obtain ⟨d, Ω'⟩ := p1
    rw [q1] at q
    refine ⟨e, Ω, ρ, d, Ω', eH, r.wf, r.rel, q1, fun e' x' w' => ?_⟩
    cases d with
    | true => rw [if_pos rfl]; exact ⟨e', Ω', ρ, o, rfl, r.to x' w', q, k⟩
    | false => rw [if_neg (by decide)]; exact ⟨e', Ω', ρ, o, rfl, r.to x' w', q, k⟩
def sExpr (g : Den) : SDen := fun ρ Ω => match g ρ Ω with
  | some (_, Ω') => some (.nx ρ Ω')
  | none => none
theorem pds_expr (he : PD X C x g) (hs : swapsWith x none pos.line X.env = pure false := by rfl) : PDS X C (.Expr x pos) (sExpr g) := fun e₀ => ps_imp (ps_expr he hs) fun Dn σ H hw' => by
  obtain ⟨e, Ω, ρ, o, eH, r, q, k⟩ := hw'
  unfold sExpr at q
  cases q1 : g ρ Ω with
  | none => rw [q1] at q; cases q
  | some p1 =>
    obtain ⟨d, Ω'⟩ := p1
    rw [q1] at q
    cases q
    exact ⟨e, Ω, ρ, d, Ω', eH, r.wf, r.rel, q1, fun v e' x' w' i' => k e' σ (r.to x' w')⟩
def sNever : SDen := fun _ _ => none
theorem pds_never : PDS X C st sNever := fun e₀ => ps_imp ps_never fun Dn σ H hw' => by obtain ⟨e, Ω, ρ, o, eH, r, q, k⟩ := hw'; cases q
def sOwn (i : Nat) (g : ADen) : SDen := fun ρ Ω => match g ρ Ω with
  | some (ds, Ω') => if ds.length ≤ big then some (.nx (ρ.set i (.own ds)) Ω') else none
  | none => none
theorem pds_own {i : Nat} {n : Str} {pos' lp : Pos} {es : List Expr} {ga : ADen} (hN : X.N.Nodup) (hi : X.N[i]? = some n) (hx : Loc X.env.scope n) (he : PDA X C es ga) (hs : swapsWith (.List es lp) (some (.Name n pos')) pos.line X.env = pure false := by rfl) (hf : X.fn n = true ∨ X.env.scope.names.lookup n = some .local := by first | exact .inl rfl | exact .inr rfl | assumption) :
    PDS X C (.Assign [.Name n pos'] (.List es lp) pos) (sOwn i ga) := fun e₀ => ps_imp (ps_set hN hi hx (pe_lst he) hs hf) fun Dn σ H hw' => by
  obtain ⟨e, Ω, ρ, o, eH, r, q, k⟩ := hw'
  unfold sOwn at q
  cases q1 : ga ρ Ω with
  | none => rw [q1] at q; cases q
  | some p1 =>
    obtain ⟨ds, Ω'⟩ := p1
    rw [q1] at q
    dsimp only at q
    split at q
    · rename_i hl
      cases q
      refine ⟨e, Ω, ρ, ds, Ω', eH, r.wf, r.rel, q1, fun vs e' x' w' i' => ⟨by rw [← i'.length]; exact big_line hl, fun a ha => ?_⟩⟩
      have r' := r.to x' w'
      have hne : ∀ b u, e'.H b = some u → b ≠ a := fun b u hb => ne_of_none hb ha
      have hF : e'.F a = none := w'.nF ha
      have hA : ¬ e'.A a := fun z => (w'.ah a z).1 ha
      have own1 : ∀ (j : Nat) (es : List D), (ρ.set i (.own ds))[j]? = some (.own es) → (j = i ∧ es = ds ∧ i < ρ.length) ∨ (j ≠ i ∧ ρ[j]? = some (.own es)) := fun j es hj => by
        by_cases e1 : i = j
        · subst e1
          have hl : i < ρ.length := by
            have := (List.getElem?_eq_some_iff.mp hj).1
            simpa using this
          rw [List.getElem?_set_self hl] at hj
          cases hj
          exact .inl ⟨rfl, rfl, hl⟩
        · rw [List.getElem?_set_ne e1] at hj
          exact .inr ⟨fun z => e1 z.symm, hj⟩
      refine k ⟨e'.α, e'.F, e'.A, upd e'.H a (.lst vs)⟩ _ ⟨⟨fun b u hb => ?_, w'.fa, fun b hb => ?_, w'.ol, w'.nd, fun n b u h1 h2 => ⟨(w'.ob n b u h1 h2).1, (w'.ob n b u h1 h2).2.keep (fun z hz => ?_) (Same.refl _) ⟨[], by simp⟩⟩⟩, ⟨by simp [r'.rel.len], fun j d hj => ?_, fun j es hj => ?_, fun j m es fs b hj hm h1 h2 => ?_⟩, ⟨fun b o' u hb => by show upd e'.H a _ b = some (.frz o' u); rw [upd_ne (hne b _ (r'.ext.fz b o' u hb))]; exact r'.ext.fz b o' u hb, fun b u hb hn => ?_, fun b u hb => ?_, r'.ext.ff, r'.ext.fn, r'.ext.an, r'.ext.aa, r'.ext.al⟩, fun j es b hj h1 => ?_⟩
      · show upd e'.H a _ b = some u
        rw [upd_ne (hne b u (w'.fh b u hb))]; exact w'.fh b u hb
      · show upd e'.H a _ b ≠ none ∧ ∀ xs, upd e'.H a _ b ≠ some (.tup xs)
        rw [upd_ne (fun z => hA (by rw [← z]; exact hb))]; exact w'.ah b hb
      · show upd e'.H a _ b = some z
        rw [upd_ne (hne b z hz)]; exact hz
      · have n : i ≠ j := fun e1 => by
          subst e1
          have hl : i < ρ.length := by
            have := (List.getElem?_eq_some_iff.mp hj).1
            simpa using this
          rw [List.getElem?_set_self hl] at hj
          cases hj
        rw [List.getElem?_set_ne n] at hj ⊢
        exact r'.rel.dat j d hj
      · rcases own1 j es hj with ⟨rfl, rfl, hq⟩ | ⟨n, hj'⟩
        · exact ⟨a, vs, List.getElem?_set_self (by rw [r'.rel.len]; exact hq), upd_same, i', hF, hA⟩
        · obtain ⟨b, us, z1, z2, z3, z4, z5⟩ := r'.rel.own j es hj'
          exact ⟨b, us, by rw [List.getElem?_set_ne n.symm]; exact z1, by show upd e'.H a _ b = _; rw [upd_ne (hne b _ z2)]; exact z2, z3, z4, z5⟩
      · rcases own1 j es hj with ⟨rfl, rfl, hq⟩ | ⟨n, hj'⟩
        · rcases own1 m fs hm with ⟨rfl, _, _⟩ | ⟨n', hm'⟩
          · rfl
          · rw [List.getElem?_set_self (by rw [r'.rel.len]; exact hq)] at h1
            rw [List.getElem?_set_ne n'.symm] at h2
            obtain ⟨b', us, z1, z2, _⟩ := r'.rel.own m fs hm'
            rw [h2] at z1
            cases h1
            cases z1
            exact absurd rfl (hne _ _ z2)
        · rcases own1 m fs hm with ⟨rfl, _, hq⟩ | ⟨n', hm'⟩
          · rw [List.getElem?_set_self (by rw [r'.rel.len]; exact hq)] at h2
            rw [List.getElem?_set_ne n.symm] at h1
            obtain ⟨b', us, z1, z2, _⟩ := r'.rel.own j es hj'
            rw [h1] at z1
            cases h2
            cases z1
            exact absurd rfl (hne _ _ z2)
          · rw [List.getElem?_set_ne n.symm] at h1
            rw [List.getElem?_set_ne n'.symm] at h2
            exact r'.rel.sep j m es fs b hj' hm' h1 h2
      · show upd e'.H a _ b = some u
        have z := r'.ext.hk b u hb hn
        rw [upd_ne (hne b u z)]; exact z
      · obtain ⟨u', z⟩ := r'.ext.dm b u hb
        exact ⟨u', by show upd e'.H a _ b = some u'; rw [upd_ne (hne b u' z)]; exact z⟩
      · rcases own1 j es hj with ⟨rfl, rfl, hq⟩ | ⟨n, hj'⟩
        · rw [List.getElem?_set_self (by rw [r'.rel.len]; exact hq)] at h1
          cases h1
          exact r'.ext.back ha
        · rw [List.getElem?_set_ne n.symm] at h1
          exact r'.fresh j es b hj' h1
    · cases q
def sApp (i : Nat) (g : Den) : SDen := fun ρ Ω => match g ρ Ω with
  | some (d, Ω') => match ρ[i]? with
    | some (.own ds) => if ds.length < big then some (.nx (ρ.set i (.own (ds ++ [d]))) Ω') else none
    | _ => none
  | none => none
theorem app_read {K : PySem.W.Frag} {e₀ : E4} {i : Nat} {Dn : Ends} {σ : St} {H : Hp} (hw : tDS K C e₀ (sApp i g) Dn σ H) :
    tDrop (tBM K "list" rAppend (tVar i) (tCons (tD K C g) tNil)) Dn σ H := by
  obtain ⟨e, Ω, ρ, o, eH, r, q, k⟩ := hw
  subst eH
  unfold sApp at q
  cases q1 : g ρ Ω with
  | none => rw [q1] at q; cases q
  | some p1 =>
    obtain ⟨d, Ω'⟩ := p1
    rw [q1] at q
    dsimp only at q
    cases q2 : ρ[i]? with
    | none => rw [q2] at q; cases q
    | some sl =>
      rw [q2] at q
      cases sl with
      | own ds =>
        dsimp only at q
        split at q
        · rename_i hl
          cases q
          obtain ⟨a, vs, e1, e2, i1, n1, n2⟩ := r.rel.own i ds q2
          refine ⟨.ref a, e1, .inl ⟨rfl, _, SqL.of e2⟩, ?_⟩
          refine ⟨e, Ω, ρ, d, Ω', rfl, r.wf, r.rel, q1, fun v e' x' w' i' => ?_⟩
          have r' := r.to x' w'
          obtain ⟨a', vs', e1', e2', i1', n1', n2'⟩ := r'.rel.own i ds q2
          rw [e1] at e1'
          cases e1'
          refine ⟨a, vs', v, rfl, rfl, e2', by rw [← i1'.length]; exact big_lt hl, ?_⟩
          have hil : i < ρ.length := (List.getElem?_eq_some_iff.mp q2).1
          have neH : ∀ (j : Nat) (es : List D) (b : Addr), j ≠ i → ρ[j]? = some (.own es) → σ[j]? = some (some (.ref b)) → b ≠ a := fun j es b n hj h1 z => by
            subst z
            exact n (r'.rel.sep j i es ds b hj q2 h1 e1)
          have own1 : ∀ (j : Nat) (es : List D), (ρ.set i (.own (ds ++ [d])))[j]? = some (.own es) → (j = i ∧ es = ds ++ [d]) ∨ (j ≠ i ∧ ρ[j]? = some (.own es)) := fun j es hj => by
            by_cases e3 : i = j
            · subst e3
              rw [List.getElem?_set_self hil] at hj
              cases hj
              exact .inl ⟨rfl, rfl⟩
            · rw [List.getElem?_set_ne e3] at hj
              exact .inr ⟨fun z => e3 z.symm, hj⟩
          refine k ⟨e'.α, e'.F, e'.A, upd e'.H a (.lst (vs' ++ [v]))⟩ σ ⟨⟨fun b u hb => ?_, w'.fa, fun b hb => ?_, w'.ol, w'.nd, fun n b u h1 h2 => ⟨(w'.ob n b u h1 h2).1, (w'.ob n b u h1 h2).2.keep (fun z hz => ?_) (Same.refl _) ⟨[], by simp⟩⟩⟩, ⟨by simp [r'.rel.len], fun j d' hj => ?_, fun j es hj => ?_, fun j m es fs b hj hm h1 h2 => ?_⟩, ⟨fun b o' u hb => by have q := r'.ext.fz b o' u hb; show upd e'.H a _ b = some (.frz o' u); rw [upd_ne (fun z => by rw [z, e2'] at q; cases q)]; exact q, fun b u hb hn => ?_, fun b u hb => ?_, r'.ext.ff, r'.ext.fn, r'.ext.an, r'.ext.aa, r'.ext.al⟩, fun j es b hj h1 => ?_⟩
          · show upd e'.H a _ b = some u
            rw [upd_ne (fun z => by subst z; rw [n1'] at hb; cases hb)]
            exact w'.fh b u hb
          · show upd e'.H a _ b ≠ none ∧ ∀ xs, upd e'.H a _ b ≠ some (.tup xs)
            rw [upd_ne (fun z => n2' (by rw [← z]; exact hb))]
            exact w'.ah b hb
          · show upd e'.H a _ b = some z
            rw [upd_ne (fun y => n2' (by rw [← y]; exact (w'.ob n b u h1 h2).1))]
            exact hz
          · have n : i ≠ j := fun e3 => by
              subst e3
              rw [List.getElem?_set_self hil] at hj
              cases hj
            rw [List.getElem?_set_ne n] at hj
            exact r'.rel.dat j d' hj
          · rcases own1 j es hj with ⟨rfl, rfl⟩ | ⟨n, hj'⟩
            · exact ⟨a, _, e1, upd_same, i1'.append (.cons i' .nil), n1', n2'⟩
            · obtain ⟨b, us, z1, z2, z3, z4, z5⟩ := r'.rel.own j es hj'
              exact ⟨b, us, z1, by show upd e'.H a _ b = _; rw [upd_ne (neH j es b n hj' z1)]; exact z2, z3, z4, z5⟩
          · rcases own1 j es hj with ⟨rfl, _⟩ | ⟨n, hj'⟩
            · rcases own1 m fs hm with ⟨rfl, _⟩ | ⟨n', hm'⟩
              · rfl
              · exact r'.rel.sep _ m ds fs b q2 hm' h1 h2
            · rcases own1 m fs hm with ⟨rfl, _⟩ | ⟨n', hm'⟩
              · exact r'.rel.sep j _ es ds b hj' q2 h1 h2
              · exact r'.rel.sep j m es fs b hj' hm' h1 h2
          · show upd e'.H a _ b = some u
            have h0 := r'.fresh i ds a q2 e1
            rw [upd_ne (ne_of_none hb h0)]
            exact r'.ext.hk b u hb hn
          · have h0 := r'.fresh i ds a q2 e1
            obtain ⟨u', z⟩ := r'.ext.dm b u hb
            exact ⟨u', by show upd e'.H a _ b = some u'; rw [upd_ne (ne_of_none hb h0)]; exact z⟩
          · rcases own1 j es hj with ⟨rfl, _⟩ | ⟨n, hj'⟩
            · exact r'.fresh _ ds b q2 h1
            · exact r'.fresh j es b hj' h1
        · cases q
      | und => cases q
      | dat _ => cases q
end
end DL
set_option Elab.async false
set_option linter.all false
set_option maxRecDepth 100000
set_option genSizeOf false
set_option bootstrap.genMatcherCode false
namespace DL
open PySem PySem.Spec PyProof.Rows L2
open Classical in
noncomputable def hid (P : Addr → Prop) (H : Hp) : Hp := fun b => if P b then none else H b
theorem hid_pos {P : Addr → Prop} {H : Hp} {b : Addr} (h : P b) : hid P H b = none := if_pos h
theorem hid_neg {P : Addr → Prop} {H : Hp} {b : Addr} (h : ¬ P b) : hid P H b = H b := if_neg h
theorem hid_some {P : Addr → Prop} {H : Hp} {b : Addr} {o : HO} (h : hid P H b = some o) : H b = some o := by
  by_cases q : P b
  · rw [hid_pos q] at h; cases h
  · rw [hid_neg q] at h; exact h
section
variable {K : PySem.W.Frag} {C : Cl} {e₀ e e' : E4} {Ω Ω' : List OS} {σ : St} {ρ : List Sl}
theorem RelS.mark (r : RelS K C e₀ e Ω σ ρ) : ∃ e₁ : E4, e₁.F = e.F ∧ e₁.α = e.α ∧ RelS K C e₁ e Ω σ ρ ∧ (∀ e', Ext e₁ e' → Ext e₀ e') ∧ (∀ b, e₁.H b = none → e₀.H b = none) ∧ ∀ b o u, e.H b = some (.frz o u) → e₁.H b = some (.frz o u) := by
  have ho : ∀ b, (∃ (i : Nat) (ds : List D), ρ[i]? = some (Sl.own ds) ∧ σ[i]? = some (some (V.ref b))) → e₀.H b = none := fun b ⟨i, ds, h1, h2⟩ => r.fresh i ds b h1 h2
  generalize hP : (fun b : Addr => ∃ (i : Nat) (ds : List D), ρ[i]? = some (Sl.own ds) ∧ σ[i]? = some (some (V.ref b))) = P
  have ho' : ∀ b, P b → e₀.H b = none := fun b h => ho b (by rw [← hP] at h; exact h)
  have hno : ∀ b, hid P e.H b = none → e₀.H b = none := fun b h => by
    by_cases q : P b
    · exact ho' b q
    · rw [hid_neg q] at h; exact r.ext.back h
  have hs : ∀ b o, e₀.H b = some o → hid P e.H b = e.H b := fun b o h => hid_neg (fun q => by rw [ho' b q] at h; cases h)
  refine ⟨⟨e.α, e.F, e.A, hid P e.H⟩, rfl, rfl, ⟨r.wf, r.rel, ⟨fun b o u h => hid_some h, fun b o h _ => hid_some h, fun b o h => ⟨o, hid_some h⟩, Same.refl _, fun b o h => .inl h, fun b h => .inl h, fun b h => h, [], by simp⟩, fun i ds a h1 h2 => ?_⟩, fun e' x => ⟨fun b o u h => x.fz b o u ((hs b _ h).trans (r.ext.fz b o u h)), fun b o h hn => ?_, fun b o h => ?_, r.ext.ff.trans x.ff, fun b o h => ?_, fun b h => ?_, fun b h => x.aa b (r.ext.aa b h), ?_⟩, hno, fun b o u h => (hid_neg (fun q => ?_)).trans h⟩
  · exact hid_pos (by rw [← hP]; exact ⟨i, ds, h1, h2⟩)
  · have z := r.ext.hk b o h hn
    refine x.hk b o ((hs b o h).trans z) fun hA => ?_
    rcases r.ext.an b hA with q | q
    · exact hn q
    · rw [q] at h; cases h
  · obtain ⟨o', z⟩ := r.ext.dm b o h
    exact x.dm b o' ((hs b o h).trans z)
  · rcases x.fn b o h with q | q | ⟨q1, q2, q3⟩
    · exact r.ext.fn b o q
    · exact .inr (.inl (hno b q))
    · have n : ¬ e₀.A b := fun z => q3 (r.ext.aa b z)
      cases z : e₀.H b with
      | none => exact .inr (.inl rfl)
      | some o' =>
        have z' := r.ext.hk b o' z n
        rw [hid_some q2] at z'
        cases z'
        exact .inr (.inr ⟨q1, rfl, n⟩)
  · rcases x.an b h with q | q
    · exact r.ext.an b q
    · exact .inr (hno b q)
  · obtain ⟨m, e1⟩ := r.ext.al
    obtain ⟨n, e2⟩ := x.al
    exact ⟨m ++ n, by rw [e2]; show e.α ++ n = _; rw [e1, List.append_assoc]⟩
  · rw [← hP] at q
    obtain ⟨i, ds, h1, h2⟩ := q
    obtain ⟨a', vs, e1, e2, _⟩ := r.rel.own i ds h1
    rw [h2] at e1
    cases e1
    rw [h] at e2
    cases e2
end
abbrev BDen := D → List Sl → Option (List Sl)
def tDG (K : PySem.W.Frag) (C : Cl) (β : BDen) : TG := fun v σ H Q => ∃ e Ω ρ d ρ', e.H = H ∧ Wf K C e Ω ∧ RelE K e σ ρ ∧ Is K e.α e.F d v ∧ β d ρ = some ρ' ∧
  ∀ σ', RelE K e σ' ρ' → (∀ (j : Nat) (ds : List D), ρ'[j]? = some (.own ds) → ρ[j]? = some (.own ds) ∧ σ'[j]? = σ[j]?) → Q σ' e.H
def PDG (X : Cx) (C : Cl) (tg : Expr) (β : BDen) : Prop := PG X tg (tDG X.K C β)
theorem pg_imp {X : Cx} {tg : Expr} {t t' : TG} (h : PG X tg t) (i : ∀ v σ H Q, t' v σ H Q → t v σ H Q) : PG X tg t' := fun pins s σ H v u Q I r hw => h pins s σ H v u Q I r (i v σ H Q hw)
theorem pgs_imp {X : Cx} {ts : List Expr} {t t' : TGs} (h : PGs X ts t) (i : ∀ v σ H Q, t' v σ H Q → t v σ H Q) : PGs X ts t' := fun pins s σ H v u Q I r hw => h pins s σ H v u Q I r (i v σ H Q hw)
def bName (i : Nat) : BDen := fun d ρ => some (ρ.set i (.dat d))
theorem own_set {ρ : List Sl} {σ : St} {i : Nat} {d : D} {v : V} (j : Nat) (ds : List D) (h : (ρ.set i (.dat d))[j]? = some (.own ds)) : ρ[j]? = some (.own ds) ∧ (σ.set i (some v))[j]? = σ[j]? := by
  have n := set_own_ne h
  rw [List.getElem?_set_ne n] at h
  exact ⟨h, List.getElem?_set_ne n⟩
section
variable {X : Cx} {C : Cl} {pos : Pos}
theorem pdg_name {i : Nat} {x : Str} (hN : X.N.Nodup) (hi : X.N[i]? = some x) (hx : Loc X.env.scope x) (hf : X.fn x = true ∨ X.env.scope.names.lookup x = some .local := by first | exact .inl rfl | exact .inr rfl | assumption) : PDG X C (.Name x pos) (bName i) :=
  pg_imp (pg_name hN hi hx hf) fun v σ H Q hw' => by
    obtain ⟨e, Ω, ρ, d, ρ', eH, w, r, is, b, k⟩ := hw'
    subst eH
    cases b
    exact k _ (r.set i is) own_set
def bNames : List Nat → List D → List Sl → Option (List Sl)
  | [], [], ρ => some ρ
  | i :: is, d :: ds, ρ => bNames is ds (ρ.set i (.dat d))
  | _, _, _ => none
def tDGs (K : PySem.W.Frag) (C : Cl) (is : List Nat) : TGs := fun vs σ H Q => ∃ e Ω ρ ds ρ', e.H = H ∧ Wf K C e Ω ∧ RelE K e σ ρ ∧ IsL K e.α e.F ds vs ∧ bNames is ds ρ = some ρ' ∧
  ∀ σ', RelE K e σ' ρ' → (∀ (j : Nat) (ds : List D), ρ'[j]? = some (.own ds) → ρ[j]? = some (.own ds) ∧ σ'[j]? = σ[j]?) → Q σ' e.H
def PDGs (X : Cx) (C : Cl) (ts : List Expr) (is : List Nat) : Prop := PGs X ts (tDGs X.K C is)
theorem pdgs_nil : PDGs X C [] [] := pgs_imp pgs_nil fun vs σ H Q hw' => by
  obtain ⟨e, Ω, ρ, ds, ρ', eH, w, r, is, b, k⟩ := hw'
  subst eH
  cases ds with
  | nil => cases b; exact ⟨is.of_nil, k _ r fun _ _ h => ⟨h, rfl⟩⟩
  | cons => cases b
theorem pdgs_cons {i : Nat} {is : List Nat} {x : Str} {ts : List Expr} {px : Pos} (hN : X.N.Nodup) (hi : X.N[i]? = some x) (hx : Loc X.env.scope x) (h2 : PDGs X C ts is) (hf : X.fn x = true ∨ X.env.scope.names.lookup x = some .local := by first | exact .inl rfl | exact .inr rfl | assumption)
    (hs : (assignEach (.Name x px :: ts) X.env).map (·.2) = assign (.Name x px) X.env :: (assignEach ts X.env).map (·.2) := by rfl) : PDGs X C (.Name x px :: ts) (i :: is) := by
  refine pgs_imp (pgs_cons (pg_name hN hi hx hf) h2 hs) fun vs σ H Q hw' => ?_
  obtain ⟨e, Ω, ρ, ds, ρ', eH, w, r, il, b, k⟩ := hw'
  subst eH
  cases ds with
  | nil => cases b
  | cons d ds =>
    obtain ⟨v, vr, rfl, i1, i2⟩ := il.of_cons
    refine ⟨v, vr, rfl, ?_⟩
    refine ⟨e, Ω, _, ds, ρ', rfl, w, r.set i i1, i2, b, fun σ' r' o' => k σ' r' fun j es hj => ?_⟩
    obtain ⟨z1, z2⟩ := o' j es hj
    obtain ⟨y1, y2⟩ := own_set (σ := σ) (v := v) j es z1
    exact ⟨y1, z2.trans y2⟩
def bTup (is : List Nat) : BDen := fun d ρ => match d with
  | .tup ds => bNames is ds ρ
  | _ => none
theorem bNames_len : ∀ {is : List Nat} {ds : List D} {ρ ρ' : List Sl}, bNames is ds ρ = some ρ' → ds.length = is.length
  | [], [], _, _, _ => rfl
  | i :: is, d :: ds, ρ, ρ', h => by
    rw [List.length_cons, List.length_cons, bNames_len (is := is) (ds := ds) h]
  | [], _ :: _, _, _, h => by cases h
  | _ :: _, [], _, _, h => by cases h
theorem pdg_tup {es : List Expr} {k : Nat} {is : List Nat} (hc : X.calm = true) (h : PDGs X C es is)
    (hn : (assignEach es X.env).length = is.length := by rfl) (hst : (assignEach es X.env).findIdx? (·.1) = none := by rfl) : PDG X C (.Tuple es k pos) (bTup is) := by
  refine pg_imp (pg_tup hc h hn hst) fun v σ H Q hw' => ?_
  obtain ⟨e, Ω, ρ, d, ρ', eH, w, r, il, b, k⟩ := hw'
  subst eH
  unfold bTup at b
  cases d with
  | tup ds =>
    rw [Is] at il
    obtain ⟨a, vs, rfl, e1, i1⟩ := il
    exact ⟨a, vs, rfl, SqT.of (w.fh _ _ e1), by rw [← i1.length]; exact bNames_len b, e, Ω, ρ, ds, ρ', rfl, w, r, i1, b, k⟩
  | _ => cases b
def sAsg (β : BDen) (g : Den) : SDen := fun ρ Ω => match g ρ Ω with
  | some (d, Ω') => match β d ρ with
    | some ρ' => some (.nx ρ' Ω')
    | none => none
  | none => none
theorem RelS.by {K : PySem.W.Frag} {e₀ e : E4} {Ω : List OS} {σ σ' : St} {ρ ρ' : List Sl} (r : RelS K C e₀ e Ω σ ρ) (r' : RelE K e σ' ρ') (o : ∀ (j : Nat) (ds : List D), ρ'[j]? = some (.own ds) → ρ[j]? = some (.own ds) ∧ σ'[j]? = σ[j]?) : RelS K C e₀ e Ω σ' ρ' :=
  ⟨r.wf, r', r.ext, fun i ds a h1 h2 => by
    obtain ⟨z1, z2⟩ := o i ds h1
    rw [z2] at h2
    exact r.fresh i ds a z1 h2⟩
theorem pds_asg {tg x : Expr} {β : BDen} {g : Den} (he : PD X C x g) (hg : PDG X C tg β) (hs : swapsWithSole [tg] x pos.line X.env = pure false := by rfl) (hw : swappedStores [tg] x X.env = pure none := by rfl)
    (h1 : (assignEach [tg] X.env).map (·.2) = [assign tg X.env] := by rfl) : PDS X C (.Assign [tg] x pos) (sAsg β g) := by
  refine fun e₀ => ps_imp (ps_asg he hg hs hw h1) fun Dn σ H hw' => ?_
  obtain ⟨e, Ω, ρ, o, eH, r, q, k⟩ := hw'
  unfold sAsg at q
  cases q1 : g ρ Ω with
  | none => rw [q1] at q; cases q
  | some p1 =>
    obtain ⟨d, Ω'⟩ := p1
    rw [q1] at q
    dsimp only at q
    cases q2 : β d ρ with
    | none => rw [q2] at q; cases q
    | some ρ' =>
      rw [q2] at q
      cases q
      refine ⟨e, Ω, ρ, d, Ω', eH, r.wf, r.rel, q1, fun v e' x' w' i' => ?_⟩
      have r' := r.to x' w'
      exact ⟨e', Ω', ρ, d, ρ', rfl, w', r'.rel, i', q2, fun σ' z o' => k e' σ' (r'.by z o')⟩
end
def Walk (K : PySem.W.Frag) (e : E4) (J : It) (ds : List D) : Prop := ∀ (i : Nat) (e2 : E4), Same e.F e2.F → (∃ more, e2.α = e.α ++ more) → Same e2.F e2.H →
  (i = ds.length → J.stop i e2.H) ∧ ∀ d, ds[i]? = some d → J.go i e2.H ∧ ∀ x H', J.yld i e2.H x H' → ∃ e3 : E4, e3.H = H' ∧ Is K e3.α e3.F d x ∧ ∀ (C : Cl) (Ω : List OS), Wf K C e2 Ω → Ext e2 e3 ∧ Wf K C e3 Ω
theorem Walk.still {K : PySem.W.Frag} {e : E4} {J : It} {ds : List D} (h : ∀ (i : Nat) (e2 : E4), Same e.F e2.F → (∃ more, e2.α = e.α ++ more) → Same e2.F e2.H →
    (i = ds.length → J.stop i e2.H) ∧ ∀ d, ds[i]? = some d → J.go i e2.H ∧ ∀ x H', J.yld i e2.H x H' → H' = e2.H ∧ Is K e2.α e2.F d x) : Walk K e J ds := fun i e2 h1 h2 h3 => by
  obtain ⟨a, b⟩ := h i e2 h1 h2 h3
  refine ⟨a, fun d hd => ⟨(b d hd).1, fun x H' hy => ?_⟩⟩
  obtain ⟨z, q⟩ := (b d hd).2 x H' hy
  exact ⟨e2, z.symm, q, fun C Ω w => ⟨Ext.refl _, w⟩⟩
def tDI (K : PySem.W.Frag) (C : Cl) (γ : ADen) : TI := fun σ H R => ∃ e Ω ρ ds Ω', e.H = H ∧ Wf K C e Ω ∧ RelE K e σ ρ ∧ γ ρ Ω = some (ds, Ω') ∧ ∀ e' J, Ext e e' → Wf K C e' Ω' → Walk K e' J ds → R J e'.H
def PDI (X : Cx) (C : Cl) (tg iter : Expr) (γ : ADen) : Prop := PI X tg iter (tDI X.K C γ)
theorem pi_imp {X : Cx} {tg iter : Expr} {t t' : TI} (h : PI X tg iter t) (i : ∀ σ H R, t' σ H R → t σ H R) : PI X tg iter t' := fun pins s σ H R I hw => h pins s σ H R I (i σ H R hw)
section
variable {X : Cx} {C : Cl} {tg iter : Expr} {g : Den} {ga : ADen} {pos p : Pos}
def seqD : D → Option (List D)
  | .lst xs => some xs
  | .scr ns => some (ns.map D.int)
  | _ => none
def gSeq (g : Den) : ADen := fun ρ Ω => match g ρ Ω with
  | some (d, Ω') => match seqD d with
    | some ds => some (ds, Ω')
    | none => none
  | none => none
theorem walk_list {K : PySem.W.Frag} {e : E4} {a : Addr} {vs : List V} {ds : List D} (h : SqL K e.F a vs) (r : IsL K e.α e.F ds vs) : Walk K e (Itl K a) ds := by
  refine Walk.still ?_
  intro i e2 ff al fh
  have h2 : SqL K e2.H a vs := fh.seq (ff.seq h)
  refine ⟨fun z => ⟨vs, h2, by rw [← r.length]; exact Nat.le_of_eq z.symm⟩, fun d hd => ?_⟩
  obtain ⟨v, hv, iv⟩ := (IsL.mono ff al ds r).get hd
  exact ⟨⟨vs, v, h2, hv⟩, fun x H' ⟨z1, z2⟩ => ⟨z1, by
    have := z2 vs h2
    rw [hv] at this
    cases this
    exact iv⟩⟩
theorem pdi_list (h : PD X C iter g) : PDI X C tg iter (gSeq g) := pi_imp (pi_list h) fun σ H R hw' => by
  obtain ⟨e, Ω, ρ, ds, Ω', eH, w, rl, q, k⟩ := hw'
  unfold gSeq at q
  cases q1 : g ρ Ω with
  | none => rw [q1] at q; cases q
  | some p1 =>
    obtain ⟨d, Ω1⟩ := p1
    rw [q1] at q
    dsimp only at q
    refine ⟨e, Ω, ρ, d, Ω1, eH, w, rl, q1, fun v e' x' w' i' => ?_⟩
    cases d with
    | lst xs =>
      cases q
      rw [Is] at i'
      obtain ⟨a, vs, rfl, h1, r1⟩ := i'
      exact ⟨a, rfl, ⟨vs, SqL.of (w'.fh _ _ h1)⟩, k e' _ x' w' (walk_list (SqL.of h1) r1)⟩
    | scr ns =>
      cases q
      rw [Is] at i'
      obtain ⟨a, rfl, h1⟩ := i'
      exact ⟨a, rfl, ⟨_, w'.fh.seq h1⟩, k e' _ x' w' (walk_list h1 (IsL.ints ns))⟩
    | _ => cases q
def upD (lo : Int) (n : Nat) : List D := (List.range n).map fun (k : Nat) => D.int (lo + (k : Int))
theorem walk_range {K : PySem.W.Frag} {e : E4} {lo : Int} {n : Nat} : Walk K e (Itr lo n) (upD lo n) := by
  refine Walk.still ?_
  intro i e2 _ _ _
  refine ⟨fun z => Nat.le_of_eq (by rw [z]; simp [upD]), fun d hd => ?_⟩
  have hi : i < n := by
    have := (List.getElem?_eq_some_iff.mp hd).1
    simpa [upD] using this
  refine ⟨hi, fun x H' ⟨z1, z2⟩ => ⟨z1, ?_⟩⟩
  have : d = D.int (lo + (i : Int)) := by
    simp [upD, hi] at hd
    exact hd.symm
  subst this z2
  rw [Is]
noncomputable def rng1 : List D → Option (List D)
  | [.int j] => grd (-(2 ^ 62) ≤ j ∧ j < 2 ^ 62) (some (upD 0 j.toNat))
  | _ => none
def gRng (r : List D → Option (List D)) (g : ADen) : ADen := fun ρ Ω => match g ρ Ω with
  | some (ds, Ω') => match r ds with
    | some es => some (es, Ω')
    | none => none
  | none => none
theorem pdi_range1 {a : Expr} (hg : Gl X "range") (hm : X.mg "range" = none) (ha : PDA X C [a] ga) (hs : starEach [a] X.env = [(false, eval a X.env)] := by rfl) : PDI X C tg (.Call (.Name "range" p) [a] [] pos) (gRng rng1 ga) :=
  pi_imp (pi_range1 hg hm ha hs) fun σ H R hw' => by
    obtain ⟨e, Ω, ρ, ds, Ω', eH, w, rl, q, k⟩ := hw'
    unfold gRng at q
    cases q1 : ga ρ Ω with
    | none => rw [q1] at q; cases q
    | some p1 =>
      obtain ⟨es, Ω1⟩ := p1
      rw [q1] at q
      dsimp only at q
      refine ⟨e, Ω, ρ, es, Ω1, eH, w, rl, q1, fun v e' x' w' i' => ?_⟩
      match es, q, i' with
      | [.int j], q, i' =>
        obtain ⟨v, rfl, iv⟩ := isL_one i'
        rw [Is] at iv
        subst iv
        have ez : rng1 [D.int j] = grd (-(2 ^ 62) ≤ j ∧ j < 2 ^ 62) (some (upD 0 j.toNat)) := rfl
        rw [ez] at q
        by_cases hb : (-(2 ^ 62) ≤ j ∧ j < 2 ^ 62)
        · rw [grd_pos hb] at q
          cases q
          exact ⟨j, rfl, hb.1, hb.2, k e' _ x' w' walk_range⟩
        · have en : grd (-(2 ^ 62) ≤ j ∧ j < 2 ^ 62) (some (upD 0 j.toNat)) = none := if_neg hb
          rw [en] at q
          cases q
end
def forD (β : BDen) (s : SDen) : List D → SDen
  | [], ρ, Ω => some (.nx ρ Ω)
  | d :: ds, ρ, Ω => match β d ρ with
    | some ρ1 => match s ρ1 Ω with
      | some (.nx ρ' Ω') => forD β s ds ρ' Ω'
      | some (.ct ρ' Ω') => forD β s ds ρ' Ω'
      | some (.bk ρ' Ω') => some (.nx ρ' Ω')
      | some (.rt z Ω') => some (.rt z Ω')
      | none => none
    | none => none
def sFor (γ : ADen) (β : BDen) (s : SDen) : SDen := fun ρ Ω => match γ ρ Ω with
  | some (ds, Ω') => forD β s ds ρ Ω'
  | none => none
section
variable {X : Cx} {C : Cl} {tg iter c : Expr} {γ : ADen} {β : BDen} {s : SDen} {body : List Stmt} {pos : Pos} {p : TDen}
theorem pdb_ex {sts : List Stmt} (h : PDB X C sts s) : PSs X sts (fun Dn σ H => ∃ e₁, tDS X.K C e₁ s Dn σ H) := fun pins sh σ H Dn I ⟨e₁, hw⟩ => h e₁ pins sh σ H Dn I hw
theorem pds_for (hp : PassesOwn (model X.prog X.w) X.A X.env X.xe) (hc : X.calm = true) (hi : PDI X C tg iter γ) (hg : PDG X C tg β) (hb : PDB X C body s)
    (hs : ∀ x, foldedSetIterable iter X.env x = pure x := by intro _; rfl) : PDS X C (.For tg iter body [] pos) (sFor γ β s) := by
  refine fun e₀ => ps_imp (ps_for hp hc hi hg (pdb_ex hb) hs) fun Dn σ H hw' => ?_
  obtain ⟨e, Ω, ρ, o, eH, r, q, k⟩ := hw'
  unfold sFor at q
  cases q1 : γ ρ Ω with
  | none => rw [q1] at q; cases q
  | some p1 =>
    obtain ⟨ds, Ω'⟩ := p1
    rw [q1] at q
    dsimp only at q
    refine ⟨e, Ω, ρ, ds, Ω', eH, r.wf, r.rel, q1, fun e' J x' w' wk => ?_⟩
    refine ⟨fun i m σ H => m = ds.length - i ∧ i ≤ ds.length ∧ ∃ e2 Ω2 ρ2, e2.H = H ∧ RelS X.K C e₀ e2 Ω2 σ ρ2 ∧ Same e'.F e2.F ∧ (∃ more, e2.α = e'.α ++ more) ∧ forD β s (ds.drop i) ρ2 Ω2 = some o, ⟨ds.length, by simp, Nat.zero_le _, e', Ω', ρ, rfl, r.to x' w', Same.refl _, ⟨[], by simp⟩, by simpa using q⟩, ?_⟩
    rintro i m σ2 H2 ⟨rfl, hil, e2, Ω2, ρ2, rfl, r2, ff, al, q2⟩
    obtain ⟨stop, go⟩ := wk i e2 ff al r2.wf.fh
    by_cases hlt : i < ds.length
    · have hd : ds[i]? = some ds[i] := List.getElem?_eq_getElem hlt
      obtain ⟨g1, y1⟩ := go _ hd
      have edrop : ds.drop i = ds[i] :: ds.drop (i + 1) := List.drop_eq_getElem_cons hlt
      rw [edrop] at q2
      refine .inr ⟨g1, fun σ' H' => ∃ e3 Ω3 ρ3, e3.H = H' ∧ RelS X.K C e₀ e3 Ω3 σ' ρ3 ∧ Same e'.F e3.F ∧ (∃ more, e3.α = e'.α ++ more) ∧ forD β s (ds.drop (i + 1)) ρ3 Ω3 = some o, fun σ' H' hN => ⟨ds.length - (i + 1), by omega, rfl, hlt, hN⟩, fun x H' hy => ?_⟩
      obtain ⟨e2', rfl, ix, up⟩ := y1 x H' hy
      obtain ⟨x2', w2'⟩ := up C Ω2 r2.wf
      replace r2 := r2.to x2' w2'
      replace ff := ff.trans x2'.ff
      replace al : ∃ more, e2'.α = e'.α ++ more := by
        obtain ⟨m1, z1⟩ := al
        obtain ⟨m2, z2⟩ := x2'.al
        exact ⟨m1 ++ m2, by rw [z2, z1, List.append_assoc]⟩
      clear y1 g1 stop go
      revert r2 ff al ix
      generalize e2' = e2
      intro ix r2 ff al
      unfold forD at q2
      cases q3 : β ds[i] ρ2 with
      | none => rw [q3] at q2; cases q2
      | some ρ3 =>
        rw [q3] at q2
        dsimp only at q2
        refine ⟨e2, Ω2, ρ2, _, ρ3, rfl, r2.wf, r2.rel, ix, q3, fun σ3 r3 o3 => ?_⟩
        have r3' := r2.by r3 o3
        obtain ⟨e₁, hF, hα, r4, toE, toN, _⟩ := r3'.mark
        cases q4 : s ρ3 Ω2 with
        | none => rw [q4] at q2; cases q2
        | some o4 =>
          rw [q4] at q2
          refine ⟨e₁, e2, Ω2, ρ3, o4, rfl, r4, q4, ?_⟩
          have back : ∀ {e5 : E4} {Ω5 : List OS} {σ5 : St} {ρ5 : List Sl}, RelS X.K C e₁ e5 Ω5 σ5 ρ5 → RelS X.K C e₀ e5 Ω5 σ5 ρ5 ∧ Same e'.F e5.F ∧ ∃ more, e5.α = e'.α ++ more := fun {e5 Ω5 σ5 ρ5} r5 => by
            refine ⟨⟨r5.wf, r5.rel, toE _ r5.ext, fun i ds a h1 h2 => toN _ (r5.fresh i ds a h1 h2)⟩, ff.trans (hF ▸ r5.ext.ff), ?_⟩
            obtain ⟨m1, z1⟩ := al
            obtain ⟨m2, z2⟩ := r5.ext.al
            exact ⟨m1 ++ m2, by rw [z2, hα, z1, List.append_assoc]⟩
          cases o4 with
          | nx ρ5 Ω5 => exact fun e5 σ5 r5 => ⟨e5, Ω5, ρ5, rfl, (back r5).1, (back r5).2.1, (back r5).2.2, q2⟩
          | ct ρ5 Ω5 => exact fun e5 σ5 r5 => ⟨e5, Ω5, ρ5, rfl, (back r5).1, (back r5).2.1, (back r5).2.2, q2⟩
          | bk ρ5 Ω5 => cases q2; exact fun e5 σ5 r5 => k e5 σ5 (back r5).1
          | rt z Ω5 => cases q2; exact fun e5 v5 x5 w5 i5 => k e5 v5 (toE _ x5) w5 i5
    · have ei : i = ds.length := by omega
      subst ei
      rw [List.drop_length] at q2
      cases q2
      exact .inl ⟨stop rfl, k e2 σ2 r2⟩
end
end DL
set_option Elab.async false
set_option linter.all false
set_option maxRecDepth 100000
set_option genSizeOf false
set_option bootstrap.genMatcherCode false
namespace DL
open PySem PySem.Spec PyProof.Rows L2
abbrev FDen := List D → List OS → Option (D × List OS)
def spD (K : PySem.W.Frag) (C : Cl) (f : FDen) : Sp := fun vs H Q _ => ∃ e Ω ds d Ω', e.H = H ∧ Wf K C e Ω ∧ IsL K e.α e.F ds vs ∧ f ds Ω = some (d, Ω') ∧ ∀ v e', Ext e e' → Wf K C e' Ω' → Is K e'.α e'.F d v → Q v e'.H
def runD (n m : Nat) (s : SDen) : FDen := fun ds Ω => if ds.length = n then match s (ds.map Sl.dat ++ List.replicate (m - n) Sl.und) Ω with
    | some (.rt d Ω') => some (d, Ω')
    | some (.nx _ Ω') => some (.non, Ω')
    | _ => none
  else none
theorem start_rel {K : PySem.W.Frag} {C : Cl} {e : E4} {Ω : List OS} {N : List Str} {ds : List D} {vs : List V} (w : Wf K C e Ω) (i : IsL K e.α e.F ds vs) : RelS K C e e Ω (L2.start N vs) (ds.map Sl.dat ++ List.replicate (N.length - ds.length) Sl.und) := by
  have noown : ∀ (j : Nat) (es : List D), (ds.map Sl.dat ++ List.replicate (N.length - ds.length) Sl.und)[j]? ≠ some (.own es) := fun j es h => by
    by_cases hj : j < ds.length
    · rw [List.getElem?_append_left (by simpa using hj), List.getElem?_map] at h
      cases q : ds[j]? with
      | none => rw [q] at h; cases h
      | some d => rw [q] at h; cases h
    · rw [List.getElem?_append_right (by simpa using hj), List.getElem?_replicate] at h
      split at h <;> cases h
  refine ⟨w, ⟨?_, fun j d h => ?_, fun j es h => absurd h (noown j es), fun j k es fs a h => absurd h (noown j es)⟩, Ext.refl e, fun j es a h => absurd h (noown j es)⟩
  · unfold L2.start
    simp [i.length]
  · by_cases hj : j < ds.length
    · rw [List.getElem?_append_left (by simpa using hj), List.getElem?_map] at h
      cases q : ds[j]? with
      | none => rw [q] at h; cases h
      | some d' =>
        rw [q] at h
        cases h
        obtain ⟨v, hv, iv⟩ := i.get q
        refine ⟨v, ?_, iv⟩
        unfold L2.start
        rw [List.getElem?_append_left (by simpa [← i.length] using hj), List.getElem?_map, hv]
        rfl
    · rw [List.getElem?_append_right (by simpa using hj), List.getElem?_replicate] at h
      split at h <;> cases h
theorem fn_D {P : Program} {w : World} {K : PySem.W.Frag} {mg : Str → Option Value} {base : Heap} {C : Cl} {x qual : Str} {st : Stmt} {f : Addr} {fd : FuncData} {N ps : List Str} {k n m : Nat} {s : SDen} (F : Fun K x qual st f fd) (S : FnScope N ps (defScope st)) (hn : ps.length = n) (hm : N.length = m)
    (hbody : ∀ (cdv : Value) (A : Around) (outer : List Env) (sh : Shared) (H : Hp) (E : XK), Room k (A.deeper (envOfC qual (defScope st) sh.heap.objs.size f cdv)) →
      PDB (cxOf CX0 P w K mg base N qual (defScope st) f cdv A outer sh H E).nox C (defBody st) s) : FnOk P w K mg base CX0 (k + 1) f fd ps (spD K C (runD n m s)) := by
  refine F.ok S (fun vs H Q E h => ?_) (fun cdv A outer sh H vs Q E hr h => ?_)
  · obtain ⟨e, Ω, ds, d, Ω', _, _, i, q, _⟩ := h
    unfold runD at q
    by_cases hl : ds.length = n
    · rw [← i.length, hl, hn]
    · rw [if_neg hl] at q; cases q
  · obtain ⟨e, Ω, ds, d, Ω', eH, wf, i, q, kk⟩ := h
    unfold runD at q
    by_cases hl : ds.length = n
    · rw [if_pos hl] at q
      cases q1 : s (ds.map Sl.dat ++ List.replicate (m - n) Sl.und) Ω with
      | none => rw [q1] at q; cases q
      | some o =>
        rw [q1] at q
        refine ⟨_, hbody cdv A outer sh H E hr e, e, Ω, _, o, eH, start_rel wf i, by rw [hl, hm]; exact q1, ?_⟩
        cases o with
        | rt d' Ω2 => cases q; exact fun e' v x' w' i' => kk v e' x' w' i'
        | nx ρ' Ω2 => cases q; exact fun e' σ' r' => kk .non e' r'.ext r'.wf (by rw [Is])
        | bk ρ' Ω2 => cases q
        | ct ρ' Ω2 => cases q
    · rw [if_neg hl] at q; cases q
def gCall (f : FDen) (g : ADen) : Den := fun ρ Ω => match g ρ Ω with
  | some (ds, Ω1) => f ds Ω1
  | none => none
section
variable {X : Cx} {C : Cl} {k : Nat} {f : Addr} {fd : FuncData} {ps : List Str} {F : FDen} {n : Str} {p pos : Pos} {x : Expr} {es : List Expr} {ga : ADen}
theorem call_read {K : PySem.W.Frag} {σ : St} {H : Hp} {Q : VK} {E : XK} (hw : tD K C (gCall F ga) σ H Q) : tCall (spD K C F) [] E (tDA K C ga) σ H Q := by
  obtain ⟨e, Ω, ρ, d, Ω', eH, w, rl, q, kk⟩ := hw
  unfold gCall at q
  cases q1 : ga ρ Ω with
  | none => rw [q1] at q; cases q
  | some p1 =>
    obtain ⟨ds, Ω1⟩ := p1
    rw [q1] at q
    refine ⟨e, Ω, ρ, ds, Ω1, eH, w, rl, q1, fun vs e' x' w' i' => ?_⟩
    show spD K C F (vs ++ []) e'.H Q E
    rw [List.append_nil]
    exact ⟨e', Ω1, ds, d, Ω', rfl, w', i', q, fun v e'' x'' w'' i'' => kk v e'' (x'.trans x'') w'' i''⟩
theorem pd_call (G : FnOk X.prog X.w X.K X.mg X.base CX0 k f fd ps (spD X.K C F)) (hr : Room k X.A) (hg : Gl X n) (hm : X.mg n = some (.ref f)) (hk : PySem.W.keepIn X.K (.ref f) = true) (hb : Binds X.K fd ps [])
    (ha : PDA X C (x :: es) ga) (hdb : (n == ("__debug__" : Str)) = false := by decide) (he : starEach (x :: es) X.env = (false, eval x X.env) :: starEach es X.env := by rfl) (hpl : (backTo pos (starEach es X.env)).any (·.1) = false := by rfl) :
    PD X C (.Call (.Name n p) (x :: es) [] pos) (gCall F ga) :=
  pe_imp (pe_call G hr hg hm hk hb .nil pass0 ha hdb he hpl) fun _ _ _ hw => call_read hw
end
def PDTs (X : Cx) (C : Cl) (ifs : List Expr) (p : TDen) : Prop := PTs X ifs (tDT X.K C p)
def gTrue : TDen := fun _ Ω => some (true, Ω)
theorem pdts_nil {X : Cx} {C : Cl} : PDTs X C [] gTrue := fun pins s σ H Q I hw' => by
  obtain ⟨e, Ω, ρ, b, Ω', eH, w, rl, q, k⟩ := hw'
  subst eH
  cases q
  exact pts_nil pins s σ _ Q I (k e (Ext.refl e) w)
theorem pdts_one {X : Cx} {C : Cl} {c : Expr} {p : TDen} (h : PDT X C c p) : PDTs X C [c] p := pts_one h
def compD (β : BDen) (p : TDen) (g : Den) : List D → List Sl → List OS → Option (List D × List OS)
  | [], _, Ω => some ([], Ω)
  | d :: ds, ρ, Ω => match β d ρ with
    | some ρ1 => match p ρ1 Ω with
      | some (true, Ω1) => match g ρ1 Ω1 with
        | some (y, Ω2) => match compD β p g ds ρ1 Ω2 with
          | some (ys, Ω3) => some (y :: ys, Ω3)
          | none => none
        | none => none
      | some (false, Ω1) => compD β p g ds ρ1 Ω1
      | none => none
    | none => none
def innerD (μ : List (Option Nat)) (ρ : List Sl) : List Sl := μ.map fun o => match o with
  | none => Sl.und
  | some j => match ρ[j]? with
    | some (.dat d) => .dat d
    | _ => .und
def gComp (μ : List (Option Nat)) (γ : ADen) (β : BDen) (p : TDen) (g : Den) : Den := fun ρ Ω => match γ ρ Ω with
  | some (ds, Ω1) => if ds.length ≤ big then match compD β p g ds (innerD μ ρ) Ω1 with
      | some (ys, Ω2) => some (.lst ys, Ω2)
      | none => none
    else none
  | none => none
section
variable {K : PySem.W.Frag} {C : Cl} {e : E4} {σ : St} {ρ : List Sl} {μ : List (Option Nat)}
theorem inner_dat {j : Nat} {d : D} (h : (innerD μ ρ)[j]? = some (.dat d)) : ∃ i, μ[j]? = some (some i) ∧ ρ[i]? = some (.dat d) := by
  unfold innerD at h
  rw [List.getElem?_map] at h
  cases q : μ[j]? with
  | none => rw [q] at h; cases h
  | some o =>
    rw [q] at h
    cases o with
    | none => cases h
    | some i =>
      cases q2 : ρ[i]? with
      | none => simp [q2] at h
      | some sl =>
        cases sl with
        | dat d' => simp [q2] at h; subst h; exact ⟨i, rfl, q2⟩
        | und => simp [q2] at h
        | own _ => simp [q2] at h
theorem inner_own {j : Nat} {ds : List D} : (innerD μ ρ)[j]? ≠ some (.own ds) := fun h => by
  unfold innerD at h
  rw [List.getElem?_map] at h
  cases q : μ[j]? with
  | none => rw [q] at h; cases h
  | some o =>
    rw [q] at h
    cases o with
    | none => cases h
    | some i =>
      cases q2 : ρ[i]? with
      | none => simp [q2] at h
      | some sl => cases sl <;> simp [q2] at h
theorem inner_rel (r : RelE K e σ ρ) : RelE K e (inner μ σ) (innerD μ ρ) := by
  refine ⟨by simp [inner, innerD], fun j d h => ?_, fun j ds h => absurd h inner_own, fun j k ds es a h => absurd h inner_own⟩
  obtain ⟨i, h1, h2⟩ := inner_dat h
  obtain ⟨v, e1, iv⟩ := r.dat i d h2
  refine ⟨v, ?_, iv⟩
  unfold inner
  rw [List.getElem?_map, h1]
  show some ((σ[i]?).join) = _
  rw [e1]
  rfl
end
section
variable {K : PySem.W.Frag} {C : Cl} {γ : ADen} {β : BDen} {p : TDen} {g : Den} {μ : List (Option Nat)}
structure CI (K : PySem.W.Frag) (C : Cl) (β : BDen) (p : TDen) (g : Den) (ds : List D) (a : Addr) (ysAll : List D) (Ωf : List OS) (e' : E4) (i : Nat) (σ' : St) (e2 : E4) (Ω2 : List OS) (ρ2 : List Sl) (vs : List V) (ys0 ys1 : List D) : Prop where
  w : Wf K C e2 Ω2
  r : RelE K e2 σ' ρ2
  no : ∀ (j : Nat) (es : List D), ρ2[j]? ≠ some (.own es)
  ha : e2.H a = some (.lst vs)
  hF : e2.F a = none
  hA : ¬ e2.A a
  iy : IsL K e2.α e2.F ys0 vs
  x : Ext e' e2
  q : compD β p g (ds.drop i) ρ2 Ω2 = some (ys1, Ωf)
  ey : ys0 ++ ys1 = ysAll
  hy : ys0.length ≤ i
def CInv (K : PySem.W.Frag) (C : Cl) (β : BDen) (p : TDen) (g : Den) (ds : List D) (a : Addr) (ysAll : List D) (Ωf : List OS) (e' : E4) (i : Nat) (σ' : St) (H' : Hp) : Prop :=
  ∃ e2 Ω2 ρ2 vs ys0 ys1, e2.H = H' ∧ CI K C β p g ds a ysAll Ωf e' i σ' e2 Ω2 ρ2 vs ys0 ys1
theorem comp_gen {σ : St} {H : Hp} {Q : VK} {e : E4} {Ω Ω1 Ωf : List OS} {ρ : List Sl} {ds ysAll : List D} (eH : e.H = H) (w : Wf K C e Ω) (rl : RelE K e σ ρ) (q1 : γ ρ Ω = some (ds, Ω1)) (hbig : ds.length ≤ big) (q2 : compD β p g ds (innerD μ ρ) Ω1 = some (ysAll, Ωf))
    (fin : ∀ a vs e2, Ext e e2 → Wf K C e2 Ωf → e2.H a = some (.lst vs) → e2.F a = none → ¬ e2.A a → e.H a = none → IsL K e2.α e2.F ysAll vs → Q (.ref a) e2.H) : tComp μ (tDI K C γ) (tDG K C β) (tDT K C p) (tD K C g) σ H Q := by
  refine ⟨e, Ω, ρ, ds, Ω1, eH, w, rl, q1, fun e' J x' w' wk a ha => ?_⟩
  refine ⟨fun i m σ' H' => m = ds.length - i ∧ i ≤ ds.length ∧ CInv K C β p g ds a ysAll Ωf e' i σ' H', ⟨ds.length, by simp, Nat.zero_le _, ⟨e'.α, e'.F, e'.A, upd e'.H a (.lst [])⟩, Ω1, innerD μ ρ, [], [], ysAll, rfl, ⟨?_, ?_, fun j es => inner_own, upd_same, w'.nF ha, fun z => (w'.ah a z).1 ha, .nil, ?_, by simpa using q2, rfl, Nat.zero_le _⟩⟩, ?_⟩
  · refine ⟨fun b u hb => ?_, w'.fa, fun b hb => ?_, w'.ol, w'.nd, fun n b u h1 h2 => ⟨(w'.ob n b u h1 h2).1, (w'.ob n b u h1 h2).2.keep (fun z hz => ?_) (Same.refl _) ⟨[], by simp⟩⟩⟩
    · show upd e'.H a _ b = some u
      rw [upd_ne (ne_of_none (w'.fh b u hb) ha)]; exact w'.fh b u hb
    · show upd e'.H a _ b ≠ none ∧ ∀ xs, upd e'.H a _ b ≠ some (.tup xs)
      rw [upd_ne (fun z => (w'.ah b hb).1 (by rw [z]; exact ha))]; exact w'.ah b hb
    · show upd e'.H a _ b = some z
      rw [upd_ne (ne_of_none hz ha)]; exact hz
  · have r1 := inner_rel (μ := μ) (rl.ext x')
    exact ⟨r1.len, r1.dat, fun j es h => absurd h inner_own, r1.sep⟩
  · refine ⟨fun b o' u hb => by show upd e'.H a _ b = some (.frz o' u); rw [upd_ne (ne_of_none hb ha)]; exact hb, fun b u hb _ => ?_, fun b u hb => ⟨u, ?_⟩, Same.refl _, fun b u hb => .inl hb, fun b hb => .inl hb, fun b hb => hb, [], by simp⟩
    · show upd e'.H a _ b = some u
      rw [upd_ne (ne_of_none hb ha)]; exact hb
    · show upd e'.H a _ b = some u
      rw [upd_ne (ne_of_none hb ha)]; exact hb
  · rintro i m σ2 H2 ⟨rfl, hil, e2, Ω2, ρ2, vs, ys0, ys1, rfl, ⟨w2, r2, no2, ha2, hF2, hA2, iy, x2, q3, ey, hy⟩⟩
    obtain ⟨stop, go⟩ := wk i e2 x2.ff x2.al w2.fh
    by_cases hlt : i < ds.length
    · have hd : ds[i]? = some ds[i] := List.getElem?_eq_getElem hlt
      obtain ⟨g1, y1⟩ := go _ hd
      have edrop : ds.drop i = ds[i] :: ds.drop (i + 1) := List.drop_eq_getElem_cons hlt
      rw [edrop] at q3
      refine .inr ⟨g1, fun σ' H' => i + 1 ≤ ds.length ∧ CInv K C β p g ds a ysAll Ωf e' (i + 1) σ' H', fun σ' H' hN => ⟨ds.length - (i + 1), by omega, rfl, hN⟩, fun x H' hyl => ?_⟩
      obtain ⟨e2', rfl, ix, up⟩ := y1 x H' hyl
      obtain ⟨xx, ww⟩ := up C Ω2 w2
      obtain ⟨hh', hf', ha'⟩ := xx.keepOwn ha2 hF2 hA2
      replace r2 := r2.ext xx
      replace iy := iy.ext xx
      replace x2 := x2.trans xx
      clear y1 g1 stop go w2 ha2 hF2 hA2
      revert r2 iy x2 ww hh' hf' ha' ix
      generalize e2' = e2
      intro ix w2 ha2 hF2 hA2 r2 iy x2
      unfold compD at q3
      cases q4 : β ds[i] ρ2 with
      | none => rw [q4] at q3; cases q3
      | some ρ3 =>
        rw [q4] at q3
        dsimp only at q3
        refine ⟨e2, Ω2, ρ2, _, ρ3, rfl, w2, r2, ix, q4, fun σ3 r3 o3 => ?_⟩
        have no3 : ∀ (j : Nat) (es : List D), ρ3[j]? ≠ some (.own es) := fun j es h => no2 j es (o3 j es h).1
        cases q5 : p ρ3 Ω2 with
        | none => rw [q5] at q3; cases q3
        | some p5 =>
          obtain ⟨b, Ω3⟩ := p5
          rw [q5] at q3
          refine ⟨e2, Ω2, ρ3, b, Ω3, rfl, w2, r3, q5, fun e3 x3 w3 => ?_⟩
          cases b with
          | false =>
            refine iteF ?_
            obtain ⟨z1, z2, z3⟩ := x3.keepOwn ha2 hF2 hA2
            exact ⟨hlt, e3, Ω3, ρ3, vs, ys0, ys1, rfl, ⟨w3, r3.ext x3, no3, z1, z2, z3, iy.ext x3, x2.trans x3, q3, ey, Nat.le_succ_of_le hy⟩⟩
          | true =>
            refine iteT ?_
            dsimp only at q3
            cases q6 : g ρ3 Ω3 with
            | none => rw [q6] at q3; cases q3
            | some p6 =>
              obtain ⟨y, Ω4⟩ := p6
              rw [q6] at q3
              dsimp only at q3
              cases q7 : compD β p g (ds.drop (i + 1)) ρ3 Ω4 with
              | none => rw [q7] at q3; cases q3
              | some p7 =>
                obtain ⟨ys2, Ω5⟩ := p7
                rw [q7] at q3
                cases q3
                refine ⟨e3, Ω3, ρ3, y, Ω4, rfl, w3, r3.ext x3, q6, fun v e4 x4 w4 i4 => ?_⟩
                obtain ⟨z1, z2, z3⟩ := (x3.trans x4).keepOwn ha2 hF2 hA2
                have x24 := x3.trans x4
                refine ⟨vs, z1, by rw [← iy.length]; exact big_lt (by omega), hlt, ⟨e4.α, e4.F, e4.A, upd e4.H a (.lst (vs ++ [v]))⟩, Ω4, ρ3, _, ys0 ++ [y], ys2, rfl, ⟨⟨fun b u hb => ?_, w4.fa, fun b hb => ?_, w4.ol, w4.nd, fun n b u h1 h2 => ⟨(w4.ob n b u h1 h2).1, (w4.ob n b u h1 h2).2.keep (fun z hz => ?_) (Same.refl _) ⟨[], by simp⟩⟩⟩,
                  ⟨((r3.ext x3).ext x4).len, ((r3.ext x3).ext x4).dat, fun j es h => absurd h (no3 j es), ((r3.ext x3).ext x4).sep⟩, no3, upd_same, z2, z3, (iy.ext x24).append (.cons i4 .nil), ⟨fun b o' u hb => by show upd e4.H a _ b = some (.frz o' u); rw [upd_ne (ne_of_none hb ha)]; exact (x2.trans x24).fz b o' u hb, fun b u hb hn => ?_, fun b u hb => ?_, (x2.trans x24).ff, (x2.trans x24).fn, (x2.trans x24).an, (x2.trans x24).aa, (x2.trans x24).al⟩, q7, by rw [← ey]; simp, by simp; omega⟩⟩
                · show upd e4.H a _ b = some u
                  rw [upd_ne (fun z => by subst z; rw [z2] at hb; cases hb)]; exact w4.fh b u hb
                · show upd e4.H a _ b ≠ none ∧ ∀ xs, upd e4.H a _ b ≠ some (.tup xs)
                  rw [upd_ne (fun z => z3 (by rw [← z]; exact hb))]; exact w4.ah b hb
                · show upd e4.H a _ b = some z
                  rw [upd_ne (fun y => z3 (by rw [← y]; exact (w4.ob n b u h1 h2).1))]; exact hz
                · show upd e4.H a _ b = some u
                  rw [upd_ne (ne_of_none hb ha)]; exact (x2.trans x24).hk b u hb hn
                · obtain ⟨u', z⟩ := (x2.trans x24).dm b u hb
                  exact ⟨u', by show upd e4.H a _ b = some u'; rw [upd_ne (ne_of_none hb ha)]; exact z⟩
    · have ei : i = ds.length := by omega
      subst ei
      rw [List.drop_length] at q3
      cases q3
      rw [List.append_nil] at ey
      subst ey
      refine .inl ⟨stop rfl, ?_⟩
      exact fin a vs e2 (x'.trans x2) w2 ha2 hF2 hA2 (x'.back ha) iy
theorem comp_read {σ : St} {H : Hp} {Q : VK} (hw : tD K C (gComp μ γ β p g) σ H Q) : tComp μ (tDI K C γ) (tDG K C β) (tDT K C p) (tD K C g) σ H Q := by
  obtain ⟨e, Ω, ρ, d, Ωf, eH, w, rl, q, kk⟩ := hw
  unfold gComp at q
  cases q1 : γ ρ Ω with
  | none => rw [q1] at q; cases q
  | some p1 =>
    obtain ⟨ds, Ω1⟩ := p1
    rw [q1] at q
    dsimp only at q
    split at q
    · rename_i hbig
      cases q2 : compD β p g ds (innerD μ ρ) Ω1 with
      | none => rw [q2] at q; cases q
      | some p2 =>
        obtain ⟨ysAll, Ω2⟩ := p2
        rw [q2] at q
        cases q
        refine comp_gen eH w rl q1 hbig q2 fun a vs e2 x2 w2 ha2 hF2 hA2 ha iy => ?_
        have ff : Same e2.F (upd e2.F a (.lst vs)) := fun b o hb => by rw [upd_ne (ne_of_none hb hF2)]; exact hb
        refine kk (.ref a) ⟨e2.α, upd e2.F a (.lst vs), e2.A, e2.H⟩ ⟨x2.fz, x2.hk, x2.dm, x2.ff.trans ff, fun b u hb => ?_, x2.an, x2.aa, x2.al⟩ ⟨fun b u hb => ?_, fun b hb => ?_, w2.ah, w2.ol, w2.nd, fun n b u h1 h2 => ⟨(w2.ob n b u h1 h2).1, (w2.ob n b u h1 h2).2.keep (fun z hz => hz) ff ⟨[], by simp⟩⟩⟩ ?_
        · have hb : upd e2.F a (.lst vs) b = some u := hb
          by_cases hba : b = a
          · subst hba; exact .inr (.inl ha)
          · rw [upd_ne hba] at hb; exact x2.fn b u hb
        · have hb : upd e2.F a (.lst vs) b = some u := hb
          by_cases hba : b = a
          · subst hba; rw [upd_same] at hb; cases hb; exact ha2
          · rw [upd_ne hba] at hb; exact w2.fh b u hb
        · show upd e2.F a _ b = none
          rw [upd_ne (fun z => hA2 (by rw [← z]; exact hb))]; exact w2.fa b hb
        · rw [Is]
          exact ⟨a, vs, rfl, upd_same, IsL.mono ff ⟨[], by simp⟩ _ iy⟩
    · cases q
end
section
variable {X : Cx} {C : Cl} {tg iter elt : Expr} {ifs : List Expr} {scope : Scope} {pos : Pos} {N : List Str} {μ : List (Option Nat)} {γ : ADen} {β : BDen} {p : TDen} {g : Den}
theorem pd_comp (hc : X.calm = true) (hcell : ∀ y ∈ scope.names, y.2 ≠ .cell) (hkind : scope.kind = .function) (hnames : ∀ y ∈ scope.names, y.2 = .local → scope.names.lookup y.1 = some .local)
    (hfree : ∀ y ∈ scope.names, y.2 = .free → X.env.kindOf y.1 = some .cell ∨ X.env.kindOf y.1 = some .free)
    (hhas : ∀ x, ((relabel scope X.env).names.lookup x = some .cell ∨ (relabel scope X.env).names.lookup x = some .free) → (x, NameKind.free) ∈ scope.names)
    (hμ : muOk X.N X.env.scope N (relabel scope X.env) μ = true) (hi : PDI X C tg iter γ)
    (hg : ∀ fp A s H, PDG (cxComp X N scope (clos X.env.cells scope.names []) A fp s H) C tg β) (ht : ∀ fp A s H, PDTs (cxComp X N scope (clos X.env.cells scope.names []) A fp s H) C ifs p) (he : ∀ fp A s H, PD (cxComp X N scope (clos X.env.cells scope.names []) A fp s H) C elt g)
    (hs : ∀ x, foldedSetIterable iter X.env x = pure x := by intro _; rfl) : PD X C (.ListComp elt [⟨tg, iter, ifs, 0⟩] scope pos) (gComp μ γ β p g) :=
  pe_imp (pe_comp (g := tDG X.K C β) (tt := tDT X.K C p) (te := tD X.K C g) hc hcell hkind hnames hfree hhas hμ hi hg ht he hs) fun _ _ _ hw => comp_read hw
end
end DL
set_option Elab.async false
set_option linter.all false
set_option maxRecDepth 100000
set_option genSizeOf false
set_option bootstrap.genMatcherCode false
namespace DL
open PySem PySem.Spec PyProof.Rows L2
structure Fn (P : Program) (w : World) (K : PySem.W.Frag) (mg : Str → Option Value) (base : Heap) (C : Cl) (k : Nat) (n : Str) (F : FDen) : Prop where
  ex : ∃ f fd ps, mg n = some (.ref f) ∧ PySem.W.keepIn K (.ref f) = true ∧ Binds K fd ps [] ∧ FnOk P w K mg base CX0 k f fd ps (spD K C F)
structure TF (K : PySem.W.Frag) (mg : Str → Option Value) (n : Str) (st : Stmt) : Prop where
  ex : ∃ f fd, mg n = some (.ref f) ∧ Fun K n n st f fd
theorem fn_F {P : Program} {w : World} {K : PySem.W.Frag} {mg : Str → Option Value} {base : Heap} {C : Cl} {x : Str} {st : Stmt} {N ps : List Str} {k n m : Nat} {s : SDen} (T : TF K mg x st) (S : FnScope N ps (defScope st)) (hn : ps.length = n) (hm : N.length = m)
    (hb : ∀ (kV doc pm : Value) (an : Option Addr) (cdv ct : Value) (us : List Value), us.length = ps.length → bindArgs (PySem.W.fnOf x x (defArgs st) (defBody st) (defScope st) .none kV doc pm an cdv ct) ⟨us, []⟩ = pure (ps.zip us))
    (hbody : ∀ (f : Addr) (cdv : Value) (A : Around) (outer : List Env) (sh : Shared) (H : Hp) (E : XK), Room k (A.deeper (envOfC x (defScope st) sh.heap.objs.size f cdv)) →
      PDB (cxOf CX0 P w K mg base N x (defScope st) f cdv A outer sh H E).nox C (defBody st) s) : Fn P w K mg base C (k + 1) x (runD n m s) := by
  obtain ⟨f, fd, hm', F⟩ := T.ex
  exact ⟨f, fd, ps, hm', F.kp, F.binds hb, fn_D F S hn hm (hbody f)⟩
section
variable {X : Cx} {C : Cl} {k : Nat} {F : FDen} {n : Str} {p pos : Pos} {x : Expr} {es : List Expr} {ga : ADen}
theorem pd_callF (G : Fn X.prog X.w X.K X.mg X.base C k n F) (hr : Room k X.A) (hg : Gl X n)
    (ha : PDA X C (x :: es) ga) (hdb : (n == ("__debug__" : Str)) = false := by decide) (he : starEach (x :: es) X.env = (false, eval x X.env) :: starEach es X.env := by rfl) (hpl : (backTo pos (starEach es X.env)).any (·.1) = false := by rfl) :
    PD X C (.Call (.Name n p) (x :: es) [] pos) (gCall F ga) := by
  obtain ⟨f, fd, ps, hm, hk, hb, ok⟩ := G.ex
  exact pd_call ok hr hg hm hk hb ha hdb he hpl
end
def relabelS (scope osc : Scope) : Scope :=
  { scope with names := scope.names.map fun (n, k) => if (k == .free && osc.kind == .function && osc.names.lookup n == some .cell) then (n, .cell) else (n, k) }
def compOk (oN : List Str) (osc : Scope) (N : List Str) (scope : Scope) (μ : List (Option Nat)) : Bool :=
  scope.names.all (fun y => decide (y.2 ≠ .cell)) && decide (scope.kind = .function) && scope.names.all (fun y => !decide (y.2 = .local) || decide (scope.names.lookup y.1 = some .local)) &&
    scope.names.all (fun y => !decide (y.2 = .free) || decide (osc.names.lookup y.1 = some .cell)) &&
    (relabelS scope osc).names.all (fun y => !(decide (y.2 = .cell) || decide (y.2 = .free)) || decide ((y.1, NameKind.free) ∈ scope.names)) && muOk oN osc N (relabelS scope osc) μ
structure CompOk (X : Cx) (N : List Str) (scope : Scope) (μ : List (Option Nat)) : Prop where
  cell : ∀ y ∈ scope.names, y.2 ≠ .cell
  kind : scope.kind = .function
  names : ∀ y ∈ scope.names, y.2 = .local → scope.names.lookup y.1 = some .local
  free : ∀ y ∈ scope.names, y.2 = .free → X.env.kindOf y.1 = some .cell ∨ X.env.kindOf y.1 = some .free
  has : ∀ x, ((relabel scope X.env).names.lookup x = some .cell ∨ (relabel scope X.env).names.lookup x = some .free) → (x, NameKind.free) ∈ scope.names
  mu : muOk X.N X.env.scope N (relabel scope X.env) μ = true
theorem compOk_of {X : Cx} {oN : List Str} {osc : Scope} {N : List Str} {scope : Scope} {μ : List (Option Nat)} (hN : X.N = oN) (hs : X.env.scope = osc) (h : compOk oN osc N scope μ = true) : CompOk X N scope μ := by
  subst hN hs
  unfold compOk at h
  simp only [Bool.and_eq_true] at h
  obtain ⟨⟨⟨⟨⟨h1, h2⟩, h3⟩, h4⟩, h5⟩, h6⟩ := h
  refine ⟨fun y hy => of_decide_eq_true (List.all_eq_true.mp h1 y hy), of_decide_eq_true h2, fun y hy e => ?_, fun y hy e => .inl ?_, fun x hx => ?_, h6⟩
  · have := List.all_eq_true.mp h3 y hy
    simp only [Bool.or_eq_true, Bool.not_eq_true', decide_eq_false_iff_not, decide_eq_true_eq] at this
    exact this.resolve_left fun z => z e
  · have := List.all_eq_true.mp h4 y hy
    simp only [Bool.or_eq_true, Bool.not_eq_true', decide_eq_false_iff_not, decide_eq_true_eq] at this
    exact this.resolve_left fun z => z e
  · have hx : (relabelS scope X.env.scope).names.lookup x = some .cell ∨ (relabelS scope X.env.scope).names.lookup x = some .free := hx
    have q : ∀ k : NameKind, (k = .cell ∨ k = .free) → (relabelS scope X.env.scope).names.lookup x = some k → (x, NameKind.free) ∈ scope.names := fun k hk hl => by
      have := List.all_eq_true.mp h5 (x, k) (PySem.mem_of_lookup hl)
      simp only [Bool.or_eq_true, Bool.not_eq_true', Bool.or_eq_false_iff, decide_eq_false_iff_not, decide_eq_true_eq] at this
      rcases this with ⟨a, b⟩ | c
      · exact (hk.elim a b).elim
      · exact c
    rcases hx with hx | hx
    · exact q _ (.inl rfl) hx
    · exact q _ (.inr rfl) hx
section
variable {X : Cx} {C : Cl} {tg iter elt : Expr} {ifs : List Expr} {scope : Scope} {pos : Pos} {N : List Str} {μ : List (Option Nat)} {γ : ADen} {β : BDen} {p : TDen} {g : Den}
theorem pd_compN (hc : X.calm = true) (ok : CompOk X N scope μ) (hi : PDI X C tg iter γ)
    (hg : ∀ fp A s H, PDG (cxComp X N scope (clos X.env.cells scope.names []) A fp s H) C tg β) (ht : ∀ fp A s H, PDTs (cxComp X N scope (clos X.env.cells scope.names []) A fp s H) C ifs p) (he : ∀ fp A s H, PD (cxComp X N scope (clos X.env.cells scope.names []) A fp s H) C elt g)
    (hs : ∀ x, foldedSetIterable iter X.env x = pure x := by intro _; rfl) : PD X C (.ListComp elt [⟨tg, iter, ifs, 0⟩] scope pos) (gComp μ γ β p g) :=
  pd_comp hc ok.cell ok.kind ok.names ok.free ok.has ok.mu hi hg ht he hs
end
section
variable {X : Cx} {C : Cl} {x b : Expr} {g : Den} {pos : Pos}
theorem pds_app {i : Nat} {n : Str} {p ap cp : Pos} (hv : PE X (.Name n p) (tVar i)) (he : PD X C x g)
    (hbase : attributeBase (.Name n p) "append" X.env (eval (.Name n p) X.env) = eval (.Name n p) X.env := by rfl)
    (hline : (ap.endLine == cp.line) = true := by rfl) (hs1 : starEach [x] X.env = (false, eval x X.env) :: starEach [] X.env := by rfl)
    (hfew : ((backTo cp (starEach [x] X.env)).all (fun x => !x.1) && (backToKw cp (keywordEach [] X.env)).all (fun x => x.1.isSome)
      && decide ([x].length + ([] : List Keyword).length + (if ([] : List Keyword).isEmpty then 0 else 1) < 30)) = true := by rfl)
    (hpl : (backTo cp (starEach [] X.env)).any (·.1) = false := by rfl)
    (hs : swapsWith (.Call (.Attribute (.Name n p) "append" ap) [x] [] cp) none pos.line X.env = pure false := by rfl) :
    PDS X C (.Expr (.Call (.Attribute (.Name n p) "append" ap) [x] [] cp) pos) (sApp i g) := fun e₀ =>
  ps_imp (ps_expr (pe_bm PySem.F.plainAttrs_list PySem.F.slot_list_append PySem.F.type_list_append mt_append hv (pa_cons he pa_nil hs1) hbase hfew hline hs1 hpl) hs) fun Dn σ H hw => app_read hw
def gNeg (g : Den) : Den := fun ρ Ω => match g ρ Ω with
  | some (.int i, Ω') => some (.int (-i), Ω')
  | _ => none
theorem pd_neg (h : PD X C x g) : PD X C (.UnaryOp .USub x pos) (gNeg g) := pe_imp (pe_un un_neg h) fun σ H Q hw' => by
  obtain ⟨e, Ω, ρ, d, Ω', eH, w, rl, q, kk⟩ := hw'
  unfold gNeg at q
  cases q1 : g ρ Ω with
  | none => rw [q1] at q; cases q
  | some p1 =>
    obtain ⟨d1, Ω1⟩ := p1
    rw [q1] at q
    refine ⟨e, Ω, ρ, d1, Ω1, eH, w, rl, q1, fun v e' x' w' i' => ?_⟩
    cases d1 with
    | int i =>
      rw [Is] at i'
      cases q
      exact ⟨i, i', kk _ e' x' w' (by rw [Is])⟩
    | _ => cases q
end
abbrev C0 : Cl := fun _ => none
end DL
set_option Elab.async false
set_option linter.all false
set_option maxRecDepth 100000
set_option genSizeOf false
set_option bootstrap.genMatcherCode false
namespace DL
open PySem
section
variable (ρ : List Sl) (Ω : List OS)
@[simp] theorem ap_var (i : Nat) : gVar i ρ Ω = match ρ[i]? with | some (.dat d) => some (d, Ω) | _ => none := (rfl)
@[simp] theorem ap_c (d : D) : gC d ρ Ω = some (d, Ω) := (rfl)
@[simp] theorem ap_op (r : D → D → Option D) (f g : Den) : gOp r f g ρ Ω = match f ρ Ω with
  | some (x, Ω₁) => (match g ρ Ω₁ with
    | some (y, Ω₂) => (match r x y with
      | some z => some (z, Ω₂)
      | none => none)
    | none => none)
  | none => none := (rfl)
@[simp] theorem ap_T (g : Den) : gT g ρ Ω = match g ρ Ω with | some (.bl b, Ω') => some (b, Ω') | _ => none := (rfl)
@[simp] theorem ap_andT (p q : TDen) : gAndT p q ρ Ω = match p ρ Ω with | some (true, Ω') => q ρ Ω' | some (false, Ω') => some (false, Ω') | none => none := (rfl)
@[simp] theorem ap_orT (p q : TDen) : gOrT p q ρ Ω = match p ρ Ω with | some (true, Ω') => some (true, Ω') | some (false, Ω') => q ρ Ω' | none => none := (rfl)
@[simp] theorem ap_notT (p : TDen) : gNotT p ρ Ω = match p ρ Ω with | some (k, Ω') => some (!k, Ω') | none => none := (rfl)
@[simp] theorem ap_andV (f g : Den) : gAndV f g ρ Ω = match f ρ Ω with | some (.bl true, Ω') => g ρ Ω' | some (.bl false, Ω') => some (.bl false, Ω') | _ => none := (rfl)
@[simp] theorem ap_if (p : TDen) (f g : Den) : gIf p f g ρ Ω = match p ρ Ω with | some (true, Ω') => f ρ Ω' | some (false, Ω') => g ρ Ω' | none => none := (rfl)
@[simp] theorem ap_chain (r r' : D → D → Option D) (f g h : Den) : gChain r r' f g h ρ Ω = match f ρ Ω with
  | some (x, Ω1) => (match g ρ Ω1 with
    | some (y, Ω2) => (match r x y with
      | some (.bl true) => (match h ρ Ω2 with
        | some (z, Ω3) => (match r' y z with
          | some d => some (d, Ω3)
          | none => none)
        | none => none)
      | some (.bl false) => some (.bl false, Ω2)
      | _ => none)
    | none => none)
  | none => none := (rfl)
@[simp] theorem ap_nil : gNil ρ Ω = some ([], Ω) := (rfl)
@[simp] theorem ap_cons (f : Den) (g : ADen) : gCons f g ρ Ω = match f ρ Ω with
  | some (d, Ω1) => (match g ρ Ω1 with | some (ds, Ω2) => some (d :: ds, Ω2) | none => none)
  | none => none := (rfl)
@[simp] theorem ap_tup (g : ADen) : gTup g ρ Ω = match g ρ Ω with | some (ds, Ω') => (if ds.length ≤ 100000 then some (.tup ds, Ω') else none) | none => none := (rfl)
@[simp] theorem ap_lst (g : ADen) : gLst g ρ Ω = match g ρ Ω with | some (ds, Ω') => (if ds.length ≤ 100000 then some (.lst ds, Ω') else none) | none => none := (rfl)
@[simp] theorem ap_noPart : gNoPart ρ Ω = some (none, Ω) := (rfl)
@[simp] theorem ap_part (g : Den) : gPart g ρ Ω = match g ρ Ω with | some (.int i, Ω') => some (some i, Ω') | _ => none := (rfl)
@[simp] theorem ap_sl (f : Den) (lo hi : PDen) : gSl f lo hi ρ Ω = match f ρ Ω with
  | some (d, Ω1) => (match lo ρ Ω1 with
    | some (l, Ω2) => (match hi ρ Ω2 with
      | some (u, Ω3) => (match slD d l u with | some z => some (z, Ω3) | none => none)
      | none => none)
    | none => none)
  | none => none := (rfl)
@[simp] theorem ap_CB (r : List D → Option D) (g : ADen) : gCB r g ρ Ω = match g ρ Ω with | some (ds, Ω1) => (match r ds with | some z => some (z, Ω1) | none => none) | none => none := (rfl)
@[simp] theorem ap_neg (g : Den) : gNeg g ρ Ω = match g ρ Ω with | some (.int i, Ω') => some (.int (-i), Ω') | _ => none := (rfl)
@[simp] theorem ap_call (f : FDen) (g : ADen) : gCall f g ρ Ω = match g ρ Ω with | some (ds, Ω1) => f ds Ω1 | none => none := (rfl)
@[simp] theorem ap_seq (g : Den) : gSeq g ρ Ω = match g ρ Ω with | some (d, Ω') => (match seqD d with | some ds => some (ds, Ω') | none => none) | none => none := (rfl)
@[simp] theorem ap_rng (r : List D → Option (List D)) (g : ADen) : gRng r g ρ Ω = match g ρ Ω with | some (ds, Ω') => (match r ds with | some es => some (es, Ω') | none => none) | none => none := (rfl)
@[simp] theorem ap_comp (μ : List (Option Nat)) (γ : ADen) (β : BDen) (p : TDen) (g : Den) : gComp μ γ β p g ρ Ω = match γ ρ Ω with
  | some (ds, Ω1) => (if ds.length ≤ 100000 then (match compD β p g ds (innerD μ ρ) Ω1 with | some (ys, Ω2) => some (.lst ys, Ω2) | none => none) else none)
  | none => none := (rfl)
@[simp] theorem ap_true : gTrue ρ Ω = some (true, Ω) := (rfl)
@[simp] theorem ap_next : sNext ρ Ω = some (.nx ρ Ω) := (rfl)
@[simp] theorem ap_sSeq (s t : SDen) : sSeq s t ρ Ω = match s ρ Ω with | some (.nx ρ' Ω') => t ρ' Ω' | r => r := (rfl)
@[simp] theorem ap_ghost (γ : List Sl → Option (List Sl)) (s : SDen) : sGhost γ s ρ Ω = match γ ρ with | some ρ' => s ρ' Ω | none => none := (rfl)
@[simp] theorem ap_set (i : Nat) (g : Den) : sSet i g ρ Ω = match g ρ Ω with | some (d, Ω') => some (.nx (ρ.set i (.dat d)) Ω') | none => none := (rfl)
@[simp] theorem ap_ret (g : Den) : sRet g ρ Ω = match g ρ Ω with | some (d, Ω') => some (.rt d Ω') | none => none := (rfl)
@[simp] theorem ap_sIf (p : TDen) (s t : SDen) : sIf p s t ρ Ω = match p ρ Ω with | some (true, Ω') => s ρ Ω' | some (false, Ω') => t ρ Ω' | none => none := (rfl)
@[simp] theorem ap_own (i : Nat) (g : ADen) : sOwn i g ρ Ω = match g ρ Ω with | some (ds, Ω') => (if ds.length ≤ 100000 then some (.nx (ρ.set i (.own ds)) Ω') else none) | none => none := (rfl)
@[simp] theorem ap_app (i : Nat) (g : Den) : sApp i g ρ Ω = match g ρ Ω with
  | some (d, Ω') => (match ρ[i]? with | some (.own ds) => (if ds.length < 100000 then some (.nx (ρ.set i (.own (ds ++ [d]))) Ω') else none) | _ => none)
  | none => none := (rfl)
@[simp] theorem ap_asg (β : BDen) (g : Den) : sAsg β g ρ Ω = match g ρ Ω with | some (d, Ω') => (match β d ρ with | some ρ' => some (.nx ρ' Ω') | none => none) | none => none := (rfl)
@[simp] theorem ap_for (γ : ADen) (β : BDen) (s : SDen) : sFor γ β s ρ Ω = match γ ρ Ω with | some (ds, Ω') => forD β s ds ρ Ω' | none => none := (rfl)
@[simp] theorem ap_bName (i : Nat) (d : D) : bName i d ρ = some (ρ.set i (.dat d)) := (rfl)
@[simp] theorem ap_bTup (is : List Nat) (ds : List D) : bTup is (.tup ds) ρ = bNames is ds ρ := (rfl)
@[simp] theorem for_nil (β : BDen) (s : SDen) : forD β s [] ρ Ω = some (.nx ρ Ω) := (rfl)
theorem for_cons (β : BDen) (s : SDen) (d : D) (ds : List D) : forD β s (d :: ds) ρ Ω = match β d ρ with
    | some ρ1 => (match s ρ1 Ω with
      | some (.nx ρ' Ω') => forD β s ds ρ' Ω'
      | some (.ct ρ' Ω') => forD β s ds ρ' Ω'
      | some (.bk ρ' Ω') => some (.nx ρ' Ω')
      | some (.rt z Ω') => some (.rt z Ω')
      | none => none)
    | none => none := (rfl)
theorem comp_cons (β : BDen) (p : TDen) (g : Den) (d : D) (ds : List D) : compD β p g (d :: ds) ρ Ω = match β d ρ with
    | some ρ1 => (match p ρ1 Ω with
      | some (true, Ω1) => (match g ρ1 Ω1 with
        | some (y, Ω2) => (match compD β p g ds ρ1 Ω2 with
          | some (ys, Ω3) => some (y :: ys, Ω3)
          | none => none)
        | none => none)
      | some (false, Ω1) => compD β p g ds ρ1 Ω1
      | none => none)
    | none => none := (rfl)
theorem ap_run (n m : Nat) (s : SDen) (ds : List D) : runD n m s ds Ω = if ds.length = n then (match s (ds.map Sl.dat ++ List.replicate (m - n) Sl.und) Ω with
    | some (.rt d Ω') => some (d, Ω')
    | some (.nx _ Ω') => some (.non, Ω')
    | _ => none)
  else none := (rfl)
@[simp] theorem ap_dI (c : Int → Int → Bool) (f : Int → Int → Int) (i j : Int) : dI c f (.int i) (.int j) = if c i j = true then some (.int (f i j)) else none := (rfl)
@[simp] theorem ap_dB (f : Int → Int → Bool) (i j : Int) : dB f (.int i) (.int j) = some (.bl (f i j)) := (rfl)
@[simp] theorem add_int (i j : Int) : addD (.int i) (.int j) = some (.int (i + j)) := (rfl)
@[simp] theorem add_lst (xs ys : List D) : addD (.lst xs) (.lst ys) = if xs.length + ys.length ≤ 100000 then some (.lst (xs ++ ys)) else none := (rfl)
@[simp] theorem ix_lst (xs : List D) (i : Int) : ixD (.lst xs) (.int i) = L2.atI xs i := (rfl)
@[simp] theorem ix_tup (xs : List D) (i : Int) : ixD (.tup xs) (.int i) = L2.atI xs i := (rfl)
@[simp] theorem ix_scr (ns : List Int) (i : Int) : ixD (.scr ns) (.int i) = (L2.atI ns i).map D.int := (rfl)
@[simp] theorem sl_lst (xs : List D) (lo hi : Option Int) : slD (.lst xs) lo hi = some (.lst (cutL xs lo hi)) := (rfl)
@[simp] theorem sl_scr (ns : List Int) (lo hi : Option Int) : slD (.scr ns) lo hi = some (.lst ((cutL ns lo hi).map D.int)) := (rfl)
@[simp] theorem len_lst (xs : List D) : lenD [.lst xs] = some (.int xs.length) := (rfl)
@[simp] theorem len_scr (ns : List Int) : lenD [.scr ns] = some (.int ns.length) := (rfl)
@[simp] theorem max_2 (i j : Int) : max2D [.int i, .int j] = some (.int (if j > i then j else i)) := (rfl)
@[simp] theorem min_2 (i j : Int) : min2D [.int i, .int j] = some (.int (if j < i then j else i)) := (rfl)
@[simp] theorem int_b (b : Bool) : int1D [.bl b] = some (.int (if b then 1 else 0)) := (rfl)
@[simp] theorem seq_lst (xs : List D) : seqD (.lst xs) = some xs := (rfl)
theorem rng_1 {j : Int} (h0 : -1000000 ≤ j) (h : j ≤ 1000000) : rng1 [.int j] = some (upD 0 j.toNat) := grd_pos (by omega)
theorem mul_i {i j : Int} (h : (-1000000000000000000 < i ∧ i < 1000000000000000000) ∨ (-1000000000000000000 < j ∧ j < 1000000000000000000)) : mulD (.int i) (.int j) = some (.int (i * j)) := grd_pos (by omega)
theorem mul_l {xs : List D} {k : Int} (h0 : -1000000 ≤ k) (h : k ≤ 1000000) (hl : xs.length * k.toNat ≤ 100000) : mulD (.lst xs) (.int k) = some (.lst (List.replicate k.toNat xs).flatten) := grd_pos ⟨by omega, by omega, hl⟩
end
theorem run_rt {n m : Nat} {s : SDen} {ds : List D} {Ω Ω' : List OS} {d : D} (hl : ds.length = n) (h : s (ds.map Sl.dat ++ List.replicate (m - n) Sl.und) Ω = some (.rt d Ω')) : runD n m s ds Ω = some (d, Ω') := by
  rw [ap_run, if_pos hl, h]
theorem seq_nx {s t : SDen} {ρ ρ' : List Sl} {Ω Ω' : List OS} (h : s ρ Ω = some (.nx ρ' Ω')) : sSeq s t ρ Ω = t ρ' Ω' := by rw [ap_sSeq, h]
theorem seq_rt {s t : SDen} {ρ : List Sl} {Ω Ω' : List OS} {d : D} (h : s ρ Ω = some (.rt d Ω')) : sSeq s t ρ Ω = some (.rt d Ω') := by rw [ap_sSeq, h]
@[simp] theorem upD_length (lo : Int) (n : Nat) : (upD lo n).length = n := by simp [upD]
theorem atI_nat' {β : Type} (xs : List β) (i : Nat) (h : i < xs.length) : L2.atI xs (i : Int) = some xs[i] := L2.atI_nat (List.getElem?_eq_getElem h)
theorem atI_map {β γ : Type} (f : β → γ) (xs : List β) (i : Int) : L2.atI (xs.map f) i = (L2.atI xs i).map f := by
  unfold L2.atI
  rw [List.length_map]
  cases L2.ixN xs.length i with
  | none => rfl
  | some j => simp
theorem cut_to {β : Type} (xs : List β) (k : Nat) : cutL xs none (some (k : Int)) = xs.take k := by
  unfold cutL
  rw [HT.sIx_none, HT.sIx_nat, List.drop_zero, Nat.sub_zero]
  rcases Nat.le_total k xs.length with h | h
  · rw [Nat.min_eq_left h]
  · rw [Nat.min_eq_right h, List.take_length, List.take_of_length_le h]
theorem cut_from {β : Type} (xs : List β) (k : Nat) : cutL xs (some (k : Int)) none = xs.drop k := by
  unfold cutL
  rw [HT.sIx_none, HT.sIx_nat]
  rcases Nat.le_total k xs.length with h | h
  · rw [Nat.min_eq_left h, List.take_of_length_le (by simp)]
  · rw [Nat.min_eq_right h, List.drop_length, List.drop_eq_nil_of_le h]; simp
theorem cut_map {β γ : Type} (f : β → γ) (xs : List β) (lo hi : Option Int) : cutL (xs.map f) lo hi = (cutL xs lo hi).map f := by
  unfold cutL
  rw [List.length_map, List.map_take, List.map_drop]
theorem toPs_map {β : Type} (f : β → D) (g : β → PyData) (h : ∀ x, toP (f x) = g x) : ∀ xs : List β, toPs (xs.map f) = xs.map g
  | [] => by rw [List.map_nil, List.map_nil, toPs]
  | x :: xs => by rw [List.map_cons, List.map_cons, toPs, h, toPs_map f g h xs]
theorem toP_ints (ns : List Int) : toP (.lst (ns.map D.int)) = .list (ns.map PyData.int) := by
  rw [toP, toPs_map D.int PyData.int (fun _ => by rw [toP])]
theorem shaped_int (i : Int) : SeqAt.shaped (toP (.int i)) = true := by rw [toP]; rfl
theorem shaped_bl (b : Bool) : SeqAt.shaped (toP (.bl b)) = true := by rw [toP]; rfl
theorem shaped_ints (ns : List Int) : SeqAt.shaped (toP (.lst (ns.map D.int))) = true := by rw [toP_ints]; exact PySem.W.ke_shaped_ints ns
@[simp] theorem eq_int_int (neg : Bool) (i j : Int) : eqD neg (.int i) (.int j) = some (.bl (if neg then !decide (i = j) else decide (i = j))) := by
  unfold eqD
  rw [shaped_int, shaped_int]
  have e : PyData.eqv (toP (.int i)) (toP (.int j)) = decide (i = j) := by
    rw [toP, toP, PyData.eqv]
    by_cases h : i = j <;> simp [h]
  rw [e]
  rfl
@[simp] theorem eq_bl_bl (neg : Bool) (i j : Bool) : eqD neg (.bl i) (.bl j) = some (.bl (if neg then !decide (i = j) else decide (i = j))) := by
  unfold eqD
  rw [shaped_bl, shaped_bl]
  have e : PyData.eqv (toP (.bl i)) (toP (.bl j)) = decide (i = j) := by
    rw [toP, toP]
    cases i <;> cases j <;> rfl
  rw [e]
  rfl
theorem eq_ints (neg : Bool) (ns ms : List Int) : eqD neg (.lst (ns.map D.int)) (.lst (ms.map D.int)) = some (.bl (if neg then !decide (ns = ms) else decide (ns = ms))) := by
  unfold eqD
  rw [shaped_ints, shaped_ints]
  have e : PyData.eqv (toP (.lst (ns.map D.int))) (toP (.lst (ms.map D.int))) = decide (ns = ms) := by
    rw [toP_ints, toP_ints, PyData.eqv, PySem.W.ked_eqvAll]
  rw [e]
  rfl
theorem eq_ints_nil (neg : Bool) (ns : List Int) : eqD neg (.lst (ns.map D.int)) (.lst []) = some (.bl (if neg then !decide (ns = []) else decide (ns = []))) := eq_ints neg ns []
end DL
set_option Elab.async false
set_option linter.all false
set_option maxRecDepth 100000
set_option genSizeOf false
set_option bootstrap.genMatcherCode false
namespace DL
open PySem PySem.Spec PyProof.Rows L2
section
variable {X : Cx} {C : Cl} {x : Expr} {g : Den} {cp ap : Pos}
end
end DL
set_option Elab.async false
set_option linter.all false
set_option maxRecDepth 100000
set_option genSizeOf false
set_option bootstrap.genMatcherCode false
namespace DL
open PySem PySem.Spec PyProof.Rows L2
def OIs (K : PySem.W.Frag) (α : List Addr) (F : Hp) : Option D → Option V → Prop
  | none, none => True
  | some d, some v => Is K α F d v
  | _, _ => False
section
variable {κ : Type} [DecidableEq κ]
def valD (kvs : List (κ × D)) (k : κ) : Option D := (kvs.find? fun kv => decide (kv.1 = k)).map (·.2)
def putD (kvs : List (κ × D)) (k : κ) (v : D) : List (κ × D) :=
  if (kvs.any fun kv => decide (kv.1 = k)) = true then kvs.map (fun kv => if kv.1 = k then (kv.1, v) else kv) else kvs ++ [(k, v)]
def dropD (kvs : List (κ × D)) (k : κ) : List (κ × D) := kvs.filter fun kv => decide (kv.1 ≠ k)
variable {K : PySem.W.Frag} {α : List Addr} {F : Hp}
theorem PsIs.len : ∀ {ps : List (κ × D)} {vs : List (κ × V)}, PsIs K α F ps vs → ps.length = vs.length
  | [], _, h => by rw [show _ = [] from h]; rfl
  | p :: r, _, ⟨v, t, e, _, q⟩ => by rw [e, List.length_cons, List.length_cons, q.len]
theorem PsIs.keys : ∀ {ps : List (κ × D)} {vs : List (κ × V)}, PsIs K α F ps vs → ps.map (·.1) = vs.map (·.1)
  | [], _, h => by rw [show _ = [] from h]; rfl
  | p :: r, _, ⟨v, t, e, _, q⟩ => by rw [e, List.map_cons, List.map_cons, q.keys]
theorem PsIs.val (k : κ) : ∀ {ps : List (κ × D)} {vs : List (κ × V)}, PsIs K α F ps vs → OIs K α F (valD ps k) (valV vs k)
  | [], _, h => by rw [show _ = [] from h]; exact trivial
  | p :: r, _, ⟨v, t, e, i, q⟩ => by
    subst e
    by_cases h : p.1 = k
    · have e1 : valD (p :: r) k = some p.2 := by simp [valD, List.find?_cons, h]
      rw [e1, valV_pos h]; exact i
    · have e1 : valD (p :: r) k = valD r k := by simp [valD, List.find?_cons, h]
      rw [e1, valV_neg h]; exact q.val k
theorem PsIs.repl (k : κ) {d : D} {y : V} (iy : Is K α F d y) : ∀ {ps : List (κ × D)} {vs : List (κ × V)}, PsIs K α F ps vs → PsIs K α F (ps.map fun kv => if kv.1 = k then (kv.1, d) else kv) (vs.map fun kv => if kv.1 = k then (kv.1, y) else kv)
  | [], _, h => by rw [show _ = [] from h]; exact rfl
  | p :: r, _, ⟨v, t, e, i, q⟩ => by
    subst e
    rw [List.map_cons, List.map_cons]
    by_cases h : p.1 = k
    · rw [if_pos h, if_pos h]; exact ⟨y, _, rfl, iy, q.repl k iy⟩
    · rw [if_neg h, if_neg h]; exact ⟨v, _, rfl, i, q.repl k iy⟩
theorem PsIs.snoc (k : κ) {d : D} {y : V} (iy : Is K α F d y) : ∀ {ps : List (κ × D)} {vs : List (κ × V)}, PsIs K α F ps vs → PsIs K α F (ps ++ [(k, d)]) (vs ++ [(k, y)])
  | [], _, h => by rw [show _ = [] from h]; exact ⟨y, [], rfl, iy, rfl⟩
  | p :: r, _, ⟨v, t, e, i, q⟩ => by
    subst e
    exact ⟨v, _, rfl, i, q.snoc k iy⟩
theorem PsIs.any (k : κ) : ∀ {ps : List (κ × D)} {vs : List (κ × V)}, PsIs K α F ps vs → (ps.any fun kv => decide (kv.1 = k)) = vs.any fun kv => decide (kv.1 = k)
  | [], _, h => by rw [show _ = [] from h]; rfl
  | p :: r, _, ⟨v, t, e, i, q⟩ => by
    subst e
    rw [List.any_cons, List.any_cons, q.any k]
theorem PsIs.put {ps : List (κ × D)} {vs : List (κ × V)} (h : PsIs K α F ps vs) (k : κ) {d : D} {y : V} (iy : Is K α F d y) : PsIs K α F (putD ps k d) (putK vs k y) := by
  unfold putD putK
  rw [h.any k]
  split
  · exact h.repl k iy
  · exact h.snoc k iy
theorem PsIs.drop (k : κ) : ∀ {ps : List (κ × D)} {vs : List (κ × V)}, PsIs K α F ps vs → PsIs K α F (dropD ps k) (dropK vs k)
  | [], _, h => by rw [show _ = [] from h]; exact rfl
  | p :: r, _, ⟨v, t, e, i, q⟩ => by
    subst e
    unfold dropD dropK
    by_cases h : p.1 = k
    · rw [List.filter_cons_of_neg (by simp [h]), List.filter_cons_of_neg (by simp [h])]; exact q.drop k
    · rw [List.filter_cons_of_pos (by simp [h]), List.filter_cons_of_pos (by simp [h])]; exact ⟨v, _, rfl, i, q.drop k⟩
end
section
variable {K : PySem.W.Frag} {α : List Addr} {F : Hp}
theorem PsIs.look (f : Str) : ∀ {ps : List (Str × D)} {vs : List (Str × V)}, PsIs K α F ps vs → OIs K α F (ps.lookup f) (vs.lookup f)
  | [], _, h => by rw [show _ = [] from h]; exact trivial
  | (g, d) :: r, _, ⟨v, t, e, i, q⟩ => by
    subst e
    by_cases h : (f == g) = true
    · rw [List.lookup_cons, List.lookup_cons, h]; exact i
    · have h' : (f == g) = false := by cases z : (f == g) with | true => exact absurd z h | false => rfl
      rw [List.lookup_cons, List.lookup_cons, h']; exact q.look f
def putFD (f : Str) (v : D) : List (Str × D) → List (Str × D)
  | [] => [(f, v)]
  | (g, x) :: r => if g = f then (g, v) :: r else (g, x) :: putFD f v r
theorem PsIs.putF (f : Str) {d : D} {y : V} (iy : Is K α F d y) : ∀ {ps : List (Str × D)} {vs : List (Str × V)}, PsIs K α F ps vs → PsIs K α F (putFD f d ps) (L2.putF f y vs)
  | [], _, h => by rw [show _ = [] from h]; exact ⟨y, [], rfl, iy, rfl⟩
  | (g, x) :: r, _, ⟨v, t, e, i, q⟩ => by
    subst e
    unfold putFD L2.putF
    by_cases h : g = f
    · rw [if_pos h, if_pos h]; exact ⟨y, t, rfl, iy, q⟩
    · rw [if_neg h, if_neg h]; exact ⟨v, _, rfl, i, q.putF f iy⟩
end
def E4.obj (e : E4) (p : Addr) (H' : Hp) : E4 := ⟨e.α ++ [p], e.F, fun b => e.A b ∨ b = p, H'⟩
def E4.at (e : E4) (a : Addr) (o : HO) : E4 := ⟨e.α, e.F, e.A, upd e.H a o⟩
section
variable {K : PySem.W.Frag} {C : Cl} {e : E4} {Ω : List OS}
theorem Wf.objA (w : Wf K C e Ω) {n : Nat} {a : Addr} (h : e.α[n]? = some a) : e.A a ∧ ∃ o, Ω[n]? = some o := by
  have hl : n < Ω.length := by rw [← w.ol]; exact (List.getElem?_eq_some_iff.mp h).1
  exact ⟨(w.ob n a _ h (List.getElem?_eq_getElem hl)).1, _, List.getElem?_eq_getElem hl⟩
theorem Wf.obj (w : Wf K C e Ω) {p : Addr} {H' : Hp} {o : OS} (hp : e.H p = none) (hk : ∀ b u, e.H b = some u → H' b = some u) (hn : H' p ≠ none ∧ ∀ xs, H' p ≠ some (.tup xs)) (ho : OSIs K C (e.obj p H') p o) :
    Wf K C (e.obj p H') (Ω ++ [o]) ∧ Ext e (e.obj p H') := by
  have nA : ¬ e.A p := fun z => (w.ah p z).1 hp
  have npα : p ∉ e.α := fun z => by
    obtain ⟨n, h⟩ := List.getElem?_of_mem z
    exact nA (w.objA h).1
  refine ⟨⟨fun b u h => hk b u (w.fh b u h), fun b h => ?_, fun b h => ?_, ?_, ?_, fun n b u h1 h2 => ?_⟩, ⟨fun b o' u h => hk b _ h, fun b u h _ => hk b u h, fun b u h => ⟨u, hk b u h⟩, Same.refl _, fun b u h => .inl h, fun b h => ?_, fun b h => .inl h, [p], rfl⟩⟩
  · rcases h with h | rfl
    · exact w.fa b h
    · exact w.nF hp
  · rcases h with h | rfl
    · obtain ⟨h1, h2⟩ := w.ah b h
      cases q : e.H b with
      | none => exact absurd q h1
      | some u =>
        show H' b ≠ none ∧ ∀ xs, H' b ≠ some (.tup xs)
        rw [hk b u q, ← q]
        exact ⟨h1, h2⟩
    · exact hn
  · show (e.α ++ [p]).length = (Ω ++ [o]).length
    rw [List.length_append, List.length_append, w.ol]; rfl
  · show (e.α ++ [p]).Nodup
    rw [List.nodup_append]
    refine ⟨w.nd, by simp, fun x hx y hy => ?_⟩
    simp only [List.mem_singleton] at hy
    subst hy
    exact fun z => npα (z ▸ hx)
  · have h1 : (e.α ++ [p])[n]? = some b := h1
    by_cases hl : n < e.α.length
    · rw [List.getElem?_append_left hl] at h1
      rw [List.getElem?_append_left (by rw [← w.ol]; exact hl)] at h2
      exact ⟨.inl (w.ob n b u h1 h2).1, (w.ob n b u h1 h2).2.keep (fun v hv => hk b v hv) (Same.refl _) ⟨[p], rfl⟩⟩
    · have en : n = e.α.length := by
        have := (List.getElem?_eq_some_iff.mp h1).1
        rw [List.length_append] at this
        simp at this
        omega
      subst en
      rw [List.getElem?_append_right (Nat.le_refl _), Nat.sub_self] at h1
      rw [w.ol, List.getElem?_append_right (Nat.le_refl _), Nat.sub_self] at h2
      cases h1
      cases h2
      exact ⟨.inr rfl, ho⟩
  · rcases h with h | rfl
    · exact .inl h
    · exact .inr hp
theorem Wf.atW (w : Wf K C e Ω) {n : Nat} {a : Addr} {o' : OS} {ho : HO} (hα : e.α[n]? = some a) (hn : ∀ xs, ho ≠ .tup xs) (h' : OSIs K C (e.at a ho) a o') : Wf K C (e.at a ho) (Ω.set n o') := by
  have hA := (w.objA hα).1
  have hF := w.fa a hA
  have neF : ∀ b u, e.F b = some u → b ≠ a := fun b u h z => by subst z; rw [hF] at h; cases h
  refine ⟨fun b u h => ?_, w.fa, fun b h => ?_, by simp [E4.at, w.ol], w.nd, fun m b u h1 h2 => ?_⟩
  · show upd e.H a ho b = some u
    rw [upd_ne (neF b u h)]; exact w.fh b u h
  · show upd e.H a ho b ≠ none ∧ ∀ xs, upd e.H a ho b ≠ some (.tup xs)
    by_cases z : b = a
    · subst z; rw [upd_same]; exact ⟨by simp, fun xs q => hn xs (Option.some.inj q)⟩
    · rw [upd_ne z]; exact w.ah b h
  · by_cases z : m = n
    · subst z
      have h1 : e.α[m]? = some b := h1
      rw [hα] at h1
      cases h1
      have hl : m < Ω.length := by rw [← w.ol]; exact (List.getElem?_eq_some_iff.mp hα).1
      rw [List.getElem?_set_self hl] at h2
      cases h2
      exact ⟨hA, h'⟩
    · rw [List.getElem?_set_ne (fun q => z q.symm)] at h2
      have nb : b ≠ a := fun q => by
        subst q
        exact z ((List.getElem?_inj (List.getElem?_eq_some_iff.mp h1).1 w.nd).mp (h1.trans hα.symm))
      refine ⟨(w.ob m b u h1 h2).1, (w.ob m b u h1 h2).2.keep (fun v hv => ?_) (Same.refl _) ⟨[], by simp [E4.at]⟩⟩
      show upd e.H a ho b = some v
      rw [upd_ne nb]; exact hv
theorem Wf.at (w : Wf K C e Ω) {n : Nat} {a : Addr} {o' : OS} {ho : HO} (hα : e.α[n]? = some a) (hn : ∀ xs, ho ≠ .tup xs) (h' : OSIs K C (e.at a ho) a o') (hz : ∀ o u, e.H a ≠ some (.frz o u)) :
    Wf K C (e.at a ho) (Ω.set n o') ∧ Ext e (e.at a ho) := by
  have hA := (w.objA hα).1
  refine ⟨w.atW hα hn h', ⟨fun b o' u h => ?_, fun b u h hn => ?_, fun b u h => ?_, Same.refl _, fun b u h => .inl h, fun b h => .inl h, fun b h => h, [], by simp [E4.at]⟩⟩
  · show upd e.H a ho b = some (.frz o' u)
    rw [upd_ne (fun z => hz o' u (by rw [← z]; exact h))]; exact h
  · show upd e.H a ho b = some u
    rw [upd_ne (fun z => hn (by rw [z]; exact hA))]; exact h
  · by_cases z : b = a
    · subst z; exact ⟨ho, upd_same⟩
    · exact ⟨u, by show upd e.H a ho b = some u; rw [upd_ne z]; exact h⟩
end
def keyD : D → Option Key
  | .int i => some (.inl i)
  | .str x => some (.inr x)
  | _ => none
def keysD : List D → Option (List Key)
  | [] => some []
  | d :: ds => match keyD d with
    | some k => (match keysD ds with | some ks => some (k :: ks) | none => none)
    | none => none
def tkeyD : D → Option (List Key)
  | .tup xs => keysD xs
  | _ => none
def ofK : Key → D
  | .inl i => .int i
  | .inr x => .str x
section
variable {K : PySem.W.Frag} {α : List Addr} {F : Hp}
theorem keyD_v {d : D} {k : Key} {v : V} (h : keyD d = some k) (i : Is K α F d v) : v = kV k := by
  cases d <;> first | cases h | skip
  · rw [Is] at i; exact i
  · rw [Is] at i; exact i
theorem keysD_v : ∀ {ds : List D} {ks : List Key} {vs : List V}, keysD ds = some ks → IsL K α F ds vs → vs = ks.map kV
  | [], ks, vs, h, i => by cases h; rw [i.of_nil]; rfl
  | d :: ds, ks, vs, h, i => by
    obtain ⟨v, r, rfl, i1, i2⟩ := i.of_cons
    unfold keysD at h
    cases q : keyD d with
    | none => rw [q] at h; cases h
    | some k =>
      rw [q] at h
      dsimp only at h
      cases q2 : keysD ds with
      | none => rw [q2] at h; cases h
      | some ks' =>
        rw [q2] at h
        cases h
        rw [List.map_cons, keyD_v q i1, keysD_v q2 i2]
theorem tkeyD_v {d : D} {ks : List Key} {v : V} (h : tkeyD d = some ks) (i : Is K α F d v) : ∃ b, v = .ref b ∧ F b = some (.tup (ks.map kV)) := by
  cases d <;> first | cases h | skip
  rw [Is] at i
  obtain ⟨a, vs, rfl, e, q⟩ := i
  rw [keysD_v h q] at e
  exact ⟨a, rfl, e⟩
theorem ofK_is (k : Key) : Is K α F (ofK k) (kV k) := by
  cases k with
  | inl i => show Is K α F (.int i) (.int i); rw [Is]
  | inr x => show Is K α F (.str x) (.str x); rw [Is]
theorem ofKs_is : ∀ ks : List Key, IsL K α F (ks.map ofK) (ks.map kV)
  | [] => .nil
  | k :: ks => .cons (ofK_is k) (ofKs_is ks)
end
def lookO : OS → D → Option (Option D)
  | .fzK kvs, d => (match keyD d with | some k => some (valD kvs k) | none => none)
  | .dK kvs, d => (match keyD d with | some k => some (valD kvs k) | none => none)
  | .dT kvs, d => (match tkeyD d with | some k => some (valD kvs k) | none => none)
  | _, _ => none
def putO : OS → D → D → Option OS
  | .dK kvs, d, v => (match keyD d with | some k => if kvs.length < 100000 then some (.dK (putD kvs k v)) else none | none => none)
  | .dT kvs, d, v => (match tkeyD d with | some k => if kvs.length < 100000 then some (.dT (putD kvs k v)) else none | none => none)
  | _, _, _ => none
def isDct : OS → Bool
  | .fzK _ => true
  | .dK _ => true
  | .dT _ => true
  | _ => false
section
variable {K : PySem.W.Frag} {C : Cl} {e : E4} {Ω : List OS}
theorem dget_of (w : Wf K C e Ω) {n : Nat} {a : Addr} {o : OS} {d : D} {r : Option D} {y : V} (hα : e.α[n]? = some a) (hΩ : Ω[n]? = some o) (hl : lookO o d = some r) (i : Is K e.α e.F d y) :
    ∃ r', DGet e.H a y r' ∧ OIs K e.α e.F r r' := by
  have ob := (w.ob n a o hα hΩ).2
  unfold lookO at hl
  cases o with
  | fzK kvs =>
    obtain ⟨vs, ob', h1, h2⟩ := ob
    dsimp only at hl
    cases q : keyD d with
    | none => rw [q] at hl; cases hl
    | some k =>
      rw [q] at hl
      cases hl
      rw [keyD_v q i]
      exact ⟨_, .inl ⟨vs, k, .inr ⟨_, h1⟩, rfl, rfl⟩, h2.val k⟩
  | dK kvs =>
    obtain ⟨vs, h1, h2⟩ := ob
    dsimp only at hl
    cases q : keyD d with
    | none => rw [q] at hl; cases hl
    | some k =>
      rw [q] at hl
      cases hl
      rw [keyD_v q i]
      exact ⟨_, DGet.k h1, h2.val k⟩
  | dT kvs =>
    obtain ⟨vs, h1, h2⟩ := ob
    dsimp only at hl
    cases q : tkeyD d with
    | none => rw [q] at hl; cases hl
    | some k =>
      rw [q] at hl
      cases hl
      obtain ⟨b, rfl, hb⟩ := tkeyD_v q i
      exact ⟨_, DGet.t h1 (w.fh _ _ hb), h2.val k⟩
  | _ => cases hl
theorem isD_of (w : Wf K C e Ω) {n : Nat} {a : Addr} {o : OS} (hα : e.α[n]? = some a) (hΩ : Ω[n]? = some o) (h : isDct o = true) : IsD e.H a := by
  have ob := (w.ob n a o hα hΩ).2
  cases o with
  | fzK kvs => obtain ⟨vs, ob', h1, _⟩ := ob; exact .inl ⟨vs, .inr ⟨_, h1⟩⟩
  | dK kvs => obtain ⟨vs, h1, _⟩ := ob; exact .inl ⟨vs, .inl h1⟩
  | dT kvs => obtain ⟨vs, h1, _⟩ := ob; exact .inr ⟨vs, .inl h1⟩
  | _ => cases h
theorem dput_of (w : Wf K C e Ω) {n : Nat} {a : Addr} {o o' : OS} {d x : D} {y v : V} (hα : e.α[n]? = some a) (hΩ : Ω[n]? = some o) (hp : putO o d x = some o') (i : Is K e.α e.F d y) (ix : Is K e.α e.F x v) :
    ∃ H', DPut e.H a y v H' ∧ ∃ e', e'.H = H' ∧ Wf K C e' (Ω.set n o') ∧ Ext e e' := by
  have ob := (w.ob n a o hα hΩ).2
  unfold putO at hp
  cases o with
  | dK kvs =>
    obtain ⟨vs, h1, h2⟩ := ob
    dsimp only at hp
    cases q : keyD d with
    | none => rw [q] at hp; cases hp
    | some k =>
      rw [q] at hp
      dsimp only at hp
      split at hp
      · rename_i hl
        cases hp
        rw [keyD_v q i]
        refine ⟨_, DPut.k h1 (by rw [← h2.len]; exact big_lt hl), e.at a _, rfl, w.at hα (fun xs z => nomatch z) ⟨_, upd_same, h2.put k ix⟩ fun o u z => by rw [h1] at z; cases z⟩
      · cases hp
  | dT kvs =>
    obtain ⟨vs, h1, h2⟩ := ob
    dsimp only at hp
    cases q : tkeyD d with
    | none => rw [q] at hp; cases hp
    | some k =>
      rw [q] at hp
      dsimp only at hp
      split at hp
      · rename_i hl
        cases hp
        obtain ⟨b, rfl, hb⟩ := tkeyD_v q i
        refine ⟨_, DPut.t h1 (w.fh _ _ hb) (by rw [← h2.len]; exact big_lt hl), e.at a _, rfl, w.at hα (fun xs z => nomatch z) ⟨_, upd_same, h2.put k ix⟩ fun o u z => by rw [h1] at z; cases z⟩
      · cases hp
  | _ => cases hp
end
def gNewT : Den := fun _ Ω => some (.obj Ω.length, Ω ++ [.dT []])
def gDGet (go gi : Den) : Den := fun ρ Ω => match go ρ Ω with
  | some (.obj n, Ω1) => (match gi ρ Ω1 with
    | some (k, Ω2) => (match Ω2[n]? with
      | some o => (match lookO o k with | some (some d) => some (d, Ω2) | _ => none)
      | none => none)
    | none => none)
  | _ => none
def gDIn (neg : Bool) (gk go : Den) : Den := fun ρ Ω => match gk ρ Ω with
  | some (k, Ω1) => (match go ρ Ω1 with
    | some (.obj n, Ω2) => (match Ω2[n]? with
      | some o => (match lookO o k with | some r => some (.bl (if neg then !r.isSome else r.isSome), Ω2) | none => none)
      | none => none)
    | _ => none)
  | none => none
def gDGet1 (go gk : Den) : Den := fun ρ Ω => match go ρ Ω with
  | some (.obj n, Ω1) => (match Ω1[n]? with
    | some o => if isDct o = true then (match gk ρ Ω1 with
      | some (k, Ω2) => (match Ω2[n]? with
        | some o2 => (match lookO o2 k with | some r => some (r.getD .non, Ω2) | none => none)
        | none => none)
      | none => none) else none
    | none => none)
  | _ => none
def gDGet2 (go gk gx : Den) : Den := fun ρ Ω => match go ρ Ω with
  | some (.obj n, Ω1) => (match Ω1[n]? with
    | some o => if isDct o = true then (match gk ρ Ω1 with
      | some (k, Ω2) => (match gx ρ Ω2 with
        | some (x, Ω3) => (match Ω3[n]? with
          | some o2 => (match lookO o2 k with | some r => some (r.getD x, Ω3) | none => none)
          | none => none)
        | none => none)
      | none => none) else none
    | none => none)
  | _ => none
def sDPut (go gi gv : Den) : SDen := fun ρ Ω => match gv ρ Ω with
  | some (v, Ω1) => (match go ρ Ω1 with
    | some (.obj n, Ω2) => (match gi ρ Ω2 with
      | some (k, Ω3) => (match Ω3[n]? with
        | some o => (match putO o k v with | some o' => some (.nx ρ (Ω3.set n o')) | none => none)
        | none => none)
      | none => none)
    | _ => none)
  | none => none
def gDLen (go : Den) : Den := fun ρ Ω => match go ρ Ω with
  | some (.obj n, Ω1) => (match Ω1[n]? with
    | some (.dK kvs) => some (.int kvs.length, Ω1)
    | some (.dT kvs) => some (.int kvs.length, Ω1)
    | _ => none)
  | _ => none
section
variable {X : Cx} {C : Cl} {a b c x y : Expr} {f g h : Den} {pos pos' ap cp : Pos}
theorem pd_newT : PD X C (.Dict [] [] pos) gNewT := pe_imp pe_dnewT fun σ H Q hw' => by
  obtain ⟨e, Ω, ρ, d, Ω', eH, w, rl, q, kk⟩ := hw'
  subst eH
  cases q
  intro p hp
  obtain ⟨w', x'⟩ := w.obj (H' := upd e.H p (.dT [])) (o := .dT []) hp (fun b u hb => by rw [upd_ne (ne_of_none hb hp)]; exact hb) (by rw [upd_same]; exact ⟨by simp, fun xs z => nomatch z⟩) ⟨[], upd_same, rfl⟩
  refine kk _ (e.obj p _) x' w' ?_
  rw [Is]
  exact ⟨p, by show (e.α ++ [p])[Ω.length]? = some p; rw [← w.ol]; simp, rfl⟩
theorem OIs.some_of {K : PySem.W.Frag} {α : List Addr} {F : Hp} {d : D} {r : Option V} (h : OIs K α F (some d) r) : ∃ v, r = some v ∧ Is K α F d v := by
  cases r with
  | none => exact h.elim
  | some v => exact ⟨v, rfl, h⟩
theorem OIs.isSome {K : PySem.W.Frag} {α : List Addr} {F : Hp} {d : Option D} {r : Option V} (h : OIs K α F d r) : r.isSome = d.isSome := by
  cases r <;> cases d <;> first | rfl | exact h.elim
theorem OIs.getD {K : PySem.W.Frag} {α : List Addr} {F : Hp} {d : Option D} {r : Option V} {x : D} {v : V} (h : OIs K α F d r) (i : Is K α F x v) : Is K α F (d.getD x) (r.getD v) := by
  cases r <;> cases d <;> first | exact h.elim | exact i | exact h
theorem pd_dget (hu : X.A.units + 1 < cLine) (ho : PD X C a f) (hi : PD X C b g) (hs : NoSl b) : PD X C (.Subscript a b pos) (gDGet f g) := pe_imp (pe_dget hu ho hi hs) fun σ H Q hw' => by
  obtain ⟨e, Ω, ρ, d, Ω', eH, w, rl, q, kk⟩ := hw'
  unfold gDGet at q
  cases q1 : f ρ Ω with
  | none => rw [q1] at q; cases q
  | some p1 =>
    obtain ⟨d1, Ω1⟩ := p1
    rw [q1] at q
    cases d1 with
    | obj n =>
      dsimp only at q
      cases q2 : g ρ Ω1 with
      | none => rw [q2] at q; cases q
      | some p2 =>
        obtain ⟨k, Ω2⟩ := p2
        rw [q2] at q
        dsimp only at q
        cases q3 : Ω2[n]? with
        | none => rw [q3] at q; cases q
        | some o =>
          rw [q3] at q
          dsimp only at q
          cases q4 : lookO o k with
          | none => rw [q4] at q; cases q
          | some r =>
            rw [q4] at q
            cases r with
            | none => cases q
            | some d' =>
              cases q
              refine ⟨e, Ω, ρ, _, Ω1, eH, w, rl, q1, fun v e1 x1 w1 i1 => ?_⟩
              refine ⟨e1, Ω1, ρ, k, _, rfl, w1, rl.ext x1, q2, fun u e2 x2 w2 i2 => ?_⟩
              have i3 := i1.ext x2
              rw [Is] at i3
              obtain ⟨p, hα, rfl⟩ := i3
              obtain ⟨r', g1, o1⟩ := dget_of w2 hα q3 q4 i2
              obtain ⟨v', rfl, iv⟩ := o1.some_of
              exact ⟨p, v', rfl, g1, kk v' e2 (x1.trans x2) w2 iv⟩
    | _ => cases q
theorem din_read {K : PySem.W.Frag} {neg : Bool} {σ : St} {H : Hp} {Q : VK} (h : tD K C (gDIn neg f g) σ H Q) :
    tD K C f σ H fun y H1 => tD K C g σ H1 fun x H2 => ∃ a o, x = .ref a ∧ DGet H2 a y o ∧ Q (.bl (if neg then !o.isSome else o.isSome)) H2 := by
  obtain ⟨e, Ω, ρ, d, Ω', eH, w, rl, q, kk⟩ := h
  unfold gDIn at q
  cases q1 : f ρ Ω with
  | none => rw [q1] at q; cases q
  | some p1 =>
    obtain ⟨k, Ω1⟩ := p1
    rw [q1] at q
    dsimp only at q
    cases q2 : g ρ Ω1 with
    | none => rw [q2] at q; cases q
    | some p2 =>
      obtain ⟨d2, Ω2⟩ := p2
      rw [q2] at q
      cases d2 with
      | obj n =>
        dsimp only at q
        cases q3 : Ω2[n]? with
        | none => rw [q3] at q; cases q
        | some o =>
          rw [q3] at q
          dsimp only at q
          cases q4 : lookO o k with
          | none => rw [q4] at q; cases q
          | some r =>
            rw [q4] at q
            cases q
            refine ⟨e, Ω, ρ, k, Ω1, eH, w, rl, q1, fun v e1 x1 w1 i1 => ?_⟩
            refine ⟨e1, Ω1, ρ, _, _, rfl, w1, rl.ext x1, q2, fun u e2 x2 w2 i2 => ?_⟩
            rw [Is] at i2
            obtain ⟨p, hα, rfl⟩ := i2
            obtain ⟨r', g1, o1⟩ := dget_of w2 hα q3 q4 (i1.ext x2)
            refine ⟨p, r', rfl, g1, ?_⟩
            rw [o1.isSome]
            exact kk _ e2 (x1.trans x2) w2 (by rw [Is])
      | _ => cases q
theorem pd_din (hu : X.A.units + 1 < cLine) (hk : PD X C a f) (ho : PD X C b g) (h1 : behindInMarks .In b = false := by rfl) : PD X C (.Compare a [.In] [b] pos) (gDIn false f g) :=
  pe_imp (pe_cmp (pc_din hu hk ho) h1) fun σ H Q h => din_read h
theorem pdt_din (hu : X.A.units + 1 < cLine) (hk : PD X C a f) (ho : PD X C b g) (h1 : behindInMarks .In b = false := by rfl) : PDT X C (.Compare a [.In] [b] pos) (gT (gDIn false f g)) :=
  pt_imp (pt_cmp (pc_din hu hk ho) h1) fun σ H Q h => din_read (gT_read h)
theorem pdt_dnotin (hu : X.A.units + 1 < cLine) (hk : PD X C a f) (ho : PD X C b g) (h1 : behindInMarks .NotIn b = false := by rfl) : PDT X C (.Compare a [.NotIn] [b] pos) (gT (gDIn true f g)) :=
  pt_imp (pt_cmp (pc_dnotin hu hk ho) h1) fun σ H Q h => din_read (gT_read h)
theorem pd_dget1 (hu : X.A.units + 1 < cLine) (ho : PD X C a f) (hi : PD X C b g) (m : M1 X a "get" ap b cp) : PD X C (.Call (.Attribute a "get" ap) [b] [] cp) (gDGet1 f g) := pe_imp (pe_dget1 hu ho hi m) fun σ H Q hw' => by
  obtain ⟨e, Ω, ρ, d, Ω', eH, w, rl, q, kk⟩ := hw'
  unfold gDGet1 at q
  cases q1 : f ρ Ω with
  | none => rw [q1] at q; cases q
  | some p1 =>
    obtain ⟨d1, Ω1⟩ := p1
    rw [q1] at q
    cases d1 with
    | obj n =>
      dsimp only at q
      cases q0 : Ω1[n]? with
      | none => rw [q0] at q; cases q
      | some o0 =>
        rw [q0] at q
        dsimp only at q
        by_cases hd : isDct o0 = true
        · rw [if_pos hd] at q
          cases q2 : g ρ Ω1 with
          | none => rw [q2] at q; cases q
          | some p2 =>
            obtain ⟨k, Ω2⟩ := p2
            rw [q2] at q
            dsimp only at q
            cases q3 : Ω2[n]? with
            | none => rw [q3] at q; cases q
            | some o =>
              rw [q3] at q
              dsimp only at q
              cases q4 : lookO o k with
              | none => rw [q4] at q; cases q
              | some r =>
                rw [q4] at q
                cases q
                refine ⟨e, Ω, ρ, _, Ω1, eH, w, rl, q1, fun v e1 x1 w1 i1 => ?_⟩
                rw [Is] at i1
                obtain ⟨p, hα, rfl⟩ := i1
                refine ⟨p, rfl, isD_of w1 hα q0 hd, ?_⟩
                refine ⟨e1, Ω1, ρ, k, _, rfl, w1, rl.ext x1, q2, fun u e2 x2 w2 i2 => ?_⟩
                have hα2 : e2.α[n]? = some p := by
                  have i3 : Is X.K e2.α e2.F (.obj n) (.ref p) := Is.ext x2 (by rw [Is]; exact ⟨p, hα, rfl⟩)
                  rw [Is] at i3
                  obtain ⟨p', z, zz⟩ := i3
                  cases zz
                  exact z
                obtain ⟨r', g1, o1⟩ := dget_of w2 hα2 q3 q4 i2
                exact ⟨r', g1, kk _ e2 (x1.trans x2) w2 (o1.getD (by rw [Is]))⟩
        · rw [if_neg hd] at q; cases q
    | _ => cases q
theorem pd_dget2 (hu : X.A.units + 1 < cLine) (ho : PD X C a f) (hi : PD X C b g) (hx : PD X C c h) (m : M2 X a "get" ap b c cp) : PD X C (.Call (.Attribute a "get" ap) [b, c] [] cp) (gDGet2 f g h) := pe_imp (pe_dget2 hu ho hi hx m) fun σ H Q hw' => by
  obtain ⟨e, Ω, ρ, d, Ω', eH, w, rl, q, kk⟩ := hw'
  unfold gDGet2 at q
  cases q1 : f ρ Ω with
  | none => rw [q1] at q; cases q
  | some p1 =>
    obtain ⟨d1, Ω1⟩ := p1
    rw [q1] at q
    cases d1 with
    | obj n =>
      dsimp only at q
      cases q0 : Ω1[n]? with
      | none => rw [q0] at q; cases q
      | some o0 =>
        rw [q0] at q
        dsimp only at q
        by_cases hd : isDct o0 = true
        · rw [if_pos hd] at q
          cases q2 : g ρ Ω1 with
          | none => rw [q2] at q; cases q
          | some p2 =>
            obtain ⟨k, Ω2⟩ := p2
            rw [q2] at q
            dsimp only at q
            cases q5 : h ρ Ω2 with
            | none => rw [q5] at q; cases q
            | some p5 =>
              obtain ⟨xd, Ω3⟩ := p5
              rw [q5] at q
              dsimp only at q
              cases q3 : Ω3[n]? with
              | none => rw [q3] at q; cases q
              | some o =>
                rw [q3] at q
                dsimp only at q
                cases q4 : lookO o k with
                | none => rw [q4] at q; cases q
                | some r =>
                  rw [q4] at q
                  cases q
                  refine ⟨e, Ω, ρ, _, Ω1, eH, w, rl, q1, fun v e1 x1 w1 i1 => ?_⟩
                  rw [Is] at i1
                  obtain ⟨p, hα, rfl⟩ := i1
                  refine ⟨p, rfl, isD_of w1 hα q0 hd, ?_⟩
                  refine ⟨e1, Ω1, ρ, k, _, rfl, w1, rl.ext x1, q2, fun u e2 x2 w2 i2 => ?_⟩
                  refine ⟨e2, Ω2, ρ, xd, _, rfl, w2, (rl.ext x1).ext x2, q5, fun u3 e3 x3 w3 i3' => ?_⟩
                  have hα2 : e3.α[n]? = some p := by
                    have i3 : Is X.K e3.α e3.F (.obj n) (.ref p) := Is.ext (x2.trans x3) (by rw [Is]; exact ⟨p, hα, rfl⟩)
                    rw [Is] at i3
                    obtain ⟨p', z, zz⟩ := i3
                    cases zz
                    exact z
                  obtain ⟨r', g1, o1⟩ := dget_of w3 hα2 q3 q4 (i2.ext x3)
                  exact ⟨r', g1, kk _ e3 ((x1.trans x2).trans x3) w3 (o1.getD i3')⟩
        · rw [if_neg hd] at q; cases q
    | _ => cases q
theorem pds_dput (hu : X.A.units + 1 < cLine) (ho : PD X C a f) (hi : PD X C b g) (hv : PD X C x h) (hs : swapsWith x (some (.Subscript a b pos')) pos.line X.env = pure false := by rfl) :
    PDS X C (.Assign [.Subscript a b pos'] x pos) (sDPut f g h) := fun e₀ => ps_imp (ps_dput hu ho hi hv hs) fun Dn σ H hw' => by
  obtain ⟨e, Ω, ρ, o, eH, r, q, k⟩ := hw'
  unfold sDPut at q
  cases q1 : h ρ Ω with
  | none => rw [q1] at q; cases q
  | some p1 =>
    obtain ⟨v, Ω1⟩ := p1
    rw [q1] at q
    dsimp only at q
    cases q2 : f ρ Ω1 with
    | none => rw [q2] at q; cases q
    | some p2 =>
      obtain ⟨d2, Ω2⟩ := p2
      rw [q2] at q
      cases d2 with
      | obj n =>
        dsimp only at q
        cases q3 : g ρ Ω2 with
        | none => rw [q3] at q; cases q
        | some p3 =>
          obtain ⟨kd, Ω3⟩ := p3
          rw [q3] at q
          dsimp only at q
          cases q4 : Ω3[n]? with
          | none => rw [q4] at q; cases q
          | some ob =>
            rw [q4] at q
            dsimp only at q
            cases q5 : putO ob kd v with
            | none => rw [q5] at q; cases q
            | some ob' =>
              rw [q5] at q
              cases q
              refine ⟨e, Ω, ρ, v, Ω1, eH, r.wf, r.rel, q1, fun uv e1 x1 w1 i1 => ?_⟩
              refine ⟨e1, Ω1, ρ, _, Ω2, rfl, w1, r.rel.ext x1, q2, fun uo e2 x2 w2 i2 => ?_⟩
              refine ⟨e2, Ω2, ρ, kd, Ω3, rfl, w2, (r.rel.ext x1).ext x2, q3, fun uk e3 x3 w3 i3 => ?_⟩
              have i2' := i2.ext x3
              rw [Is] at i2'
              obtain ⟨p, hα, rfl⟩ := i2'
              obtain ⟨H', hp, e4, rfl, w4, x4⟩ := dput_of w3 hα q4 q5 i3 (i1.ext (x2.trans x3))
              exact ⟨p, e4.H, rfl, hp, k e4 σ (r.to (((x1.trans x2).trans x3).trans x4) w4)⟩
      | _ => cases q
end
end DL
set_option Elab.async false
set_option linter.all false
set_option maxRecDepth 100000
set_option genSizeOf false
set_option bootstrap.genMatcherCode false
namespace DR
open PySem PyProof.Rows
open Sem (wp)
def RawD (h : Heap) (a : Addr) (es : Array DictEntry) (ep : Nat) : Prop := ∃ o, h.get? a = some o ∧ o.ExactDict ∧ o.data = .dict es ep
theorem RawD.ty {s : Shared} {a : Addr} {es : Array DictEntry} {ep : Nat} (r : RawD s.heap a es ep) : s.TypeIs (.ref a) "dict" := let ⟨o, h1, h2, _⟩ := r; ⟨o, h1, h2.1⟩
theorem RawD.to {h h' : Heap} {a : Addr} {es : Array DictEntry} {ep : Nat} (r : RawD h a es ep) (k : ∀ o, h.get? a = some o → h'.get? a = some o) : RawD h' a es ep := let ⟨o, h1, h2⟩ := r; ⟨o, k o h1, h2⟩
theorem RawD.lt {h : Heap} {a : Addr} {es : Array DictEntry} {ep : Nat} (r : RawD h a es ep) : a < h.objs.size := let ⟨_, h1, _⟩ := r; Heap.lt_size h1
section
variable {prog : Program} {w : World} {A : Around} {E : Value → Shared → Prop} {s : Shared} {d it : Addr} {es : Array DictEntry} {ep i : Nat}
theorem raw_iter {Q : Value → Shared → Prop} (hd : (d == sysModules) = false) (hm : RawD s.heap d es ep)
    (hq : Q (.ref s.heap.objs.size) { s with heap := s.heap.push { cls := .type "dict_keyiterator", data := .fields #[.ref d, .int 0 0, .int es.size 0, .int ep 0] } }) : wpAny (model prog w) A (pyIter (.ref d)) Q E s := by
  obtain ⟨o, ho, hc, hx⟩ := id hm
  have ty := hm.ty
  refine wpAny_pyIter_slot ty F.slot_dict_iter (wpAny_call_entry F.slot_dict_iter ty F.entry_dict_iter ?_ (F.args_dict_iter_1 _))
  unfold Builtin.«dict.__iter__»; refine wpAny_bind ?_
  unfold Builtin.Dict.dictSlotNone; refine wpAny_bind (wpAny_notOrdered_dict ty ?_)
  show wpAny _ _ (pure (Value.ref d)) _ _ s; refine wpAny_pure ?_
  show wpAny _ _ (Builtin.Dict.showsAll d >>= _) _ _ s; unfold Builtin.Dict.showsAll
  rw [if_neg (by rw [hd]; exact Bool.false_ne_true)]; refine wpAny_bind (wpAny_pure ?_)
  refine wpAny_bind (wpAny_dictEntries ho hx ?_); refine wpAny_bind (wpAny_dictEpoch ho hx ?_)
  refine wpAny_bind (wpAny_newObj_type (wpAny_pure ⟨_, rfl, "dict_keyiterator", _, ⟨_, Heap.get?_push_size _ rfl, rfl⟩, F.slot_dict_keyiterator_next.lookup, ?_⟩)); simpa [rawInt] using hq
theorem raw_item {Q : Option Value → Shared → Prop} (hit : s.heap.IsKeyIter it d i es.size ep) (hm : RawD s.heap d es ep) (hl : i < es.size)
    (hq : ∀ h', h'.IsKeyIter it d (i + 1) es.size ep → Heap.SameBut it s.heap h' → Q (some es[i].key) { s with heap := h' }) : wpAny (model prog w) A (pyNext (.ref it)) Q E s := by
  obtain ⟨o, ho, hc, hd⟩ := id hit
  obtain ⟨od, hod, hcd, hdd⟩ := id hm
  unfold pyNext
  refine wpAny_bind (wpAny_attempt (wpAny_callSpecial?_slot (name := Str.ofString "__next__") hit.typeIs F.slot_dict_keyiterator_next (wpAny_call_entry F.slot_dict_keyiterator_next hit.typeIs F.entry_dict_keyiterator_next ?_ (F.args_dict_keyiterator_next_1 _))))
  refine wpAny_bind (wpAny_pure ?_); refine wpAny_bind ?_; refine wpAny_bind ?_
  first | exact (wpAny_bind (wpAny_typeNameOfWhole_keyiter hit.typeIs (wpAny_pure (by fail)))) | (first | refine wpAny_bind (wpAny_typeNameOfWhole_keyiter hit.typeIs (wpAny_pure ?_)) | refine wpAny_bind (wpAny_typeNameOf_keyiter hit.typeIs (wpAny_pure ?_)))
  refine wpAny_bind (wpAny_fieldsOf ho hd ?_); have own0 : Builtin.Dict_items.ownsTuple "dict_keyiterator" = false := by decide
  simp only [own0, Bool.false_eq_true, if_false]; show wpAny _ _ (if (Value.ref d == Value.none) = true then _ else _) _ _ s
  rw [if_neg (show ¬ ((Value.ref d == Value.none) = true) from Bool.false_ne_true)]; refine wpAny_bind (wpAny_pure ?_)
  refine wpAny_bind (wpAny_dictEntries hod hdd ?_); rw [if_neg (by simp)]
  refine wpAny_bind (wpAny_pure ?_); refine wpAny_bind (wpAny_dictEpoch hod hdd ?_)
  rw [if_neg (by simp)]; refine wpAny_pure ?_
  simp only [show ¬ ((i : Int) < 0) from by omega, if_false, Int.toNat_natCast, Array.getElem?_eq_getElem hl]; refine wpAny_bind ?_
  first | refine wpAny_bind (wpAny_typeNameOfWhole_keyiter hit.typeIs (wpAny_pure ?_)) | skip
  first | refine wpAny_bind (wpAny_typeNameOf_keyiter hit.typeIs (wpAny_pure ?_)) | skip
  refine wpAny_bind (wpAny_isOneOf_keyiter hit.typeIs ?_); show wpAny _ _ (setField (.ref it) 1 (rawInt ((i : Int) + 1)) >>= _) _ _ s
  refine wpAny_bind (wpAny_setField ho hd (by simp) ?_)
  have it2 : (s.heap.update it (Obj.mapFields (·.setIfInBounds 1 (rawInt ((i : Int) + 1))))).IsKeyIter it d (i + 1) es.size ep :=
    ⟨_, Heap.get?_update_self _ ho (Obj.isFreed_of_fields (Obj.data_mapFields hd _)), (Obj.cls_mapFields ..).trans hc, by rw [Obj.data_mapFields hd]; simp [rawInt]⟩
  refine wpAny_bind (wpAny_holding ?_); refine wpAny_bind (wpAny_isOneOf_keyiter (s := { s with heap := s.heap.update it (Obj.mapFields (·.setIfInBounds 1 (rawInt ((i : Int) + 1)))) }) it2.typeIs ?_)
  show wpAny _ _ (pure es[i].key) _ _ _; exact wpAny_pure (wpAny_pure ⟨_, rfl, wpAny_pure (hq _ it2 (Heap.SameBut.update ..))⟩)
theorem raw_end {Q : Option Value → Shared → Prop} (hh : A.handled = none) (hit : s.heap.IsKeyIter it d i es.size ep) (hm : RawD s.heap d es ep) (hl : es.size ≤ i)
    (hq : ∀ h', Heap.ExtBut it s.heap h' → Q none { s with heap := h' }) : wpAny (model prog w) A (pyNext (.ref it)) Q E s := by
  obtain ⟨o, ho, hc, hd⟩ := id hit
  obtain ⟨od, hod, hcd, hdd⟩ := id hm
  unfold pyNext
  refine wpAny_bind (wpAny_attempt (wpAny_callSpecial?_slot (name := Str.ofString "__next__") hit.typeIs F.slot_dict_keyiterator_next (wpAny_call_entry F.slot_dict_keyiterator_next hit.typeIs F.entry_dict_keyiterator_next ?_ (F.args_dict_keyiterator_next_1 _))))
  refine wpAny_bind (wpAny_pure ?_); refine wpAny_bind ?_; refine wpAny_bind ?_
  first | exact (wpAny_bind (wpAny_typeNameOfWhole_keyiter hit.typeIs (wpAny_pure (by fail)))) | (first | refine wpAny_bind (wpAny_typeNameOfWhole_keyiter hit.typeIs (wpAny_pure ?_)) | refine wpAny_bind (wpAny_typeNameOf_keyiter hit.typeIs (wpAny_pure ?_)))
  refine wpAny_bind (wpAny_fieldsOf ho hd ?_); have own0 : Builtin.Dict_items.ownsTuple "dict_keyiterator" = false := by decide
  simp only [own0, Bool.false_eq_true, if_false]; show wpAny _ _ (if (Value.ref d == Value.none) = true then _ else _) _ _ s
  rw [if_neg (show ¬ ((Value.ref d == Value.none) = true) from Bool.false_ne_true)]; refine wpAny_bind (wpAny_pure ?_)
  refine wpAny_bind (wpAny_dictEntries hod hdd ?_); rw [if_neg (by simp)]
  refine wpAny_bind (wpAny_pure ?_); refine wpAny_bind (wpAny_dictEpoch hod hdd ?_)
  rw [if_neg (by simp)]; refine wpAny_pure ?_
  simp only [show ¬ ((i : Int) < 0) from by omega, if_false, Int.toNat_natCast, Array.getElem?_eq_none hl]; refine wpAny_bind ?_
  first | refine wpAny_bind (wpAny_typeNameOfWhole_keyiter hit.typeIs (wpAny_pure ?_)) | skip
  first | refine wpAny_bind (wpAny_typeNameOf_keyiter hit.typeIs (wpAny_pure ?_)) | skip
  show wpAny _ _ (setField (.ref it) 0 .none >>= _) _ _ s; refine wpAny_bind (wpAny_setField ho hd (by simp) ?_)
  show wpAny _ _ (newExc (.type "StopIteration") [] >>= _) _ _ _; refine wpAny_bind ?_
  simp only [newExc, newTuple]; refine wpAny_bind (wpAny_newObj_type ?_ (by size_fits))
  refine wpAny_bind (m := firstArgMember _ _) (wpAny_of_eq (a := Value.none) (by first | rfl | (simp only [firstArgMember]; rfl)) ?_); refine wpAny_newObj_type ?_ (by size_fits)
  simp only [raiseNew]; refine wpAny_bind (wpAny_handled ?_)
  rw [show A.in1.handled = none from hh]; refine wpAny_bind (wpAny_pure (wpAny_throw ?_))
  refine wpAny_bind (wpAny_isInstance (T := "StopIteration") (b := true) ⟨_, Heap.get?_push_size _ rfl, rfl⟩ isSubtype_stop ?_); exact wpAny_pure (hq _ (((Heap.SameBut.update ..).extBut.push _).push _))
theorem raw_walk (hh : A.handled = none) (I : Addr) (hne : d ≠ I) : Walks prog w A I [I, d] [I] es.size (fun i v => (es[i]?).map (·.key) = some v) (fun i h => h.IsKeyIter I d i es.size ep ∧ RawD h d es ep) where
  sub := fun b hb => by simp at hb; simp [hb]
  frame := fun _ _ _ st hk => ⟨st.1.at (hk I (by simp)), st.2.to (hk d (by simp))⟩
  item := fun i s Q E hi st hQ => raw_item st.1 st.2 hi fun h' it' hs' => hQ _ h' s.toks (by simp [hi]) ⟨it', st.2.to fun o e => hs'.extBut d o hne e⟩ fun b o hb e => hs'.extBut b o (fun z => hb (by simp [z])) e
  done := fun s Q E st hQ => raw_end hh st.1 st.2 (Nat.le_refl _) fun h' he' => hQ h' s.toks fun b o hb e => he' b o (fun z => hb (by simp [z])) e
  self := fun _ _ _ _ st hQ => wpAny_pyIter_keyiter st.1 hQ
theorem raw_src (lo : (d == sysModules) = false) : PySem.W.KdlSrc prog w "dict" d d es.size (fun i v => (es[i]?).map (·.key) = some v) (fun h => RawD h d es ep) where
  type := fun s hm => RawD.ty hm
  there := fun _ hm => ⟨hm.lt, hm.lt⟩
  keep := fun _ _ hm hk => hm.to fun o e => hk d (.inl rfl) o e
  notList := by decide
  notTuple := by decide
  hint := fun _ _ s _ hm hq => PySem.W.kdl_hint_dict (RawD.ty hm) hq
  iter := fun _ s hh hm => ⟨_, _, (fun _ _ hq => raw_iter lo hm hq), raw_walk hh _ (Nat.ne_of_lt hm.lt), ⟨⟨_, Heap.get?_push_size _ rfl, rfl, rfl⟩, hm.to fun o e => Heap.get?_push_of_some _ e⟩⟩
theorem raw_len {Q : Value → Shared → Prop} (hd : (d == sysModules) = false) (hm : RawD s.heap d es ep) (hfit : (es.size : Int) < 2 ^ 63)
    (h : Q (.int es.size (s.toks + 1)) { s with toks := s.toks + 1 + 1 }) : wpAny (model prog w) A (call (.builtin "len") [.ref d]) Q E s := by
  obtain ⟨o, ho, hc, hx⟩ := id hm
  have ty := hm.ty
  have ml : MeetsIn prog w (Builtin.«dict.__len__» ⟨[.ref d], []⟩) (fun _ R s => RawD s.heap d es ep ∧ R (.ok (.ret (.int es.size s.toks))) { s with toks := s.toks + 1 }) := .of_wp fun A R s ⟨⟨o, ho, hc, hx⟩, h⟩ => by
    show wpAny _ _ (dictSize d >>= _) _ _ s; unfold dictSize
    refine wpAny_bind (wpAny_bind (wpAny_dictEntries ho hx (wpAny_pure ?_)))
    show wpAny _ _ (Builtin.Dict.pendingCount d >>= _) _ _ s; refine wpAny_bind (wpAny_pendingCount_other hd ?_)
    refine wpAny_ret_mkInt ?_; rw [Nat.add_zero]; exact h
  refine Calls.call_function_entry kind_len plain_len entry_len (args_len1 _) ?_
  unfold Builtin.«len»; refine wpAny_bind (m := oneArg "len" _) (wpAny_pure ?_)
  refine wpAny_bind (m := callSpecial? (.ref d) (Str.ofString "__len__")) (wpAny_callSpecial?_slot (name := Str.ofString "__len__") ty F.slot_dict_len (call_meetsIn F.slot_dict_len ty F.entry_dict_len (F.args_dict_len_1 _) ml ⟨hm, ?_⟩))
  show wpAny _ _ _ _ _ { s with toks := s.toks + 1 }; refine wpAny_bind (wpAny_holding (wpAny_pure ?_))
  refine wpAny_bind (wpAny_letGo ?_); show wpAny _ _ (if ((es.size : Nat) : Int) < 0 then _ else _) _ _ _
  rw [if_neg (by omega)]; show wpAny _ _ (if ((es.size : Nat) : Int) ≥ 2 ^ 63 then _ else _) _ _ _
  rw [if_neg (by omega)]; exact wpAny_bind (wpAny_mkInt (wpAny_pure ⟨_, rfl, h⟩))
end
section
variable {κ : Type} [DecidableEq κ]
def outH (xs : List (κ × Addr × Value)) (k : κ) : List (κ × Addr × Value) := xs.filter fun x => decide (x.1 ≠ k)
theorem outH_no : ∀ {xs : List (κ × Addr × Value)} {k : κ}, k ∉ xs.map (·.1) → outH xs k = xs := fun {xs k} h => by
  unfold outH
  rw [List.filter_eq_self]
  intro x hx
  exact decide_eq_true fun e => h (List.mem_map.mpr ⟨x, hx, e⟩)
theorem outH_erase : ∀ {xs : List (κ × Addr × Value)} {k : κ} {j : Nat} {p : Addr × Value}, (xs.map (·.1)).Nodup → xs[j]? = some (k, p) → outH xs k = xs.eraseIdx j
  | [], _, _, _, _, h => by simp at h
  | x :: r, k, 0, p, hn, h => by
    rw [List.getElem?_cons_zero] at h
    cases h
    rw [List.map_cons, List.nodup_cons] at hn
    rw [List.eraseIdx_cons_zero]
    show List.filter _ _ = _
    rw [List.filter_cons_of_neg (by simp)]
    exact outH_no hn.1
  | x :: r, k, j + 1, p, hn, h => by
    rw [List.getElem?_cons_succ] at h
    rw [List.map_cons, List.nodup_cons] at hn
    have ne : ¬ x.1 = k := fun e => hn.1 (e ▸ List.mem_map.mpr ⟨(k, p), List.mem_of_getElem? h, rfl⟩)
    rw [List.eraseIdx_cons_succ, ← outH_erase hn.2 h]
    show List.filter _ _ = _
    rw [List.filter_cons_of_pos (by simp [ne])]
    rfl
theorem map_erase {α β : Type} (f : α → β) : ∀ (l : List α) (j : Nat), (l.eraseIdx j).map f = (l.map f).eraseIdx j
  | [], _ => rfl
  | _ :: _, 0 => rfl
  | x :: l, j + 1 => by rw [List.eraseIdx_cons_succ, List.map_cons, List.map_cons, List.eraseIdx_cons_succ, map_erase f l j]
variable {prog : Program} {w : World} {knd : HeapKind prog w κ} {A : Around} {E : Value → Shared → Prop} {s : Shared}
theorem out_heap {d a : Addr} {xs : List (κ × Addr × Value)} {k : κ} {p : Addr × Value} {Q : Option DictEntry → Shared → Prop} (hu : knd.room A) (hkey : knd.is s.heap k a) (hm : s.heap.DictOfH knd d xs) (hp : atKey xs k = some p)
    (hsome : ∀ e h', e.val = p.2 → h'.DictOfH knd d (outH xs k) → Heap.SameBut d s.heap h' → Q (some e) { s with heap := h', toks := s.toks + knd.draws k }) (hsz : xs.length ≤ sizeLine) :
    wpAny (model prog w) A (Builtin.Dict.takeOut d (.ref a)) Q E s := by
  obtain ⟨o, es, ep, ho, hc, hd, he, his, hn⟩ := hm
  unfold Builtin.Dict.takeOut
  try with_reducible refine wpAny_holding ?_
  refine wpAny_bind (knd.pyHash hu hkey (wpAny_bind (wpAny_dictFind_heap (s := { s with toks := s.toks + knd.draws k }) hu hkey ho hd he his hn (fun hno => ?_) (fun j p' hj => ?_))))
  · rw [atKey_none_of_get hno] at hp; cases hp
  · rw [atKey_of_get hn hj] at hp
    cases hp
    refine wpAny_bind (wpAny_dictEntries (s := { s with toks := s.toks + knd.draws k }) ho hd ?_)
    rw [entry_at he j, hj]
    refine wpAny_bind (wpAny_updateDictKeys (hz := by have e := size_of_entries he; omega) (s := { s with toks := s.toks + knd.draws k }) ho hd (wpAny_pure (hsome _ _ rfl ⟨_, _, ep + 1, Heap.get?_update_self _ ho (Obj.isFreed_of_dict (Obj.data_mapDictKeys hd _)), hc.mapDictKeys _, Obj.data_mapDictKeys hd _, ?_, ?_, ?_⟩ (Heap.SameBut.update ..))))
    · rw [outH_erase hn hj, map_erase, ← he]
      obtain ⟨l⟩ := es
      simp
    · intro x hx
      exact knd.keeps (his x (List.mem_filter.mp hx).1) ho hd (Heap.SameBut.update ..)
    · exact hn.sublist (List.filter_sublist.map _)
theorem pop_heap {d a : Addr} {xs : List (κ × Addr × Value)} {k : κ} {p : Addr × Value} {R : Result → Shared → Prop} (hu : knd.room A.in1) (hkey : knd.is s.heap k a) (hm : s.heap.DictOfH knd d xs) (hp : atKey xs k = some p) (hsz : xs.length ≤ sizeLine)
    (h : ∀ h', h'.DictOfH knd d (outH xs k) → Heap.SameBut d s.heap h' → R (.ok (.ret p.2)) { s with heap := h', toks := s.toks + knd.draws k }) :
    wpAny (model prog w) A.in1 (Builtin.«dict.pop» ⟨[.ref d, .ref a], []⟩) (fun fin s' => match fin with | .done f => R (.ok f) s' | .again c' => c'.quiet = true ∧ codeAny (model prog w) A c' R s') (fun e s' => R (.error e) s') s := by
  obtain ⟨o, es, ep, ho, hc, hd, he, his, hn⟩ := id hm
  have ne : es.isEmpty = false := by
    rw [Array.isEmpty_eq_false_iff]
    intro z
    rw [z] at he
    have e2 : xs = [] := by
      cases xs with
      | nil => rfl
      | cons x r => simp at he
    rw [e2] at hp
    cases hp
  unfold Builtin.«dict.pop»; refine wpAny_bind ?_
  unfold Builtin.Dict.keyAndDefault; refine wpAny_bind (wpAny_notOrdered_dict hm.typeIs ?_)
  show wpAny _ _ (pure (d, Value.ref a, none)) _ _ s; refine wpAny_pure ?_
  dsimp only; rw [if_neg (show ¬ ((keyPart (Value.ref a)).isSome = true) from by simp [keyPart])]
  refine wpAny_bind (wpAny_dictEntries ho hd ?_); refine wpAny_bind (wpAny_pure ?_)
  rw [ne]; simp only [Bool.false_eq_true, if_false]
  refine wpAny_bind (out_heap hu hkey hm hp (fun e h' hv hm' hs' => ?_) hsz)
  simp only [Option.isNone_some, Bool.false_eq_true, if_false]; refine wpAny_bind (wpAny_letGo (wpAny_pure ?_))
  show R (.ok (.ret e.val)) _
  rw [hv]; exact h h' hm' hs'
theorem popH (d a : Addr) : MeetsIn prog w (Builtin.«dict.pop» ⟨[.ref d, .ref a], []⟩) (fun A R s => knd.room A.in1 ∧ ∃ k xs p, knd.is s.heap k a ∧ s.heap.DictOfH knd d xs ∧ atKey xs k = some p ∧ xs.length ≤ sizeLine ∧
    ∀ h', h'.DictOfH knd d (outH xs k) → Heap.SameBut d s.heap h' → R (.ok (.ret p.2)) { s with heap := h', toks := s.toks + knd.draws k }) :=
  fun A R s hw' => by obtain ⟨hu, k, xs, p, h1, h2, h3, h4, h⟩ := hw'; exact pop_heap hu h1 h2 h3 h4 h
end
end DR
set_option Elab.async false
set_option linter.all false
set_option maxRecDepth 100000
set_option genSizeOf false
set_option bootstrap.genMatcherCode false
namespace L2
open PySem PySem.Spec PyProof.Rows
theorem KT.out {H : Hp} {kvs : List (List Key × V)} {xs : List (List Key × Addr × Value)} (r : KT H kvs xs) (k : List Key) : KT H (dropK kvs k) (DR.outH xs k) := by
  induction r with
  | nil => exact .nil
  | @cons p q ps qs h t ih =>
    unfold dropK DR.outH
    by_cases e : p.1 = k
    · rw [List.filter_cons_of_neg (by simp [e]), List.filter_cons_of_neg (by simp [← h.1, e])]; exact ih
    · rw [List.filter_cons_of_pos (by simp [e]), List.filter_cons_of_pos (by simp [← h.1, e])]; exact .cons h ih
section
variable {X : Cx} {pins : List (Addr × Obj)} {σ : St} {H : Hp} {s : Shared} {a b : Addr} {A : Around} {E : Value → Shared → Prop}
theorem d_popT {kvs : List (List Key × V)} {k : List Key} {v : V} {Q : Value → Shared → Prop} (hu : A.units + 1 < cLine) (I : Inv X pins σ H s) (e : H a = some (.dT kvs)) (eb : H b = some (.tup (k.map kV))) (l : valV kvs k = some v)
    (h : ∀ w' s', Inv X pins σ (upd H a (.dT (dropK kvs k))) s' → RelV v w' → Q w' s') : wpAny (model X.prog X.w) A (call (.builtin "dict.pop") [.ref a, .ref b]) Q E s := by
  obtain ⟨z, hd, xs, rel, dd⟩ := dt_of I.hok e
  obtain ⟨w', hw, rw'⟩ := RelO.some_of (v := v) (o := (atKey xs k).map (·.2)) (by rw [← l]; exact rel.val k)
  obtain ⟨p, hp, hp2⟩ := Option.map_eq_some_iff.mp hw
  have hz : xs.length ≤ sizeLine := by rw [← Paired.length rel]; exact z
  have hl : (dropK kvs k).length ≤ sizeLine := Nat.le_trans (dropK_le kvs k) z
  refine call_meetsIn PySem.F.slot_dict_pop dd.typeIs PySem.F.entry_dict_pop (PySem.F.args_dict_pop_2 _ _) (DR.popH (knd := tupleKind (mixKind X.prog X.w)) a b) ⟨tupleKind_room_in1 hu, k, xs, p, key_of I.hok eb, dd, hp, hz, fun h' dd' hs => ?_⟩
  obtain ⟨q, es, ep, hq, h2, h3, h4, _, h5⟩ := dd'
  show Q p.2 _
  rw [hp2]
  refine h w' _ (d_write I (by rw [e]; exact True.intro) hs ⟨q, hq⟩ ⟨hl, hd, _, (rel.out k).keeps fun c ys ec => ?_, q, es, ep, hq, h2, h3, h4, h5⟩) rw'
  rw [upd_ne (ne_of ec e (fun z => nomatch z))]
  exact ec
theorem d_lenT {kvs : List (List Key × V)} {Q : Value → Shared → Prop} (I : Inv X pins σ H s) (e : H a = some (.dT kvs)) (h : ∀ t s', Inv X pins σ H s' → Q (.int kvs.length t) s') : wpAny (model X.prog X.w) A (call (.builtin "len") [.ref a]) Q E s := by
  obtain ⟨z, hd, xs, rel, o, es, ep, h1, h2, h3, h4, h5⟩ := (show ObjOk X.prog X.w H s.heap a (.dT kvs) from I.hok a _ e)
  have en : es.size = kvs.length := by rw [← Array.length_toList, h4, List.length_map, Paired.length rel]
  refine DR.raw_len hd ⟨o, h1, h2, h3⟩ (by rw [en]; rw [sizeLine_eq] at z; omega) ?_
  rw [en]
  exact h _ _ (I.tok _)
theorem d_listT {kvs : List (List Key × V)} {Q : Value → Shared → Prop} (hh : A.handled = none) (I : Inv X pins σ H s) (e : H a = some (.dT kvs))
    (h : ∀ (bs : List Addr) (p : Addr) s', H p = none → Paired (fun (x : List Key × V) (b : Addr) => H b = some (.tup (x.1.map kV))) kvs bs → Inv X pins σ (upd H p (.lst (bs.map V.ref))) s' → Q (.ref p) s') :
    wpAny (model X.prog X.w) A (call (.type "list") [.ref a]) Q E s := by
  obtain ⟨z, hd, xs, rel, o, es, ep, h1, h2, h3, h4, h5⟩ := (show ObjOk X.prog X.w H s.heap a (.dT kvs) from I.hok a _ e)
  have en : es.size = kvs.length := by rw [← Array.length_toList, h4, List.length_map, Paired.length rel]
  refine PySem.W.kdl_call (DR.raw_src (es := es) (ep := ep) hd) hh ⟨o, h1, h2, h3⟩ (by rw [en]; exact z) fun h' tk acc' c' hk hS hacc => ?_
  have ea : acc'.toList = (xs.map fun x => Value.ref x.2.1) := by
    apply List.ext_getElem?
    intro i
    rw [List.getElem?_map, Array.getElem?_toList]
    by_cases hi : i < acc'.size
    · have q : (es[i]?).map (·.key) = some acc'[i] := hacc.2 i acc'[i] (Array.getElem?_eq_getElem hi)
      rw [entry_at h4 i] at q
      rw [Array.getElem?_eq_getElem hi, ← q]
      cases xs[i]? <;> rfl
    · have hx : xs.length ≤ i := by rw [← Paired.length rel, ← en, ← hacc.1]; omega
      rw [Array.getElem?_eq_none (by omega), List.getElem?_eq_none hx]; rfl
  have pr : ∀ {l : List (List Key × V)} {m : List (List Key × Addr × Value)}, KT H l m → Paired (fun (x : List Key × V) (b : Addr) => H b = some (.tup (x.1.map kV))) l (m.map (·.2.1)) := by
    intro l m q
    induction q with
    | nil => exact .nil
    | cons h t ih => exact .cons h.2.1 ih
  have vr : ∀ l : List (List Key × Addr × Value), Vals ((l.map (·.2.1)).map V.ref) (l.map fun x => Value.ref x.2.1) := by
    intro l
    induction l with
    | nil => exact .nil
    | cons x r ih => exact .cons rfl ih
  refine h (xs.map (·.2.1)) s.heap.objs.size _ (I.hok.fresh (Nat.le_refl _)) (pr rel) (I.laid hk (Nat.le_refl _) ⟨?_, (xs.map fun x => Value.ref x.2.1), c', vr xs, ?_⟩)
  · rw [List.length_map, List.length_map, ← Paired.length rel]; exact z
  · rw [hS, ← ea]
theorem d_listK {kvs : List (Key × V)} {Q : Value → Shared → Prop} (hh : A.handled = none) (I : Inv X pins σ H s) (e : H a = some (.dK kvs))
    (h : ∀ (p : Addr) s', H p = none → Inv X pins σ (upd H p (.lst (kvs.map fun x => kV x.1))) s' → Q (.ref p) s') :
    wpAny (model X.prog X.w) A (call (.type "list") [.ref a]) Q E s := by
  obtain ⟨z, hd, vs, rel, dd⟩ := dk_of I.hok e
  obtain ⟨ep, da⟩ := dd.dictAt
  refine PySem.W.kdl_call (PySem.W.kdl_dict (knd := mixKind X.prog X.w) (kvs := vs) (ep := ep) hd) hh da (by rw [← rel.length]; exact z) fun h' tk acc' c' hk hS hacc => ?_
  have va : ∀ (l : List (Key × V)) (us : List Value), us.length = l.length → (∀ (i : Nat) (u : Value), us[i]? = some u → ∃ (k : Key) (x : Unit), (l[i]?).map (fun (y : Key × V) => y.1) = some k ∧ (mixKind X.prog X.w).is k u = true ∧ x = ()) → Vals (l.map fun x => kV x.1) us := by
    intro l
    induction l with
    | nil => intro us hl _; cases us with
      | nil => exact .nil
      | cons u r => simp at hl
    | cons p r ih =>
      intro us hl hx
      cases us with
      | nil => simp at hl
      | cons u t =>
        obtain ⟨k, _, h1, h2, _⟩ := hx 0 u rfl
        simp at h1
        subst h1
        refine .cons ?_ (ih t (by simpa using hl) fun i u hi => ?_)
        · rcases keyIs_shape h2 with ⟨i, t, e1, e2⟩ | ⟨x, t, e1, e2⟩
          · show RelV (kV p.1) u; rw [e1]; exact ⟨t, e2⟩
          · show RelV (kV p.1) u; rw [e1]; exact ⟨t, e2⟩
        · obtain ⟨k, x, z1, z2⟩ := hx (i + 1) u (by simpa using hi)
          exact ⟨k, x, by simpa using z1, z2⟩
  have hk2 := rel.keys
  refine h s.heap.objs.size _ (I.hok.fresh (Nat.le_refl _)) (I.laid hk (Nat.le_refl _) ⟨by rw [List.length_map]; exact z, acc'.toList, c', va kvs _ ?_ fun i u hi => ?_, ?_⟩)
  · rw [Array.length_toList, hacc.1, rel.length]
  · rw [Array.getElem?_toList] at hi
    obtain ⟨k, x, z1, z2⟩ := hacc.2 i u hi
    refine ⟨k, (), ?_, z2, rfl⟩
    have q : (kvs.map (·.1))[i]? = (vs.map (·.1))[i]? := by rw [hk2]
    rw [List.getElem?_map, List.getElem?_map, z1] at q
    exact q
  · rw [hS]
end
def tPop (td ty : TE) : TE := fun σ H Q => td σ H fun x H1 => ∃ a, x = .ref a ∧ IsD H1 a ∧ ty σ H1 fun y H2 => (∃ kvs k v, H2 a = some (.dK kvs) ∧ y = kV k ∧ valV kvs k = some v ∧ Q v (upd H2 a (.dK (dropK kvs k)))) ∨
  ∃ kvs k b v, H2 a = some (.dT kvs) ∧ y = .ref b ∧ H2 b = some (.tup (k.map kV)) ∧ valV kvs k = some v ∧ Q v (upd H2 a (.dT (dropK kvs k)))
section
variable {X : Cx} {o e : Expr} {apos cpos : Pos} {td ty : TE}
theorem pe_pop (hu : X.A.units + 1 < cLine) (ho : PE X o td) (he : PE X e ty) (m : M1 X o "pop" apos e cpos) : PE X (.Call (.Attribute o "pop" apos) [e] [] cpos) (tPop td ty) := by
  intro pins s σ H Q I h
  refine wpAny_Call_method m.base m.few m.line PySem.F.plainAttrs_dict PySem.F.slot_dict_pop PySem.F.type_dict_pop (thn (ho pins s σ H _ I h) fun u s1 hw' => ?_)
  obtain ⟨x, H1, I1, rx, a, ex, d, q1⟩ := hw'
  subst ex; obtain rfl : u = Value.ref a := rx
  obtain ⟨t1, t2, _⟩ := isD_at I1 d
  refine ⟨t1, t2, ?_⟩; rw [m.trees]
  refine Calls.callWith_builtin rfl (Calls.evalArgs_plain (Calls.spliced_cons (thn (he pins s1 σ H1 _ I1 q1) fun iv s2 ⟨y, H2, I2, ry, q2⟩ => Calls.spliced_nil ?_)))
  rcases q2 with ⟨kvs, k, v, ea, ey, l, q2⟩ | ⟨kvs, k, b, v, ea, ey, eb, l, q2⟩
  · subst ey; exact d_pop I2 ea ry l (.inl rfl) fun w' s3 I3 rw' => ⟨v, _, I3, rw', q2⟩
  · subst ey; obtain rfl : iv = Value.ref b := ry; exact d_popT hu I2 ea eb l fun w' s3 I3 rw' => ⟨v, _, I3, rw', q2⟩
theorem call_lenO : CallR X (.builtin "len") (fun xs H Q => ∃ a n, xs = [V.ref a] ∧ ((∃ kvs, H a = some (.dK kvs) ∧ kvs.length = n) ∨ ∃ kvs, H a = some (.dT kvs) ∧ kvs.length = n) ∧ Q (.int n) H) := by
  intro pins s σ H xs us Q I r h
  obtain ⟨a, n, rfl, h, q⟩ := h
  obtain ⟨u, rfl, ru⟩ := vals1 r
  cases ru
  rcases h with ⟨kvs, ha, rfl⟩ | ⟨kvs, ha, rfl⟩
  · exact d_len I (.inl ha) fun t s' I' => ⟨.int kvs.length, H, I', ⟨t, rfl⟩, q⟩
  · exact d_lenT I ha fun t s' I' => ⟨.int kvs.length, H, I', ⟨t, rfl⟩, q⟩
theorem call_listO (hh : X.A.handled = none) : CallR X (.type "list") (fun xs H Q => ∃ a, xs = [V.ref a] ∧ ((∃ kvs, H a = some (.dK kvs) ∧ ∀ p, H p = none → Q (.ref p) (upd H p (.lst (kvs.map fun x => kV x.1)))) ∨
    ∃ kvs, H a = some (.dT kvs) ∧ ∀ (bs : List Addr) p, H p = none → Paired (fun (x : List Key × V) (b : Addr) => H b = some (.tup (x.1.map kV))) kvs bs → Q (.ref p) (upd H p (.lst (bs.map V.ref))))) := by
  intro pins s σ H xs us Q I r h
  obtain ⟨a, rfl, h⟩ := h
  obtain ⟨u, rfl, ru⟩ := vals1 r
  cases ru
  rcases h with ⟨kvs, ha, q⟩ | ⟨kvs, ha, q⟩
  · exact d_listK hh I ha fun p s' hp I' => ⟨.ref p, _, I', rfl, q p hp⟩
  · exact d_listT hh I ha fun bs p s' hp pr I' => ⟨.ref p, _, I', rfl, q bs p hp pr⟩
end
end L2
set_option Elab.async false
set_option linter.all false
set_option maxRecDepth 100000
set_option genSizeOf false
set_option bootstrap.genMatcherCode false
namespace DL
open PySem PySem.Spec PyProof.Rows L2
def dropO : OS → D → Option (D × OS)
  | .dK kvs, d => (match keyD d with | some k => (match valD kvs k with | some v => some (v, .dK (dropD kvs k)) | none => none) | none => none)
  | .dT kvs, d => (match tkeyD d with | some k => (match valD kvs k with | some v => some (v, .dT (dropD kvs k)) | none => none) | none => none)
  | _, _ => none
def gDPop (go gk : Den) : Den := fun ρ Ω => match go ρ Ω with
  | some (.obj n, Ω1) => (match Ω1[n]? with
    | some o => if isDct o = true then (match gk ρ Ω1 with
      | some (k, Ω2) => (match Ω2[n]? with
        | some o2 => (match dropO o2 k with | some (v, o3) => some (v, Ω2.set n o3) | none => none)
        | none => none)
      | none => none) else none
    | none => none)
  | _ => none
def keysO : OS → Option (List D)
  | .dK kvs => some (kvs.map fun x => ofK x.1)
  | .dT kvs => some (kvs.map fun x => .tup (x.1.map ofK))
  | _ => none
def gDList (go : Den) : Den := fun ρ Ω => match go ρ Ω with
  | some (.obj n, Ω1) => (match Ω1[n]? with
    | some o => (match keysO o with | some ks => some (.lst ks, Ω1) | none => none)
    | none => none)
  | _ => none
section
variable {K : PySem.W.Frag} {C : Cl} {e : E4} {Ω : List OS}
theorem Wf.tups (w : Wf K C e Ω) : ∃ e1 : E4, e1.H = e.H ∧ e1.α = e.α ∧ Ext e e1 ∧ Wf K C e1 Ω ∧ ∀ b xs, e.H b = some (.tup xs) → e1.F b = some (.tup xs) := by
  let F' : Hp := fun b => match e.H b with
    | some (.tup xs) => some (.tup xs)
    | _ => e.F b
  have ft : ∀ b xs, e.H b = some (.tup xs) → F' b = some (.tup xs) := fun b xs h => by show (match e.H b with | some (.tup xs) => some (HO.tup xs) | _ => e.F b) = _; rw [h]
  have fo : ∀ b, (∀ xs, e.H b ≠ some (.tup xs)) → F' b = e.F b := fun b h => by
    show (match e.H b with | some (.tup xs) => some (HO.tup xs) | _ => e.F b) = _
    cases q : e.H b with
    | none => rfl
    | some o => cases o <;> first | rfl | exact absurd q (h _)
  have ff : Same e.F F' := fun b o h => by
    by_cases q : ∃ xs, e.H b = some (.tup xs)
    · obtain ⟨xs, q⟩ := q
      rw [ft b xs q, ← q]; exact w.fh b o h
    · rw [fo b fun xs z => q ⟨xs, z⟩]; exact h
  have fh : Same F' e.H := fun b o h => by
    by_cases q : ∃ xs, e.H b = some (.tup xs)
    · obtain ⟨xs, q⟩ := q
      rw [ft b xs q] at h; rw [q]; exact h
    · rw [fo b fun xs z => q ⟨xs, z⟩] at h; exact w.fh b o h
  refine ⟨⟨e.α, F', e.A, e.H⟩, rfl, rfl, ⟨fun _ _ _ h => h, fun _ _ h _ => h, fun _ o h => ⟨o, h⟩, ff, fun b o h => ?_, fun _ h => .inl h, fun _ h => h, [], by simp⟩, ⟨fh, fun b h => ?_, w.ah, w.ol, w.nd, fun n a o h1 h2 => ⟨(w.ob n a o h1 h2).1, (w.ob n a o h1 h2).2.keep (fun _ z => z) ff ⟨[], by simp⟩⟩⟩, ft⟩
  · have h : F' b = some o := h
    by_cases q : ∃ xs, e.H b = some (.tup xs)
    · obtain ⟨xs, q⟩ := q
      rw [ft b xs q] at h
      cases h
      exact .inr (.inr ⟨⟨xs, rfl⟩, q, fun z => (w.ah b z).2 xs q⟩)
    · rw [fo b fun xs z => q ⟨xs, z⟩] at h; exact .inl h
  · show F' b = none
    rw [fo b (w.ah b h).2]; exact w.fa b h
theorem dpop_of (w : Wf K C e Ω) {n : Nat} {a : Addr} {o o' : OS} {d x : D} {y : V} {Q : VK} (hα : e.α[n]? = some a) (hΩ : Ω[n]? = some o) (hp : dropO o d = some (x, o')) (i : Is K e.α e.F d y)
    (k : ∀ v e', Ext e e' → Wf K C e' (Ω.set n o') → Is K e'.α e'.F x v → Q v e'.H) :
    (∃ kvs k v, e.H a = some (.dK kvs) ∧ y = kV k ∧ valV kvs k = some v ∧ Q v (upd e.H a (.dK (dropK kvs k)))) ∨
    ∃ kvs k b v, e.H a = some (.dT kvs) ∧ y = .ref b ∧ e.H b = some (.tup (k.map kV)) ∧ valV kvs k = some v ∧ Q v (upd e.H a (.dT (dropK kvs k))) := by
  have ob := (w.ob n a o hα hΩ).2
  unfold dropO at hp
  cases o with
  | dK kvs =>
    obtain ⟨vs, h1, h2⟩ := ob
    dsimp only at hp
    cases q : keyD d with
    | none => rw [q] at hp; cases hp
    | some kk =>
      rw [q] at hp
      dsimp only at hp
      cases q2 : valD kvs kk with
      | none => rw [q2] at hp; cases hp
      | some v0 =>
        rw [q2] at hp
        cases hp
        have ov := h2.val kk
        rw [q2] at ov
        obtain ⟨v, e1, iv⟩ := ov.some_of
        obtain ⟨w', x'⟩ := w.at (o' := .dK (dropD kvs kk)) (ho := .dK (dropK vs kk)) hα (fun xs z => nomatch z) ⟨_, upd_same, h2.drop kk⟩ fun o u z => by rw [h1] at z; cases z
        exact .inl ⟨vs, kk, v, h1, keyD_v q i, e1, k v (e.at a _) x' w' iv⟩
  | dT kvs =>
    obtain ⟨vs, h1, h2⟩ := ob
    dsimp only at hp
    cases q : tkeyD d with
    | none => rw [q] at hp; cases hp
    | some kk =>
      rw [q] at hp
      dsimp only at hp
      cases q2 : valD kvs kk with
      | none => rw [q2] at hp; cases hp
      | some v0 =>
        rw [q2] at hp
        cases hp
        have ov := h2.val kk
        rw [q2] at ov
        obtain ⟨v, e1, iv⟩ := ov.some_of
        obtain ⟨b, rfl, hb⟩ := tkeyD_v q i
        obtain ⟨w', x'⟩ := w.at (o' := .dT (dropD kvs kk)) (ho := .dT (dropK vs kk)) hα (fun xs z => nomatch z) ⟨_, upd_same, h2.drop kk⟩ fun o u z => by rw [h1] at z; cases z
        exact .inr ⟨vs, kk, b, v, h1, rfl, w.fh _ _ hb, e1, k v (e.at a _) x' w' iv⟩
  | _ => cases hp
end
theorem obj_ext {K : PySem.W.Frag} {e e' : E4} {n : Nat} {p : Addr} (x : Ext e e') (h : e.α[n]? = some p) : e'.α[n]? = some p := by
  obtain ⟨more, z⟩ := x.al
  rw [z, List.getElem?_append_left (List.getElem?_eq_some_iff.mp h).1]; exact h
section
variable {X : Cx} {C : Cl} {a b x : Expr} {f g h : Den} {ga : ADen} {pos pos' ap cp : Pos}
theorem pd_dpop (hu : X.A.units + 1 < cLine) (ho : PD X C a f) (hi : PD X C b g) (m : M1 X a "pop" ap b cp) : PD X C (.Call (.Attribute a "pop" ap) [b] [] cp) (gDPop f g) := pe_imp (pe_pop hu ho hi m) fun σ H Q hw' => by
  obtain ⟨e, Ω, ρ, d, Ω', eH, w, rl, q, kk⟩ := hw'
  unfold gDPop at q
  cases q1 : f ρ Ω with
  | none => rw [q1] at q; cases q
  | some p1 =>
    obtain ⟨d1, Ω1⟩ := p1
    rw [q1] at q
    cases d1 with
    | obj n =>
      dsimp only at q
      cases q0 : Ω1[n]? with
      | none => rw [q0] at q; cases q
      | some o0 =>
        rw [q0] at q
        dsimp only at q
        by_cases hd : isDct o0 = true
        · rw [if_pos hd] at q
          cases q2 : g ρ Ω1 with
          | none => rw [q2] at q; cases q
          | some p2 =>
            obtain ⟨k, Ω2⟩ := p2
            rw [q2] at q
            dsimp only at q
            cases q3 : Ω2[n]? with
            | none => rw [q3] at q; cases q
            | some o =>
              rw [q3] at q
              dsimp only at q
              cases q4 : dropO o k with
              | none => rw [q4] at q; cases q
              | some r =>
                obtain ⟨v0, o3⟩ := r
                rw [q4] at q
                cases q
                refine ⟨e, Ω, ρ, _, Ω1, eH, w, rl, q1, fun v e1 x1 w1 i1 => ?_⟩
                rw [Is] at i1
                obtain ⟨p, hα, rfl⟩ := i1
                refine ⟨p, rfl, isD_of w1 hα q0 hd, ?_⟩
                refine ⟨e1, Ω1, ρ, k, _, rfl, w1, rl.ext x1, q2, fun u e2 x2 w2 i2 => ?_⟩
                exact dpop_of w2 (obj_ext (K := X.K) x2 hα) q3 q4 i2 fun v e' x' w' iv => kk v e' ((x1.trans x2).trans x') w' iv
        · rw [if_neg hd] at q; cases q
    | _ => cases q
theorem pd_dlen {n : Str} {p : Pos} (hg : Gl X n) (hm : X.mg n = none) (hv : bootBuiltins n = some (.builtin "len")) (ho : PD X C a f) (hn : n ≠ "__name__" := by decide) (hdb : (n == ("__debug__" : Str)) = false := by decide)
    (he : starEach [a] X.env = (false, eval a X.env) :: starEach [] X.env := by rfl) (hpl : (backTo pos (starEach [] X.env)).any (·.1) = false := by rfl) : PD X C (.Call (.Name n p) [a] [] pos) (gDLen f) :=
  pe_imp (pe_callB call_lenO hg hm hv (pa_cons ho pa_nil he) hn hdb he hpl) fun σ H Q hw' => by
    obtain ⟨e, Ω, ρ, d, Ω', eH, w, rl, q, kk⟩ := hw'
    unfold gDLen at q
    cases q1 : f ρ Ω with
    | none => rw [q1] at q; cases q
    | some p1 =>
      obtain ⟨d1, Ω1⟩ := p1
      rw [q1] at q
      cases d1 with
      | obj n =>
        dsimp only at q
        cases q0 : Ω1[n]? with
        | none => rw [q0] at q; cases q
        | some o0 =>
          rw [q0] at q
          refine ⟨e, Ω, ρ, _, Ω1, eH, w, rl, q1, fun v e1 x1 w1 i1 => ?_⟩
          rw [Is] at i1
          obtain ⟨p, hα, rfl⟩ := i1
          have ob := (w1.ob n p _ hα q0).2
          cases o0 with
          | dK kvs =>
            cases q
            obtain ⟨vs, h1, h2⟩ := ob
            exact ⟨p, _, rfl, .inl ⟨vs, h1, h2.len.symm⟩, kk _ e1 x1 w1 (by rw [Is])⟩
          | dT kvs =>
            cases q
            obtain ⟨vs, h1, h2⟩ := ob
            exact ⟨p, _, rfl, .inr ⟨vs, h1, h2.len.symm⟩, kk _ e1 x1 w1 (by rw [Is])⟩
          | _ => cases q
      | _ => cases q
theorem keysT_is {K : PySem.W.Frag} {α : List Addr} {F H : Hp} (hF : ∀ b xs, H b = some (.tup xs) → F b = some (.tup xs)) : ∀ {kvs : List (List Key × D)} {vs : List (List Key × V)} {bs : List Addr}, kvs.map (·.1) = vs.map (·.1) →
    Paired (fun (x : List Key × V) (b : Addr) => H b = some (.tup (x.1.map kV))) vs bs → IsL K α F (kvs.map fun x => .tup (x.1.map ofK)) (bs.map V.ref)
  | [], [], _, _, .nil => .nil
  | p :: r, v :: t, _, e, .cons h q => by
    rw [List.map_cons, List.map_cons] at e
    injection e with e1 e2
    refine .cons ?_ (keysT_is hF e2 q)
    rw [Is]
    rw [e1]
    exact ⟨_, _, rfl, hF _ _ h, ofKs_is v.1⟩
theorem keysK_is {K : PySem.W.Frag} {α : List Addr} {F : Hp} : ∀ {kvs : List (Key × D)} {vs : List (Key × V)}, kvs.map (·.1) = vs.map (·.1) → IsL K α F (kvs.map fun x => ofK x.1) (vs.map fun x => kV x.1)
  | [], [], _ => .nil
  | p :: r, v :: t, e => by
    rw [List.map_cons, List.map_cons] at e
    injection e with e1 e2
    refine .cons ?_ (keysK_is e2)
    show Is K α F (ofK p.1) (kV v.1)
    rw [e1]; exact ofK_is v.1
theorem pd_dlist {n : Str} {p : Pos} (hh : X.A.handled = none) (hg : Gl X n) (hm : X.mg n = none) (hv : bootBuiltins n = some (.type "list")) (ho : PD X C a f) (hn : n ≠ "__name__" := by decide) (hdb : (n == ("__debug__" : Str)) = false := by decide)
    (he : starEach [a] X.env = (false, eval a X.env) :: starEach [] X.env := by rfl) (hpl : (backTo pos (starEach [] X.env)).any (·.1) = false := by rfl) : PD X C (.Call (.Name n p) [a] [] pos) (gDList f) :=
  pe_imp (pe_callTy (call_listO hh) hg hm hv (pa_cons ho pa_nil he) hn hdb he hpl) fun σ H Q hw' => by
    obtain ⟨e, Ω, ρ, d, Ω', eH, w, rl, q, kk⟩ := hw'
    unfold gDList at q
    cases q1 : f ρ Ω with
    | none => rw [q1] at q; cases q
    | some p1 =>
      obtain ⟨d1, Ω1⟩ := p1
      rw [q1] at q
      cases d1 with
      | obj n =>
        dsimp only at q
        cases q0 : Ω1[n]? with
        | none => rw [q0] at q; cases q
        | some o0 =>
          rw [q0] at q
          refine ⟨e, Ω, ρ, _, Ω1, eH, w, rl, q1, fun v e1 x1 w1 i1 => ?_⟩
          rw [Is] at i1
          obtain ⟨p, hα, rfl⟩ := i1
          have ob := (w1.ob n p _ hα q0).2
          cases o0 with
          | dK kvs =>
            cases q
            obtain ⟨vs, h1, h2⟩ := ob
            refine ⟨p, rfl, .inl ⟨vs, h1, fun p' hp => kk _ (e1.new p' _) (x1.trans (w1.new_ext hp)) (w1.new hp) ?_⟩⟩
            rw [Is]
            exact ⟨p', _, rfl, upd_same, keysK_is h2.keys⟩
          | dT kvs =>
            cases q
            obtain ⟨vs, h1, h2⟩ := ob
            refine ⟨p, rfl, .inr ⟨vs, h1, fun bs p' hp pr => ?_⟩⟩
            obtain ⟨e2, eH2, eα2, x2, w2, ft⟩ := w1.tups
            have hp2 : e2.H p' = none := by rw [eH2]; exact hp
            have z := kk (.ref p') (e2.new p' (.lst (bs.map V.ref))) ((x1.trans x2).trans (w2.new_ext hp2)) (w2.new hp2) (by
              rw [Is]
              refine ⟨p', _, rfl, upd_same, keysT_is (H := e1.H) (fun b xs hb => ?_) h2.keys pr⟩
              show upd e2.F p' _ b = _
              rw [upd_ne (fun z => by subst z; rw [hp] at hb; cases hb)]
              exact ft b xs hb)
            have eq : (e2.new p' (.lst (bs.map V.ref))).H = upd e1.H p' (.lst (bs.map V.ref)) := by show upd e2.H p' _ = _; rw [eH2]
            rw [← eq]; exact z
          | _ => cases q
      | _ => cases q
structure ClD (K : PySem.W.Frag) (C : Cl) (c : Str) : Prop where
  ex : ∃ Ca, C c = some Ca ∧ Cls K Ca
def NoA (K : PySem.W.Frag) (C : Cl) (c f : Str) : Prop := ∀ Ca, C c = some Ca → NoAttr K Ca f
def gFld (c fl : Str) (g : Den) : Den := fun ρ Ω => match g ρ Ω with
  | some (.obj n, Ω1) => (match Ω1[n]? with
    | some (.ins c' fs) => if c' = c then (match fs.lookup fl with | some d => some (d, Ω1) | none => none) else none
    | _ => none)
  | _ => none
def sFldD (c fl : Str) (go gv : Den) : SDen := fun ρ Ω => match gv ρ Ω with
  | some (v, Ω1) => (match go ρ Ω1 with
    | some (.obj n, Ω2) => (match Ω2[n]? with
      | some (.ins c' fs) => if c' = c ∧ fs.length < 1000 then some (.nx ρ (Ω2.set n (.ins c (putFD fl v fs)))) else none
      | _ => none)
    | _ => none)
  | none => none
theorem pd_fld {c fl : Str} (T : ClD X.K C c) (hn : NoA X.K C c fl) (h : PD X C a f) (hb : attributeBase a fl X.env (eval a X.env) = eval a X.env := by rfl) : PD X C (.Attribute a fl pos) (gFld c fl f) := pe_imp (pe_fld h hb) fun σ H Q hw' => by
  obtain ⟨e, Ω, ρ, d, Ω', eH, w, rl, q, kk⟩ := hw'
  obtain ⟨Ca, hC, cl⟩ := T.ex
  unfold gFld at q
  cases q1 : f ρ Ω with
  | none => rw [q1] at q; cases q
  | some p1 =>
    obtain ⟨d1, Ω1⟩ := p1
    rw [q1] at q
    cases d1 with
    | obj n =>
      dsimp only at q
      cases q0 : Ω1[n]? with
      | none => rw [q0] at q; cases q
      | some o0 =>
        rw [q0] at q
        refine ⟨e, Ω, ρ, _, Ω1, eH, w, rl, q1, fun v e1 x1 w1 i1 => ?_⟩
        rw [Is] at i1
        obtain ⟨p, hα, rfl⟩ := i1
        have ob := (w1.ob n p _ hα q0).2
        cases o0 with
        | ins c' fs =>
          dsimp only at q
          by_cases ec : c' = c
          · rw [if_pos ec] at q
            subst ec
            cases q2 : fs.lookup fl with
            | none => rw [q2] at q; cases q
            | some v0 =>
              rw [q2] at q
              cases q
              obtain ⟨Cb, dx, fvs, h1, h2, h3⟩ := ob
              rw [hC] at h1
              cases h1
              have ov := h3.look fl
              rw [q2] at ov
              obtain ⟨v', e2, iv⟩ := ov.some_of
              exact ⟨p, Ca, dx, fvs, v', rfl, h2, cl, hn Ca hC, e2, kk _ e1 x1 w1 iv⟩
          · rw [if_neg ec] at q; cases q
        | _ => cases q
    | _ => cases q
theorem pds_fld {c fl : Str} (T : ClD X.K C c) (hn : NoA X.K C c fl) (ho : PD X C a f) (hv : PD X C x g) (hs : swapsWith x (some (.Attribute a fl pos')) pos.line X.env = pure false := by rfl) :
    PDS X C (.Assign [.Attribute a fl pos'] x pos) (sFldD c fl f g) := fun e₀ => ps_imp (ps_fld ho hv hs) fun Dn σ H hw' => by
  obtain ⟨e, Ω, ρ, o, eH, r, q, k⟩ := hw'
  obtain ⟨Ca, hC, cl⟩ := T.ex
  unfold sFldD at q
  cases q1 : g ρ Ω with
  | none => rw [q1] at q; cases q
  | some p1 =>
    obtain ⟨v, Ω1⟩ := p1
    rw [q1] at q
    dsimp only at q
    cases q2 : f ρ Ω1 with
    | none => rw [q2] at q; cases q
    | some p2 =>
      obtain ⟨d2, Ω2⟩ := p2
      rw [q2] at q
      cases d2 with
      | obj n =>
        dsimp only at q
        cases q0 : Ω2[n]? with
        | none => rw [q0] at q; cases q
        | some o0 =>
          rw [q0] at q
          refine ⟨e, Ω, ρ, v, Ω1, eH, r.wf, r.rel, q1, fun uv e1 x1 w1 i1 => ?_⟩
          refine ⟨e1, Ω1, ρ, _, Ω2, rfl, w1, r.rel.ext x1, q2, fun uo e2 x2 w2 i2 => ?_⟩
          rw [Is] at i2
          obtain ⟨p, hα, rfl⟩ := i2
          have ob := (w2.ob n p _ hα q0).2
          cases o0 with
          | ins c' fs =>
            dsimp only at q
            by_cases ec : c' = c ∧ fs.length < 1000
            · rw [if_pos ec] at q
              obtain ⟨rfl, hl⟩ := ec
              cases q
              obtain ⟨Cb, dx, fvs, h1, h2, h3⟩ := ob
              rw [hC] at h1
              cases h1
              obtain ⟨w', x'⟩ := w2.at (o' := .ins c' (putFD fl v fs)) (ho := .ins Ca dx (putF fl uv fvs)) hα (fun xs z => nomatch z) ⟨Ca, dx, _, hC, upd_same, h3.putF fl (i1.ext x2)⟩ fun o u z => by rw [h2] at z; cases z
              exact ⟨p, Ca, dx, fvs, rfl, h2, cl, hn Ca hC, by rw [← h3.len]; exact hl, k (e2.at p _) σ (r.to ((x1.trans x2).trans x') w')⟩
            · rw [if_neg ec] at q; cases q
          | _ => cases q
      | _ => cases q
structure Mt (P : Program) (w : World) (K : PySem.W.Frag) (mg : Str → Option Value) (base : Heap) (C : Cl) (k : Nat) (c m : Str) (F : FDen) (dfl : List D) : Prop where
  ex : ∃ Ca f fd ps ds dvs, C c = some Ca ∧ Cls K Ca ∧ Meth K Ca m f ∧ Binds K fd ps ds ∧ Vals dvs ds ∧ (∀ α H, IsL K α H dfl dvs) ∧ FnOk P w K mg base CX0 k f fd ps (spD K C F)
def gMeth (c m : Str) (F : FDen) (dfl : List D) (go : Den) (ga : ADen) : Den := fun ρ Ω => match go ρ Ω with
  | some (.obj n, Ω1) => (match Ω1[n]? with
    | some (.ins c' fs) => if c' = c then (match fs.lookup m with
      | none => (match ga ρ Ω1 with | some (ds, Ω2) => F (.obj n :: (ds ++ dfl)) Ω2 | none => none)
      | some _ => none) else none
    | _ => none)
  | _ => none
theorem meth_read {K : PySem.W.Frag} {c m : Str} {F : FDen} {dfl : List D} {dvs : List V} {Ca : Addr} (hC : C c = some Ca) (hd : ∀ α H, IsL K α H dfl dvs) {σ : St} {H : Hp} {Q : VK} {E : XK} (hw : tD K C (gMeth c m F dfl f ga) σ H Q) :
    tMeth Ca m (spD K C F) dvs E (tD K C f) (tDA K C ga) σ H Q := by
  obtain ⟨e, Ω, ρ, d, Ω', eH, w, rl, q, kk⟩ := hw
  unfold gMeth at q
  cases q1 : f ρ Ω with
  | none => rw [q1] at q; cases q
  | some p1 =>
    obtain ⟨d1, Ω1⟩ := p1
    rw [q1] at q
    cases d1 with
    | obj n =>
      dsimp only at q
      cases q0 : Ω1[n]? with
      | none => rw [q0] at q; cases q
      | some o0 =>
        rw [q0] at q
        refine ⟨e, Ω, ρ, _, Ω1, eH, w, rl, q1, fun v e1 x1 w1 i1 => ?_⟩
        rw [Is] at i1
        obtain ⟨p, hα, rfl⟩ := i1
        have ob := (w1.ob n p _ hα q0).2
        cases o0 with
        | ins c' fs =>
          dsimp only at q
          by_cases ec : c' = c
          · rw [if_pos ec] at q
            subst ec
            cases q2 : fs.lookup m with
            | some v0 => rw [q2] at q; cases q
            | none =>
              rw [q2] at q
              dsimp only at q
              cases q3 : ga ρ Ω1 with
              | none => rw [q3] at q; cases q
              | some p3 =>
                obtain ⟨ds, Ω2⟩ := p3
                rw [q3] at q
                obtain ⟨Cb, dx, fvs, h1, h2, h3⟩ := ob
                rw [hC] at h1
                cases h1
                have ov := h3.look m
                rw [q2] at ov
                have e2 : fvs.lookup m = none := by
                  cases z : fvs.lookup m with
                  | none => rfl
                  | some v => rw [z] at ov; exact ov.elim
                refine ⟨p, dx, fvs, rfl, h2, e2, e1, Ω1, ρ, ds, Ω2, rfl, w1, rl.ext x1, q3, fun vs e3 x3 w3 i3 => ?_⟩
                exact ⟨e3, Ω2, _, d, Ω', rfl, w3, .cons (by rw [Is]; exact ⟨p, obj_ext (K := K) x3 hα, rfl⟩) (i3.append (hd _ _)), q, fun v' e4 x4 w4 i4 => kk v' e4 ((x1.trans x3).trans x4) w4 i4⟩
          · rw [if_neg ec] at q; cases q
        | _ => cases q
    | _ => cases q
theorem pd_meth {k : Nat} {c m : Str} {F : FDen} {dfl : List D} {es : List Expr} {pl : Sem Bool} (G : Mt X.prog X.w X.K X.mg X.base C k c m F dfl) (hr : Room k X.A) (ho : PD X C a f) (ha : PDA X C (x :: es) ga)
    (hst : starEach (x :: es) X.env = (false, eval x X.env) :: starEach es X.env := by rfl) (hpl : (backTo cp (starEach es X.env)).any (·.1) = false := by rfl)
    (ht : eval (.Call (.Attribute a m ap) (x :: es) [] cp) X.env = (do
      let ov ← eval a X.env
      standAt ap.atName
      let (f, first) ← holding [ov] (getMethod ov m pl)
      callWith cp f first (backTo cp (starEach (x :: es) X.env)) (backToKw cp (keywordEach [] X.env))) := by rfl) :
    PD X C (.Call (.Attribute a m ap) (x :: es) [] cp) (gMeth c m F dfl f ga) := by
  obtain ⟨Ca, fa, fd, ps, ds, dvs, hC, cl, me, hb, hd, hdd, ok⟩ := G.ex
  exact pe_imp (pe_meth ho cl me ok hr hb hd pass0 ha hst hpl ht) fun _ _ _ hw => meth_read hC hdd hw
theorem pd_meth0 {k : Nat} {c m : Str} {F : FDen} {dfl : List D} {pl : Sem Bool} (G : Mt X.prog X.w X.K X.mg X.base C k c m F dfl) (hr : Room k X.A) (ho : PD X C a f)
    (ht : eval (.Call (.Attribute a m ap) [] [] cp) X.env = (do
      let ov ← eval a X.env
      standAt ap.atName
      let (f, first) ← holding [ov] (getMethod ov m pl)
      callWith cp f first (backTo cp (starEach [] X.env)) (backToKw cp (keywordEach [] X.env))) := by rfl) :
    PD X C (.Call (.Attribute a m ap) [] [] cp) (gMeth c m F dfl f gNil) := by
  obtain ⟨Ca, fa, fd, ps, ds, dvs, hC, cl, me, hb, hd, hdd, ok⟩ := G.ex
  exact pe_imp (pe_meth0 ho cl me ok hr hb hd pass0 ht) fun σ H Q hw => by
    have z := meth_read (ga := gNil) (E := E0) hC hdd hw
    obtain ⟨e, Ω, ρ, d, Ω', eH, w, rl, q, kk⟩ := z
    refine ⟨e, Ω, ρ, d, Ω', eH, w, rl, q, fun v e1 x1 w1 i1 => ?_⟩
    obtain ⟨a', dx, fs, e2, e3, e4, z⟩ := kk v e1 x1 w1 i1
    refine ⟨a', dx, fs, e2, e3, e4, ?_⟩
    obtain ⟨e5, Ω5, ρ5, ds5, Ω6, eH5, w5, rl5, q5, kk5⟩ := z
    cases q5
    have := kk5 [] e5 (Ext.refl _) w5 .nil
    rw [eH5] at this
    exact this
structure MkD (P : Program) (w : World) (K : PySem.W.Frag) (mg : Str → Option Value) (base : Heap) (C : Cl) (k : Nat) (c : Str) (F : FDen) (dfl : List D) : Prop where
  ex : ∃ Ca f fd ps ds dvs, C c = some Ca ∧ mg c = some (.ref Ca) ∧ Mk K Ca f ∧ Binds K fd ps ds ∧ Vals dvs ds ∧ (∀ α H, IsL K α H dfl dvs) ∧ FnOk P w K mg base CX0 k f fd ps (spD K C F)
def gMake (c : Str) (F : FDen) (dfl : List D) (ga : ADen) : Den := fun ρ Ω => match ga ρ Ω with
  | some (ds, Ω1) => (match F (.obj Ω1.length :: (ds ++ dfl)) (Ω1 ++ [.ins c []]) with
    | some (.non, Ω2) => some (.obj Ω1.length, Ω2)
    | _ => none)
  | none => none
theorem make_read {K : PySem.W.Frag} {c : Str} {F : FDen} {dfl : List D} {dvs : List V} {Ca : Addr} (hC : C c = some Ca) (hd : ∀ α H, IsL K α H dfl dvs) {σ : St} {H : Hp} {Q : VK} {E : XK} (hw : tD K C (gMake c F dfl ga) σ H Q) :
    tMake Ca (spD K C F) dvs E (tDA K C ga) σ H Q := by
  obtain ⟨e, Ω, ρ, d, Ω', eH, w, rl, q, kk⟩ := hw
  unfold gMake at q
  cases q1 : ga ρ Ω with
  | none => rw [q1] at q; cases q
  | some p1 =>
    obtain ⟨ds, Ω1⟩ := p1
    rw [q1] at q
    dsimp only at q
    cases q2 : F (.obj Ω1.length :: (ds ++ dfl)) (Ω1 ++ [.ins c []]) with
    | none => rw [q2] at q; cases q
    | some p2 =>
      obtain ⟨d2, Ω2⟩ := p2
      rw [q2] at q
      cases d2 with
      | non =>
        cases q
        refine ⟨e, Ω, ρ, ds, Ω1, eH, w, rl, q1, fun vs e1 x1 w1 i1 p dx hp hdx hne => ?_⟩
        obtain ⟨w2, x2⟩ := w1.obj (H' := upd (upd e1.H dx (.own p)) p (.ins Ca dx [])) (o := .ins c []) hp (fun b u hb => by rw [upd_ne (ne_of_none hb hp), upd_ne (ne_of_none hb hdx)]; exact hb)
          (by rw [upd_same]; exact ⟨by simp, fun xs z => nomatch z⟩) ⟨Ca, dx, [], hC, upd_same, rfl⟩
        have ip : (e1.obj p (upd (upd e1.H dx (.own p)) p (.ins Ca dx []))).α[Ω1.length]? = some p := by show (e1.α ++ [p])[Ω1.length]? = some p; rw [← w1.ol]; simp
        refine ⟨e1.obj p (upd (upd e1.H dx (.own p)) p (.ins Ca dx [])), Ω1 ++ [.ins c []], _, .non, _, rfl, w2, .cons (by rw [Is]; exact ⟨p, ip, rfl⟩) ((i1.ext x2).append (hd _ _)), q2, fun v' e4 x4 w4 i4 => ?_⟩
        rw [Is] at i4
        exact ⟨i4, kk _ e4 ((x1.trans x2).trans x4) w4 (by rw [Is]; exact ⟨p, obj_ext (K := K) x4 ip, rfl⟩)⟩
      | _ => cases q
theorem pd_make0 {k : Nat} {c : Str} {F : FDen} {dfl : List D} {p : Pos} (G : MkD X.prog X.w X.K X.mg X.base C k c F dfl) (hr : Room (k + 1) X.A) (hg : Gl X c)
    (hdb : (c == ("__debug__" : Str)) = false := by decide) : PD X C (.Call (.Name c p) [] [] cp) (gMake c F dfl gNil) := by
  obtain ⟨Ca, fa, fd, ps, ds, dvs, hC, hm, mk, hb, hd, hdd, ok⟩ := G.ex
  exact pe_imp (pe_make0 mk ok hr hg hm hb hd pass0 hdb) fun σ H Q hw => by
    have z := make_read (ga := gNil) (E := E0) hC hdd hw
    obtain ⟨e, Ω, ρ, ds5, Ω', eH, w, rl, q, kk⟩ := z
    cases q
    have := kk [] e (Ext.refl _) w .nil
    rw [eH] at this
    exact this
end
theorem law_okO {K : PySem.W.Frag} {C : Cl} {F : FDen} {H : Hp} {a : Addr} {ns : List Int} {E : XK} (hS : SqL K H a (ns.map V.int)) (h : ∃ Ω, F [.scr ns] [] = some (.bl true, Ω)) : spD K C F [.ref a] H (fun v _ => v = .bl true) E := by
  obtain ⟨Ω, h⟩ := h
  refine ⟨⟨[], H, fun _ => False, H⟩, [], [.scr ns], .bl true, Ω, rfl, ⟨Same.refl _, fun _ h => h.elim, fun _ h => h.elim, rfl, List.nodup_nil, fun n a o h => by simp at h⟩, ?_, h, fun v e' _ _ i => ?_⟩
  · exact .cons (by rw [Is]; exact ⟨a, rfl, hS⟩) .nil
  · rw [Is] at i; exact i
end DL
set_option Elab.async false
set_option linter.all false
set_option maxRecDepth 100000
set_option genSizeOf false
set_option bootstrap.genMatcherCode false
namespace DL
open PySem PySem.Spec PyProof.Rows L2
structure FunV (K : PySem.W.Frag) (x qual : Str) (st : Stmt) (dV : Value) (f : Addr) (fd : FuncData) : Prop where
  ex : ∃ (oc : Value) (od : Option Addr) (kV doc pm : Value) (an : Option Addr) (cdv ct : Value) (osl : Array (Option Value)),
    fd = PySem.W.fnOf x qual (defArgs st) (defBody st) (defScope st) dV kV doc pm an cdv ct ∧ K.lookup f = some ⟨oc, od, .func fd, osl⟩ ∧ PySem.W.codeIn K cdv qual = true
theorem funV_mk {K : PySem.W.Frag} {x qual : Str} {st : Stmt} {dV : Value} {f : Addr} {oc : Value} {od an : Option Addr} {osl : Array (Option Value)} {kV doc pm cdv ct : Value}
    (l : K.lookup f = some ⟨oc, od, .func (PySem.W.fnOf x qual (defArgs st) (defBody st) (defScope st) dV kV doc pm an cdv ct), osl⟩) (c : PySem.W.codeIn K cdv qual = true) :
    FunV K x qual st dV f (PySem.W.fnOf x qual (defArgs st) (defBody st) (defScope st) dV kV doc pm an cdv ct) := ⟨oc, od, kV, doc, pm, an, cdv, ct, osl, rfl, l, c⟩
theorem fn_DV {P : Program} {w : World} {K : PySem.W.Frag} {mg : Str → Option Value} {base : Heap} {C : Cl} {x qual : Str} {st : Stmt} {dV : Value} {f : Addr} {fd : FuncData} {N ps : List Str} {k n m : Nat} {s : SDen} (F : FunV K x qual st dV f fd) (S : FnScope N ps (defScope st)) (hn : ps.length = n) (hm : N.length = m)
    (hbody : ∀ (cdv : Value) (A : Around) (outer : List Env) (sh : Shared) (H : Hp) (E : XK), Room k (A.deeper (envOfC qual (defScope st) sh.heap.objs.size f cdv)) →
      PDB (cxOf CX0 P w K mg base N qual (defScope st) f cdv A outer sh H E).nox C (defBody st) s) : FnOk P w K mg base CX0 (k + 1) f fd ps (spD K C (runD n m s)) := by
  obtain ⟨oc, od, kV, doc, pm, an, cdv, ct, osl, rfl, lk, hcd⟩ := F.ex
  refine fn_of lk hcd S (fun vs H Q E h => ?_) fun A outer sh H vs Q E hr h => ?_
  · obtain ⟨e, Ω, ds, d, Ω', _, _, i, q, _⟩ := h
    unfold runD at q
    by_cases hl : ds.length = n
    · rw [← i.length, hl, hn]
    · rw [if_neg hl] at q; cases q
  · obtain ⟨e, Ω, ds, d, Ω', eH, wf, i, q, kk⟩ := h
    unfold runD at q
    by_cases hl : ds.length = n
    · rw [if_pos hl] at q
      cases q1 : s (ds.map Sl.dat ++ List.replicate (m - n) Sl.und) Ω with
      | none => rw [q1] at q; cases q
      | some o =>
        rw [q1] at q
        refine ⟨_, (hbody cdv A outer sh H E hr e).nox, e, Ω, _, o, eH, start_rel wf i, by rw [hl, hm]; exact q1, ?_⟩
        cases o with
        | rt d' Ω2 => cases q; exact fun e' v x' w' i' => kk v e' x' w' i'
        | nx ρ' Ω2 => cases q; exact fun e' σ' r' => kk .non e' r'.ext r'.wf (by rw [Is])
        | bk ρ' Ω2 => cases q
        | ct ρ' Ω2 => cases q
    · rw [if_neg hl] at q; cases q
theorem bindsN {K : PySem.W.Frag} {fd : FuncData} {ps : List Str} (h : ∀ us : List Value, us.length = ps.length → bindArgs fd ⟨us, []⟩ = pure (ps.zip us)) : Binds K fd ps [] := .all h
theorem bindsV {K : PySem.W.Frag} {fd : FuncData} {ps : List Str} {T : Addr} {oT : Obj} {items : Array Value} {n : Nat} {ds : List Value} (hd : fd.defaults = .ref T) (hT : K.lookup T = some oT) (hs : oT.data = .seq items n) (m : Nat) (hm : m + ds.length = ps.length)
    (h : ∀ us : List Value, us.length = m → ∃ k : Option (Array Value) → Sem (List (Str × Value)), bindArgs fd ⟨us, []⟩ = seqItems? fd.defaults >>= k ∧ k (some items) = pure (ps.zip (us ++ ds))) : Binds K fd ps ds := fun s us KX hl => by
  obtain ⟨k, h1, h2⟩ := h us (by rw [List.length_append] at hl; omega)
  exact BindsTo.of_defaults hd (KX _ _ hT) hs h1 h2
def spC (K : PySem.W.Frag) (F : FDen) : Sp := fun vs H Q E => ∀ C : Cl, spD K C F vs H Q E
theorem law_okC {K : PySem.W.Frag} {F : FDen} {H : Hp} {a : Addr} {ns : List Int} {E : XK} (hS : SqL K H a (ns.map V.int)) (h : ∃ Ω, F [.scr ns] [] = some (.bl true, Ω)) : spC K F [.ref a] H (fun v _ => v = .bl true) E := fun C => law_okO hS h
def clAdd (C : Cl) (c : Str) (a : Addr) : Cl := fun x => if x = c then some a else C x
theorem clAdd_same {C : Cl} {c : Str} {a : Addr} : clAdd C c a c = some a := if_pos rfl
theorem noA_of {K : PySem.W.Frag} {C : Cl} {c f : Str} {a : Addr} (h : C c = some a) (n : NoAttr K a f) : NoA K C c f := fun Ca e => by rw [h] at e; cases e; exact n
def downD (hi : Int) (n : Nat) : List D := (List.range n).map fun (k : Nat) => D.int (hi - (k : Int))
section
variable (ρ : List Sl) (Ω : List OS)
@[simp] theorem ap_newT : gNewT ρ Ω = some (.obj Ω.length, Ω ++ [.dT []]) := (rfl)
@[simp] theorem ap_dget (go gi : Den) : gDGet go gi ρ Ω = match go ρ Ω with
  | some (.obj n, Ω1) => (match gi ρ Ω1 with
    | some (k, Ω2) => (match Ω2[n]? with
      | some o => (match lookO o k with | some (some d) => some (d, Ω2) | _ => none)
      | none => none)
    | none => none)
  | _ => none := (rfl)
@[simp] theorem ap_din (neg : Bool) (gk go : Den) : gDIn neg gk go ρ Ω = match gk ρ Ω with
  | some (k, Ω1) => (match go ρ Ω1 with
    | some (.obj n, Ω2) => (match Ω2[n]? with
      | some o => (match lookO o k with | some r => some (.bl (if neg then !r.isSome else r.isSome), Ω2) | none => none)
      | none => none)
    | _ => none)
  | none => none := (rfl)
@[simp] theorem ap_dget1 (go gk : Den) : gDGet1 go gk ρ Ω = match go ρ Ω with
  | some (.obj n, Ω1) => (match Ω1[n]? with
    | some o => (if isDct o = true then (match gk ρ Ω1 with
      | some (k, Ω2) => (match Ω2[n]? with
        | some o2 => (match lookO o2 k with | some r => some (r.getD .non, Ω2) | none => none)
        | none => none)
      | none => none) else none)
    | none => none)
  | _ => none := (rfl)
@[simp] theorem ap_dget2 (go gk gx : Den) : gDGet2 go gk gx ρ Ω = match go ρ Ω with
  | some (.obj n, Ω1) => (match Ω1[n]? with
    | some o => (if isDct o = true then (match gk ρ Ω1 with
      | some (k, Ω2) => (match gx ρ Ω2 with
        | some (x, Ω3) => (match Ω3[n]? with
          | some o2 => (match lookO o2 k with | some r => some (r.getD x, Ω3) | none => none)
          | none => none)
        | none => none)
      | none => none) else none)
    | none => none)
  | _ => none := (rfl)
@[simp] theorem ap_dput (go gi gv : Den) : sDPut go gi gv ρ Ω = match gv ρ Ω with
  | some (v, Ω1) => (match go ρ Ω1 with
    | some (.obj n, Ω2) => (match gi ρ Ω2 with
      | some (k, Ω3) => (match Ω3[n]? with
        | some o => (match putO o k v with | some o' => some (.nx ρ (Ω3.set n o')) | none => none)
        | none => none)
      | none => none)
    | _ => none)
  | none => none := (rfl)
@[simp] theorem ap_dlen (go : Den) : gDLen go ρ Ω = match go ρ Ω with
  | some (.obj n, Ω1) => (match Ω1[n]? with
    | some (.dK kvs) => some (.int kvs.length, Ω1)
    | some (.dT kvs) => some (.int kvs.length, Ω1)
    | _ => none)
  | _ => none := (rfl)
@[simp] theorem ap_dpop (go gk : Den) : gDPop go gk ρ Ω = match go ρ Ω with
  | some (.obj n, Ω1) => (match Ω1[n]? with
    | some o => (if isDct o = true then (match gk ρ Ω1 with
      | some (k, Ω2) => (match Ω2[n]? with
        | some o2 => (match dropO o2 k with | some (v, o3) => some (v, Ω2.set n o3) | none => none)
        | none => none)
      | none => none) else none)
    | none => none)
  | _ => none := (rfl)
@[simp] theorem ap_dlist (go : Den) : gDList go ρ Ω = match go ρ Ω with
  | some (.obj n, Ω1) => (match Ω1[n]? with
    | some o => (match keysO o with | some ks => some (.lst ks, Ω1) | none => none)
    | none => none)
  | _ => none := (rfl)
@[simp] theorem ap_fld (c fl : Str) (g : Den) : gFld c fl g ρ Ω = match g ρ Ω with
  | some (.obj n, Ω1) => (match Ω1[n]? with
    | some (.ins c' fs) => (if c' = c then (match fs.lookup fl with | some d => some (d, Ω1) | none => none) else none)
    | _ => none)
  | _ => none := (rfl)
@[simp] theorem ap_sfld (c fl : Str) (go gv : Den) : sFldD c fl go gv ρ Ω = match gv ρ Ω with
  | some (v, Ω1) => (match go ρ Ω1 with
    | some (.obj n, Ω2) => (match Ω2[n]? with
      | some (.ins c' fs) => (if c' = c ∧ fs.length < 1000 then some (.nx ρ (Ω2.set n (.ins c (putFD fl v fs)))) else none)
      | _ => none)
    | _ => none)
  | none => none := (rfl)
@[simp] theorem ap_meth (c m : Str) (F : FDen) (dfl : List D) (go : Den) (ga : ADen) : gMeth c m F dfl go ga ρ Ω = match go ρ Ω with
  | some (.obj n, Ω1) => (match Ω1[n]? with
    | some (.ins c' fs) => (if c' = c then (match fs.lookup m with
      | none => (match ga ρ Ω1 with | some (ds, Ω2) => F (.obj n :: (ds ++ dfl)) Ω2 | none => none)
      | some _ => none) else none)
    | _ => none)
  | _ => none := (rfl)
@[simp] theorem ap_make (c : Str) (F : FDen) (dfl : List D) (ga : ADen) : gMake c F dfl ga ρ Ω = match ga ρ Ω with
  | some (ds, Ω1) => (match F (.obj Ω1.length :: (ds ++ dfl)) (Ω1 ++ [.ins c []]) with
    | some (.non, Ω2) => some (.obj Ω1.length, Ω2)
    | _ => none)
  | none => none := (rfl)
@[simp] theorem look_dT (kvs : List (List Key × D)) (xs : List D) : lookO (.dT kvs) (.tup xs) = (match keysD xs with | some k => some (valD kvs k) | none => none) := (rfl)
@[simp] theorem put_dT (kvs : List (List Key × D)) (xs : List D) (v : D) : putO (.dT kvs) (.tup xs) v = (match keysD xs with | some k => (if kvs.length < 100000 then some (.dT (putD kvs k v)) else none) | none => none) := (rfl)
@[simp] theorem drop_dT (kvs : List (List Key × D)) (xs : List D) : dropO (.dT kvs) (.tup xs) = (match keysD xs with | some k => (match valD kvs k with | some v => some (v, .dT (dropD kvs k)) | none => none) | none => none) := (rfl)
@[simp] theorem keys_2 (i j : Int) : keysD [.int i, .int j] = some [.inl i, .inl j] := (rfl)
@[simp] theorem keysO_dT (kvs : List (List Key × D)) : keysO (.dT kvs) = some (kvs.map fun x => .tup (x.1.map ofK)) := (rfl)
@[simp] theorem isDct_dT (kvs : List (List Key × D)) : isDct (.dT kvs) = true := (rfl)
@[simp] theorem ap_expr (g : Den) : sExpr g ρ Ω = match g ρ Ω with | some (_, Ω') => some (.nx ρ Ω') | none => none := (rfl)
end
end DL
set_option Elab.async false
set_option linter.all false
set_option maxRecDepth 100000
set_option genSizeOf false
set_option bootstrap.genMatcherCode false
namespace L2
open PySem PySem.Spec PyProof.Rows
def Itd (hi : Int) (n : Nat) : It := ⟨fun i _ => i < n, fun i H x H' => H' = H ∧ x = .int (hi - i), fun i _ => n ≤ i⟩
theorem turn_down {P : Program} {w : World} {K : PySem.W.Frag} {tg : Expr} (it : Addr) (hi : Int) (n : Nat) : Turn P w K tg (Itd hi n) [it] it (fun i h => IsRangeIter h it (hi + (i : Nat) * (-1)) ((n : Int) - (i : Nat)) (-1)) where
  mem := by simp
  obj := fun i h st b hb => by
    have e : b = it := by simpa using hb
    subst e
    exact ⟨_, st, fun v z => by have z' : Data.fields _ = Data.cell v := z; cases z'⟩
  keep := fun i h h' st k => k it (by simp) _ st
  item := by
    intro X hP hw hK hc i pins s σ H E I hf st hg
    subst hP hw hK
    obtain ⟨f0, f1, f2, f3, f4, f5⟩ := hf it (by simp)
    have W := Walks.range (prog := X.prog) (w := X.w) (I.ok.hd hc) it hi (-1) n
    refine W.item i s _ _ hg st fun v h' tk hv st' kk => ?_
    obtain ⟨t, rfl⟩ := hv
    have J1 : Inv X pins σ H { s with heap := h', toks := tk } := I.turned (fun b o hb e => kk b o (by simpa using hb) e) f0 f1 f3 f4 f5
    refine ⟨_, rfl, go_of (s := { s with heap := h', toks := tk }) (n := "range_iterator") st' rfl rfl (by decide) ⟨.int (hi - i), H, J1, ⟨t, ?_⟩, ⟨rfl, rfl⟩, st', fun b hb => (hf b hb).1⟩⟩
    rw [show hi + (i : Int) * (-1) = hi - i by omega]
  done := by
    intro X hP hw hK hc i pins s σ H E I hf st hg
    subst hP hw hK
    obtain ⟨f0, f1, f2, f3, f4, f5⟩ := hf it (by simp)
    exact wpAny_pyNext_range_end (I.ok.hd hc) st (by have z : n ≤ i := hg; omega) fun h' eb => ⟨rfl, I.turned (t' := s.toks) (fun b o hb e => eb b o hb e) f0 f1 f3 f4 f5⟩
  self := fun _ _ _ _ _ st h => wpAny_pyIter_rangeiter st h
section
variable {X : Cx} {tg : Expr}
theorem down_it {pins : List (Addr × Obj)} {σ : St} {H : Hp} {s : Shared} {R : It → Hp → Prop} {E : Value → Shared → Prop} {lo hi : Int} {t u v : Tok} {tk : Nat} (I : Inv X pins σ H s) (h1 : -(2 ^ 62) ≤ hi) (h2 : hi < 2 ^ 62) (h3 : -(2 ^ 62) ≤ lo) (h4 : lo < 2 ^ 62)
    (q : R (Itd hi (hi - lo).toNat) H) : wpAny (model X.prog X.w) X.A (pyIter (.ref s.heap.objs.size)) (PIE X pins σ tg R) E { s with heap := s.heap.push { cls := .type "range", data := .fields #[.int hi t, .int lo u, .int (-1) v] }, toks := tk } := by
  refine wpAny_pyIter_range (IsRange.new ..) (PySem.W.small_down h1 h2 h3 h4) ?_
  have J1 : Inv X pins σ H { s with heap := s.heap.push { cls := .type "range", data := .fields #[.int hi t, .int lo u, .int (-1) v] }, toks := tk } := I.kept fun b o e => Heap.get?_push_of_some _ e
  refine ⟨(s.heap.push { cls := .type "range", data := .fields #[.int hi t, .int lo u, .int (-1) v] }).objs.size, [(s.heap.push { cls := .type "range", data := .fields #[.int hi t, .int lo u, .int (-1) v] }).objs.size], _, _, H, rfl,
    J1.kept (t' := tk) fun b o e => Heap.get?_push_of_some _ e, turn_down _ hi (hi - lo).toNat, ?_, fun b hb => ?_, q⟩
  · have e1 : hi + ((0 : Nat) : Int) * (-1) = hi := by simp
    have e2 : (((hi - lo).toNat : Nat) : Int) - ((0 : Nat) : Int) = Builtin.Range.rangeSize hi lo (-1) := by rw [PySem.W.rangeSize_downNat]; omega
    show IsRangeIter _ _ (hi + ((0 : Nat) : Int) * (-1)) ((((hi - lo).toNat : Nat) : Int) - ((0 : Nat) : Int)) (-1)
    rw [e1, e2]; exact Heap.get?_push_size _ rfl
  · have e : b = (s.heap.push { cls := .type "range", data := .fields #[.int hi t, .int lo u, .int (-1) v] }).objs.size := by simpa using hb
    subst e; exact J1.fpOk (Nat.le_refl _) (J1.hok.fresh (Nat.le_refl _))
def iRngD (ta : TA) : TI := fun σ H R => ta σ H fun vs H1 => ∃ i j : Int, vs = [.int i, .int j, .int (-1)] ∧ (-(2 ^ 62) ≤ i ∧ i < 2 ^ 62 ∧ -(2 ^ 62) ≤ j ∧ j < 2 ^ 62) ∧ R (Itd i (i - j).toNat) H1
theorem pi_rangeD {a b c : Expr} {ta : TA} {p pos : Pos} (hg : Gl X "range") (hm : X.mg "range" = none) (ha : PA X [a, b, c] ta) (hs : starEach [a, b, c] X.env = [(false, eval a X.env), (false, eval b X.env), (false, eval c X.env)] := by rfl)
    (hs2 : starEach [b, c] X.env = [(false, eval b X.env), (false, eval c X.env)] := by rfl) : PI X tg (.Call (.Name "range" p) [a, b, c] [] pos) (iRngD ta) := by
  intro pins s σ H R I h
  refine Call_ (ld_blt I hg hm boot_range (PyProof.Rows.callWith_type1 (thn (ha pos pins s σ H _ I h) fun us s1 ⟨vs, H1, I1, r1, q1⟩ => ?_) (by rw [hs, hs2]) (by rw [hs2]; rfl)))
  obtain ⟨i, j, e, ⟨q1, q2, q3, q4⟩, q⟩ := q1
  subst e
  cases r1 with
  | cons r rr =>
    cases rr with
    | cons r' rr =>
      cases rr with
      | cons r'' rr =>
        cases rr
        obtain ⟨t, rfl⟩ := r
        obtain ⟨t', rfl⟩ := r'
        obtain ⟨t'', rfl⟩ := r''
        exact call_range_3 (by decide) (down_it I1 q1 q2 q3 q4 q)
end
end L2
namespace DL
open PySem PySem.Spec PyProof.Rows L2
theorem walk_down {K : PySem.W.Frag} {e : E4} {hi : Int} {n : Nat} : Walk K e (Itd hi n) (downD hi n) := by
  refine Walk.still ?_
  intro i e2 _ _ _
  refine ⟨fun z => Nat.le_of_eq (by rw [z]; simp [downD]), fun d hd => ?_⟩
  have hl : i < n := by
    have := (List.getElem?_eq_some_iff.mp hd).1
    simpa [downD] using this
  refine ⟨hl, fun x H' ⟨z1, z2⟩ => ⟨z1, ?_⟩⟩
  have : d = D.int (hi - (i : Int)) := by
    simp [downD, hl] at hd
    exact hd.symm
  subst this z2
  rw [Is]
noncomputable def rngDn : List D → Option (List D)
  | [.int i, .int j, .int k] => grd (k = -1 ∧ -(2 ^ 62) ≤ i ∧ i < 2 ^ 62 ∧ -(2 ^ 62) ≤ j ∧ j < 2 ^ 62) (some (downD i (i - j).toNat))
  | _ => none
theorem isL_three {K : PySem.W.Frag} {α : List Addr} {F : Hp} {d d' d'' : D} {vs : List V} (h : IsL K α F [d, d', d''] vs) : ∃ v u w, vs = [v, u, w] ∧ Is K α F d v ∧ Is K α F d' u ∧ Is K α F d'' w := by
  obtain ⟨v, r, rfl, i, t⟩ := h.of_cons
  obtain ⟨u, w, rfl, i2, i3⟩ := isL_two t
  exact ⟨v, u, w, rfl, i, i2, i3⟩
section
variable {X : Cx} {C : Cl} {tg : Expr} {ga : ADen} {pos p : Pos}
theorem pdi_rangeD {a b c : Expr} (hg : Gl X "range") (hm : X.mg "range" = none) (ha : PDA X C [a, b, c] ga) (hs : starEach [a, b, c] X.env = [(false, eval a X.env), (false, eval b X.env), (false, eval c X.env)] := by rfl)
    (hs2 : starEach [b, c] X.env = [(false, eval b X.env), (false, eval c X.env)] := by rfl) : PDI X C tg (.Call (.Name "range" p) [a, b, c] [] pos) (gRng rngDn ga) :=
  pi_imp (pi_rangeD hg hm ha hs hs2) fun σ H R hw' => by
    obtain ⟨e, Ω, ρ, ds, Ω', eH, w, rl, q, k⟩ := hw'
    unfold gRng at q
    cases q1 : ga ρ Ω with
    | none => rw [q1] at q; cases q
    | some p1 =>
      obtain ⟨es, Ω1⟩ := p1
      rw [q1] at q
      dsimp only at q
      refine ⟨e, Ω, ρ, es, Ω1, eH, w, rl, q1, fun v e' x' w' i' => ?_⟩
      match es, q, i' with
      | [.int i, .int j, .int l], q, i' =>
        obtain ⟨v, u, z, rfl, iv, iu, iz⟩ := isL_three i'
        rw [Is] at iv iu iz
        subst iv iu iz
        have ez : rngDn [D.int i, D.int j, D.int l] = grd (l = -1 ∧ -(2 ^ 62) ≤ i ∧ i < 2 ^ 62 ∧ -(2 ^ 62) ≤ j ∧ j < 2 ^ 62) (some (downD i (i - j).toNat)) := rfl
        rw [ez] at q
        by_cases hb : l = -1 ∧ -(2 ^ 62) ≤ i ∧ i < 2 ^ 62 ∧ -(2 ^ 62) ≤ j ∧ j < 2 ^ 62
        · rw [grd_pos hb] at q
          cases q
          obtain ⟨rfl, hb⟩ := hb
          exact ⟨i, j, rfl, hb, k e' _ x' w' walk_down⟩
        · have en : grd (l = -1 ∧ -(2 ^ 62) ≤ i ∧ i < 2 ^ 62 ∧ -(2 ^ 62) ≤ j ∧ j < 2 ^ 62) (some (downD i (i - j).toNat)) = none := if_neg hb
          rw [en] at q
          cases q
end
end DL
set_option Elab.async false
set_option linter.all false
set_option maxRecDepth 100000
set_option genSizeOf false
set_option bootstrap.genMatcherCode false
namespace KS
open PySem PySem.W PyProof.Rows
def kw {α : Type} (N : Nat) (lt : Nat → Nat → Bool) : KasT α → (α → Prop) → Prop
  | .ret a, Q => Q a
  | .ask i j k, Q => i < N ∧ j < N ∧ kw N lt (k (lt i j)) Q
theorem kw_bind {α β : Type} {N : Nat} {lt : Nat → Nat → Bool} {f : α → KasT β} {Q : β → Prop} : ∀ t : KasT α, kw N lt t (fun a => kw N lt (f a) Q) → kw N lt (t.bind f) Q
  | .ret _, h => h
  | .ask i j k, ⟨h1, h2, h3⟩ => ⟨h1, h2, kw_bind (k (lt i j)) h3⟩
theorem kw_run {α : Type} {N : Nat} {lt : Nat → Nat → Bool} {cmp : Nat → Nat → (Bool → Shared → Prop) → Shared → Prop} {Q : α → Prop} {Q' : α → Shared → Prop} {s : Shared}
    (hc : ∀ i j (C : Bool → Shared → Prop), i < N → j < N → C (lt i j) s → cmp i j C s) (hq : ∀ a, Q a → Q' a s) : ∀ t : KasT α, kw N lt t Q → t.kasWp cmp Q' s
  | .ret a, h => hq a h
  | .ask i j k, ⟨h1, h2, h3⟩ => hc i j _ h1 h2 (kw_run hc hq (k (lt i j)) h3)
abbrev rk (r : Nat → Nat) (p : Array Nat) (m : Nat) : Nat := r (p.getD m 0)
structure Pm (N : Nat) (p : Array Nat) : Prop where
  perm : p.Perm (List.range N).toArray
  pos : 0 < N
theorem Pm.size {N : Nat} {p : Array Nat} (h : Pm N p) : p.size = N := by rw [h.perm.size_eq]; simp
theorem Pm.lt {N : Nat} {p : Array Nat} (h : Pm N p) (m : Nat) : p.getD m 0 < N := by
  by_cases hm : m < p.size
  · have e : p.getD m 0 = p[m] := by simp [Array.getD, hm]
    rw [e]
    have : p[m] ∈ (List.range N).toArray := h.perm.mem_iff.mp (Array.getElem_mem hm)
    simpa using this
  · have e : p.getD m 0 = 0 := by simp [Array.getD, hm]
    rw [e]; exact h.pos
theorem getD_of {p : Array Nat} (m : Nat) : p.getD m 0 = (p[m]?).getD 0 := by simp [Array.getD_eq_getD_getElem?]
theorem rk_mirror (r : Nat → Nat) {p : Array Nat} {i j : Nat} (hj : j ≤ p.size) (k : Nat) : rk r (kas_rev p i j) k = if i ≤ k ∧ k < j then rk r p (i + j - 1 - k) else rk r p k := by
  have e := getElem?_mirror_all (i := i) hj k
  unfold rk kas_rev
  rw [getD_of, getD_of, getD_of, e]
  split <;> rfl
theorem rk_bubble (r : Nat → Nat) {p : Array Nat} {src d : Nat} (hs : src < p.size) (hd : d ≤ src) (k : Nat) :
    rk r (bubble p src d) k = if k = src - d then rk r p src else if src - d < k ∧ k ≤ src then rk r p (k - 1) else rk r p k := by
  have e := getElem?_bubble hs d hd k
  unfold rk
  rw [getD_of, getD_of, getD_of, getD_of, e]
  split
  · rfl
  · split <;> rfl
def Up (r : Nat → Nat) (p : Array Nat) (n : Nat) : Prop := ∀ i j, i ≤ j → j < n → rk r p i ≤ rk r p j
def Dn (r : Nat → Nat) (p : Array Nat) (n : Nat) : Prop := ∀ i j, i ≤ j → j < n → rk r p j ≤ rk r p i
section
variable {N : Nat} {r : Nat → Nat}
abbrev ltR (r : Nat → Nat) (i j : Nat) : Bool := decide (r i < r j)
theorem Pm.rev {p : Array Nat} (h : Pm N p) (i j : Nat) : Pm N (kas_rev p i j) := ⟨(mirror_perm p i j _).trans h.perm, h.pos⟩
theorem Pm.bub {p : Array Nat} (h : Pm N p) (i j : Nat) : Pm N (bubble p i j) := ⟨(bubble_perm p i j).trans h.perm, h.pos⟩
theorem up_succ {p : Array Nat} {n : Nat} (h : Up r p n) (h1 : 1 ≤ n) (hl : rk r p (n - 1) ≤ rk r p n) : Up r p (n + 1) := fun i j hij hj => by
  by_cases hjn : j < n
  · exact h i j hij hjn
  · have : j = n := by omega
    subst this
    by_cases hi : i = j
    · subst hi; exact Nat.le_refl _
    · exact Nat.le_trans (h i (j - 1) (by omega) (by omega)) hl
theorem dn_succ {p : Array Nat} {n : Nat} (h : Dn r p n) (h1 : 1 ≤ n) (hl : rk r p n ≤ rk r p (n - 1)) : Dn r p (n + 1) := fun i j hij hj => by
  by_cases hjn : j < n
  · exact h i j hij hjn
  · have : j = n := by omega
    subst this
    by_cases hi : i = j
    · subst hi; exact Nat.le_refl _
    · exact Nat.le_trans hl (h i (j - 1) (by omega) (by omega))
theorem asc {p : Array Nat} {Q : Nat → Prop} (hB : Pm N p) : ∀ (f n : Nat), 1 ≤ n → n + f ≤ N → Up r p n → (∀ m, n ≤ m → m ≤ n + f → Up r p m → (m = n + f ∨ rk r p m < rk r p (m - 1)) → Q m) → kw N (ltR r) (kas_asc p f n) Q
  | 0, n, h1, hn, hs, h => h n (Nat.le_refl _) (Nat.le_refl _) hs (.inl rfl)
  | f + 1, n, h1, hn, hs, h => by
    refine ⟨hB.lt n, hB.lt (n - 1), ?_⟩
    by_cases hc : rk r p n < rk r p (n - 1)
    · have e : ltR r (p.getD n 0) (p.getD (n - 1) 0) = true := decide_eq_true hc
      rw [e]; dsimp only; rw [if_pos rfl]
      exact h n (Nat.le_refl _) (by omega) hs (.inr hc)
    · have e : ltR r (p.getD n 0) (p.getD (n - 1) 0) = false := decide_eq_false hc
      rw [e]; dsimp only; rw [if_neg (by decide)]
      exact asc hB f (n + 1) (by omega) (by omega) (up_succ hs h1 (by omega)) fun m a b c d => h m (by omega) (by omega) c (d.elim (fun d => .inl (by omega)) .inr)
theorem mirror_same {p : Array Nat} {i j : Nat} (hj : j ≤ p.size) (he : ∀ k, i ≤ k → k < j → rk r p k = rk r p (j - 1)) (k : Nat) : rk r (kas_rev p i j) k = rk r p k := by
  rw [rk_mirror r hj]
  split
  · rw [he _ (by omega) (by omega), he k (by omega) (by omega)]
  · rfl
theorem desc {Q : Array Nat × Nat × Nat → Prop} {hi : Nat} : ∀ (f : Nat) (p : Array Nat) (n q : Nat), Pm N p → 1 ≤ n → n + f = hi → hi ≤ N → Dn r p n → q + 1 ≤ n → (∀ i, n - (q + 1) ≤ i → i < n → rk r p i = rk r p (n - 1)) →
    (∀ p' m q', Pm N p' → 1 ≤ m → m ≤ hi → Dn r p' m → q' + 1 ≤ m → (∀ i, m - (q' + 1) ≤ i → i < m → rk r p' i = rk r p' (m - 1)) → Q (p', m, q')) → kw N (ltR r) (kas_desc f p n q) Q
  | 0, p, n, q, hB, h1, hn, hN, hs, hq, he, h => h p n q hB h1 (by omega) hs hq he
  | f + 1, p, n, q, hB, h1, hn, hN, hs, hq, he, h => by
    have hsz := hB.size
    refine ⟨hB.lt n, hB.lt (n - 1), ?_⟩
    by_cases hc : rk r p n < rk r p (n - 1)
    · have e : ltR r (p.getD n 0) (p.getD (n - 1) 0) = true := decide_eq_true hc
      rw [e]; dsimp only; rw [if_pos rfl]
      by_cases hq0 : q > 0
      · rw [if_pos hq0]
        have same := mirror_same (r := r) (p := p) (i := n - (q + 1)) (j := n) (by omega) he
        refine desc f _ (n + 1) 0 (hB.rev _ _) (by omega) (by omega) hN ?_ (by omega) (fun i a b => by congr 1; congr 1; omega) h
        refine dn_succ (fun i j a b => ?_) h1 ?_
        · rw [same, same]; exact hs i j a b
        · rw [same, same]; omega
      · rw [if_neg hq0]
        exact desc f p (n + 1) 0 hB (by omega) (by omega) hN (dn_succ hs h1 (by omega)) (by omega) (fun i a b => by congr 1; congr 1; omega) h
    · have e : ltR r (p.getD n 0) (p.getD (n - 1) 0) = false := decide_eq_false hc
      rw [e]; dsimp only; rw [if_neg (by decide)]
      refine ⟨hB.lt (n - 1), hB.lt n, ?_⟩
      by_cases hd : rk r p (n - 1) < rk r p n
      · have e : ltR r (p.getD (n - 1) 0) (p.getD n 0) = true := decide_eq_true hd
        rw [e]; dsimp only; rw [if_pos rfl]
        exact h p n q hB h1 (by omega) hs hq he
      · have e : ltR r (p.getD (n - 1) 0) (p.getD n 0) = false := decide_eq_false hd
        rw [e]; dsimp only; rw [if_neg (by decide)]
        refine desc f p (n + 1) (q + 1) hB (by omega) (by omega) hN (dn_succ hs h1 (by omega)) (by omega) (fun i a b => ?_) h
        show rk r p i = rk r p n
        by_cases hi : i = n
        · rw [hi]
        · rw [he i (by omega) (by omega)]; omega
theorem tail3 {p : Array Nat} {Q : Nat × Array Nat → Prop} {n nrem : Nat} (hB : Pm N p) (h1 : 1 ≤ n) (hn : n ≤ nrem) (hN : nrem ≤ N) (hs : Dn r p n)
    (h : ∀ m p', Pm N p' → 1 ≤ m → m ≤ nrem → Up r p' m → Q (m, p')) : kw N (ltR r) (kas_tail3 n nrem p) Q := by
  have hsz := hB.size
  unfold kas_tail3
  refine kw_bind _ (asc (hB.rev 0 n) _ n h1 (by omega) (fun i j a b => ?_) fun m a b c _ => h m _ (hB.rev 0 n) (by omega) (by omega) c)
  rw [rk_mirror r (by omega), rk_mirror r (by omega), if_pos (by omega), if_pos (by omega)]
  exact hs _ _ (by omega) (by omega)
theorem descPart {p : Array Nat} {Q : Nat × Array Nat → Prop} {n nrem : Nat} (hB : Pm N p) (hn : n + 1 ≤ nrem) (hN : nrem ≤ N) (hs : Dn r p (n + 1))
    (h : ∀ m p', Pm N p' → 1 ≤ m → m ≤ nrem → Up r p' m → Q (m, p')) : kw N (ltR r) (kas_descPart n nrem p) Q := by
  unfold kas_descPart
  refine kw_bind _ (desc (hi := nrem) _ p (n + 1) 0 hB (by omega) (by omega) hN hs (by omega) (fun i a b => by congr 1; congr 1; omega) fun p' m q' hB' m1 m2 hs' hq' he' => ?_)
  dsimp only
  have hsz := hB'.size
  by_cases hq0 : q' > 0
  · rw [if_pos hq0]
    have same := mirror_same (r := r) (p := p') (i := m - (q' + 1)) (j := m) (by omega) he'
    exact tail3 (hB'.rev _ _) m1 m2 hN (fun i j a b => by rw [same, same]; exact hs' i j a b) h
  · rw [if_neg hq0]
    exact tail3 hB' m1 m2 hN hs' h
theorem count {p : Array Nat} {Q : Nat × Array Nat → Prop} {nrem : Nat} (hB : Pm N p) (h1 : 1 ≤ nrem) (hN : nrem ≤ N)
    (h : ∀ m p', Pm N p' → 1 ≤ m → m ≤ nrem → Up r p' m → Q (m, p')) : kw N (ltR r) (kas_count nrem p) Q := by
  have hsz := hB.size
  unfold kas_count
  refine kw_bind _ (asc hB _ 1 (Nat.le_refl _) (by omega) (fun i j a b => by have : i = j := (by omega); subst this; exact Nat.le_refl _) fun n n1 n2 hs hor => ?_)
  by_cases hnn : n = nrem
  · rw [if_pos (by simpa using hnn)]
    exact h n p hB n1 (by omega) hs
  · rw [if_neg (by simpa using hnn)]
    have hlt : rk r p n < rk r p (n - 1) := hor.resolve_left (by omega)
    by_cases hg : n > 1
    · rw [if_pos hg]
      refine ⟨hB.lt 0, hB.lt (n - 1), ?_⟩
      by_cases hc : rk r p 0 < rk r p (n - 1)
      · have e : ltR r (p.getD 0 0) (p.getD (n - 1) 0) = true := decide_eq_true hc
        rw [e]; dsimp only; rw [if_pos rfl]
        exact h n p hB n1 (by omega) hs
      · have e : ltR r (p.getD 0 0) (p.getD (n - 1) 0) = false := decide_eq_false hc
        rw [e]; dsimp only; rw [if_neg (by decide)]
        have all : ∀ k, 0 ≤ k → k < n → rk r p k = rk r p (n - 1) := fun k _ hk => by
          have a1 := hs 0 k (by omega) hk
          have a2 := hs k (n - 1) (by omega) (by omega)
          omega
        have same := mirror_same (r := r) (p := p) (i := 0) (j := n) (by omega) all
        refine descPart (hB.rev _ _) (by omega) hN (dn_succ (fun i j a b => ?_) n1 ?_) h
        · rw [same, same, all i (by omega) (by omega), all j (by omega) b]; exact Nat.le_refl _
        · rw [same, same]; omega
    · rw [if_neg hg]
      have : n = 1 := by omega
      subst this
      exact descPart hB (by omega) hN (dn_succ (fun i j a b => by have : i = j := (by omega); subst this; exact Nat.le_refl _) (Nat.le_refl _) (by omega)) h
theorem place {p : Array Nat} {Q : Nat → Prop} {k : Nat} (hB : Pm N p) (hs : Up r p k) : ∀ (f l q : Nat), l ≤ q → q ≤ k → q - l ≤ f → (∀ i, i < l → rk r p i ≤ rk r p k) → (∀ i, q ≤ i → i < k → rk r p k < rk r p i) →
    (∀ m, m ≤ k → (∀ i, i < m → rk r p i ≤ rk r p k) → (∀ i, m ≤ i → i < k → rk r p k < rk r p i) → Q m) → kw N (ltR r) (kas_place p k f l q) Q
  | 0, l, q, a, b, c, lo, hi, h => h l (by omega) lo (fun i x y => hi i (by omega) y)
  | f + 1, l, q, a, b, c, lo, hi, h => by
    unfold kas_place
    by_cases hge : l ≥ q
    · rw [if_pos hge]
      exact h l (by omega) lo (fun i x y => hi i (by omega) y)
    · rw [if_neg hge]
      refine ⟨hB.lt k, hB.lt _, ?_⟩
      by_cases hc : rk r p k < rk r p ((l + q) / 2)
      · have e : ltR r (p.getD k 0) (p.getD ((l + q) / 2) 0) = true := decide_eq_true hc
        rw [e]; dsimp only; rw [if_pos rfl]
        exact place hB hs f l ((l + q) / 2) (by omega) (by omega) (by omega) lo (fun i x y => Nat.lt_of_lt_of_le hc (hs _ _ x y)) h
      · have e : ltR r (p.getD k 0) (p.getD ((l + q) / 2) 0) = false := decide_eq_false hc
        rw [e]; dsimp only; rw [if_neg (by decide)]
        exact place hB hs f ((l + q) / 2 + 1) q (by omega) (by omega) (by omega) (fun i x => Nat.le_trans (hs i ((l + q) / 2) (by omega) (by omega)) (by omega)) hi h
theorem ins {p : Array Nat} {k l : Nat} (hB : Pm N p) (hk : k < N) (hl : l ≤ k) (hs : Up r p k) (lo : ∀ i, i < l → rk r p i ≤ rk r p k) (hi : ∀ i, l ≤ i → i < k → rk r p k < rk r p i) : Up r (bubble p k (k - l)) (k + 1) := fun i j a b => by
  have hsz := hB.size
  rw [rk_bubble r (by omega) (by omega), rk_bubble r (by omega) (by omega), show k - (k - l) = l by omega]
  by_cases c1 : i = l
  · rw [if_pos c1]
    by_cases d1 : j = l
    · rw [if_pos d1]; exact Nat.le_refl _
    · rw [if_neg d1, if_pos (by omega)]
      exact Nat.le_of_lt (hi (j - 1) (by omega) (by omega))
  · rw [if_neg c1]
    by_cases c2 : l < i ∧ i ≤ k
    · rw [if_pos c2, if_neg (by omega), if_pos (by omega)]
      exact hs _ _ (by omega) (by omega)
    · rw [if_neg c2]
      by_cases d1 : j = l
      · rw [if_pos d1]; exact lo i (by omega)
      · rw [if_neg d1]
        by_cases d2 : l < j ∧ j ≤ k
        · rw [if_pos d2]; exact hs _ _ (by omega) (by omega)
        · rw [if_neg d2]; exact hs _ _ (by omega) (by omega)
theorem bin {Q : Array Nat → Prop} : ∀ (f : Nat) (p : Array Nat) (k : Nat), Pm N p → k + f = N → 1 ≤ k → Up r p k → (∀ p', Pm N p' → Up r p' N → Q p') → kw N (ltR r) (kas_bin f p k) Q
  | 0, p, k, hB, hf, h1, hs, h => h p hB (by rw [← hf]; exact hs)
  | f + 1, p, k, hB, hf, h1, hs, h => by
    unfold kas_bin
    exact kw_bind _ (place hB hs k 0 k (by omega) (Nat.le_refl _) (by omega) (fun i x => by omega) (fun i x y => by omega) fun m hm lo hi =>
      bin f _ (k + 1) (hB.bub _ _) (by omega) (by omega) (ins hB (by omega) hm hs lo hi) h)
theorem sort {Q : Array Nat → Prop} (h2 : 2 ≤ N) (h : ∀ p, Pm N p → Up r p N → Q p) : kw N (ltR r) (kas_sort N) Q := by
  unfold kas_sort
  have hB : Pm N (List.toArray (List.range N)) := ⟨Array.Perm.refl _, by omega⟩
  refine kw_bind _ (count hB (by omega) (Nat.le_refl _) fun m p' hB' m1 m2 hs => ?_)
  dsimp only
  by_cases hm : m < N
  · rw [if_pos hm]
    rw [show max m 1 = m by omega]
    exact bin _ p' m hB' (by omega) m1 hs h
  · rw [if_neg hm]
    exact h p' hB' (by have : m = N := (by omega); subst this; exact hs)
end
section
variable {β : Type} (lt : β → β → Bool)
def rank (ks : List β) (x : β) : Nat := (ks.filter fun y => lt y x).length
theorem rank_lt (ir : ∀ a, lt a a = false) (tr : ∀ a b c, lt a b = true → lt b c = true → lt a c = true) {ks : List β} {x y : β} (hx : x ∈ ks) (h : lt x y = true) : rank lt ks x < rank lt ks y := by
  unfold rank
  have sub : ∀ l : List β, (l.filter fun z => lt z x).length ≤ (l.filter fun z => lt z y).length ∧ (x ∈ l → (l.filter fun z => lt z x).length < (l.filter fun z => lt z y).length) := by
    intro l
    induction l with
    | nil => exact ⟨Nat.le_refl _, fun h => nomatch h⟩
    | cons a l ih =>
      by_cases ha : lt a x = true
      · rw [List.filter_cons_of_pos (p := fun z => lt z x) ha, List.filter_cons_of_pos (p := fun z => lt z y) (tr _ _ _ ha h)]
        refine ⟨Nat.succ_le_succ ih.1, fun hm => ?_⟩
        rcases List.mem_cons.mp hm with rfl | hm
        · rw [ir] at ha; cases ha
        · exact Nat.succ_lt_succ (ih.2 hm)
      · rw [List.filter_cons_of_neg (p := fun z => lt z x) ha]
        by_cases hy : lt a y = true
        · rw [List.filter_cons_of_pos (p := fun z => lt z y) hy]
          exact ⟨Nat.le_succ_of_le ih.1, fun _ => Nat.lt_succ_of_le ih.1⟩
        · rw [List.filter_cons_of_neg (p := fun z => lt z y) hy]
          refine ⟨ih.1, fun hm => ?_⟩
          rcases List.mem_cons.mp hm with rfl | hm
          · exact absurd h hy
          · exact ih.2 hm
  exact (sub ks).2 hx
theorem rank_le (nt : ∀ a b c, lt a c = true → lt a b = true ∨ lt b c = true) {ks : List β} {x y : β} (h : lt y x = false) : rank lt ks x ≤ rank lt ks y := by
  unfold rank
  induction ks with
  | nil => exact Nat.le_refl _
  | cons a l ih =>
    by_cases ha : lt a x = true
    · have : lt a y = true := by
        rcases nt a y x ha with z | z
        · exact z
        · rw [h] at z; cases z
      rw [List.filter_cons_of_pos (p := fun z => lt z x) ha, List.filter_cons_of_pos (p := fun z => lt z y) this]; exact Nat.succ_le_succ ih
    · rw [List.filter_cons_of_neg (p := fun z => lt z x) ha]
      by_cases hy : lt a y = true
      · rw [List.filter_cons_of_pos (p := fun z => lt z y) hy]; exact Nat.le_succ_of_le ih
      · rw [List.filter_cons_of_neg (p := fun z => lt z y) hy]; exact ih
end
end KS
set_option Elab.async false
set_option linter.all false
set_option maxRecDepth 100000
set_option genSizeOf false
set_option bootstrap.genMatcherCode false
namespace KS
open PySem PySem.W PySem.Calls PyProof.Rows
section
variable {prog : Program} {w : World} {A : Around} {E : Value → Shared → Prop} {s : Shared} {a kS : Addr} {vs ks : List Value} {κ : SortKind}
def Kept (s : Shared) (h' : Heap) (bs : List Addr) : Prop := ∀ b o, b ∉ bs → s.heap.get? b = some o → h'.get? b = some o
theorem sort_tail {st : SortSt} {e e1 : Nat} {out : List Value} {P : PySem.Fin → Shared → Prop} (hk : s.heap.get? kS = some (seqObj "list" (List.toArray ks) e)) (ha : s.heap.get? a = some (seqObj "list" #[] e1)) (hne : kS ≠ a)
    (hout : (arrOf st).map (·.2) = List.toArray out) (hz : out.length < 64) (hkz : ks.length < 64) (hf : failedOf st = none)
    (h : ∀ h' c, Kept s h' [kS, a] → h'.get? a = some (seqObj "list" (List.toArray out) c) → P (.done (.ret .none)) { s with heap := h' }) : wpAny (model prog w) A (ksk_tail a false e1 (.ref kS) st) P E s := by
  have s1 := Heap.SameBut.update s.heap kS (Obj.mapSeq fun _ => (#[] : Array Value))
  have ha1 : (s.heap.update kS (Obj.mapSeq fun _ => (#[] : Array Value))).get? a = some (seqObj "list" #[] e1) := (s1.2 a hne.symm).trans ha
  have s2 := Heap.SameBut.update (s.heap.update kS (Obj.mapSeq fun _ => (#[] : Array Value))) a (Obj.mapSeq fun _ => List.toArray out)
  obtain ⟨c2, hc2⟩ : ∃ c2, ((s.heap.update kS (Obj.mapSeq fun _ => (#[] : Array Value))).update a (Obj.mapSeq fun _ => List.toArray out)).get? a = some (seqObj "list" (List.toArray out) c2) := ⟨_, get?_update_seq ha1 fun _ => List.toArray out⟩
  have fin := h _ c2 (fun b o hb q => by
    rw [List.mem_cons, List.mem_singleton, not_or] at hb
    exact (s2.2 b hb.2).trans ((s1.2 b hb.1).trans q)) hc2
  unfold ksk_tail; try dsimp only
  rw [hout]; simp only [Bool.false_eq_true, if_false]
  refine wpAny_bind (listUpdate_at hk rfl ?_ (by rw [List.size_toArray, sizeLine_eq]; omega) (Nat.zero_le _)); refine wpAny_bind (wpAny_letGo ?_)
  refine wpAny_bind (seqEpoch_at ha1 rfl ?_); refine wpAny_bind (listUpdate_at ha1 rfl ?_ (Nat.zero_le _) (by rw [List.size_toArray, sizeLine_eq]; omega))
  rw [hf]; simp only [bne_self_eq_false, Bool.false_eq_true, if_false]
  exact wpAny_pure fin
theorem sort_end {e e1 : Nat} {r : Nat → Nat} {P : PySem.Fin → Shared → Prop} (hk : s.heap.get? kS = some (seqObj "list" (List.toArray ks) e)) (ha : s.heap.get? a = some (seqObj "list" #[] e1)) (hne : kS ≠ a) (hl : ks.length = vs.length) (h64 : vs.length < 64)
    (hkind : 2 ≤ vs.length → ∀ (Q : SortKind → Shared → Prop) (E : Value → Shared → Prop), Q κ s → wpAny (model prog w) A (keyKind' (List.toArray ks)) Q E s)
    (hcmp : 2 ≤ vs.length → ∀ (i j : Nat) (C : Bool → Shared → Prop), i < vs.length → j < vs.length → C (ltR r i j) s → kas_ask prog w A κ ks i j C s)
    (h : ∀ (p : Array Nat) h' c, p.Perm (List.range vs.length).toArray → Up r p vs.length → Kept s h' [kS, a] → h'.get? a = some (seqObj "list" (List.toArray (p.toList.map fun i => vs.getD i Value.none)) c) → P (.done (.ret .none)) { s with heap := h' }) :
    wpAny (model prog w) A (ksk_end a false vs.toArray e1 (.ref kS) (List.toArray ks)) P E s := by
  unfold ksk_end; try dsimp only
  simp only [Bool.false_eq_true, if_false]
  by_cases hn : vs.length < 2
  · have hn2 : vs.toArray.size < 2 := by rw [List.size_toArray]; exact hn
    rw [if_pos hn2, if_pos hn2]; refine wpAny_bind (wpAny_pure ?_)
    rw [StateT.run_pure]; refine wpAny_bind (wpAny_pure ?_)
    try dsimp only
    have e0 : ((List.toArray (List.range vs.length)).toList.map fun i => vs.getD i Value.none) = vs := by
      rw [List.toList_toArray]
      apply List.ext_getElem?
      intro i
      rw [List.getElem?_map]
      by_cases hi : i < vs.length
      · simp [hi]
      · simp [List.getElem?_eq_none (Nat.le_of_not_lt hi), List.getElem?_eq_none (show (List.range vs.length).length ≤ i by simp; omega)]
    refine sort_tail (out := vs) hk ha hne ?_ h64 (by omega) rfl fun h' c k1 k2 => h (List.toArray (List.range vs.length)) h' c (Array.Perm.refl _) (fun i j x y => by have : i = j := (by omega); subst this; exact Nat.le_refl _) k1 (by rw [e0]; exact k2)
    show (((List.toArray ks).zip vs.toArray).map (·.2)) = List.toArray vs
    apply Array.toList_inj.mp
    rw [Array.toList_map, ksk_zip]
    exact List.map_snd_zip (by simp [hl])
  have h2 : 2 ≤ vs.length := by omega
  have hn2 : ¬ vs.toArray.size < 2 := by rw [List.size_toArray]; omega
  rw [if_neg hn2, if_neg hn2]
  refine wpAny_bind (hkind h2 _ _ ?_)
  have run := kw_run (s := s) (Q' := fun p s' => s' = s ∧ Pm vs.length p ∧ Up r p vs.length) (hcmp h2) (fun p hp => ⟨rfl, hp⟩) _ (sort (N := vs.length) (r := r) (Q := fun p => Pm vs.length p ∧ Up r p vs.length) h2 fun p h1 h2 => ⟨h1, h2⟩)
  refine wpAny_bind (wpAny_mono (kat_run (Q := fun st' s' => ∃ p : Array Nat, arrOf st' = p.map (kas_item ((List.toArray ks).zip vs.toArray)) ∧ failedOf st' = none ∧ s' = s ∧ Pm vs.length p ∧ Up r p vs.length) hl h2 h64 (fun p' st' s' a1 a2 a3 a4 => ⟨p', a2, a3, a4⟩) run) ?_ fun _ _ x => x)
  rintro ⟨⟨⟩, st'⟩ s' ⟨p, har, hf, rfl, hp, hu⟩
  try dsimp only
  refine sort_tail hk ha hne (kat_snds hl har) ?_ (by omega) hf fun h' c k1 k2 => h p h' c hp.perm hu k1 k2
  rw [List.length_map, Array.length_toList, hp.size]; exact h64
theorem sort_fold {n e1 : Nat} {body : Value → PUnit → Sem (ForInStep PUnit)} (J : Nat → List Value → Shared → Prop) (hn : n < 64)
    (hb : ∀ (i : Nat) (x : Value) (ks : List Value) (e : Nat) (s : Shared), i < n → vs[i]? = some x → List.length ks = i → s.heap.get? kS = some (seqObj "list" (List.toArray ks) e) → s.heap.get? a = some (seqObj "list" #[] e1) → J i ks s →
      wpAny (model prog w) A (body x ⟨⟩) (fun r s' => r = .yield ⟨⟩ ∧ ∃ k c, s'.heap.get? kS = some (seqObj "list" (List.toArray (ks ++ [k])) c) ∧ s'.heap.get? a = some (seqObj "list" #[] e1) ∧ J (i + 1) (ks ++ [k]) s') E s) (hvn : vs.length = n) :
      ∀ (r : List Value) (i : Nat) (ks : List Value) (e : Nat) (s : Shared), vs.drop i = r → i ≤ n → ks.length = i → s.heap.get? kS = some (seqObj "list" (List.toArray ks) e) → s.heap.get? a = some (seqObj "list" #[] e1) → J i ks s →
      wpAny (model prog w) A (forIn r PUnit.unit body) (fun _ s' => ∃ ks e, s'.heap.get? kS = some (seqObj "list" (List.toArray ks) e) ∧ ks.length = n ∧ s'.heap.get? a = some (seqObj "list" #[] e1) ∧ J n ks s') E s
  | [], i, ks, e, s, hr, hi, hl, hk, ha, h => by
    have : i = n := by
      have := congrArg List.length hr
      rw [List.length_drop, List.length_nil] at this
      omega
    subst this
    rw [List.forIn_nil]; exact wpAny_pure ⟨ks, e, hk, hl, ha, h⟩
  | x :: r, i, ks, e, s, hr, hi, hl, hk, ha, h => by
    have hx : vs[i]? = some x := by
      have := congrArg (fun l => l[0]?) hr
      simpa using this
    have hi' : i < n := by
      have := (List.getElem?_eq_some_iff.mp hx).1
      omega
    have hr' : vs.drop (i + 1) = r := by rw [← List.drop_drop, hr]; rfl
    rw [List.forIn_cons]
    refine wpAny_bind (wpAny_mono (hb i x ks e s hi' hx hl hk ha h) (fun q s' hq => ?_) fun _ _ x => x)
    obtain ⟨rfl, k, c, hk', ha', h2⟩ := hq
    show wpAny (model prog w) A (forIn r PUnit.unit body) _ E s'
    exact sort_fold J hn hb hvn r (i + 1) (ks ++ [k]) c s' hr' hi' (by simp [hl]) hk' ha' h2
theorem sort_rest {f : Value} {e1 : Nat} {P : PySem.Fin → Shared → Prop} (J : Nat → List Value → Shared → Prop) (hk : s.heap.get? kS = some (seqObj "list" #[] 0)) (ha : s.heap.get? a = some (seqObj "list" #[] e1)) (h64 : vs.length < 64) (h0 : J 0 [] s)
    (hcall : ∀ (i : Nat) (x : Value) (ks : List Value) (e : Nat) (s : Shared), vs[i]? = some x → s.heap.get? kS = some (seqObj "list" (List.toArray ks) e) → s.heap.get? a = some (seqObj "list" #[] e1) → J i ks s →
      wpAny (model prog w) A (call f [x]) (fun k s' => s'.heap.get? kS = some (seqObj "list" (List.toArray ks) e) ∧ s'.heap.get? a = some (seqObj "list" #[] e1) ∧ ∀ h', Kept s' h' [kS] → J (i + 1) (ks ++ [k]) { s' with heap := h' }) (fun _ _ => False) s) (hne : kS ≠ a)
    (hend : ∀ (ks : List Value) (e : Nat) (s : Shared), ks.length = vs.length → s.heap.get? kS = some (seqObj "list" (List.toArray ks) e) → s.heap.get? a = some (seqObj "list" #[] e1) → J vs.length ks s → wpAny (model prog w) A (ksk_end a false vs.toArray e1 (.ref kS) (List.toArray ks)) P E s) :
    wpAny (model prog w) A (ksk_rest a f false vs.toArray e1 (.ref kS)) P E s := by
  unfold ksk_rest; refine wpAny_bind (wpAny_rule ?_)
  first
    | rw [List.forIn_toArray]
    | (rw [← Array.forIn_toList]; simp only [List.toList_toArray])
  refine wpAny_bind (wpAny_mono (sort_fold (kS := kS) (a := a) (e1 := e1) J h64 (fun i x ks e s' hi hx hl hk ha hJ => ?_) rfl vs 0 [] 0 s rfl (Nat.zero_le _) rfl hk ha h0) (fun _ s' hd => ?_) fun _ _ x => x)
  · refine wpAny_bind (wpAny_attempt (wpAny_mono (hcall i x ks e s' hx hk ha hJ) (fun k s'' hk => ?_) fun _ _ hF => hF.elim))
    obtain ⟨nk, na, hJ'⟩ := hk
    have s1 := Heap.SameBut.update s''.heap kS (Obj.mapSeq (·.push k))
    have ea : (List.toArray ks).push k = List.toArray (ks ++ [k]) := by simp
    obtain ⟨c2, hc2⟩ : ∃ c2, (s''.heap.update kS (Obj.mapSeq (·.push k))).get? kS = some (seqObj "list" (List.toArray (ks ++ [k])) c2) := ⟨_, by rw [← ea]; exact get?_update_seq nk (·.push k)⟩
    try dsimp only
    refine wpAny_bind (listUpdate_at nk rfl ?_ (by rw [List.size_toArray, sizeLine_eq]; omega) (Nat.le_trans (Nat.le_of_eq (Array.size_push ..)) (by rw [List.size_toArray, sizeLine_eq]; omega)))
    exact wpAny_pure ⟨rfl, k, c2, hc2, (s1.2 a hne.symm).trans na, hJ' _ fun b o hb q => (s1.2 b (by simpa using hb)).trans q⟩
  · obtain ⟨ks, e, hk', hl, ha', fin⟩ := hd
    try dsimp only
    refine wpAny_bind (listItems_at hk' rfl ?_); exact hend ks e s' hl hk' ha' fin
theorem sortedF {it : Value} {q : Addr} {Q : Value → Shared → Prop} (J : Addr → Addr → Nat → Nat → List Value → Shared → Prop)
    (hcol : ∀ (A : Around) (E : Value → Shared → Prop) (Q' : List Value → Shared → Prop), (∀ h1, Kept s h1 [] → Q' vs { s with heap := h1 }) → wpAny (model prog w) A (collect it) Q' E s) (h64 : vs.length < 64)
    (h0 : ∀ h1 kS D e1 h', Kept s h1 [] → h1.objs.size ≤ kS → h1.objs.size ≤ D → kS ≠ D → (∀ b o, h1.get? b = some o → h'.get? b = some o) → h'.get? D = some (seqObj "list" #[] e1) → h'.get? kS = some (seqObj "list" #[] 0) → J kS D e1 0 [] { s with heap := h' })
    (hcall : ∀ kS D e1 (i : Nat) (x : Value) (ks : List Value) (e : Nat) (s' : Shared), kS ≠ D → vs[i]? = some x → s'.heap.get? kS = some (seqObj "list" (List.toArray ks) e) → s'.heap.get? D = some (seqObj "list" #[] e1) → J kS D e1 i ks s' →
      wpAny (model prog w) A.in1.in1 (call (.ref q) [x]) (fun k s'' => s''.heap.get? kS = some (seqObj "list" (List.toArray ks) e) ∧ s''.heap.get? D = some (seqObj "list" #[] e1) ∧ ∀ h', Kept s'' h' [kS] → J kS D e1 (i + 1) (ks ++ [k]) { s'' with heap := h' }) (fun _ _ => False) s')
    (hend : ∀ kS D e1 (ks : List Value) (e : Nat) (s' : Shared), kS ≠ D → ks.length = vs.length → s'.heap.get? kS = some (seqObj "list" (List.toArray ks) e) → s'.heap.get? D = some (seqObj "list" #[] e1) → J kS D e1 vs.length ks s' →
      ∃ (κ : SortKind) (r : Nat → Nat), (2 ≤ vs.length → ∀ (Q : SortKind → Shared → Prop) (E : Value → Shared → Prop), Q κ s' → wpAny (model prog w) A.in1.in1 (keyKind' (List.toArray ks)) Q E s') ∧
        (2 ≤ vs.length → ∀ (i j : Nat) (C : Bool → Shared → Prop), i < vs.length → j < vs.length → C (ltR r i j) s' → kas_ask prog w A.in1.in1 κ ks i j C s') ∧
        ∀ (p : Array Nat) h' c, p.Perm (List.range vs.length).toArray → Up r p vs.length → Kept s' h' [kS, D] → h'.get? D = some (seqObj "list" (List.toArray (p.toList.map fun i => vs.getD i Value.none)) c) → Q (.ref D) { s' with heap := h' }) :
    wpAny (model prog w) A (call (.builtin "sorted") [it] [(Str.ofString "key", .ref q)]) Q E s := by
  refine call_function_entry_kw kind_sorted plain_sorted entry_sorted (ksk_s1 _ _) ?_
  unfold Builtin.«sorted»; refine wpAny_bind (m := checkCount "sorted" 1 1 _) (wpAny_pure ?_)
  refine wpAny_bind (hcol _ _ _ fun h1 keep1 => ?_); refine wpAny_bind (wpAny_newList ?_ (by rw [sizeLine_eq]; omega))
  have oL : (h1.push (seqObj "list" vs.toArray 0)).get? h1.objs.size = some (seqObj "list" vs.toArray 0) := Heap.get?_push_size _ rfl
  have keep : ∀ b o, h1.get? b = some o → (h1.push (seqObj "list" vs.toArray 0)).get? b = some o := fun b o q => Heap.get?_push_of_some _ q
  show wpAny _ _ _ _ _ { s with heap := h1.push (seqObj "list" vs.toArray 0) }
  have szh : (h1.push (seqObj "list" vs.toArray 0)).objs.size = h1.objs.size + 1 := size_push' _ _
  generalize hH : h1.push (seqObj "list" vs.toArray 0) = hh at oL keep szh
  refine wpAny_bind (wpAny_holding (wpAny_call_entry_kw slot_list_sort ⟨_, oL, rfl⟩ entry_list_sort ?body (ksk_l1 _ _)))
  case body =>
    show wpAny (model prog w) A.in1.in1 (Builtin.«list.sort» ⟨[.ref h1.objs.size], [(Str.ofString "key", .ref q)]⟩) _ _ _
    rw [ksk_t1]; unfold ksk_tree
    have s1 := Heap.SameBut.update hh h1.objs.size (Obj.mapSeq fun _ => (#[] : Array Value))
    obtain ⟨e1, oD⟩ : ∃ e1, (hh.update h1.objs.size (Obj.mapSeq fun _ => (#[] : Array Value))).get? h1.objs.size = some (seqObj "list" #[] e1) := ⟨_, get?_update_seq oL fun _ => #[]⟩
    refine wpAny_bind (listItems_at oL rfl ?_); refine wpAny_bind (listUpdate_at oL rfl ?_ (by rw [List.size_toArray, sizeLine_eq]; omega) (Nat.zero_le _))
    refine wpAny_bind (seqEpoch_at oD rfl ?_); refine wpAny_bind (wpAny_newTuple ?_ (by show vs.length ≤ _; rw [sizeLine_eq]; omega))
    refine wpAny_bind (wpAny_newList ?_ (Nat.zero_le _)); refine wpAny_holding ?_
    have szk : ((hh.update h1.objs.size (Obj.mapSeq fun _ => (#[] : Array Value))).push (seqObj "tuple" vs.toArray 0)).objs.size = h1.objs.size + 1 + 1 := by rw [size_push', Heap.size_update, szh]
    have oK : (((hh.update h1.objs.size (Obj.mapSeq fun _ => (#[] : Array Value))).push (seqObj "tuple" vs.toArray 0)).push (seqObj "list" #[] 0)).get? ((hh.update h1.objs.size (Obj.mapSeq fun _ => (#[] : Array Value))).push (seqObj "tuple" vs.toArray 0)).objs.size = some (seqObj "list" #[] 0) := Heap.get?_push_size _ rfl
    have oD2 : (((hh.update h1.objs.size (Obj.mapSeq fun _ => (#[] : Array Value))).push (seqObj "tuple" vs.toArray 0)).push (seqObj "list" #[] 0)).get? h1.objs.size = some (seqObj "list" #[] e1) := Heap.get?_push_of_some _ (Heap.get?_push_of_some _ oD)
    have hne : ((hh.update h1.objs.size (Obj.mapSeq fun _ => (#[] : Array Value))).push (seqObj "tuple" vs.toArray 0)).objs.size ≠ h1.objs.size := by rw [szk]; omega
    refine sort_rest (s := { s with heap := ((hh.update h1.objs.size (Obj.mapSeq fun _ => (#[] : Array Value))).push (seqObj "tuple" vs.toArray 0)).push (seqObj "list" #[] 0) }) (J _ _ e1) oK oD2 h64
      (h0 h1 _ _ e1 _ keep1 (by rw [szk]; omega) (Nat.le_refl _) hne (fun b o qq => Heap.get?_push_of_some _ (Heap.get?_push_of_some _ ((s1.2 b (Nat.ne_of_lt (Heap.lt_size qq))).trans (keep b o qq)))) oD2 oK)
      (fun i x ks e s' hx hk ha hJ => hcall _ _ e1 i x ks e s' hne hx hk ha hJ) hne fun ks e s' hlk hk ha hJ => ?_
    obtain ⟨κ, r, hkind, hcmp, fin⟩ := hend _ _ e1 ks e s' hne hlk hk ha hJ
    exact sort_end hk ha hne hlk h64 hkind hcmp fun p h' c hp hu k1 k2 => ⟨_, rfl, wpAny_pure ⟨_, rfl, fin p h' c hp hu k1 k2⟩⟩
end
end KS
set_option Elab.async false
set_option linter.all false
set_option maxRecDepth 100000
set_option genSizeOf false
set_option bootstrap.genMatcherCode false
namespace L2
open PySem PySem.Spec PyProof.Rows KS PySem.W
theorem lex_kat {prog : Program} {w : World} {A : Around} {s : Shared} {b fin : Bool} {Q : Bool → Shared → Prop} : ∀ {xs ys : List Value} {ns ms : List Int} (i : Nat), IntsAre xs ns → IntsAre ys ms → fin = decide (xs.length < ys.length) → Q (HT.lexLt ns ms) s → KatLex prog w A b fin Q (xs.zip ys) i s
  | _, _, _, _, i, .nil, .nil, hf, h => by subst hf; exact h
  | _, _, _, _, i, .nil, .cons m u h2, hf, h => by subst hf; exact h
  | _, _, _, _, i, .cons n t h1, .nil, hf, h => by subst hf; exact h
  | _, _, _, _, i, .cons n t h1, .cons m u h2, hf, h => by
    rw [List.zip_cons_cons]
    refine kat_cons (wpAny_eqBool_int ?_)
    rw [HT.lexLt_cons] at h
    by_cases e : n = m
    · subst e
      rw [beq_self_eq_true]
      rw [if_pos rfl] at h
      exact kat_yes (lex_kat (i + 1) h1 h2 (by rw [hf]; simp) h)
    · have e' : (n == m) = false := by simpa using e
      rw [e']
      rw [if_neg e] at h
      refine kat_no ?_
      cases z : (b && i == 0) with
      | true => exact oneLt_int h
      | false => exact kat_one _ _ (lt_int (show PySem.W.BoolBack Q (.bool (decide (n < m))) s from h))
theorem getD_get {β : Type} {l : List β} {i : Nat} {d : β} (h : i < l.length) : l.getD i d = l[i] := by rw [List.getD_eq_getElem?_getD, List.getElem?_eq_getElem h]; rfl
theorem fp_to {X : Cx} {pins : List (Addr × Obj)} {H H' : Hp} {b : Addr} (f : FpOk X pins H b) (h : H' b = none) : FpOk X pins H' b := ⟨h, f.2⟩
theorem Inv.adopt {X : Cx} {pins : List (Addr × Obj)} {σ : St} {H : Hp} {s : Shared} {h' : Heap} {kS D : Addr} {its : List Value} {xs : List V} {c : Nat} (I : Inv X pins σ H s) (fk : FpOk X pins H kS) (fd : FpOk X pins H D) (k : Kept s h' [kS, D])
    (hD : h'.get? D = some (seqObj "list" (List.toArray its) c)) (hv : Vals xs its) (hz : xs.length ≤ sizeLine) : Inv X pins σ (upd H D (.lst xs)) { s with heap := h' } := by
  obtain ⟨k0, k1, k2, k3, k4, k5⟩ := fk
  obtain ⟨d0, d1, d2, d3, d4, d5⟩ := fd
  have nk : ∀ b u, H b = some u → b ≠ kS := fun b u e z => by rw [z, k0] at e; cases e
  have nD : ∀ b u, H b = some u → b ≠ D := fun b u e z => by rw [z, d0] at e; cases e
  have kp : ∀ b o, b ∉ [kS, D] → s.heap.get? b = some o → h'.get? b = some o := k
  refine I.step (g' := s.gens) (d' := s.drawn) (t' := s.toks) (ch := [kS, D]) (fun b hb => ?_) (fun b o _ _ hc e _ => kp b o hc e) (fun b o _ _ hc e _ => ⟨o.slots, kp b o hc e⟩) (fun b o hc e n => ?_) (fun b o hc e => ⟨o, kp b o hc e⟩)
    (fun b ys e => by rw [upd_ne (nD b _ e)]; exact e) (fun b o u e => by rw [upd_ne (nD b _ e)]; exact e) (fun b ps e => ⟨#[], by rw [upd_ne (nD b _ e), e]; simp⟩) (fun m hm => ?_) (fun b u e => ?_) I.bare
  · rw [List.mem_cons, List.mem_singleton] at hb
    rcases hb with rfl | rfl
    · exact ⟨k3, k1, k4, k5⟩
    · exact ⟨d3, d1, d4, d5⟩
  · rw [upd_ne (fun z => hc (by simp [z]))]; exact n
  · obtain ⟨o, es, ep, ho, r⟩ := hm
    exact ⟨o, es, ep, kp _ o (by simp [Ne.symm k1, Ne.symm d1]) ho, r⟩
  · by_cases z : b = D
    · subst z
      rw [upd_same] at e
      cases e
      exact ⟨hz, its, c, hv, hD⟩
    · rw [upd_ne z] at e
      refine (I.hok b u e).stay (fun c v hc q => kp c v ?_ q) (fun c q => by rw [upd_ne (nD c _ q)]; exact q) fun c ys q => by rw [upd_ne (nD c _ q)]; exact q
      rw [List.mem_cons, List.mem_singleton, not_or]
      rcases hc with z | z
      · rw [z]; exact ⟨nk b u e, nD b u e⟩
      · exact ⟨nk c _ z, nD c _ z⟩
def KeysAre (H : Hp) (vks : List V) (nss : List (List Int)) : Prop := Paired (fun (v : V) (ns : List Int) => ∃ b, v = .ref b ∧ H b = some (.tup (ns.map V.int)) ∧ ns ≠ []) vks nss
section
variable {X : Cx} {k : Nat} {f : Addr} {fd : FuncData} {ps : List Str} {sp : Sp} {pins : List (Addr × Obj)} {σ : St} {H : Hp} {s : Shared}
theorem Paired.get {α β : Type} {R : α → β → Prop} : ∀ {xs : List α} {ys : List β} {i : Nat} {x : α}, Paired R xs ys → xs[i]? = some x → ∃ y, ys[i]? = some y ∧ R x y
  | _, _, 0, _, .cons r _, e => by cases e; exact ⟨_, rfl, r⟩
  | _, _, i + 1, x, .cons _ t, e => by
    obtain ⟨y, h1, h2⟩ := Paired.get (i := i) (x := x) t e
    exact ⟨y, h1, h2⟩
  | _, _, _, _, .nil, e => by simp at e
theorem lexLt_irrefl : ∀ a, HT.lexLt a a = false
  | [] => rfl
  | x :: a => by rw [HT.lexLt_cons, if_pos rfl]; exact lexLt_irrefl a
theorem lexLt_trans : ∀ a b c, HT.lexLt a b = true → HT.lexLt b c = true → HT.lexLt a c = true
  | [], [], _, h, _ => by cases h
  | [], _ :: _, [], _, h => by cases h
  | [], _ :: _, _ :: _, _, _ => rfl
  | _ :: _, [], _, h, _ => by cases h
  | x :: a, y :: b, [], _, h => by cases h
  | x :: a, y :: b, z :: c, h1, h2 => by
    rw [HT.lexLt_cons] at h1 h2 ⊢
    split at h1
    · rename_i e
      subst e
      split at h2
      · rename_i e
        subst e
        rw [if_pos rfl]; exact lexLt_trans a b c h1 h2
      · rename_i ne
        rw [if_neg ne]; exact h2
    · rename_i ne
      split at h2
      · rename_i e
        subst e
        rw [if_neg ne]; exact h1
      · have h1 := of_decide_eq_true h1
        have h2 := of_decide_eq_true h2
        rw [if_neg (by omega)]; exact decide_eq_true (by omega)
theorem lexLt_neg : ∀ a b c, HT.lexLt a c = true → HT.lexLt a b = true ∨ HT.lexLt b c = true
  | [], [], _, h => .inr h
  | [], _ :: _, _, h => .inl rfl
  | x :: a, [], [], h => by cases h
  | x :: a, [], _ :: _, h => .inr rfl
  | x :: a, y :: b, [], h => by cases h
  | x :: a, y :: b, z :: c, h => by
    rw [HT.lexLt_cons] at h
    rw [HT.lexLt_cons, HT.lexLt_cons]
    by_cases e1 : x = y
    · subst e1
      rw [if_pos rfl]
      by_cases e2 : x = z
      · subst e2
        rw [if_pos rfl] at h ⊢
        exact lexLt_neg a b c h
      · rw [if_neg e2] at h ⊢
        exact .inr h
    · rw [if_neg e1]
      by_cases e2 : y = z
      · subst e2
        rw [if_neg e1] at h
        exact .inl h
      · rw [if_neg e2]
        by_cases e3 : x = z
        · subst e3
          rcases Int.lt_trichotomy x y with q | q | q
          · exact .inl (decide_eq_true q)
          · exact absurd q e1
          · exact .inr (decide_eq_true q)
        · rw [if_neg e3] at h
          have h := of_decide_eq_true h
          by_cases q : x < y
          · exact .inl (decide_eq_true q)
          · exact .inr (decide_eq_true (by omega))
theorem lexLt_eq : ∀ a b, HT.lexLt a b = false → HT.lexLt b a = false → a = b
  | [], [], _, _ => rfl
  | [], _ :: _, h, _ => by cases h
  | _ :: _, [], _, h => by cases h
  | x :: a, y :: b, h1, h2 => by
    rw [HT.lexLt_cons] at h1 h2
    by_cases e : x = y
    · subst e
      rw [if_pos rfl] at h1 h2
      rw [lexLt_eq a b h1 h2]
    · rw [if_neg e] at h1
      rw [if_neg (fun z => e z.symm)] at h2
      have h1 := of_decide_eq_false h1
      have h2 := of_decide_eq_false h2
      omega
def rankOf (nss : List (List Int)) (i : Nat) : Nat := rank HT.lexLt nss (nss.getD i [])
theorem rank_iff {nss : List (List Int)} {i j : Nat} (hi : i < nss.length) (hj : j < nss.length) : ltR (rankOf nss) i j = HT.lexLt nss[i] nss[j] := by
  have ei : nss.getD i [] = nss[i] := by simp [hi]
  have ej : nss.getD j [] = nss[j] := by simp [hj]
  unfold ltR rankOf
  rw [ei, ej]
  cases h : HT.lexLt nss[i] nss[j] with
  | true => exact decide_eq_true (rank_lt HT.lexLt lexLt_irrefl lexLt_trans (List.getElem_mem hi) h)
  | false => exact decide_eq_false (Nat.not_lt.mpr (rank_le HT.lexLt lexLt_neg h))
def SortOut (nss : List (List Int)) (xs out : List V) : Prop := ∃ p : List Nat, p.Perm (List.range xs.length) ∧ out = p.map (fun i => xs.getD i .non) ∧ ∀ i j, i ≤ j → j < p.length → HT.lexLt (nss.getD (p.getD j 0) []) (nss.getD (p.getD i 0) []) = false
theorem vals_pick {xs : List V} {its : List Value} (r : Vals xs its) : ∀ p : List Nat, (∀ i ∈ p, i < xs.length) → Vals (p.map fun i => xs.getD i .non) (p.map fun i => its.getD i Value.none)
  | [], _ => .nil
  | i :: p, h => by
    refine .cons ?_ (vals_pick r p fun j hj => h j (List.mem_cons_of_mem _ hj))
    have hi := h i List.mem_cons_self
    obtain ⟨u, e1, e2⟩ := r.get (List.getElem?_eq_getElem hi)
    have e3 : xs.getD i V.non = xs[i] := by simp [hi]
    have e4 : its.getD i Value.none = u := by rw [List.getD_eq_getElem?_getD, e1]; rfl
    show RelV (xs.getD i V.non) (its.getD i Value.none)
    rw [e3, e4]; exact e2
theorem run_sort {it : Value} {vs : List Value} {xs : List V} {Q : VK} (G : FnOk X.prog X.w X.K X.mg X.base CX0 k f fd ps sp) (hr : Room (k + 2) X.A) (hb : Binds X.K fd ps []) (I : Inv X pins σ H s) (rv : Vals xs vs) (h64 : xs.length < 64)
    (hcol : ∀ (A : Around) (E : Value → Shared → Prop) (Q' : List Value → Shared → Prop), (∀ h1, Kept s h1 [] → Q' vs { s with heap := h1 }) → wpAny (model X.prog X.w) A (collect it) Q' E s)
    (W : Nat → List V → Hp → Prop) (w0 : W 0 [] H) (wstep : ∀ i x vks H', xs[i]? = some x → W i vks H' → sp [x] H' (fun v H'' => W (i + 1) (vks ++ [v]) H'') E0)
    (wend : ∀ vks H', W xs.length vks H' → ∃ nss, KeysAre H' vks nss ∧ nss.length = xs.length ∧ ∀ out p, H' p = none → SortOut nss xs out → Q (.ref p) (upd H' p (.lst out))) :
    wpAny (model X.prog X.w) X.A (call (.builtin "sorted") [it] [(Str.ofString "key", .ref f)]) (EP X pins σ Q) X.xe s := by
  have hl := rv.length
  have hrr : Room k X.A.in1.in1 := (Room.in1 (Room.in1 hr))
  refine sortedF (vs := vs) (fun kS D e1 i ks s' => ∃ vks H', Inv X pins σ H' s' ∧ FpOk X pins H' kS ∧ FpOk X pins H' D ∧ Vals vks ks ∧ W i vks H') hcol (by omega) (fun h1 kS D e1 h' k1 zk zD hne kk oD oK => ?_) (fun kS D e1 i x ks e s' hne hx hk ha hJ => ?_) (fun kS D e1 ks e s' hne hlk hk ha hJ => ?_)
  · have I1 : Inv X pins σ H { s with heap := h1 } := I.kept (t' := s.toks) fun b u q => k1 b u (by simp) q
    have n1 : ∀ b, h1.objs.size ≤ b → H b = none := fun b hb => I1.hok.fresh hb
    exact ⟨[], H, I1.kept (t' := s.toks) kk, I1.fpOk zk (n1 kS zk), I1.fpOk zD (n1 D zD), .nil, w0⟩
  · obtain ⟨vks, H', I', fk, fD, rk, hW⟩ := hJ
    have pk : ∀ p ∈ pins ++ [(kS, seqObj "list" (List.toArray ks) e), (D, seqObj "list" #[] e1)], s'.heap.get? p.1 = some p.2 ∧ H' p.1 = none ∧ p.1 ≠ X.env.locals ∧ p.1 ∉ X.fs ∧ ∀ v, p.2.data ≠ .cell v := fun p hp => by
      rcases List.mem_append.mp hp with z | z
      · exact I'.pin p (List.mem_append_right _ z)
      · rw [List.mem_cons, List.mem_singleton] at z
        rcases z with rfl | rfl
        · exact ⟨hk, fk.1, fk.2.1, fk.2.2.1, fun v z => nomatch z⟩
        · exact ⟨ha, fD.1, fD.2.1, fD.2.2.1, fun v z => nomatch z⟩
    have Ip := I'.pins_of pk
    have hix : i < xs.length := by have := (List.getElem?_eq_some_iff.mp hx).1; omega
    have ex : xs[i]? = some xs[i] := List.getElem?_eq_getElem hix
    obtain ⟨u, e1', ru⟩ := rv.get ex
    rw [hx] at e1'
    cases e1'
    have hsp := wstep i xs[i] vks H' ex hW
    have hlen : ([x] ++ ([] : List Value)).length = ps.length := by have := G.len _ _ _ _ hsp; simpa using this
    refine wpAny_call (codeAny_mono (G.run X.A.in1.in1 X.stack s' H' ⟨[x], []⟩ ([x] ++ []) [xs[i]] _ E0 hrr Ip.env0.in1.in1 (hb s' [x] Ip.kIn hlen) (.cons ru .nil) hsp) fun r s'' hq => ?_)
    cases r with
    | error e => exact hq.elim
    | ok fl =>
      cases fl with
      | ret kv =>
        obtain ⟨v, H'', I2, r2, hW2⟩ := Ip.after hq
        have p1 := I2.pin (kS, seqObj "list" (List.toArray ks) e) (List.mem_append_right _ (List.mem_append_right _ (.head _)))
        have p2 := I2.pin (D, seqObj "list" #[] e1) (List.mem_append_right _ (List.mem_append_right _ (.tail _ (.head _))))
        refine ⟨p1.1, p2.1, fun h' kp => ?_⟩
        have fk2 := fp_to fk p1.2.1
        have fD2 := fp_to fD p2.2.1
        have I3 := I2.unpinned
        obtain ⟨f0, f1, f2, f3, f4, f5⟩ := fk2
        exact ⟨vks ++ [v], H'', I3.turned (t' := s''.toks) (fun b o hb q => kp b o (by simpa using hb) q) f0 f1 f3 f4 f5, ⟨f0, f1, f2, f3, f4, f5⟩, fD2, rk.append (.cons r2 .nil), hW2⟩
      | next => exact False.elim hq
      | brk => exact False.elim hq
      | cont => exact False.elim hq
  · obtain ⟨vks, H', I', fk, fD, rk, hW⟩ := hJ
    rw [← hl] at hW
    obtain ⟨nss, hK, hn, fin⟩ := wend vks H' hW
    have hkn : ks.length = nss.length := by rw [hlk, ← hl, hn]
    have tup : ∀ j, j < ks.length → ∃ b o its n ns, ks[j]? = some (.ref b) ∧ nss[j]? = some ns ∧ s'.heap.get? b = some o ∧ o.cls = .type "tuple" ∧ o.data = .seq (List.toArray its) n ∧ IntsAre its ns ∧ ns ≠ [] := fun j hj => by
      have hj' : j < vks.length := by rw [rk.length]; exact hj
      obtain ⟨ns, e1, b, e2, e3, e4⟩ := Paired.get hK (List.getElem?_eq_getElem hj')
      obtain ⟨u, e5, e6⟩ := rk.get (List.getElem?_eq_getElem hj')
      rw [e2] at e6
      cases (show u = Value.ref b from e6)
      obtain ⟨_, its, ri, o, h1, h2, n, h3⟩ := (show ObjOk X.prog X.w H' s'.heap b (.tup (ns.map V.int)) from I'.hok b _ e3)
      exact ⟨b, o, its, n, ns, e5, e1, h1, h2, h3, intsAre_of ri, e4⟩
    refine ⟨tuples' true, rankOf nss, fun h2 Q' E' hq => ?_, fun h2 i j C hi hj hC => ?_, fun p h' c hp hu kp hD => ?_⟩
    · have kt : ∀ (l : List Value) (off : Nat), (∀ j, j < l.length → ∃ b o its n ns, l[j]? = some (.ref b) ∧ nss[off + j]? = some ns ∧ s'.heap.get? b = some o ∧ o.cls = .type "tuple" ∧ o.data = .seq (List.toArray its) n ∧ IntsAre its ns ∧ ns ≠ []) →
          ∃ fs, KatTups s'.heap l fs ∧ fs.length = l.length ∧ ∀ v ∈ fs, ∃ n t, v = .int n t := by
        intro l
        induction l with
        | nil => intro off _; exact ⟨[], trivial, rfl, fun v hv => nomatch hv⟩
        | cons x l ih =>
          intro off ht
          obtain ⟨b, o, its, n, ns, e1, e2, e3, e4, e5, e6, e7⟩ := ht 0 (by simp)
          simp at e1
          subst e1
          obtain ⟨fs, k1, k2, k3⟩ := ih (off + 1) fun j hj => by
            obtain ⟨b, o, its, n, ns, q1, q2, q3⟩ := ht (j + 1) (by simpa using hj)
            exact ⟨b, o, its, n, ns, by simpa using q1, by rw [show off + 1 + j = off + (j + 1) by omega]; exact q2, q3⟩
          cases e6 with
          | nil => exact absurd rfl e7
          | cons m t r =>
            refine ⟨_ :: fs, KatTups.cons e3 e4 e5 (f := .int m t) (by simp) k1, by simp [k2], fun v hv => ?_⟩
            rcases List.mem_cons.mp hv with rfl | hv
            · exact ⟨m, t, rfl⟩
            · exact k3 v hv
      obtain ⟨fs, k1, k2, k3⟩ := kt ks 0 fun j hj => by simpa using tup j hj
      refine kat_kind (T := .type "int") k1 (by rw [k2, hlk]; omega) (fun v hv => ?_) rfl hq
      obtain ⟨n, t, rfl⟩ := k3 v hv
      exact .now
    · obtain ⟨b1, o1, i1, n1, s1, a1, a2, a3, a4, a5, a6, a7⟩ := tup i (by omega)
      obtain ⟨b2, o2, i2, n2, s2, c1, c2, c3, c4, c5, c6, c7⟩ := tup j (by omega)
      unfold kas_ask
      rw [List.getD_eq_getElem?_getD, List.getD_eq_getElem?_getD, a1, c1]
      refine kat_lt a3 a5 c3 c5 (lex_kat 0 a6 c6 (by simp) ?_)
      have hi' : i < nss.length := by omega
      have hj' : j < nss.length := by omega
      rw [rank_iff hi' hj'] at hC
      rw [List.getElem?_eq_getElem hi'] at a2
      rw [List.getElem?_eq_getElem hj'] at c2
      cases a2
      cases c2
      exact hC
    · have hpl : p.toList.Perm (List.range vs.length) := by have := Array.perm_iff_toList_perm.mp hp; simpa using this
      have hpn : p.toList.length = vs.length := by rw [hpl.length_eq]; simp
      have hlt : ∀ i ∈ p.toList, i < xs.length := fun i hi => by have := hpl.mem_iff.mp hi; rw [List.mem_range] at this; omega
      have so : SortOut nss xs (p.toList.map fun i => xs.getD i .non) := by
        refine ⟨p.toList, by rw [hl]; exact hpl, rfl, fun i j hij hj => ?_⟩
        have u := hu i j hij (by omega)
        have g : ∀ m, m < p.toList.length → p.getD m 0 = p.toList.getD m 0 ∧ p.toList.getD m 0 < nss.length := fun m hm => by
          have hm' : m < p.size := by simpa using hm
          refine ⟨by simp [Array.getD, hm'], ?_⟩
          have : p.toList.getD m 0 ∈ p.toList := by
            rw [List.getD_eq_getElem?_getD, List.getElem?_eq_getElem hm]; exact List.getElem_mem hm
          have := hlt _ this
          omega
        obtain ⟨gi, li⟩ := g i (by omega)
        obtain ⟨gj, lj⟩ := g j hj
        have ei : nss.getD (p.toList.getD i 0) [] = nss[p.toList.getD i 0] := getD_get li
        have ej : nss.getD (p.toList.getD j 0) [] = nss[p.toList.getD j 0] := getD_get lj
        rw [ei, ej, ← rank_iff lj li]
        refine decide_eq_false ?_
        have u' : rankOf nss (p.getD i 0) ≤ rankOf nss (p.getD j 0) := u
        rw [gi, gj] at u'
        omega
      refine ⟨.ref D, upd H' D (.lst (p.toList.map fun i => xs.getD i .non)), ?_, rfl, fin _ D fD.1 so⟩
      refine I'.adopt fk fD kp hD (vals_pick rv p.toList hlt) ?_
      · rw [List.length_map, hpn, sizeLine_eq]; omega
end
end L2
set_option Elab.async false
set_option linter.all false
set_option maxRecDepth 100000
set_option genSizeOf false
set_option bootstrap.genMatcherCode false
namespace DL
open PySem
mutual
def pl : D → Bool
  | .non => true
  | .int _ => true
  | .str x => (PyData.str x).canLay0
  | .tup xs => plL xs
  | .lst xs => plL xs
  | _ => false
def plL : List D → Bool
  | [] => true
  | d :: ds => pl d && plL ds
end
mutual
def dep : D → Nat
  | .tup xs => depL xs + 1
  | .lst xs => depL xs + 1
  | _ => 0
def depL : List D → Nat
  | [] => 0
  | d :: ds => max (dep d) (depL ds)
end
mutual
theorem lay_pl : ∀ d : D, pl d = true → (toP d).canLay0 = true
  | .non, _ => by rw [toP]; rfl
  | .int _, _ => by rw [toP]; rfl
  | .str x, h => by rw [pl] at h; rw [toP]; exact h
  | .tup xs, h => by rw [pl] at h; rw [toP, PyData.canLay0]; exact lay_plL xs h
  | .lst xs, h => by rw [pl] at h; rw [toP, PyData.canLay0]; exact lay_plL xs h
  | .bl _, h => by simp [pl] at h
  | .scr _, h => by simp [pl] at h
  | .obj _, h => by simp [pl] at h
theorem lay_plL : ∀ ds : List D, plL ds = true → PyData.canLayAll0 (toPs ds) = true
  | [], _ => by rw [toPs]; rfl
  | d :: ds, h => by
    rw [plL, Bool.and_eq_true] at h
    rw [toPs, PyData.canLayAll0, Bool.and_eq_true]
    exact ⟨lay_pl d h.1, lay_plL ds h.2⟩
end
mutual
theorem dep_pl : ∀ d : D, pl d = true → (toP d).depth = dep d
  | .non, _ => by rw [toP, dep]; rfl; all_goals (intro _ z; cases z)
  | .int _, _ => by rw [toP, dep]; rfl; all_goals (intro _ z; cases z)
  | .str x, h => by rw [toP, dep]; rfl; all_goals (intro _ z; cases z)
  | .tup xs, h => by rw [pl] at h; rw [toP, dep, PyData.depth, dep_plL xs h]
  | .lst xs, h => by rw [pl] at h; rw [toP, dep, PyData.depth, dep_plL xs h]
  | .bl _, h => by simp [pl] at h
  | .scr _, h => by simp [pl] at h
  | .obj _, h => by simp [pl] at h
theorem dep_plL : ∀ ds : List D, plL ds = true → PyData.depthAll (toPs ds) = depL ds
  | [], _ => by rw [toPs, depL]; rfl
  | d :: ds, h => by
    rw [plL, Bool.and_eq_true] at h
    rw [toPs, depL, PyData.depthAll, dep_pl d h.1, dep_plL ds h.2]
end
theorem shaped_pl {d : D} (h : pl d = true) (hd : dep d ≤ 64) : SeqAt.shaped (toP d) = true := by
  unfold SeqAt.shaped
  rw [lay_pl d h, dep_pl d h]
  simp [hd]
mutual
theorem eqv_pl : ∀ (p q : D), pl p = true → pl q = true → (PyData.eqv (toP p) (toP q) = true ↔ p = q)
  | .non, q, _, hq => by cases q <;> simp [toP, PyData.eqv, pl] at hq ⊢
  | .int i, q, _, hq => by cases q <;> simp [toP, PyData.eqv, pl] at hq ⊢
  | .str x, q, _, hq => by cases q <;> simp [toP, PyData.eqv, pl] at hq ⊢
  | .tup xs, q, hp, hq => by
    cases q with
    | tup ys =>
      rw [pl] at hp hq
      rw [toP, toP, PyData.eqv, eqv_plL xs ys hp hq]
      exact ⟨fun h => by rw [h], fun h => by injection h⟩
    | _ => simp [toP, PyData.eqv, pl] at hq ⊢
  | .lst xs, q, hp, hq => by
    cases q with
    | lst ys =>
      rw [pl] at hp hq
      rw [toP, toP, PyData.eqv, eqv_plL xs ys hp hq]
      exact ⟨fun h => by rw [h], fun h => by injection h⟩
    | _ => simp [toP, PyData.eqv, pl] at hq ⊢
  | .bl _, _, h, _ => by simp [pl] at h
  | .scr _, _, h, _ => by simp [pl] at h
  | .obj _, _, h, _ => by simp [pl] at h
theorem eqv_plL : ∀ (ps qs : List D), plL ps = true → plL qs = true → (PyData.eqvAll (toPs ps) (toPs qs) = true ↔ ps = qs)
  | [], [], _, _ => by simp [toPs, PyData.eqvAll]
  | [], _ :: _, _, _ => by simp [toPs, PyData.eqvAll]
  | _ :: _, [], _, _ => by simp [toPs, PyData.eqvAll]
  | p :: ps, q :: qs, hp, hq => by
    rw [plL, Bool.and_eq_true] at hp hq
    rw [toPs, toPs, PyData.eqvAll, Bool.and_eq_true, eqv_pl p q hp.1 hq.1, eqv_plL ps qs hp.2 hq.2]
    exact ⟨fun h => by rw [h.1, h.2], fun h => by injection h with a b; exact ⟨a, b⟩⟩
end
theorem eq_self_pl (neg : Bool) {p : D} (h : pl p = true) (hd : dep p ≤ 64) : eqD neg p p = some (.bl (!neg)) := by
  unfold eqD
  rw [shaped_pl h hd, (eqv_pl p p h h).mpr rfl]
  cases neg <;> rfl
theorem eq_ne_pl (neg : Bool) {p q : D} (hp : pl p = true) (hq : pl q = true) (dp : dep p ≤ 64) (dq : dep q ≤ 64) (n : p ≠ q) : eqD neg p q = some (.bl neg) := by
  unfold eqD
  have e : PyData.eqv (toP p) (toP q) = false := by
    cases z : PyData.eqv (toP p) (toP q) with
    | false => rfl
    | true => exact absurd ((eqv_pl p q hp hq).mp z) n
  rw [shaped_pl hp dp, shaped_pl hq dq, e]
  cases neg <;> rfl
end DL
set_option Elab.async false
set_option linter.all false
set_option maxRecDepth 100000
set_option genSizeOf false
set_option bootstrap.genMatcherCode false
namespace KS
open PySem PySem.W PySem.Calls PyProof.Rows
section
variable {prog : Program} {w : World} {A : Around} {E : Value → Shared → Prop} {s : Shared} {a : Addr} {vs : List Value}
theorem pick_all (vs : List Value) : ((List.toArray (List.range vs.length)).toList.map fun i => vs.getD i Value.none) = vs := by
  rw [List.toList_toArray]
  apply List.ext_getElem?
  intro i
  rw [List.getElem?_map]
  by_cases hi : i < vs.length
  · simp [hi]
  · simp [List.getElem?_eq_none (Nat.le_of_not_lt hi), List.getElem?_eq_none (show (List.range vs.length).length ≤ i by simp; omega)]
def PEnd (prog : Program) (w : World) (A : Around) (vs : List Value) (a : Addr) (s : Shared) (P : Shared → Prop) : Prop := ∃ (κ : SortKind) (r : Nat → Nat), (2 ≤ vs.length → ∀ (Q : SortKind → Shared → Prop) (E : Value → Shared → Prop), Q κ s → wpAny (model prog w) A (keyKind' vs.toArray) Q E s) ∧
  (2 ≤ vs.length → ∀ (i j : Nat) (C : Bool → Shared → Prop), i < vs.length → j < vs.length → C (ltR r i j) s → kas_ask prog w A κ vs i j C s) ∧
  ∀ (p : Array Nat) h' c, p.Perm (List.range vs.length).toArray → Up r p vs.length → Kept s h' [a] → h'.get? a = some (seqObj "list" (List.toArray (p.toList.map fun i => vs.getD i Value.none)) c) → P { s with heap := h' }
theorem plain_sort {n : Nat} {P : PySem.Fin → Shared → Prop} (ho : s.heap.get? a = some (seqObj "list" vs.toArray n)) (h64 : vs.length < 64)
    (h : ∀ e1 h', (∀ b o, b ≠ a → s.heap.get? b = some o → h'.get? b = some o) → h'.get? a = some (seqObj "list" #[] e1) → PEnd prog w A vs a { s with heap := h' } fun s3 => P (.done (.ret .none)) s3) :
    wpAny (model prog w) A (Builtin.«list.sort» ⟨[.ref a], []⟩) P E s := by
  have s1 := Heap.SameBut.update s.heap a (Obj.mapSeq fun _ => (#[] : Array Value))
  obtain ⟨e1, ho1⟩ : ∃ e1, (s.heap.update a (Obj.mapSeq fun _ => (#[] : Array Value))).get? a = some (seqObj "list" #[] e1) := ⟨_, get?_update_seq ho fun _ => #[]⟩
  obtain ⟨κ, r, hkind, hcmp, fin⟩ := h e1 (((s.heap.update a (Obj.mapSeq fun _ => (#[] : Array Value))).push (seqObj "tuple" vs.toArray 0)).push (seqObj "list" #[] 0))
    (fun b o hb q => Heap.get?_push_of_some _ (Heap.get?_push_of_some _ ((s1.2 b hb).trans q))) (Heap.get?_push_of_some _ (Heap.get?_push_of_some _ ho1))
  have na : (((s.heap.update a (Obj.mapSeq fun _ => (#[] : Array Value))).push (seqObj "tuple" vs.toArray 0)).push (seqObj "list" #[] 0)).get? a = some (seqObj "list" #[] e1) := Heap.get?_push_of_some _ (Heap.get?_push_of_some _ ho1)
  rw [list_sort_plain]; refine wpAny_bind (listItems_at ho rfl ?_)
  refine wpAny_bind (listUpdate_at ho rfl ?_ (by rw [List.size_toArray, sizeLine_eq]; omega) (Nat.zero_le _)); refine wpAny_bind (seqEpoch_at ho1 rfl ?_)
  refine wpAny_bind (wpAny_newTuple ?_ (by show vs.length ≤ _; rw [sizeLine_eq]; omega)); refine wpAny_bind (wpAny_newList ?_ (Nat.zero_le _)); refine wpAny_holding ?_
  show wpAny (model prog w) A _ P E { s with heap := ((s.heap.update a (Obj.mapSeq fun _ => (#[] : Array Value))).push (seqObj "tuple" vs.toArray 0)).push (seqObj "list" #[] 0) }
  generalize ((s.heap.update a (Obj.mapSeq fun _ => (#[] : Array Value))).push (seqObj "tuple" vs.toArray 0)).push (seqObj "list" #[] 0) = hh at *
  try dsimp only
  by_cases hn : vs.length < 2
  · have hn2 : vs.toArray.size < 2 := by rw [List.size_toArray]; exact hn
    rw [if_pos hn2, if_pos hn2]; refine wpAny_bind (wpAny_pure ?_)
    rw [StateT.run_pure]; refine wpAny_bind (wpAny_pure ?_)
    try dsimp only
    have s2 := Heap.SameBut.update hh a (Obj.mapSeq fun _ => List.toArray vs)
    obtain ⟨c2, hc2⟩ : ∃ c2, (hh.update a (Obj.mapSeq fun _ => List.toArray vs)).get? a = some (seqObj "list" (List.toArray vs) c2) := ⟨_, get?_update_seq na fun _ => List.toArray vs⟩
    have hout : ∀ κ : SortKind, (arrOf (SortSt.mk' κ (vs.toArray.zip vs.toArray) #[] 7 none)).map (·.2) = List.toArray vs := fun κ => by
      show ((vs.toArray.zip vs.toArray).map (·.2)) = List.toArray vs
      apply Array.toList_inj.mp
      rw [Array.toList_map, ksk_zip]; exact List.map_snd_zip (Nat.le_refl _)
    have hf : ∀ κ : SortKind, failedOf (SortSt.mk' κ (vs.toArray.zip vs.toArray) #[] 7 none) = none := fun _ => rfl
    rw [hout]; refine wpAny_bind (seqEpoch_at na rfl ?_)
    refine wpAny_bind (listUpdate_at na rfl ?_ (Nat.zero_le _) (by rw [List.size_toArray, sizeLine_eq]; omega))
    simp only [bne_self_eq_false, Bool.false_eq_true, if_false]
    exact wpAny_pure (fin (List.toArray (List.range vs.length)) _ c2 (Array.Perm.refl _) (fun i j x y => by have : i = j := (by omega); subst this; exact Nat.le_refl _) (fun b o hb q => (s2.2 b (by simpa using hb)).trans q) (by rw [pick_all]; exact hc2))
  · have h2 : 2 ≤ vs.length := by omega
    have hn2 : ¬ vs.toArray.size < 2 := by rw [List.size_toArray]; omega
    rw [if_neg hn2, if_neg hn2]; refine wpAny_bind (hkind h2 _ _ ?_)
    have run := kw_run (s := { s with heap := hh }) (Q' := fun p s' => s' = { s with heap := hh } ∧ Pm vs.length p ∧ Up r p vs.length) (hcmp h2) (fun p hp => ⟨rfl, hp⟩) _ (sort (N := vs.length) (r := r) (Q := fun p => Pm vs.length p ∧ Up r p vs.length) h2 fun p h1 h2 => ⟨h1, h2⟩)
    refine wpAny_bind (wpAny_mono (kat_run (Q := fun st' s' => ∃ p : Array Nat, arrOf st' = p.map (kas_item (vs.toArray.zip vs.toArray)) ∧ failedOf st' = none ∧ s' = { s with heap := hh } ∧ Pm vs.length p ∧ Up r p vs.length) rfl h2 h64 (fun p' st' s' a1 a2 a3 a4 => ⟨p', a2, a3, a4⟩) run) ?_ fun _ _ e => e)
    rintro ⟨⟨⟩, st'⟩ s' ⟨p, har, hf, rfl, hp, hu⟩
    try dsimp only
    have hout := kat_snds rfl har
    have hsz : (List.toArray (p.toList.map fun i => vs.getD i Value.none)).size = vs.length := by rw [List.size_toArray, List.length_map, Array.length_toList, hp.size]
    rw [hout]
    have s2 := Heap.SameBut.update hh a (Obj.mapSeq fun _ => List.toArray (p.toList.map fun i => vs.getD i Value.none))
    obtain ⟨c2, hc2⟩ : ∃ c2, (hh.update a (Obj.mapSeq fun _ => List.toArray (p.toList.map fun i => vs.getD i Value.none))).get? a = some (seqObj "list" (List.toArray (p.toList.map fun i => vs.getD i Value.none)) c2) := ⟨_, get?_update_seq na fun _ => _⟩
    refine wpAny_bind (seqEpoch_at na rfl ?_)
    refine wpAny_bind (listUpdate_at na rfl ?_ (Nat.zero_le _) (Nat.le_trans (Nat.le_of_eq hsz) (by rw [sizeLine_eq]; omega)))
    rw [hf]; simp only [bne_self_eq_false, Bool.false_eq_true, if_false]
    exact wpAny_pure (fin p _ c2 hp.perm hu (fun b o hb q => (s2.2 b (by simpa using hb)).trans q) hc2)
theorem sortedP {it : Value} {Q : Value → Shared → Prop} (hcol : ∀ (A : Around) (E : Value → Shared → Prop) (Q' : List Value → Shared → Prop), (∀ h1, Kept s h1 [] → Q' vs { s with heap := h1 }) → wpAny (model prog w) A (collect it) Q' E s) (h64 : vs.length < 64)
    (hend : ∀ h1 D e1 h', Kept s h1 [] → h1.objs.size ≤ D → (∀ b o, h1.get? b = some o → h'.get? b = some o) → h'.get? D = some (seqObj "list" #[] e1) → PEnd prog w A.in1.in1 vs D { s with heap := h' } fun s3 => Q (.ref D) s3) :
    wpAny (model prog w) A (call (.builtin "sorted") [it]) Q E s := by
  refine Calls.call_function_entry kind_sorted plain_sorted entry_sorted (args_sorted1 _) ?_
  unfold Builtin.«sorted»; refine wpAny_bind (m := checkCount "sorted" 1 1 _) (wpAny_pure ?_)
  refine wpAny_bind (hcol _ _ _ fun h1 keep1 => ?_); refine wpAny_bind (wpAny_newList ?_ (by rw [sizeLine_eq]; omega))
  have oL : (h1.push (seqObj "list" vs.toArray 0)).get? h1.objs.size = some (seqObj "list" vs.toArray 0) := Heap.get?_push_size _ rfl
  have keep : ∀ b o, h1.get? b = some o → (h1.push (seqObj "list" vs.toArray 0)).get? b = some o := fun b o q => Heap.get?_push_of_some _ q
  show wpAny _ _ _ _ _ { s with heap := h1.push (seqObj "list" vs.toArray 0) }
  refine wpAny_bind (wpAny_holding (wpAny_call_entry slot_list_sort ⟨_, oL, rfl⟩ entry_list_sort ?body (args_list_sort _)))
  case body =>
    refine plain_sort (s := { s with heap := h1.push (seqObj "list" vs.toArray 0) }) oL h64 fun e1 h' kp hD => ?_
    obtain ⟨κ, r, p1, p2, p3⟩ := hend h1 h1.objs.size e1 h' keep1 (Nat.le_refl _) (fun b o q => kp b o (Nat.ne_of_lt (Heap.lt_size q)) (keep b o q)) hD
    exact ⟨κ, r, p1, p2, fun p h'' c hp hu k1 k2 => ⟨_, rfl, wpAny_pure ⟨_, rfl, p3 p h'' c hp hu k1 k2⟩⟩⟩
end
end KS
set_option Elab.async false
set_option linter.all false
set_option maxRecDepth 100000
set_option genSizeOf false
set_option bootstrap.genMatcherCode false
namespace L2
open PySem PySem.Spec PyProof.Rows KS PySem.W
def PairsAre (H : Hp) (xs : List V) (nss : List (List Int)) : Prop := Paired (fun (v : V) (ns : List Int) => ∃ b c i j k, v = .ref b ∧ H b = some (.tup [.ref c, .int k]) ∧ H c = some (.tup [.int i, .int j]) ∧ ns = [i, j, k]) xs nss
section
variable {X : Cx} {pins : List (Addr × Obj)} {σ : St} {H : Hp} {s : Shared}
theorem ask_pair {prog : Program} {w : World} {A : Around} {P : Program} {W : World} {C : Bool → Shared → Prop} (hu : A.units < cLine) (ok : HOk P W H s.heap) {b1 c1 b2 c2 : Addr} {i1 j1 k1 i2 j2 k2 : Int}
    (hb1 : H b1 = some (.tup [.ref c1, .int k1])) (hc1 : H c1 = some (.tup [.int i1, .int j1])) (hb2 : H b2 = some (.tup [.ref c2, .int k2])) (hc2 : H c2 = some (.tup [.int i2, .int j2])) (h : C (HT.lexLt [i1, j1, k1] [i2, j2, k2]) s) :
    wpAny (model prog w) A (keyLt' (tuples' false) (.ref b1) (.ref b2)) C (fun _ _ => False) s := by
  obtain ⟨_, its1, r1, o1, g1, t1, n1, d1⟩ := (show ObjOk P W H s.heap b1 (.tup [.ref c1, .int k1]) from ok b1 _ hb1)
  obtain ⟨_, its2, r2, o2, g2, t2, n2, d2⟩ := (show ObjOk P W H s.heap b2 (.tup [.ref c2, .int k2]) from ok b2 _ hb2)
  obtain ⟨_, jts1, q1, p1, f1, y1, m1, x1⟩ := (show ObjOk P W H s.heap c1 (.tup ([i1, j1].map V.int)) from ok c1 _ hc1)
  obtain ⟨_, jts2, q2, p2, f2, y2, m2, x2⟩ := (show ObjOk P W H s.heap c2 (.tup ([i2, j2].map V.int)) from ok c2 _ hc2)
  have kx : IsTupleKey (mixKind prog w) s.heap [.inl i1, .inl j1] c1 := ⟨p1, jts1.toArray, m1, f1, y1, x1, by simpa using items_are (ks := [.inl i1, .inl j1]) q1⟩
  have ky : IsTupleKey (mixKind prog w) s.heap [.inl i2, .inl j2] c2 := ⟨p2, jts2.toArray, m2, f2, y2, x2, by simpa using items_are (ks := [.inl i2, .inl j2]) q2⟩
  cases r1 with
  | cons u1 r1 => cases r1 with
    | cons v1 r1 => cases r1; cases r2 with
      | cons u2 r2 => cases r2 with
        | cons v2 r2 =>
          cases r2
          cases u1
          cases u2
          obtain ⟨z1, rfl⟩ := v1
          obtain ⟨z2, rfl⟩ := v2
          refine kat_lt g1 d1 g2 d2 ?_
          show KatLex prog w A false _ C [(Value.ref c1, Value.ref c2), (Value.int k1 z1, Value.int k2 z2)] 0 s
          refine kat_cons (wpAny_eqBool_tuple hu kx ky ?_)
          by_cases e : i1 = i2 ∧ j1 = j2
          · obtain ⟨rfl, rfl⟩ := e
            rw [decide_eq_true rfl]
            refine kat_yes (lex_kat (xs := [Value.int k1 z1]) (ys := [Value.int k2 z2]) 1 (.cons k1 z1 .nil) (.cons k2 z2 .nil) (by simp) ?_)
            simpa [HT.lexLt_cons] using h
          · refine kat_go (fun z => absurd (by simpa using of_decide_eq_true z) e) fun _ => kat_no ?_
            show wpAny (model prog w) A (oneLt' false (.ref c1) (.ref c2)) C _ s
            refine kat_one _ _ (HT.lt_tupInts ⟨p1, f1, y1, m1, x1⟩ ⟨p2, f2, y2, m2, x2⟩ (by simpa using intsAre_of q1) (by simpa using intsAre_of q2) hu ?_)
            show C (HT.lexLt [i1, j1] [i2, j2]) s
            have : HT.lexLt [i1, j1] [i2, j2] = HT.lexLt [i1, j1, k1] [i2, j2, k2] := by
              simp only [HT.lexLt_cons]
              by_cases e1 : i1 = i2
              · by_cases e2 : j1 = j2
                · exact absurd ⟨e1, e2⟩ e
                · simp [e1, e2]
              · simp [e1]
            rw [this]; exact h
theorem run_sortP {it : Value} {vs : List Value} {xs : List V} {Q : VK} {nss : List (List Int)} (hu : X.A.units + 64 < cLine) (I : Inv X pins σ H s) (rv : Vals xs vs) (h64 : xs.length < 64)
    (hcol : ∀ (A : Around) (E : Value → Shared → Prop) (Q' : List Value → Shared → Prop), (∀ h1, Kept s h1 [] → Q' vs { s with heap := h1 }) → wpAny (model X.prog X.w) A (collect it) Q' E s)
    (hP : PairsAre H xs nss) (fin : ∀ out p, H p = none → SortOut nss xs out → Q (.ref p) (upd H p (.lst out))) :
    wpAny (model X.prog X.w) X.A (call (.builtin "sorted") [it]) (EP X pins σ Q) X.xe s := by
  have hl := rv.length
  have hnl : xs.length = nss.length := Paired.length hP
  refine sortedP hcol (by omega) fun h1 D e1 h' k1 zD kk oD => ?_
  have I1 : Inv X pins σ H { s with heap := h1 } := I.kept (t' := s.toks) fun b u q => k1 b u (by simp) q
  have fD := I1.fpOk zD (I1.hok.fresh zD)
  have I2 : Inv X pins σ H { s with heap := h' } := I1.kept (t' := s.toks) kk
  have hu2 : X.A.in1.in1.units < cLine := by show X.A.units + 1 + 1 < cLine; omega
  have at_ : ∀ j, j < vs.length → ∃ b c i' j' k', vs[j]? = some (.ref b) ∧ nss[j]? = some [i', j', k'] ∧ H b = some (.tup [.ref c, .int k']) ∧ H c = some (.tup [.int i', .int j']) := fun j hj => by
    have hj' : j < xs.length := by omega
    obtain ⟨ns, e1, b, c, i', j', k', e2, e3, e4, e5⟩ := Paired.get hP (List.getElem?_eq_getElem hj')
    obtain ⟨u, e6, e7⟩ := rv.get (List.getElem?_eq_getElem hj')
    rw [e2] at e7
    cases (show u = Value.ref b from e7)
    exact ⟨b, c, i', j', k', e6, by rw [e1, e5], e3, e4⟩
  refine ⟨tuples' false, rankOf nss, fun h2 Q' E' hq => ?_, fun h2 i j C hi hj hC => ?_, fun p h'' c hp hup kp hD => ?_⟩
  · have kt : ∀ (l : List Value) (off : Nat), (∀ j, j < l.length → ∃ b c i' j' k', l[j]? = some (.ref b) ∧ nss[off + j]? = some [i', j', k'] ∧ H b = some (.tup [.ref c, .int k']) ∧ H c = some (.tup [.int i', .int j'])) →
        ∃ fs, KatTups h' l fs ∧ fs.length = l.length ∧ ∀ v ∈ fs, Looks (model X.prog X.w) h' (typeOf v) (.type "tuple") := by
      intro l
      induction l with
      | nil => intro off _; exact ⟨[], trivial, rfl, fun v hv => nomatch hv⟩
      | cons x l ih =>
        intro off ht
        obtain ⟨b, c, i', j', k', e1, e2, e3, e4⟩ := ht 0 (by simp)
        simp at e1
        subst e1
        obtain ⟨fs, q1, q2, q3⟩ := ih (off + 1) fun j hj => by
          obtain ⟨b, c, i', j', k', z1, z2, z3⟩ := ht (j + 1) (by simpa using hj)
          exact ⟨b, c, i', j', k', by simpa using z1, by rw [show off + 1 + j = off + (j + 1) by omega]; exact z2, z3⟩
        obtain ⟨_, its1, r1, o1, g1, t1, n1, d1⟩ := (show ObjOk X.prog X.w H h' b (.tup [.ref c, .int k']) from I2.hok b _ e3)
        obtain ⟨_, jts1, r2, p1, f1, y1, m1, x1⟩ := (show ObjOk X.prog X.w H h' c (.tup [.int i', .int j']) from I2.hok c _ e4)
        cases r1 with
        | cons u1 r1 =>
          cases u1
          refine ⟨.ref c :: fs, KatTups.cons g1 t1 d1 (by simp) q1, by simp [q2], fun v hv => ?_⟩
          rcases List.mem_cons.mp hv with rfl | hv
          · rw [← y1]
            exact (show Looks (model X.prog X.w) h' (typeOf (.ref c)) p1.cls from (Looks.ld f1).andThen .now)
          · exact q3 v hv
    obtain ⟨fs, q1, q2, q3⟩ := kt vs 0 fun j hj => by simpa using at_ j hj
    refine kat_kind (T := .type "tuple") q1 (by rw [q2]; omega) q3 (by first | rfl | decide | simp) ?_
    have : (Value.type "tuple" != Value.type "tuple") = false := by first | rfl | decide | simp
    rw [this]; exact hq
  · obtain ⟨b1, c1, i1, j1, k1', a1, a2, a3, a4⟩ := at_ i hi
    obtain ⟨b2, c2, i2, j2, k2', g1, g2, g3, g4⟩ := at_ j hj
    unfold kas_ask
    rw [List.getD_eq_getElem?_getD, List.getD_eq_getElem?_getD, a1, g1]
    have hi' : i < nss.length := by omega
    have hj' : j < nss.length := by omega
    rw [rank_iff hi' hj'] at hC
    rw [List.getElem?_eq_getElem hi'] at a2
    rw [List.getElem?_eq_getElem hj'] at g2
    rw [Option.some.inj a2, Option.some.inj g2] at hC
    exact ask_pair hu2 I2.hok a3 a4 g3 g4 hC
  · have hpl : p.toList.Perm (List.range vs.length) := by have := Array.perm_iff_toList_perm.mp hp; simpa using this
    have hpn : p.toList.length = vs.length := by rw [hpl.length_eq]; simp
    have hlt : ∀ i ∈ p.toList, i < xs.length := fun i hi => by have := hpl.mem_iff.mp hi; rw [List.mem_range] at this; omega
    have so : SortOut nss xs (p.toList.map fun i => xs.getD i .non) := by
      refine ⟨p.toList, by rw [hl]; exact hpl, rfl, fun i j hij hj => ?_⟩
      have u := hup i j hij (by omega)
      have g : ∀ m, m < p.toList.length → p.getD m 0 = p.toList.getD m 0 ∧ p.toList.getD m 0 < nss.length := fun m hm => by
        have hm' : m < p.size := by simpa using hm
        refine ⟨by simp [Array.getD, hm'], ?_⟩
        have : p.toList.getD m 0 ∈ p.toList := by
          rw [List.getD_eq_getElem?_getD, List.getElem?_eq_getElem hm]; exact List.getElem_mem hm
        have := hlt _ this
        omega
      obtain ⟨gi, li⟩ := g i (by omega)
      obtain ⟨gj, lj⟩ := g j hj
      rw [getD_get li, getD_get lj, ← rank_iff lj li]
      refine decide_eq_false ?_
      have u' : rankOf nss (p.getD i 0) ≤ rankOf nss (p.getD j 0) := u
      rw [gi, gj] at u'
      omega
    refine ⟨.ref D, upd H D (.lst (p.toList.map fun i => xs.getD i .non)), ?_, rfl, fin _ D fD.1 so⟩
    refine I2.adopt fD fD (fun b o hb q => kp b o (by simpa using hb) q) hD (vals_pick rv p.toList hlt) ?_
    rw [List.length_map, hpn, sizeLine_eq]; omega
end
end L2
set_option Elab.async false
set_option linter.all false
set_option maxRecDepth 100000
set_option genSizeOf false
set_option bootstrap.genMatcherCode false
namespace DL
open PySem PySem.Spec PyProof.Rows L2
def leK (a b : List Int × D) : Bool := !HT.lexLt b.1 a.1
def srt (nss : List (List Int)) (ds : List D) : List D := ((nss.zip ds).mergeSort leK).map (·.2)
def OneKey (nss : List (List Int)) (ds : List D) : Prop := ∀ a ∈ nss.zip ds, ∀ b ∈ nss.zip ds, a.1 = b.1 → a = b
theorem leK_trans (a b c : List Int × D) (h1 : leK a b = true) (h2 : leK b c = true) : leK a c = true := by
  unfold leK at *
  cases h : HT.lexLt c.1 a.1 with
  | false => rfl
  | true =>
    rcases lexLt_neg c.1 b.1 a.1 h with q | q
    · rw [q] at h2; cases h2
    · rw [q] at h1; cases h1
theorem leK_total (a b : List Int × D) : (leK a b || leK b a) = true := by
  unfold leK
  cases h : HT.lexLt b.1 a.1 with
  | false => rfl
  | true =>
    cases h2 : HT.lexLt a.1 b.1 with
    | false => rfl
    | true =>
      have := lexLt_trans a.1 b.1 a.1 h2 h
      rw [lexLt_irrefl] at this
      cases this
theorem map_range_getD {β : Type} (l : List β) (d : β) : (List.range l.length).map (fun i => l.getD i d) = l := by
  apply List.ext_getElem?
  intro i
  rw [List.getElem?_map]
  by_cases hi : i < l.length
  · simp [hi]
  · simp [List.getElem?_eq_none (Nat.le_of_not_lt hi), List.getElem?_eq_none (show (List.range l.length).length ≤ i by simp; omega)]
theorem srt_unique {nss : List (List Int)} {ds : List D} {p : List Nat} (hl : nss.length = ds.length) (ok : OneKey nss ds) (hp : p.Perm (List.range ds.length)) (hu : ∀ i j, i ≤ j → j < p.length → HT.lexLt (nss.getD (p.getD j 0) []) (nss.getD (p.getD i 0) []) = false) :
    p.map (fun i => ds.getD i .non) = srt nss ds := by
  have hz : (nss.zip ds).length = ds.length := by simp [hl]
  have hlt : ∀ i ∈ p, i < ds.length := fun i hi => by simpa using hp.mem_iff.mp hi
  have eZ : ∀ i, i < ds.length → (nss.zip ds).getD i ([], .non) = (nss.getD i [], ds.getD i .non) := fun i hi => by
    have h1 : i < nss.length := by omega
    have h2 : i < (nss.zip ds).length := by omega
    rw [getD_get h1, getD_get hi, getD_get h2, List.getElem_zip]
  have e1 : p.map (fun i => ds.getD i .non) = (p.map fun i => (nss.zip ds).getD i ([], .non)).map (·.2) := by
    rw [List.map_map]
    apply List.map_congr_left
    intro i hi
    show _ = ((nss.zip ds).getD i ([], .non)).2
    rw [eZ i (hlt i hi)]
  rw [e1]
  unfold srt
  congr 1
  have pm : (p.map fun i => (nss.zip ds).getD i ([], .non)).Perm (nss.zip ds) := by
    have := hp.map fun i => (nss.zip ds).getD i ([], .non)
    rw [← hz, map_range_getD] at this
    exact this
  refine List.Perm.eq_of_pairwise (le := fun a b => leK a b = true) ?_ ?_ (List.pairwise_mergeSort leK_trans leK_total _) (pm.trans (List.mergeSort_perm _ _).symm)
  · intro a b ha hb h1 h2
    refine ok a (pm.mem_iff.mp ha) b ((List.mergeSort_perm _ _).mem_iff.mp hb) ?_
    unfold leK at h1 h2
    exact lexLt_eq a.1 b.1 (by simpa using h2) (by simpa using h1)
  · rw [List.pairwise_iff_getElem]
    intro i j hi hj hij
    rw [List.length_map] at hi hj
    have hu' := hu i j (by omega) hj
    rw [getD_get hi, getD_get hj] at hu'
    rw [List.getElem_map, List.getElem_map, eZ _ (hlt _ (List.getElem_mem hi)), eZ _ (hlt _ (List.getElem_mem hj))]
    unfold leK
    dsimp only
    rw [hu']; rfl
noncomputable def sortOf (nss : List (List Int)) (ds : List D) : Option D := grd (ds.length < 64 ∧ nss.length = ds.length ∧ OneKey nss ds) (some (.lst (srt nss ds)))
def flat3 : D → Option (List Int)
  | .tup [.tup [.int i, .int j], .int k] => some [i, j, k]
  | _ => none
def flats : List D → Option (List (List Int))
  | [] => some []
  | d :: ds => match flat3 d with
    | some ns => match flats ds with
      | some nss => some (ns :: nss)
      | none => none
    | none => none
noncomputable def gSort (g : Den) : Den := fun ρ Ω => match g ρ Ω with
  | some (.lst ds, Ω1) => match flats ds with
    | some nss => match sortOf nss ds with
      | some z => some (z, Ω1)
      | none => none
    | none => none
  | _ => none
theorem isL_pick {K : PySem.W.Frag} {α : List Addr} {F : Hp} {ds : List D} {vs : List V} (h : IsL K α F ds vs) : ∀ p : List Nat, (∀ i ∈ p, i < ds.length) → IsL K α F (p.map fun i => ds.getD i .non) (p.map fun i => vs.getD i .non)
  | [], _ => .nil
  | i :: p, hp => by
    refine .cons ?_ (isL_pick h p fun j hj => hp j (List.mem_cons_of_mem _ hj))
    have hi := hp i List.mem_cons_self
    obtain ⟨v, e1, e2⟩ := h.get (List.getElem?_eq_getElem hi)
    show Is K α F (ds.getD i .non) (vs.getD i .non)
    rw [getD_get hi, List.getD_eq_getElem?_getD, e1]
    exact e2
theorem pairs_of {K : PySem.W.Frag} {α : List Addr} {F H : Hp} (ff : Same F H) : ∀ {ds : List D} {nss : List (List Int)} {vs : List V}, flats ds = some nss → IsL K α F ds vs → PairsAre H vs nss
  | [], nss, vs, e, h => by cases e; rw [h.of_nil]; exact .nil
  | d :: ds, nss, vs, e, h => by
    obtain ⟨v, r, rfl, h1, t⟩ := h.of_cons
    unfold flats at e
    cases q : flat3 d with
    | none => rw [q] at e; cases e
    | some ns =>
      rw [q] at e
      dsimp only at e
      cases q2 : flats ds with
      | none => rw [q2] at e; cases e
      | some nss' =>
        rw [q2] at e
        cases e
        refine .cons ?_ (pairs_of ff q2 t)
        unfold flat3 at q
        split at q
        · rename_i i j k
          cases q
          rw [Is] at h1
          obtain ⟨b, us, rfl, hb, ib⟩ := h1
          obtain ⟨v1, r1, rfl, i1, t1⟩ := ib.of_cons
          obtain ⟨v2, r2, rfl, i2, t2⟩ := t1.of_cons
          cases t2.of_nil
          rw [Is] at i1
          rw [Is] at i2
          subst i2
          obtain ⟨c, ws, rfl, hc, ic⟩ := i1
          obtain ⟨w1, s1, rfl, j1, u1⟩ := ic.of_cons
          obtain ⟨w2, s2, rfl, j2, u2⟩ := u1.of_cons
          cases u2.of_nil
          rw [Is] at j1
          rw [Is] at j2
          subst j1 j2
          exact ⟨b, c, i, j, k, rfl, ff _ _ hb, ff _ _ hc, rfl⟩
        · cases q
section
variable {X : Cx} {C : Cl} {n : Str} {p pos kpos npos : Pos} {a : Expr} {g : Den} {k : Nat}
theorem col_list {pins : List (Addr × Obj)} {σ : St} {H : Hp} {s : Shared} {l : Addr} {xs : List V} (I : Inv X pins σ H s) (h : H l = some (.lst xs)) : ∃ vs, Vals xs vs ∧ ∀ (A : Around) (E : Value → Shared → Prop) (Q' : List Value → Shared → Prop), (∀ h1, KS.Kept s h1 [] → Q' vs { s with heap := h1 }) → wpAny (model X.prog X.w) A (collect (.ref l)) Q' E s := by
  obtain ⟨its, r, ⟨o, m, e1, e2, _, e3⟩, hz⟩ := I.list (SqL.of h)
  refine ⟨its, r, fun A E Q' hq => wpAny_collect_seq l (.inl rfl) e1 e2 e3 (fun h' kp => ?_) ?_⟩
  · have := hq h' fun b o _ q => kp b o q
    simpa using this
  · rw [List.size_toArray, ← r.length]; exact hz
theorem call_sortP (hu : X.A.units + 64 < cLine) : CallR X (.builtin "sorted") (fun xs H Q => ∃ l ys nss, xs = [V.ref l] ∧ H l = some (.lst ys) ∧ ys.length < 64 ∧ PairsAre H ys nss ∧ ∀ out p, H p = none → SortOut nss ys out → Q (.ref p) (upd H p (.lst out))) := by
  intro pins s σ H xs us Q I r h
  obtain ⟨l, ys, nss, rfl, hl, h64, hP, fin⟩ := h
  obtain ⟨u, rfl, ru⟩ := vals1 r
  cases ru
  obtain ⟨vs, rv, hcol⟩ := col_list I hl
  exact run_sortP hu I rv h64 hcol hP fin
theorem pd_sort (hr : Room k X.A) (hg : Gl X n) (hm : X.mg n = none) (hv : bootBuiltins n = some (.builtin "sorted")) (ho : PD X C a g) (hn : n ≠ "__name__" := by decide) (hdb : (n == ("__debug__" : Str)) = false := by decide)
    (he : starEach [a] X.env = (false, eval a X.env) :: starEach [] X.env := by rfl) (hpl : (backTo pos (starEach [] X.env)).any (·.1) = false := by rfl) : PD X C (.Call (.Name n p) [a] [] pos) (gSort g) :=
  pe_imp (pe_callB (call_sortP hr.units) hg hm hv (pa_cons ho pa_nil he) hn hdb he hpl) fun σ H Q hw' => by
    obtain ⟨e, Ω, ρ, d, Ω', eH, w, rl, q, kk⟩ := hw'
    unfold gSort at q
    cases q1 : g ρ Ω with
    | none => rw [q1] at q; cases q
    | some p1 =>
      obtain ⟨d1, Ω1⟩ := p1
      rw [q1] at q
      cases d1 with
      | lst ds =>
        dsimp only at q
        cases q2 : flats ds with
        | none => rw [q2] at q; cases q
        | some nss =>
          rw [q2] at q
          dsimp only at q
          cases q3 : sortOf nss ds with
          | none => rw [q3] at q; cases q
          | some z =>
            rw [q3] at q
            cases q
            obtain ⟨⟨h64, hl, one⟩, ez⟩ := grd_some q3
            cases ez
            refine ⟨e, Ω, ρ, _, _, eH, w, rl, q1, fun v e1 x1 w1 i1 => ?_⟩
            rw [Is] at i1
            obtain ⟨l, vs, rfl, hF, il⟩ := i1
            have len := il.length
            refine ⟨l, vs, nss, rfl, w1.fh _ _ hF, by omega, pairs_of w1.fh q2 il, fun out p' hp so => ?_⟩
            obtain ⟨pm, hpm, rfl, hup⟩ := so
            rw [← len] at hpm
            refine kk _ (e1.new p' _) (x1.trans (w1.new_ext hp)) (w1.new hp) ?_
            rw [← srt_unique hl one hpm hup, Is]
            exact ⟨p', _, rfl, upd_same, (isL_pick il pm fun i hi => by simpa using hpm.mem_iff.mp hi).ext (w1.new_ext hp)⟩
      | _ => cases q
def intsD : List D → Option (List Int)
  | [] => some []
  | .int i :: r => match intsD r with
    | some ns => some (i :: ns)
    | none => none
  | _ => none
def keyI : D → Option (List Int)
  | .tup ds => match intsD ds with
    | some (n :: ns) => some (n :: ns)
    | _ => none
  | _ => none
def keysF (F : FDen) : List D → List OS → Option (List (List Int) × List OS)
  | [], Ω => some ([], Ω)
  | d :: ds, Ω => match F [d] Ω with
    | some (k, Ω1) => match keyI k with
      | some ns => match keysF F ds Ω1 with
        | some (nss, Ω2) => some (ns :: nss, Ω2)
        | none => none
      | none => none
    | none => none
noncomputable def gSortK (F : FDen) (g : Den) : Den := fun ρ Ω => match g ρ Ω with
  | some (.lst ds, Ω1) => match keysF F ds Ω1 with
    | some (nss, Ω2) => match sortOf nss ds with
      | some z => some (z, Ω2)
      | none => none
    | none => none
  | _ => none
theorem intsD_map : ∀ {ds : List D} {ns : List Int}, intsD ds = some ns → ds = ns.map D.int
  | [], ns, h => by cases h; rfl
  | .int i :: r, ns, h => by
    unfold intsD at h
    cases q : intsD r with
    | none => rw [q] at h; cases h
    | some ms => rw [q] at h; cases h; rw [intsD_map q]; rfl
  | .non :: _, _, h => nomatch h
  | .bl _ :: _, _, h => nomatch h
  | .str _ :: _, _, h => nomatch h
  | .tup _ :: _, _, h => nomatch h
  | .lst _ :: _, _, h => nomatch h
  | .scr _ :: _, _, h => nomatch h
  | .obj _ :: _, _, h => nomatch h
theorem keyI_of {d : D} {ns : List Int} (h : keyI d = some ns) : d = .tup (ns.map D.int) ∧ ns ≠ [] := by
  unfold keyI at h
  split at h
  · split at h
    · rename_i e
      cases h
      exact ⟨by rw [intsD_map e], by simp⟩
    · cases h
  · cases h
theorem isL_ints {K : PySem.W.Frag} {α : List Addr} {F : Hp} : ∀ {ns : List Int} {vs : List V}, IsL K α F (ns.map D.int) vs → vs = ns.map V.int
  | [], _, h => h.of_nil
  | n :: ns, _, h => by
    obtain ⟨v, r, rfl, h1, t⟩ := h.of_cons
    rw [Is] at h1
    rw [isL_ints t, h1]; rfl
theorem keysF_cut {F : FDen} : ∀ {ds : List D} {Ω Ω' : List OS} {nss : List (List Int)} {i : Nat}, keysF F ds Ω = some (nss, Ω') → i ≤ ds.length → ∃ ms Ωi, keysF F (ds.take i) Ω = some (ms, Ωi) ∧ ms = nss.take i ∧ keysF F (ds.drop i) Ωi = some (nss.drop i, Ω')
  | ds, Ω, Ω', nss, 0, h, _ => ⟨[], Ω, rfl, rfl, h⟩
  | [], Ω, Ω', nss, i + 1, h, hi => by simp at hi
  | d :: ds, Ω, Ω', nss, i + 1, h, hi => by
    unfold keysF at h
    cases q1 : F [d] Ω with
    | none => rw [q1] at h; cases h
    | some p1 =>
      obtain ⟨kd, Ω1⟩ := p1
      rw [q1] at h
      dsimp only at h
      cases q2 : keyI kd with
      | none => rw [q2] at h; cases h
      | some ns =>
        rw [q2] at h
        dsimp only at h
        cases q3 : keysF F ds Ω1 with
        | none => rw [q3] at h; cases h
        | some p3 =>
          obtain ⟨ms, Ω2⟩ := p3
          rw [q3] at h
          cases h
          obtain ⟨ms', Ωi, h1, h2, h3⟩ := keysF_cut (i := i) q3 (by simpa using hi)
          refine ⟨ns :: ms', Ωi, ?_, by rw [h2]; rfl, h3⟩
          show keysF F (d :: ds.take i) Ω = _
          unfold keysF
          rw [q1]
          dsimp only
          rw [q2]
          dsimp only
          rw [h1]
theorem keys_of {K : PySem.W.Frag} {α : List Addr} {F H : Hp} (ff : Same F H) : ∀ {nss : List (List Int)} {vs : List V}, (∀ ns ∈ nss, ns ≠ []) → IsL K α F (nss.map fun ns => D.tup (ns.map D.int)) vs → KeysAre H vs nss
  | [], vs, _, h => by rw [h.of_nil]; exact .nil
  | ns :: nss, vs, hn, h => by
    obtain ⟨v, r, rfl, h1, t⟩ := h.of_cons
    refine .cons ?_ (keys_of ff (fun m hm => hn m (List.mem_cons_of_mem _ hm)) t)
    rw [Is] at h1
    obtain ⟨b, us, rfl, hb, ib⟩ := h1
    rw [isL_ints ib] at hb
    exact ⟨b, rfl, ff _ _ hb, hn ns List.mem_cons_self⟩
theorem keysF_ne {F : FDen} : ∀ {ds : List D} {Ω Ω' : List OS} {nss : List (List Int)}, keysF F ds Ω = some (nss, Ω') → ∀ ns ∈ nss, ns ≠ []
  | [], _, _, _, h, ns, hn => by cases h; cases hn
  | d :: ds, Ω, Ω', nss, h, ns, hn => by
    unfold keysF at h
    cases q1 : F [d] Ω with
    | none => rw [q1] at h; cases h
    | some p1 =>
      obtain ⟨kd, Ω1⟩ := p1
      rw [q1] at h
      dsimp only at h
      cases q2 : keyI kd with
      | none => rw [q2] at h; cases h
      | some ms =>
        rw [q2] at h
        dsimp only at h
        cases q3 : keysF F ds Ω1 with
        | none => rw [q3] at h; cases h
        | some p3 =>
          obtain ⟨mss, Ω2⟩ := p3
          rw [q3] at h
          cases h
          rcases List.mem_cons.mp hn with rfl | hn
          · exact (keyI_of q2).2
          · exact keysF_ne q3 ns hn
theorem keysF_snoc {F : FDen} : ∀ {ds : List D} {d : D} {Ω Ωi Ωj Ωk : List OS} {ms ms' : List (List Int)} {kd : D}, keysF F ds Ω = some (ms, Ωi) → F [d] Ωi = some (kd, Ωj) → keysF F (ds ++ [d]) Ω = some (ms', Ωk) → Ωj = Ωk
  | [], d, Ω, Ωi, Ωj, Ωk, ms, ms', kd, h1, h2, h3 => by
    cases h1
    rw [List.nil_append] at h3
    unfold keysF at h3
    rw [h2] at h3
    dsimp only at h3
    cases q : keyI kd with
    | none => rw [q] at h3; cases h3
    | some ns => rw [q] at h3; cases h3; rfl
  | c :: ds, d, Ω, Ωi, Ωj, Ωk, ms, ms', kd, h1, h2, h3 => by
    rw [List.cons_append] at h3
    unfold keysF at h1 h3
    cases q1 : F [c] Ω with
    | none => rw [q1] at h1; cases h1
    | some p1 =>
      obtain ⟨cd, Ω1⟩ := p1
      rw [q1] at h1 h3
      dsimp only at h1 h3
      cases q2 : keyI cd with
      | none => rw [q2] at h1; cases h1
      | some ns =>
        rw [q2] at h1 h3
        dsimp only at h1 h3
        cases q3 : keysF F ds Ω1 with
        | none => rw [q3] at h1; cases h1
        | some p3 =>
          obtain ⟨mss, Ω2⟩ := p3
          rw [q3] at h1
          cases h1
          cases q4 : keysF F (ds ++ [d]) Ω1 with
          | none => rw [q4] at h3; cases h3
          | some p4 =>
            obtain ⟨nss, Ω3⟩ := p4
            rw [q4] at h3
            cases h3
            exact keysF_snoc q3 h2 q4
theorem pd_sortK {m : Str} {F : FDen} (G : Fn X.prog X.w X.K X.mg X.base C k m F) (hr : Room (k + 2) X.A) (hgm : Gl X m) (hg : Gl X n) (hm : X.mg n = none) (hv : bootBuiltins n = some (.builtin "sorted")) (ho : PD X C a g) (hn : n ≠ "__name__" := by decide) (hdb : (n == ("__debug__" : Str)) = false := by decide) (hdm : (m == ("__debug__" : Str)) = false := by decide)
    (he : starEach [a] X.env = (false, eval a X.env) :: starEach [] X.env := by rfl) (he2 : backTo pos (starEach [a] X.env) = (false, eval a X.env) :: backTo pos (starEach [] X.env) := by rfl) (hpl : (backTo pos (starEach [a] X.env)).any (·.1) = false := by rfl)
    (hall : (backToKw pos (keywordEach [⟨some (Str.ofString "key"), .Name m npos, kpos⟩] X.env)).all (·.1.isSome) = true := by rfl) (hkw : (backToKw pos (keywordEach [⟨some (Str.ofString "key"), .Name m npos, kpos⟩] X.env)).any (·.1.isNone) = false := by rfl)
    (hks : (backToKw pos (keywordEach [⟨some (Str.ofString "key"), .Name m npos, kpos⟩] X.env)).filterMap (·.1) = [Str.ofString "key"] := by rfl) : PD X C (.Call (.Name n p) [a] [⟨some (Str.ofString "key"), .Name m npos, kpos⟩] pos) (gSortK F g) := by
  obtain ⟨f, fd, ps, hf, hkp, hb, ok⟩ := G.ex
  rintro pins s σ H Q I ⟨e, Ω, ρ, d, Ω', eH, w, rl, q, kk⟩
  unfold gSortK at q
  cases q1 : g ρ Ω with
  | none => rw [q1] at q; cases q
  | some p1 =>
    obtain ⟨d1, Ω1⟩ := p1
    rw [q1] at q
    cases d1 with
    | lst ds =>
      dsimp only at q
      cases q2 : keysF F ds Ω1 with
      | none => rw [q2] at q; cases q
      | some p2 =>
        obtain ⟨nss, Ω2⟩ := p2
        rw [q2] at q
        dsimp only at q
        cases q3 : sortOf nss ds with
        | none => rw [q3] at q; cases q
        | some z =>
          rw [q3] at q
          cases q
          obtain ⟨⟨h64, hl, one⟩, ez⟩ := grd_some q3
          cases ez
          refine wpAny_Call_Name_kw (ld_blt I hg hm hv ?_ hn hdb)
          refine callWith_kw ?_ he2 hpl hall hkw
          rw [hks]
          refine thn ((pa_cons ho pa_nil he) pos pins s σ H (fun us H1 => ∃ l vs e1, us = [V.ref l] ∧ e1.H = H1 ∧ Ext e e1 ∧ Wf X.K C e1 Ω1 ∧ e1.F l = some (.lst vs) ∧ IsL X.K e1.α e1.F ds vs) I ?_) fun us s1 ⟨vs, H1, I1, r1, l, ys, e1, z1, z2, x1, w1, hF, il⟩ => ?_
          · refine ⟨e, Ω, ρ, _, _, eH, w, rl, q1, fun v e1 x1 w1 i1 => ?_⟩
            rw [Is] at i1
            obtain ⟨l, vs, rfl, hF, il⟩ := i1
            exact ⟨l, vs, e1, rfl, rfl, x1, w1, hF, il⟩
          · subst z1
            subst z2
            obtain ⟨u, rfl, ru⟩ := vals1 r1
            cases ru
            refine thn (pk_cons (pe_glob hgm hf (v := .ref f) rfl hdm) pk_nil pos pins s1 σ e1.H (fun zs H2 => zs = [V.ref f] ∧ H2 = e1.H) I1 ⟨rfl, rfl⟩) fun ws s2 hw' => ?_
            obtain ⟨zs, H2, I2, r2, y1, y2⟩ := hw'
            subst y1
            subst y2
            obtain ⟨u2, rfl, ru2⟩ := vals1 r2
            cases ru2
            obtain ⟨its, rv, hcol⟩ := col_list I2 (w1.fh _ _ hF)
            have len := il.length
            refine run_sort (Q := Q) ok hr hb I2 rv (by omega) hcol (fun i vks H' => ∃ e' ms Ωi, e'.H = H' ∧ Ext e1 e' ∧ Wf X.K C e' Ωi ∧ i ≤ ds.length ∧ keysF F (ds.take i) Ω1 = some (ms, Ωi) ∧ ms = nss.take i ∧ keysF F (ds.drop i) Ωi = some (nss.drop i, Ω') ∧ IsL X.K e'.α e'.F (ms.map fun ns => D.tup (ns.map D.int)) vks) ?_ ?_ ?_
            · exact ⟨e1, [], Ω1, rfl, Ext.refl e1, w1, Nat.zero_le _, rfl, rfl, q2, .nil⟩
            · rintro i x vks H' hx ⟨e', ms, Ωi, rfl, x', w', hi, k1, k2, k3, ik⟩
              have hix : i < ds.length := by rw [len]; exact (List.getElem?_eq_some_iff.mp hx).1
              obtain ⟨v, ev, iv⟩ := il.get (List.getElem?_eq_getElem hix)
              rw [hx] at ev
              cases ev
              rw [List.drop_eq_getElem_cons hix] at k3
              have hin : i < nss.length := by omega
              rw [List.drop_eq_getElem_cons hin] at k3
              unfold keysF at k3
              cases t1 : F [ds[i]] Ωi with
              | none => rw [t1] at k3; cases k3
              | some pp =>
                obtain ⟨kd, Ωj⟩ := pp
                rw [t1] at k3
                dsimp only at k3
                cases t2 : keyI kd with
                | none => rw [t2] at k3; cases k3
                | some ns =>
                  rw [t2] at k3
                  dsimp only at k3
                  cases t3 : keysF F (ds.drop (i + 1)) Ωj with
                  | none => rw [t3] at k3; cases k3
                  | some p3 =>
                    obtain ⟨mss, Ωk⟩ := p3
                    rw [t3] at k3
                    simp only [Option.some.injEq, Prod.mk.injEq, List.cons.injEq] at k3
                    obtain ⟨⟨n1, n2⟩, n3⟩ := k3
                    obtain ⟨ms', Ωi', c1, c2, c3⟩ := keysF_cut (i := i + 1) q2 (by omega)
                    have cj : Ωi' = Ωj := by
                      have : ds.take (i + 1) = ds.take i ++ [ds[i]] := List.take_succ_eq_append_getElem hix
                      rw [this] at c1
                      exact (keysF_snoc k1 t1 c1).symm
                    rw [cj] at c1 c3
                    refine ⟨e', Ωi, [ds[i]], kd, Ωj, rfl, w', .cons (Is.ext x' iv) .nil, t1, fun v e'' x'' w'' i'' => ⟨e'', ms', Ωj, rfl, x'.trans x'', w'', by omega, c1, c2, c3, ?_⟩⟩
                    rw [c2, List.take_succ_eq_append_getElem hin, List.map_append, ← k2]
                    refine IsL.append (ik.ext x'') (.cons ?_ .nil)
                    rw [← n1]
                    show Is X.K e''.α e''.F (D.tup (ns.map D.int)) v
                    rw [← (keyI_of t2).1]
                    exact i''
            · rintro vks H' ⟨e', ms, Ωi, rfl, x', w', hi, k1, k2, k3, ik⟩
              rw [← len, List.drop_length] at k3
              have hΩ : Ωi = Ω' := by
                have e0 : some (([] : List (List Int)), Ωi) = some (nss.drop ds.length, Ω') := k3
                simp only [Option.some.injEq, Prod.mk.injEq] at e0
                exact e0.2
              subst hΩ
              have hms : ms = nss := by rw [k2, ← len, ← hl, List.take_length]
              rw [hms] at ik
              refine ⟨nss, keys_of w'.fh (keysF_ne q2) ik, by omega, fun out p' hp so => ?_⟩
              obtain ⟨pm, hpm, rfl, hup⟩ := so
              rw [← len] at hpm
              refine kk _ (e'.new p' _) ((x1.trans x').trans (w'.new_ext hp)) (w'.new hp) ?_
              rw [← srt_unique hl one hpm hup, Is]
              exact ⟨p', _, rfl, upd_same, (isL_pick (il.ext x') pm fun i hi => by simpa using hpm.mem_iff.mp hi).ext (w'.new_ext hp)⟩
    | _ => cases q
end
end DL
set_option Elab.async false
set_option linter.all false
set_option maxRecDepth 100000
set_option genSizeOf false
set_option bootstrap.genMatcherCode false
namespace HT
open PySem PySem.Spec PyProof.Rows PySem.SeqAt
open PySem.AutoSeq1 (wpAny_loadPart')
open PySem.MeetsSeq PySem.MeetsSeq2 PySem.MeetsSeq3
end HT
set_option Elab.async false
set_option linter.all false
set_option maxRecDepth 100000
set_option genSizeOf false
set_option bootstrap.genMatcherCode false
namespace L2
open PySem PySem.Spec PyProof.Rows
section
variable {X : Cx}
open Classical in
open Classical in
end
end L2
namespace DL
open PySem PySem.Spec PyProof.Rows L2
def gLs (g : Den) : ADen := fun ρ Ω => match g ρ Ω with
  | some (.lst ds, Ω') => some (ds, Ω')
  | _ => none
section
variable {X : Cx} {C : Cl} {x a b : Expr} {f g : Den} {gl : ADen} {n : Str} {p pos : Pos}
end
end DL
set_option Elab.async false
set_option linter.all false
set_option maxRecDepth 100000
set_option genSizeOf false
set_option bootstrap.genMatcherCode false
namespace DL
open PySem PySem.Spec PyProof.Rows L2
def tDN (K : PySem.W.Frag) (C : Cl) (g : ADen) : TE := fun σ H Q => ∃ e Ω ρ ds Ω', e.H = H ∧ Wf K C e Ω ∧ RelE K e σ ρ ∧ g ρ Ω = some (ds, Ω') ∧
  ∀ a vs e', Ext e e' → Wf K C e' Ω' → IsL K e'.α e'.F ds vs → e'.H a = none → Q (.ref a) (upd e'.H a (.lst vs))
def PDN (X : Cx) (C : Cl) (x : Expr) (g : ADen) : Prop := PE X x (tDN X.K C g)
section
variable {X : Cx} {C : Cl} {k : Nat} {n : Str} {p pos kpos npos : Pos} {x a : Expr} {es : List Expr} {ga : ADen} {g : Den}
end
end DL
set_option Elab.async false
set_option linter.all false
set_option maxRecDepth 100000
set_option genSizeOf false
set_option bootstrap.genMatcherCode false
namespace L2
open PySem PySem.Spec PyProof.Rows
section
variable {X : Cx} {tg : Expr}
end
end L2
set_option Elab.async false
set_option linter.all false
set_option maxRecDepth 100000
set_option genSizeOf false
set_option bootstrap.genMatcherCode false
namespace L2
open PySem PySem.Spec PyProof.Rows
section
variable {X : Cx}
end
end L2
set_option Elab.async false
set_option linter.all false
set_option maxRecDepth 100000
set_option genSizeOf false
set_option bootstrap.genMatcherCode false
namespace DL
open PySem PySem.Spec PyProof.Rows L2
section
variable {X : Cx} {C : Cl} {x a b tg : Expr} {f g : Den} {n : Str} {p pos ap cp : Pos}
end
end DL
set_option Elab.async false
set_option linter.all false
set_option maxRecDepth 100000
set_option genSizeOf false
set_option bootstrap.genMatcherCode false
namespace L2
open PySem PySem.Spec PyProof.Rows
section
variable {X : Cx} {x : Str} {C : Addr} {bmB : List Value} {B newId initId : String} {np cpos pos : Pos} {e : Expr} {te : TE}
end
end L2
set_option Elab.async false
set_option linter.all false
set_option maxRecDepth 100000
set_option genSizeOf false
set_option bootstrap.genMatcherCode false
namespace L2
open PySem PySem.Spec PyProof.Rows
section
variable {X : Cx} {pins : List (Addr × Obj)} {σ : St} {ea C t : Addr} {H : Hp} {B : Heap} {s : Shared} {x n : Str} {np hpos : Pos} {cv : Value} {i : Nat} {b₀ : Stmt} {suite : List Stmt} {rest : List ExceptHandler} {Q : Flow → Shared → Prop} {E : Value → Shared → Prop} {b : Bool}
end
end L2
set_option Elab.async false
set_option linter.all false
set_option maxRecDepth 100000
set_option genSizeOf false
set_option bootstrap.genMatcherCode false
namespace L2
open PySem PySem.Spec PyProof.Rows
section
variable {X : Cx} {k : Nat} {f C : Addr} {fd : FuncData} {ps : List Str} {sp : Sp} {dvs : List V} {ds : List Value} {x m : Str} {p pos apos : Pos} {e o : Expr} {es : List Expr} {ta : TE} {t : TA}
end
section
variable {X : Cx} {body : List Stmt} {x n : Str} {np hpos pos : Pos} {cv : Value} {i : Nat} {b₀ : Stmt} {suite : List Stmt} {tb : List (Addr × Obj) → (Value → Shared → Prop) → TS} {th : TS}
end
end L2
set_option Elab.async false
set_option linter.all false
set_option maxRecDepth 100000
set_option genSizeOf false
set_option bootstrap.genMatcherCode false
namespace PySem.W
open PySem PySem.Spec PySem.Calls PyProof.Rows PySem.Builtin.ObjectAttr PySem PySem.Calls PyProof.Rows Builtin Builtin.ObjectAttr Builtin.Getset_descriptor
section
variable {prog : Program} {w : World} {A : Around} {E : Value → Shared → Prop} {s : Shared} {K : Frag} {x D : Addr}
end
end PySem.W
set_option Elab.async false
set_option linter.all false
set_option maxRecDepth 100000
set_option genSizeOf false
set_option bootstrap.genMatcherCode false
namespace DL
open PySem PySem.Spec PyProof.Rows L2
section
variable {X : Cx} {C : Cl} {x y : Expr} {g : Den} {pos p : Pos} {n : Str} {t : Str → Option Bool}
end
end DL
set_option Elab.async false
set_option linter.all false
set_option maxRecDepth 100000
set_option genSizeOf false
set_option bootstrap.genMatcherCode false
namespace DL
open PySem PySem.Spec PyProof.Rows L2
section
variable {X : Cx} {C : Cl} {XW : XWt} {a b c x : Expr} {f g : Den} {p : TDen} {st : Stmt} {rest sts sts' : List Stmt} {s : SDen} {r r1 r2 : SRDen} {rx : RDen} {pos : Pos}
end
end DL
set_option Elab.async false
set_option linter.all false
set_option maxRecDepth 100000
set_option genSizeOf false
set_option bootstrap.genMatcherCode false
namespace DL
open PySem PySem.Spec PyProof.Rows L2
section
variable {X : Cx} {C : Cl} {XW : XWt} {a b x : Expr} {f g : Den} {ga : ADen} {r : RDen} {pos ap cp : Pos}
end
section
variable {X : Cx} {C : Cl} {XW : XWt} {k : Nat} {F : FDen} {R : XFDen} {n : Str} {p pos : Pos} {a b x : Expr} {es : List Expr} {ga : ADen} {f g : Den} {r : RDen}
end
end DL
set_option Elab.async false
set_option linter.all false
set_option maxRecDepth 100000
set_option genSizeOf false
set_option bootstrap.genMatcherCode false
namespace L2
open PySem PySem.Spec PyProof.Rows
end L2
namespace DL
open PySem PySem.Spec PyProof.Rows L2
section
variable {X : Cx} {C : Cl} {body : List Stmt} {x n : Str} {np hpos pos : Pos} {cv : Value} {i : Nat} {b₀ : Stmt} {suite : List Stmt} {s t : SDen} {r : SRDen} {tc : Str → Bool}
end
section
variable {X : Cx} {C : Cl} {XW : XWt} {a b x : Expr} {es : List Expr} {rx : RDen} {n : Str} {p pos : Pos}
end
end DL
set_option Elab.async false
set_option linter.all false
set_option maxRecDepth 100000
set_option genSizeOf false
set_option bootstrap.genMatcherCode false
namespace L2
open PySem PySem.Spec PyProof.Rows
section
variable {X : Cx} {a : Expr} {ta : TE} {z : Str} {kk : Nat} {p1 p2 pos : Pos}
end
end L2
namespace DL
open PySem PySem.Spec PyProof.Rows L2
section
variable {X : Cx} {C : Cl} {XW : XWt} {a x : Expr} {f g : Den} {p : VDen} {pos p1 p2 : Pos}
end
end DL
set_option Elab.async false
set_option linter.all false
set_option maxRecDepth 100000
set_option genSizeOf false
set_option bootstrap.genMatcherCode false
namespace L2
open PySem PySem.Spec PyProof.Rows
section
variable {K : PySem.W.Frag} {h : Heap} {bmB : List Value} {newId : String} {mg : Str → Option Value} {x : Str}
end
end L2
set_option Elab.async false
set_option linter.all false
set_option maxRecDepth 100000
set_option genSizeOf false
set_option bootstrap.genMatcherCode false
namespace L2
open PySem PySem.Spec PyProof.Rows
end L2
namespace DL
open PySem PySem.Spec PyProof.Rows L2
end DL
set_option Elab.async false
set_option linter.all false
set_option maxRecDepth 100000
set_option genSizeOf false
set_option bootstrap.genMatcherCode false
namespace DL
open PySem PySem.Spec PyProof.Rows L2
section
variable {X : Cx} {C : Cl} {XW : XWt} {tg iter c : Expr} {γ : ADen} {β : BDen} {s : SDen} {r : SRDen} {body : List Stmt} {pos : Pos}
end
end DL
set_option Elab.async false
set_option linter.all false
set_option maxRecDepth 100000
set_option genSizeOf false
set_option bootstrap.genMatcherCode false
namespace L2
open PySem PySem.Spec PyProof.Rows
section
variable {X : Cx} {a : Expr} {ta : TE} {z : Str} {kk : Nat} {p1 p2 pos : Pos}
end
end L2
namespace DL
open PySem PySem.Spec PyProof.Rows L2
section
variable {X : Cx} {C : Cl} {a : Expr} {f : Den} {pos p1 p2 : Pos}
end
end DL
set_option Elab.async false
set_option linter.all false
set_option maxRecDepth 100000
set_option genSizeOf false
set_option bootstrap.genMatcherCode false
namespace DL
open PySem PySem.Spec PyProof.Rows L2
@[elab_as_elim] theorem len0 {p : List Value → Prop} (us : List Value) (hl : us.length = 0) (h : p []) : p us := by
  cases us with
  | nil => exact h
  | cons a us => cases hl
@[elab_as_elim] theorem len1 {p : List Value → Prop} (us : List Value) (hl : us.length = 1) (h : ∀ a, p [a]) : p us := by
  cases us with
  | nil => cases hl
  | cons a us => exact len0 (p := fun us => p (a :: us)) us (Nat.succ.inj hl) (h a)
@[elab_as_elim] theorem len2 {p : List Value → Prop} (us : List Value) (hl : us.length = 2) (h : ∀ a b, p [a, b]) : p us := by
  cases us with
  | nil => cases hl
  | cons a us => exact len1 (p := fun us => p (a :: us)) us (Nat.succ.inj hl) (fun b => h a b)
@[elab_as_elim] theorem len3 {p : List Value → Prop} (us : List Value) (hl : us.length = 3) (h : ∀ a b c, p [a, b, c]) : p us := by
  cases us with
  | nil => cases hl
  | cons a us => exact len2 (p := fun us => p (a :: us)) us (Nat.succ.inj hl) (fun b c => h a b c)
@[elab_as_elim] theorem len4 {p : List Value → Prop} (us : List Value) (hl : us.length = 4) (h : ∀ a b c d, p [a, b, c, d]) : p us := by
  cases us with
  | nil => cases hl
  | cons a us => exact len3 (p := fun us => p (a :: us)) us (Nat.succ.inj hl) (fun b c d => h a b c d)
@[elab_as_elim] theorem len5 {p : List Value → Prop} (us : List Value) (hl : us.length = 5) (h : ∀ a b c d e, p [a, b, c, d, e]) : p us := by
  cases us with
  | nil => cases hl
  | cons a us => exact len4 (p := fun us => p (a :: us)) us (Nat.succ.inj hl) (fun b c d e => h a b c d e)
@[elab_as_elim] theorem len6 {p : List Value → Prop} (us : List Value) (hl : us.length = 6) (h : ∀ a b c d e f, p [a, b, c, d, e, f]) : p us := by
  cases us with
  | nil => cases hl
  | cons a us => exact len5 (p := fun us => p (a :: us)) us (Nat.succ.inj hl) (fun b c d e f => h a b c d e f)
end DL
set_option Elab.async false
set_option linter.all false
set_option maxRecDepth 100000
set_option genSizeOf false
set_option bootstrap.genMatcherCode false
namespace L2
open PySem PySem.Spec PyProof.Rows
section
variable {b : Bool} {h h' : Heap} {a l c : Addr} {i : Nat} {xs : Array Value}
end
section
variable {prog : Program} {w : World} {A : Around} {E : Value → Shared → Prop} {s : Shared} {b : Bool}
end
end L2
set_option Elab.async false
set_option linter.all false
set_option maxRecDepth 100000
set_option genSizeOf false
set_option bootstrap.genMatcherCode false
namespace L2
open PySem PySem.Spec PyProof.Rows
section
variable {prog : Program} {w : World} {A : Around} {E : Value → Shared → Prop} {s : Shared} {b1 b2 : Bool} {z TI TO i1 i2 l1 l2 : Addr} {k : Nat} {xs ys : Array Value} {x y a b : Value}
end
end L2
set_option Elab.async false
set_option linter.all false
set_option maxRecDepth 100000
set_option genSizeOf false
set_option bootstrap.genMatcherCode false
namespace L2
open PySem PySem.Spec PyProof.Rows
section
variable {X : Cx} {pins : List (Addr × Obj)} {σ : St} {H : Hp} {s : Shared} {h' : Heap}
end
end L2
namespace DL
open PySem PySem.Spec PyProof.Rows L2
end DL
namespace DL
open PySem PySem.Spec PyProof.Rows L2
section
variable {X : Cx} {C : Cl} {ga : ADen} {pos p pt : Pos} {es : List Expr} {kk : Nat} {a b : Expr}
end
end DL
set_option Elab.async false
set_option linter.all false
set_option maxRecDepth 100000
set_option genSizeOf false
set_option bootstrap.genMatcherCode false
namespace DL
open PySem PySem.Spec PyProof.Rows L2
section
variable {X : Cx} {C : Cl} {x : Expr} {g : Den} {pos p : Pos} {n : Str}
end
end DL
set_option Elab.async false
set_option linter.all false
set_option maxRecDepth 100000
set_option genSizeOf false
set_option bootstrap.genMatcherCode false
namespace L2
open PySem PySem.Spec PyProof.Rows
section
variable {X : Cx} {a : Expr} {ta : TE} {z : Str} {kk : Nat} {p1 p2 pos : Pos}
end
section
variable {X : Cx} {body : List Stmt} {x n : Str} {np hpos pos : Pos} {cv : Value} {i : Nat} {b₀ : Stmt} {suite : List Stmt} {tb : List (Addr × Obj) → (Value → Shared → Prop) → TS} {th : TS}
end
end L2
namespace DL
open PySem PySem.Spec PyProof.Rows L2
section
variable {X : Cx} {C : Cl} {a : Expr} {f : Den} {pos p1 p2 : Pos}
end
section
variable {X : Cx} {C : Cl} {body : List Stmt} {x n : Str} {np hpos pos : Pos} {cv : Value} {i : Nat} {b₀ : Stmt} {suite : List Stmt} {s t : SDen} {r : SRDen} {tc : Str → Bool}
end
end DL
set_option Elab.async false
set_option linter.all false
set_option maxRecDepth 100000
set_option genSizeOf false
set_option bootstrap.genMatcherCode false
namespace DL
open PySem PySem.Spec PyProof.Rows L2
section
variable {X : Cx} {C : Cl}
end
end DL
set_option Elab.async false
set_option linter.all false
set_option maxRecDepth 100000
set_option genSizeOf false
set_option bootstrap.genMatcherCode false
namespace L2
open PySem PySem.Spec PyProof.Rows
section
variable {X : Cx} {pins : List (Addr × Obj)} {σ : St} {H : Hp} {s : Shared} {a : Addr}
end
end L2
set_option Elab.async false
set_option linter.all false
set_option maxRecDepth 100000
set_option genSizeOf false
set_option bootstrap.genMatcherCode false
namespace DL
open PySem PySem.Spec PyProof.Rows L2
section
variable {X : Cx} {C : Cl} {tg iter : Expr} {g : Den} {β : BDen} {s : SDen} {body : List Stmt} {pos : Pos}
end
end DL
set_option Elab.async false
set_option linter.all false
set_option maxRecDepth 100000
set_option genSizeOf false
set_option bootstrap.genMatcherCode false
namespace KS
open PySem PySem.W PySem.Calls PyProof.Rows
section
variable {prog : Program} {w : World} {A : Around} {R : Result → Shared → Prop} {I S : Addr} {kv : Value} {kw : List (Str × Value)} {n : Nat}
end
end KS
set_option Elab.async false
set_option linter.all false
set_option maxRecDepth 100000
set_option genSizeOf false
set_option bootstrap.genMatcherCode false
namespace L2
open PySem PySem.Spec PyProof.Rows KS PySem.W
section
variable {X : Cx} {pins : List (Addr × Obj)} {σ : St} {H : Hp} {s : Shared}
end
end L2
set_option Elab.async false
set_option linter.all false
set_option maxRecDepth 100000
set_option genSizeOf false
set_option bootstrap.genMatcherCode false
namespace L2
open PySem PySem.Spec PyProof.Rows KS PySem.W
section
variable {X : Cx} {k : Nat} {f : Addr} {fd : FuncData} {ps : List Str} {sp : Sp} {pins : List (Addr × Obj)} {σ : St} {H : Hp} {s : Shared}
end
end L2
set_option Elab.async false
set_option linter.all false
set_option maxRecDepth 100000
set_option genSizeOf false
set_option bootstrap.genMatcherCode false
namespace DL
open PySem PySem.Spec PyProof.Rows L2
section
variable {X : Cx} {C : Cl} {n : Str} {p pos kpos npos kpos2 cpos : Pos} {a : Expr} {g : Den} {k : Nat}
end
end DL
set_option Elab.async false
set_option linter.all false
set_option maxRecDepth 100000
set_option genSizeOf false
set_option bootstrap.genMatcherCode false
namespace DL
open PySem PySem.Spec PyProof.Rows L2
section
variable {X : Cx} {C : Cl} {k : Nat} {F : FDen} {n : Str} {p pos : Pos}
end
section
variable {X : Cx} {C : Cl} {pos : Pos}
end
end DL
set_option Elab.async false
set_option linter.all false
set_option maxRecDepth 100000
set_option genSizeOf false
set_option bootstrap.genMatcherCode false
namespace DL
open PySem PySem.Spec PyProof.Rows L2
section
variable {prog : Program} {w : World} {A : Around} {E : Value → Shared → Prop} {s : Shared}
end
section
variable {X : Cx} {C : Cl} {a b c x : Expr} {f g h : Den} {pos : Pos}
open Classical in
end
end DL
set_option Elab.async false
set_option linter.all false
set_option maxRecDepth 100000
set_option genSizeOf false
set_option bootstrap.genMatcherCode false
namespace L2
open PySem PySem.Spec PyProof.Rows
theorem entry_dict_update_loop : entryFor table "dict.update.loop" = some Builtin.«dict.update.loop» := entryFor_of_tree (by kernel_rfl)
theorem plain_dict_update_loop : plainId "dict.update.loop" = true := by decide +kernel
theorem list_no_keys : typeLookup (.type "list") "keys" = pure none := by rw [typeLookup_type, builtinLookup_eq_fast]; kernel_rfl
section
variable {prog : Program} {w : World} {A : Around} {E : Value → Shared → Prop} {s : Shared}
theorem no_keys {a : Addr} {o : Obj} {xs : Array Value} {k : Nat} {Q : Option Value → Shared → Prop}
    (hx : s.heap.get? a = some o) (hc : o.cls = .type "list") (hdat : o.data = .seq xs k) (hd : o.dict = none) (hA : A.handled = none)
    (h : ∀ h' tk, (∀ b u, s.heap.get? b = some u → h'.get? b = some u) → Q none { s with heap := h', toks := tk }) :
    wpAny (model prog w) A (getAttr? (.ref a) "keys") Q E s := by
  obtain ⟨c, dct, dat, sl⟩ := o
  simp only at hc hdat hd
  subst hc hdat hd
  obtain ⟨hp, g, d, tk, os⟩ := s
  have hT : ∀ tk', (⟨hp, g, d, tk', os⟩ : Shared).TypeIs (.ref a) "list" := fun _ => ⟨_, hx, rfl⟩
  have f3 := F.slot_list_getattribute.lookup
  have f4 := F.slot_list_getattribute.bind (.ref a)
  have f5 := am_list_getattr_none
  have f1 := sub_AttributeError
  unfold getAttr? getAttrBy?
  refine wpAny_bind (wpAny_mkText ?_)
  refine wpAny_bind (wpAny_attempt ?_)
  unfold getAttrBy
  repeat (any_goals (first | assumption | exact hT _ | ((with_reducible show wpAny _ _ (call (Value.builtin "list.__getattribute__") _ _) _ _ _); refine call_meets F.slot_list_getattribute (hT _) am_entry_list_getattribute (F.args_list_getattribute_2 _ _) (meets_getattribute_miss_list a xs k sl "keys" _ list_no_keys (by decide) (by decide)) ⟨hx, hA, fun h' tk' e hx' => ?_⟩) | wp_step))
  obtain ⟨t', u', he⟩ := hx'.there
  show wpAny _ _ (getattributeRaised _ _ _ _ _ _ _) _ _ _
  unfold getattributeRaised
  have hTe : ∀ tk2, (⟨h', g, d, tk2, os⟩ : Shared).TypeIs (.ref e) "AttributeError" := fun _ => ⟨_, he, rfl⟩
  repeat (any_goals (first | assumption | exact hTe _ | wp_step))
  exact h _ _ hx'.keeps
end
inductive Prs (H : Hp) : List V → List (List Key × V) → Prop where
  | nil : Prs H [] []
  | cons {p b : Addr} {k : List Key} {y : V} {vs : List V} {kvs : List (List Key × V)} : H p = some (.tup [.ref b, y]) → H b = some (.tup (k.map kV)) → Prs H vs kvs → Prs H (.ref p :: vs) ((k, y) :: kvs)
theorem Prs.length {H : Hp} {vs : List V} {kvs : List (List Key × V)} (h : Prs H vs kvs) : vs.length = kvs.length := by
  induction h with
  | nil => rfl
  | cons _ _ _ ih => rw [List.length_cons, List.length_cons, ih]
theorem Prs.get {H : Hp} {vs : List V} {kvs : List (List Key × V)} (h : Prs H vs kvs) : ∀ (i : Nat) (v : V), vs[i]? = some v → ∃ p b k y, v = .ref p ∧ kvs[i]? = some (k, y) ∧ H p = some (.tup [.ref b, y]) ∧ H b = some (.tup (k.map kV)) := by
  induction h with
  | nil => intro i v h; simp at h
  | cons h1 h2 t ih =>
    intro i v h
    cases i with
    | zero => rw [List.getElem?_cons_zero] at h; cases h; exact ⟨_, _, _, _, rfl, rfl, h1, h2⟩
    | succ i =>
      rw [List.getElem?_cons_succ] at h
      obtain ⟨p, b, k, y, e1, e2, e3, e4⟩ := ih i v h
      exact ⟨p, b, k, y, e1, by rw [List.getElem?_cons_succ]; exact e2, e3, e4⟩
theorem vals_at {vs : List V} {us : List Value} (h : Vals vs us) : ∀ (i : Nat) (u : Value), us[i]? = some u → ∃ v, vs[i]? = some v ∧ RelV v u := by
  induction h with
  | nil => intro i u h; simp at h
  | cons r t ih =>
    intro i u h
    cases i with
    | zero => rw [List.getElem?_cons_zero] at h; cases h; exact ⟨_, rfl, r⟩
    | succ i => rw [List.getElem?_cons_succ] at h; obtain ⟨v, e, q⟩ := ih i u h; exact ⟨v, by rw [List.getElem?_cons_succ]; exact e, q⟩
theorem kt_none {H : Hp} {kvs : List (List Key × V)} {xs : List (List Key × Addr × Value)} {k : List Key} (r : KT H kvs xs) (h : k ∉ kvs.map (·.1)) : atKey xs k = none := by
  unfold atKey
  rw [Option.map_eq_none_iff, List.find?_eq_none]
  intro x hx hk
  rw [decide_eq_true_eq] at hk
  apply h
  clear h
  induction r with
  | nil => cases hx
  | cons q t ih =>
    rcases List.mem_cons.mp hx with rfl | hx
    · rw [List.map_cons, ← hk, ← q.1]; exact List.mem_cons_self
    · rw [List.map_cons]; exact List.mem_cons_of_mem _ (ih hx)
theorem kt_snoc {H : Hp} {kvs : List (List Key × V)} {xs : List (List Key × Addr × Value)} {k : List Key} {y : V} {b : Addr} {u : Value} (r : KT H kvs xs) (h1 : H b = some (.tup (k.map kV))) (h2 : RelV y u) : KT H (kvs ++ [(k, y)]) (xs ++ [(k, b, u)]) := by
  induction r with
  | nil => exact .cons ⟨rfl, h1, h2⟩ .nil
  | cons q t ih => exact .cons q ih
theorem kt_is {P : Program} {w : World} {H : Hp} {h : Heap} (ok : HOk P w H h) {kvs : List (List Key × V)} {xs : List (List Key × Addr × Value)} (r : KT H kvs xs) : ∀ x ∈ xs, (tupleKind (mixKind P w)).is h x.1 x.2.1 := by
  induction r with
  | nil => intro x hx; cases hx
  | cons q t ih =>
    intro x hx
    rcases List.mem_cons.mp hx with rfl | hx
    · exact key_of ok (by rw [← q.1]; exact q.2.1)
    · exact ih x hx
section
variable {X : Cx} {pins : List (Addr × Obj)} {σ : St} {H : Hp} {s₀ : Shared} {A : Around}
theorem upd_loop {R : Result → Shared → Prop} {D it l : Addr} {vs : List V} {kvs : List (List Key × V)} {items : Array Value}
    (W : Walks X.prog X.w A.in1 it [it, l] [it] items.size (fun i v => items[i]? = some v) (fun i h => h.IsListIter it l i ∧ h.IsList l items))
    (hDi : D ≠ it) (hDl : D ≠ l) (hu : A.in1.units < cLine) (hv : Vals vs items.toList) (hr : Prs H vs kvs) (hn : (kvs.map (·.1)).Nodup) (hz : kvs.length ≤ sizeLine) (I₀ : Inv X pins σ H s₀) (hDN : s₀.heap.objs.size ≤ D) (hIN : s₀.heap.objs.size ≤ it)
    (hR : ∀ h' tk xs, (∀ b o, s₀.heap.get? b = some o → h'.get? b = some o) → KT H kvs xs → h'.DictOfH (tupleKind (mixKind X.prog X.w)) D xs → R (.ok (.ret .none)) { s₀ with heap := h', toks := tk }) :
    ∀ (k i : Nat) (h : Heap) (tk : Nat) (j : Int) (t : Tok) (xs : List (List Key × Addr × Value)), items.size - i = k → i ≤ items.size → (h.IsListIter it l i ∧ h.IsList l items) → (∀ b o, s₀.heap.get? b = some o → h.get? b = some o) →
      KT H (kvs.take i) xs → h.DictOfH (tupleKind (mixKind X.prog X.w)) D xs →
      codeAny (model X.prog X.w) A (.builtin "dict.update.loop" ⟨[.ref D, .ref it, .int j t, .none], []⟩) R { s₀ with heap := h, toks := tk } := by
  have hsz : items.size = kvs.length := by rw [← hr.length, hv.length, Array.length_toList]
  have hlt : ∀ b o, s₀.heap.get? b = some o → b < s₀.heap.objs.size := fun b o e => Heap.lt_size e
  have kpIt : ∀ {h h' : Heap}, (∀ b o, s₀.heap.get? b = some o → h.get? b = some o) → (∀ b o, b ∉ [it] → h.get? b = some o → h'.get? b = some o) → ∀ b o, s₀.heap.get? b = some o → h'.get? b = some o := fun hkp hm b o e =>
    hm b o (fun z => by rw [List.mem_singleton.mp z] at e; exact absurd (hlt _ _ e) (Nat.not_lt.mpr hIN)) (hkp b o e)
  intro k
  induction k with
  | zero =>
    intro i h tk j t xs hk hi hst hkp hx hd
    have hin : i = items.size := by omega
    subst hin
    refine codeAny_builtin entry_dict_update_loop ?_
    rw [Around.under_plainId plain_dict_update_loop _]
    show wpAny _ A.in1 (pyNext (.ref it) >>= _) _ _ _
    refine wpAny_bind (W.done _ _ _ hst fun h' tk' hm => ?_)
    show wpAny _ A.in1 (Builtin.Dict.addKeywords D [] >>= _) _ _ _
    refine wpAny_bind (wpAny_pure (wpAny_pure ?_))
    rw [hsz, List.take_length] at hx
    obtain ⟨o, es, ep, h1, h2, h3, h4, h5, h6⟩ := hd
    have kp := kpIt hkp hm
    exact hR h' tk' xs kp hx ⟨o, es, ep, hm D o (fun z => hDi (List.mem_singleton.mp z)) h1, h2, h3, h4, kt_is (I₀.kept (t' := tk') kp).hok hx, h6⟩
  | succ k ih =>
    intro i h tk j t xs hk hi hst hkp hx hd
    have hil : i < items.size := by omega
    refine codeAny_builtin entry_dict_update_loop ?_
    rw [Around.under_plainId plain_dict_update_loop _]
    show wpAny _ A.in1 (pyNext (.ref it) >>= _) _ _ _
    refine wpAny_bind (W.item i _ _ _ hil hst fun v h' tk' hP hst' hm => ?_)
    have kp := kpIt hkp hm
    have I1 : Inv X pins σ H { s₀ with heap := h', toks := tk' } := I₀.kept kp
    obtain ⟨y0, e0, r0⟩ := vals_at hv i v (by rw [Array.getElem?_toList]; exact hP)
    obtain ⟨p, b, ky, y, rfl, ek, ep, eb⟩ := hr.get i y0 e0
    cases r0
    obtain ⟨its, rv, pt, _⟩ := I1.tuple (SqT.of ep)
    cases rv with
    | cons rb rv =>
      cases rv with
      | cons ry rv =>
        cases rv
        cases rb
        rename_i u
        obtain ⟨o, es, ep', h1, h2, h3, h4, h5, h6⟩ := hd
        have hd' : h'.DictOfH (tupleKind (mixKind X.prog X.w)) D xs := ⟨o, es, ep', hm D o (fun z => hDi (List.mem_singleton.mp z)) h1, h2, h3, h4, kt_is I1.hok hx, h6⟩
        show wpAny _ A.in1 (holding [Value.ref p] _ >>= _) _ _ _
        refine wpAny_bind (wpAny_holding ?_)
        obtain ⟨op, hop, hcp, np, hdp⟩ := id pt
        refine wpAny_bind (wpAny_tryCatch ?_)
        unfold Builtin.Dict.pairItems
        refine wpAny_bind (wpAny_typeOf pt.typeIs ?_)
        rw [if_pos (by decide)]
        refine wpAny_bind (wpAny_seqItems hop hdp (wpAny_pure ?_))
        show wpAny _ A.in1 (holding [Value.ref b, u] (dictSet D (.ref b) u)) _ _ _
        have hlx : xs.length = i := by rw [← Paired.length hx, List.length_take]; omega
        refine wpAny_holding (wpAny_dictSet_heap (hsz := by rw [hlx]; omega) hu (key_of I1.hok eb) hd' fun h2' hd2 hs2 => ?_)
        have hni : ky ∉ (kvs.take i).map (·.1) := fun z => by
          have e2 : kvs = kvs.take i ++ kvs.drop i := (List.take_append_drop i kvs).symm
          have e3 : (ky, y) ∈ kvs.drop i := by
            have : (kvs.drop i)[0]? = some (ky, y) := by rw [List.getElem?_drop]; simpa using ek
            exact List.mem_of_getElem? this
          rw [e2, List.map_append] at hn
          exact (List.nodup_append.mp hn).2.2 _ z _ (List.mem_map_of_mem e3) rfl
        rw [storedH_new (kt_none hx hni)] at hd2
        have htk : kvs.take (i + 1) = kvs.take i ++ [(ky, y)] := by
          rw [List.take_add_one, ek]; rfl
        have kp2 : ∀ b o, s₀.heap.get? b = some o → h2'.get? b = some o := fun c o e => by
          rw [hs2.2 c (fun z => by rw [z] at e; exact absurd (hlt _ _ e) (Nat.not_lt.mpr hDN))]
          exact kp c o e
        refine wpAny_pure ⟨plainId_quiet plain_dict_update_loop _, ih (i + 1) h2' _ (j + 1) _ _ (by omega) hil (W.frame (i + 1) h' h2' hst' fun c hc o e => ?_) kp2 (by rw [htk]; exact kt_snoc hx eb ry) hd2⟩
        rw [hs2.2 c (fun z => by
          rw [z] at hc
          simp only [List.mem_cons, List.not_mem_nil, or_false] at hc
          rcases hc with z | z
          · exact hDi z
          · exact hDl z)]
        exact e
theorem call_dict_prs {Q : Value → Shared → Prop} {l : Addr} {vs : List V} {kvs : List (List Key × V)} (hh : A.handled = none) (hu : A.units + 8 < cLine) (I : Inv X pins σ H s₀) (hl : SqL X.K H l vs) (hr : Prs H vs kvs) (hn : (kvs.map (·.1)).Nodup)
    {E : Value → Shared → Prop} (h : ∀ s', Inv X pins σ (upd H s₀.heap.objs.size (.dT kvs)) s' → Q (.ref s₀.heap.objs.size) s') : wpAny (model X.prog X.w) A (call (.type "dict") [.ref l]) Q E s₀ := by
  refine callType_codes (Q₁ := fun obj s₁ => obj = .ref s₀.heap.objs.size ∧ s₁ = { s₀ with heap := s₀.heap.push { cls := .type "dict", data := .dict #[] } }) F.kt_called_dict (F.kt_typeCall_dict_1 _) F.entry_dict_init (kt_code_dict_new _ ⟨rfl, rfl⟩) ?_
  rintro obj s₁ ⟨rfl, rfl⟩
  obtain ⟨its, rv, ⟨o, n, hg, hc, hdi, hda⟩, hz⟩ := I.list hl
  have hnew : (s₀.heap.push { cls := .type "dict", data := .dict #[] }).DictOfH (tupleKind (mixKind X.prog X.w)) s₀.heap.objs.size [] := Heap.DictOfH.new s₀.heap
  have hg1 : (s₀.heap.push { cls := .type "dict", data := .dict #[] }).get? l = some o := Heap.get?_push_of_some _ hg
  refine ⟨hnew.typeIs, F.args_dict_init_2 _ _, ?_⟩
  unfold Builtin.«dict.__init__»
  refine wpAny_bind ?_
  unfold Builtin.Dict.selfAndRest
  refine wpAny_bind (wpAny_notOrdered_dict hnew.typeIs ?_)
  show wpAny _ _ (pure (s₀.heap.objs.size, [Value.ref l])) _ _ _
  refine wpAny_pure ?_
  show wpAny _ _ (Builtin.Dict.updateFrom "dict.__init__" s₀.heap.objs.size (.ref l) [] .none) _ _ _
  unfold Builtin.Dict.updateFrom
  refine wpAny_bind (wpAny_typeOf (T := "list") ⟨o, hg1, hc⟩ ?_)
  rw [if_pos (by decide)]
  refine wpAny_bind (no_keys hg1 hc hda hdi (by simpa using hh) fun h' tk kp => ?_)
  rw [if_pos (show (none : Option Value).isNone = true from rfl)]
  refine wpAny_bind (wpAny_rule ?_)
  have hl' : h'.IsList l its.toArray := ⟨o, kp l o hg1, hc, n, hda⟩
  have hnew' : ∃ q, h'.get? s₀.heap.objs.size = some q := ⟨_, kp _ _ (Heap.get?_push_size _ rfl)⟩
  have hDlt : s₀.heap.objs.size < h'.objs.size := let ⟨q, hq⟩ := hnew'; Heap.lt_size hq
  have hllt : l < s₀.heap.objs.size := Heap.lt_size hg
  have kp0 : ∀ b u, s₀.heap.get? b = some u → h'.get? b = some u := fun b u e => kp b u (Heap.get?_push_of_some _ e)
  refine wpAny_bind (wpAny_pyIter_list hl' (wpAny_pure ⟨plainId_quiet plain_dict_update_loop _, ?_⟩))
  have hd1 : (h'.push { cls := .type "list_iterator", data := .fields #[.ref l, .int 0 0] }).DictOfH (tupleKind (mixKind X.prog X.w)) s₀.heap.objs.size [] := by
    obtain ⟨o', es, ep, h1, h2, h3, h4, h5, h6⟩ := hnew
    exact ⟨o', es, ep, Heap.get?_push_of_some _ (kp _ _ h1), h2, h3, h4, fun x hx => (by cases hx), h6⟩
  refine upd_loop (A := A.in1) (s₀ := s₀) (D := s₀.heap.objs.size) (it := h'.objs.size) (l := l) (items := its.toArray) (H := H) (X := X) (pins := pins) (σ := σ) (vs := vs) (kvs := kvs)
    (Walks.list (by simpa using hh) _ l (Nat.ne_of_lt (Nat.lt_trans hllt hDlt)) its.toArray) (Nat.ne_of_lt hDlt) (Nat.ne_of_gt hllt) (by show A.units + 1 + 1 < _; omega) (by simpa using rv) hr hn (by rw [← hr.length]; exact hz) I (Nat.le_refl _) (Nat.le_of_lt hDlt) (fun h2 tk2 xs kp2 hx hd2 => ?_)
    (its.toArray.size - 0) 0 _ _ _ _ [] rfl (Nat.zero_le _) ⟨⟨_, Heap.get?_push_size _ rfl, rfl, rfl⟩, hl'.push _⟩ (fun b u e => Heap.get?_push_of_some _ (kp0 b u e)) .nil hd1
  refine ⟨rfl, h _ (I.laid (t' := tk2) kp2 (Nat.le_refl _) ?_)⟩
  obtain ⟨q, es, ep, hq, g2, g3, g4, _, g5⟩ := hd2
  exact ⟨by rw [← hr.length]; exact hz, beq_eq_false_iff_ne.mpr (Ne.symm (Nat.ne_of_lt I.big)), xs, hx.keeps fun c ys ec => by rw [upd_ne (fun z => by rw [z, I.hok.fresh (Nat.le_refl _)] at ec; cases ec)]; exact ec, q, es, ep, hq, g2, g3, g4, g5⟩
end
end L2
set_option Elab.async false
set_option linter.all false
set_option maxRecDepth 100000
set_option genSizeOf false
set_option bootstrap.genMatcherCode false
namespace DL
open PySem PySem.Spec PyProof.Rows L2
def mlsO : OS → Option (List D)
  | .mls xs => some xs
  | _ => none
def objN : D → Option Nat
  | .obj n => some n
  | _ => none
def intN : D → Option Int
  | .int i => some i
  | _ => none
theorem mls_of {o : OS} {xs : List D} (h : mlsO o = some xs) : o = .mls xs := by
  unfold mlsO at h
  split at h
  · cases h; rfl
  · cases h
theorem obj_of {d : D} {n : Nat} (h : objN d = some n) : d = .obj n := by
  unfold objN at h
  split at h
  · cases h; rfl
  · cases h
theorem int_of {d : D} {n : Int} (h : intN d = some n) : d = .int n := by
  unfold intN at h
  split at h
  · cases h; rfl
  · cases h
def gNewM (ga : ADen) : Den := fun ρ Ω => (ga ρ Ω).bind fun p => if p.1.length ≤ big then some (.obj p.2.length, p.2 ++ [.mls p.1]) else none
def gMIx (f g : Den) : Den := fun ρ Ω => (f ρ Ω).bind fun p => (objN p.1).bind fun n => (g ρ p.2).bind fun r => (intN r.1).bind fun i => (r.2[n]?).bind fun o => (mlsO o).bind fun xs => (atI xs i).bind fun d => some (d, r.2)
def sAppM (f g : Den) : SDen := fun ρ Ω => (f ρ Ω).bind fun p => (objN p.1).bind fun n => (p.2[n]?).bind fun o1 => (mlsO o1).bind fun _ => (g ρ p.2).bind fun r => (r.2[n]?).bind fun o => (mlsO o).bind fun xs =>
  if xs.length < big then some (.nx ρ (r.2.set n (.mls (xs ++ [r.1])))) else none
def sSetM (f g h : Den) : SDen := fun ρ Ω => (h ρ Ω).bind fun v => (f ρ v.2).bind fun p => (objN p.1).bind fun n => (g ρ p.2).bind fun r => (intN r.1).bind fun i => (r.2[n]?).bind fun o => (mlsO o).bind fun xs =>
  (ixN xs.length i).bind fun j => some (.nx ρ (r.2.set n (.mls (xs.set j v.1))))
theorem Wf.mls {K : PySem.W.Frag} {C : Cl} {e : E4} {Ω : List OS} (w : Wf K C e Ω) {n : Nat} {a : Addr} {xs : List D} (hα : e.α[n]? = some a) (h : Ω[n]? = some (.mls xs)) : ∃ vs, e.H a = some (.lst vs) ∧ IsL K e.α e.F xs vs := (w.ob n a _ hα h).2
theorem IsL.setAt {K : PySem.W.Frag} {α : List Addr} {F : Hp} : ∀ {ds : List D} {vs : List V} (j : Nat) {d : D} {v : V}, IsL K α F ds vs → Is K α F d v → IsL K α F (ds.set j d) (vs.set j v)
  | [], vs, j, d, v, h, i => by rw [h.of_nil]; exact .nil
  | x :: ds, vs, 0, d, v, h, i => by
    obtain ⟨u, r, rfl, _, t⟩ := h.of_cons
    exact .cons i t
  | x :: ds, vs, j + 1, d, v, h, i => by
    obtain ⟨u, r, rfl, i1, t⟩ := h.of_cons
    exact .cons i1 (IsL.setAt j t i)
section
variable {X : Cx} {C : Cl} {a b x : Expr} {es : List Expr} {f g h : Den} {ga : ADen} {pos pos' : Pos}
theorem pd_newM (ha : PDA X C es ga) : PD X C (.List es pos) (gNewM ga) := pe_imp (pe_lst ha) fun σ H Q hw' => by
  obtain ⟨e, Ω, ρ, d, Ω', eH, w, rl, q, kk⟩ := hw'
  obtain ⟨⟨ds, Ω1⟩, q1, q⟩ := Option.bind_eq_some_iff.mp q
  dsimp only at q
  split at q
  · rename_i hl
    cases q
    refine ⟨e, Ω, ρ, ds, _, eH, w, rl, q1, fun vs e' x' w' i' => ⟨by rw [← i'.length]; exact big_line hl, fun p hp => ?_⟩⟩
    obtain ⟨w2, x2⟩ := w'.obj (H' := upd e'.H p (.lst vs)) (o := .mls ds) hp (fun b u hb => by rw [upd_ne (ne_of_none hb hp)]; exact hb) (by rw [upd_same]; exact ⟨by simp, fun xs z => nomatch z⟩) ⟨vs, upd_same, IsL.mono (Same.refl _) ⟨[p], rfl⟩ _ i'⟩
    refine kk _ (e'.obj p _) (x'.trans x2) w2 ?_
    rw [Is]
    exact ⟨p, by show (e'.α ++ [p])[Ω1.length]? = some p; rw [← w'.ol]; simp, rfl⟩
  · cases q
theorem pd_mix (ha : PD X C a f) (hb : PD X C b g) (hs : PlainIx b := by intro _ _; rfl) : PD X C (.Subscript a b pos) (gMIx f g) := pe_imp (pe_ix ix_list ha hb hs) fun σ H Q hw' => by
  obtain ⟨e, Ω, ρ, d, Ω', eH, w, rl, q, kk⟩ := hw'
  obtain ⟨⟨d1, Ω1⟩, q1, q⟩ := Option.bind_eq_some_iff.mp q
  obtain ⟨n, q2, q⟩ := Option.bind_eq_some_iff.mp q
  obtain ⟨⟨d3, Ω3⟩, q3, q⟩ := Option.bind_eq_some_iff.mp q
  obtain ⟨i, q4, q⟩ := Option.bind_eq_some_iff.mp q
  obtain ⟨o, q5, q⟩ := Option.bind_eq_some_iff.mp q
  obtain ⟨xs, q6, q⟩ := Option.bind_eq_some_iff.mp q
  obtain ⟨z, q7, q⟩ := Option.bind_eq_some_iff.mp q
  cases q
  have e2 := obj_of q2
  have e4 := int_of q4
  have e6 := mls_of q6
  dsimp only at e2 e4 q5
  subst e2 e4 e6
  refine ⟨e, Ω, ρ, _, Ω1, eH, w, rl, q1, fun v e1 x1 w1 i1 => ?_⟩
  refine ⟨e1, Ω1, ρ, _, Ω3, rfl, w1, rl.ext x1, q3, fun u e2 x2 w2 i2 => ?_⟩
  have i1' := i1.ext x2
  rw [Is] at i1'
  rw [Is] at i2
  obtain ⟨p, hα, rfl⟩ := i1'
  subst i2
  obtain ⟨vs, hH, il⟩ := w2.mls hα q5
  obtain ⟨u, hu, iu⟩ := atI_is il q7
  exact ⟨p, vs, i, u, rfl, rfl, SqL.of hH, hu, kk u e2 (x1.trans x2) w2 iu⟩
theorem pds_appM {ap cp : Pos} (ha : PD X C a f) (hb : PD X C b g) (hbase : attributeBase a "append" X.env (eval a X.env) = eval a X.env := by rfl)
    (hfew : ((backTo cp (starEach [b] X.env)).all (fun x => !x.1) && (backToKw cp (keywordEach [] X.env)).all (fun x => x.1.isSome)
      && decide (([b] : List Expr).length + ([] : List Keyword).length + (if ([] : List Keyword).isEmpty then 0 else 1) < 30)) = true := by rfl)
    (hline : (ap.endLine == cp.line) = true := by rfl) (hst : starEach [b] X.env = (false, eval b X.env) :: starEach [] X.env := by rfl) (hplain : (backTo cp (starEach [] X.env)).any (·.1) = false := by rfl)
    (hs : swapsWith (.Call (.Attribute a "append" ap) [b] [] cp) none pos.line X.env = pure false := by rfl) :
    PDS X C (.Expr (.Call (.Attribute a "append" ap) [b] [] cp) pos) (sAppM f g) := fun e₀ =>
  ps_imp (ps_expr (pe_bm PySem.F.plainAttrs_list PySem.F.slot_list_append PySem.F.type_list_append mt_append ha (pa_cons hb pa_nil hst) hbase hfew hline hst hplain) hs) fun Dn σ H hw' => by
    obtain ⟨e, Ω, ρ, o, eH, r, q, k⟩ := hw'
    obtain ⟨⟨d1, Ω1⟩, q1, q⟩ := Option.bind_eq_some_iff.mp q
    obtain ⟨n, q2, q⟩ := Option.bind_eq_some_iff.mp q
    obtain ⟨o1, q3, q⟩ := Option.bind_eq_some_iff.mp q
    obtain ⟨xs1, q4, q⟩ := Option.bind_eq_some_iff.mp q
    obtain ⟨⟨d5, Ω5⟩, q5, q⟩ := Option.bind_eq_some_iff.mp q
    obtain ⟨o6, q6, q⟩ := Option.bind_eq_some_iff.mp q
    obtain ⟨xs, q7, q⟩ := Option.bind_eq_some_iff.mp q
    split at q
    · rename_i hl
      cases q
      have e2 := obj_of q2
      have e4 := mls_of q4
      have e7 := mls_of q7
      dsimp only at e2 q3 q5 q6 hl
      subst e2 e4 e7
      refine ⟨e, Ω, ρ, _, Ω1, eH, r.wf, r.rel, q1, fun v e1 x1 w1 i1 => ?_⟩
      have i1' := i1
      rw [Is] at i1'
      obtain ⟨p, hα, rfl⟩ := i1'
      obtain ⟨vs1, hH1, _⟩ := w1.mls hα q3
      refine ⟨.inl ⟨rfl, _, SqL.of hH1⟩, ?_⟩
      refine ⟨e1, Ω1, ρ, d5, Ω5, rfl, w1, r.rel.ext x1, q5, fun u e2 x2 w2 i2 => ?_⟩
      have i3 := i1.ext x2
      rw [Is] at i3
      obtain ⟨p', hα2, ep⟩ := i3
      cases ep
      obtain ⟨vs, hH, il⟩ := w2.mls hα2 q6
      refine ⟨p, vs, u, rfl, rfl, hH, by rw [← il.length]; exact big_lt hl, ?_⟩
      obtain ⟨w3, x3⟩ := w2.at (ho := .lst (vs ++ [u])) (o' := .mls (xs ++ [d5])) hα2 (fun _ z => nomatch z) ⟨_, upd_same, il.append (.cons i2 .nil)⟩ (fun o u z => by rw [hH] at z; cases z)
      exact k (e2.at p _) σ (r.to ((x1.trans x2).trans x3) w3)
    · cases q
theorem pds_setM (ha : PD X C a f) (hb : PD X C b g) (hx : PD X C x h) (hst : ∀ v, assign (.Subscript a b pos') X.env v = (do
      let ov ← holding [v] (eval a X.env)
      let iv ← holding [v, ov] (eval b X.env)
      standAt pos'
      holding [v, ov, iv] (setItem ov iv v)
      release [v, ov, iv] []) := by intro _; rfl) (hs : swapsWithSole [.Subscript a b pos'] x pos.line X.env = pure false := by rfl) (hw : swappedStores [.Subscript a b pos'] x X.env = pure none := by rfl)
    (h1 : (assignEach [.Subscript a b pos'] X.env).map (·.2) = [assign (.Subscript a b pos') X.env] := by rfl) : PDS X C (.Assign [.Subscript a b pos'] x pos) (sSetM f g h) := fun e₀ =>
  ps_imp (ps_asg hx (pg_sub ha hb set_list hst) hs hw h1) fun Dn σ H hw' => by
    obtain ⟨e, Ω, ρ, o, eH, r, q, k⟩ := hw'
    obtain ⟨⟨d0, Ω0⟩, q0, q⟩ := Option.bind_eq_some_iff.mp q
    obtain ⟨⟨d1, Ω1⟩, q1, q⟩ := Option.bind_eq_some_iff.mp q
    obtain ⟨n, q2, q⟩ := Option.bind_eq_some_iff.mp q
    obtain ⟨⟨d3, Ω3⟩, q3, q⟩ := Option.bind_eq_some_iff.mp q
    obtain ⟨i, q4, q⟩ := Option.bind_eq_some_iff.mp q
    obtain ⟨o5, q5, q⟩ := Option.bind_eq_some_iff.mp q
    obtain ⟨xs, q6, q⟩ := Option.bind_eq_some_iff.mp q
    obtain ⟨j, q7, q⟩ := Option.bind_eq_some_iff.mp q
    cases q
    have e2 := obj_of q2
    have e4 := int_of q4
    have e6 := mls_of q6
    dsimp only at e2 e4 q1 q3 q5
    subst e2 e4 e6
    refine ⟨e, Ω, ρ, d0, Ω0, eH, r.wf, r.rel, q0, fun v0 e0 x0 w0 i0 => ?_⟩
    refine ⟨e0, Ω0, ρ, _, Ω1, rfl, w0, r.rel.ext x0, q1, fun v1 e1 x1 w1 i1 => ?_⟩
    refine ⟨e1, Ω1, ρ, _, Ω3, rfl, w1, (r.rel.ext x0).ext x1, q3, fun v3 e3 x3 w3 i3 => ?_⟩
    have i1' := i1.ext x3
    rw [Is] at i1'
    rw [Is] at i3
    obtain ⟨p, hα, rfl⟩ := i1'
    subst i3
    obtain ⟨vs, hH, il⟩ := w3.mls hα q5
    refine ⟨p, vs, i, j, rfl, rfl, hH, by rw [← il.length]; exact q7, ?_⟩
    obtain ⟨w4, x4⟩ := w3.at (ho := .lst (vs.set j v0)) (o' := .mls (xs.set j d0)) hα (fun _ z => nomatch z) ⟨_, upd_same, il.setAt j (i0.ext (x1.trans x3))⟩ (fun o u z => by rw [hH] at z; cases z)
    exact k (e3.at p _) σ (r.to (((x0.trans x1).trans x3).trans x4) w4)
noncomputable def forM (β : BDen) (s : SDen) (n : Nat) (xs : List D) : List D → SDen
  | [], ρ, Ω => grd (Ω[n]? = some (.mls xs)) (some (.nx ρ Ω))
  | d :: ds, ρ, Ω => grd (Ω[n]? = some (.mls xs)) (match β d ρ with
    | some ρ1 => match s ρ1 Ω with
      | some (.nx ρ' Ω') => forM β s n xs ds ρ' Ω'
      | some (.ct ρ' Ω') => forM β s n xs ds ρ' Ω'
      | some (.bk ρ' Ω') => some (.nx ρ' Ω')
      | some (.rt z Ω') => some (.rt z Ω')
      | none => none
    | none => none)
noncomputable def sForM (f : Den) (β : BDen) (s : SDen) : SDen := fun ρ Ω => (f ρ Ω).bind fun p => (objN p.1).bind fun n => (p.2[n]?).bind fun o => (mlsO o).bind fun xs => forM β s n xs xs ρ p.2
theorem pds_forM {tg iter : Expr} {β : BDen} {s : SDen} {body : List Stmt} (hp : PassesOwn (model X.prog X.w) X.A X.env X.xe) (hc : X.calm = true) (hi : PD X C iter f) (hg : PDG X C tg β) (hb : PDB X C body s)
    (hs : ∀ x, foldedSetIterable iter X.env x = pure x := by intro _; rfl) : PDS X C (.For tg iter body [] pos) (sForM f β s) := by
  refine fun e₀ => ps_imp (ps_for hp hc (pi_list hi) hg (pdb_ex hb) hs) fun Dn σ H hw' => ?_
  obtain ⟨e, Ω, ρ, o, eH, r, q, k⟩ := hw'
  obtain ⟨⟨d1, Ω'⟩, q1, qa⟩ := Option.bind_eq_some_iff.mp q
  obtain ⟨n, q2, qb⟩ := Option.bind_eq_some_iff.mp qa
  obtain ⟨o3, q3, qc⟩ := Option.bind_eq_some_iff.mp qb
  obtain ⟨ds, q4, qd⟩ := Option.bind_eq_some_iff.mp qc
  clear q qa qb qc
  have e2 := obj_of q2
  have e4 := mls_of q4
  dsimp only at e2 q3 qd
  subst e2 e4
  refine ⟨e, Ω, ρ, _, Ω', eH, r.wf, r.rel, q1, fun v e' x' w' i' => ?_⟩
  rw [Is] at i'
  obtain ⟨a, hα, rfl⟩ := i'
  obtain ⟨vs0, hH0, il0⟩ := w'.mls hα q3
  refine ⟨a, rfl, ⟨vs0, SqL.of hH0⟩, ?_⟩
  refine ⟨fun i m σ H => m = ds.length - i ∧ i ≤ ds.length ∧ ∃ e2 Ω2 ρ2, e2.H = H ∧ RelS X.K C e₀ e2 Ω2 σ ρ2 ∧ e2.α[n]? = some a ∧ forM β s n ds (ds.drop i) ρ2 Ω2 = some o, ⟨ds.length, by simp, Nat.zero_le _, e', Ω', ρ, rfl, r.to x' w', hα, by simpa using qd⟩, ?_⟩
  rintro i m σ2 H2 ⟨rfl, hil, e2, Ω2, ρ2, rfl, r2, al, q5⟩
  by_cases hlt : i < ds.length
  · have hd : ds[i]? = some ds[i] := List.getElem?_eq_getElem hlt
    have edrop : ds.drop i = ds[i] :: ds.drop (i + 1) := List.drop_eq_getElem_cons hlt
    rw [edrop] at q5
    unfold forM at q5
    obtain ⟨hg, q5⟩ := grd_some q5
    obtain ⟨vs, hH, il⟩ := r2.wf.mls al hg
    obtain ⟨u, hu, iu⟩ := il.get hd
    refine .inr ⟨⟨vs, u, SqL.of hH, hu⟩, fun σ' H' => ∃ e3 Ω3 ρ3, e3.H = H' ∧ RelS X.K C e₀ e3 Ω3 σ' ρ3 ∧ e3.α[n]? = some a ∧ forM β s n ds (ds.drop (i + 1)) ρ3 Ω3 = some o, fun σ' H' hN => ⟨ds.length - (i + 1), by omega, rfl, hlt, hN⟩, fun x H' hy => ?_⟩
    obtain ⟨rfl, hx⟩ := hy
    have hx' := hx vs (SqL.of hH)
    rw [hu] at hx'
    cases hx'
    cases q6 : β ds[i] ρ2 with
    | none => rw [q6] at q5; cases q5
    | some ρ3 =>
      rw [q6] at q5
      dsimp only at q5
      refine ⟨e2, Ω2, ρ2, _, ρ3, rfl, r2.wf, r2.rel, iu, q6, fun σ3 r3 o3 => ?_⟩
      have r3' := r2.by r3 o3
      obtain ⟨e₁, hF, hα1, r4, toE, toN, _⟩ := r3'.mark
      cases q7 : s ρ3 Ω2 with
      | none => rw [q7] at q5; cases q5
      | some o7 =>
        rw [q7] at q5
        refine ⟨e₁, e2, Ω2, ρ3, o7, rfl, r4, q7, ?_⟩
        have back : ∀ {e5 : E4} {Ω5 : List OS} {σ5 : St} {ρ5 : List Sl}, RelS X.K C e₁ e5 Ω5 σ5 ρ5 → RelS X.K C e₀ e5 Ω5 σ5 ρ5 ∧ e5.α[n]? = some a := fun {e5 Ω5 σ5 ρ5} r5 => by
          refine ⟨⟨r5.wf, r5.rel, toE _ r5.ext, fun i ds a h1 h2 => toN _ (r5.fresh i ds a h1 h2)⟩, ?_⟩
          obtain ⟨m2, z2⟩ := r5.ext.al
          rw [z2, hα1, List.getElem?_append_left (List.getElem?_eq_some_iff.mp al).1]
          exact al
        cases o7 with
        | nx ρ5 Ω5 => exact fun e5 σ5 r5 => ⟨e5, Ω5, ρ5, rfl, (back r5).1, (back r5).2, q5⟩
        | ct ρ5 Ω5 => exact fun e5 σ5 r5 => ⟨e5, Ω5, ρ5, rfl, (back r5).1, (back r5).2, q5⟩
        | bk ρ5 Ω5 => cases q5; exact fun e5 σ5 r5 => k e5 σ5 (back r5).1
        | rt z Ω5 => cases q5; exact fun e5 v5 x5 w5 i5 => k e5 v5 (toE _ x5) w5 i5
  · have ei : i = ds.length := by omega
    subst ei
    rw [List.drop_length] at q5
    unfold forM at q5
    obtain ⟨hg, q5⟩ := grd_some q5
    cases q5
    obtain ⟨vs, hH, il⟩ := r2.wf.mls al hg
    exact .inl ⟨⟨vs, SqL.of hH, by rw [← il.length]; exact Nat.le_refl _⟩, k e2 σ2 r2⟩
def pairK : D → Option (List Key × D)
  | .tup [k, y] => (tkeyD k).map fun ks => (ks, y)
  | _ => none
def pairsK : List D → Option (List (List Key × D))
  | [] => some []
  | d :: ds => (pairK d).bind fun p => (pairsK ds).bind fun r => some (p :: r)
noncomputable def gDictL (f : Den) : Den := fun ρ Ω => (f ρ Ω).bind fun p => (seqD p.1).bind fun ds => (pairsK ds).bind fun kvs => grd ((kvs.map (·.1)).Nodup) (some (.obj p.2.length, p.2 ++ [.dT kvs]))
theorem pair_of {d : D} {k : List Key} {y : D} (h : pairK d = some (k, y)) : ∃ kd, d = .tup [kd, y] ∧ tkeyD kd = some k := by
  unfold pairK at h
  split at h
  · rename_i kd y'
    obtain ⟨ks, h1, h2⟩ := Option.map_eq_some_iff.mp h
    cases h2
    exact ⟨kd, rfl, h1⟩
  · cases h
theorem pairs_is {K : PySem.W.Frag} {α : List Addr} {F H : Hp} (ff : Same F H) : ∀ {ds : List D} {kvs : List (List Key × D)} {vs : List V}, pairsK ds = some kvs → IsL K α F ds vs → ∃ kv : List (List Key × V), Prs H vs kv ∧ PsIs K α F kvs kv
  | [], kvs, vs, h, i => by
    cases h
    rw [i.of_nil]
    exact ⟨[], .nil, rfl⟩
  | d :: ds, kvs, vs, h, i => by
    obtain ⟨⟨k, y⟩, h1, h⟩ := Option.bind_eq_some_iff.mp h
    obtain ⟨r, h2, h⟩ := Option.bind_eq_some_iff.mp h
    cases h
    obtain ⟨v, vr, rfl, i1, i2⟩ := i.of_cons
    obtain ⟨kd, rfl, hk⟩ := pair_of h1
    rw [Is] at i1
    obtain ⟨p, us, rfl, hp, iu⟩ := i1
    obtain ⟨u1, u2, rfl, j1, j2⟩ := isL_two iu
    obtain ⟨b, rfl, hb⟩ := tkeyD_v hk j1
    obtain ⟨kv, c1, c2⟩ := pairs_is ff h2 i2
    exact ⟨(k, u2) :: kv, .cons (ff _ _ hp) (ff _ _ hb) c1, u2, kv, rfl, j2, c2⟩
theorem psIs_keys {K : PySem.W.Frag} {α : List Addr} {F : Hp} {κ : Type} : ∀ {ps : List (κ × D)} {vs : List (κ × V)}, PsIs K α F ps vs → vs.map (·.1) = ps.map (·.1)
  | [], vs, h => by cases (show vs = [] from h); rfl
  | p :: r, _, ⟨v, t, e, i, q⟩ => by rw [e, List.map_cons, List.map_cons, psIs_keys q]
theorem pd_dictL {k : Nat} {n : Str} {p : Pos} (hr : Room k X.A) (hg : Gl X n) (hm : X.mg n = none) (hv : bootBuiltins n = some (.type "dict")) (ha : PD X C a f) (hn : n ≠ "__name__" := by decide) (hdb : (n == ("__debug__" : Str)) = false := by decide)
    (he : starEach [a] X.env = (false, eval a X.env) :: starEach [] X.env := by rfl) (hpl : (backTo pos (starEach [] X.env)).any (·.1) = false := by rfl) : PD X C (.Call (.Name n p) [a] [] pos) (gDictL f) := by
  have hc : CallR X (.type "dict") (fun xs H Q => ∃ l vs kvs, xs = [.ref l] ∧ SqL X.K H l vs ∧ Prs H vs kvs ∧ (kvs.map (·.1)).Nodup ∧ ∀ q, H q = none → Q (.ref q) (upd H q (.dT kvs))) := by
    intro pins s σ H xs us Q I r h
    obtain ⟨l, vs, kvs, rfl, hl, hp, hnd, q⟩ := h
    obtain ⟨u, rfl, ru⟩ := vals1 r
    cases ru
    exact call_dict_prs hr.hd (by have := hr.un; omega) I hl hp hnd fun s' I' => ⟨.ref s.heap.objs.size, _, I', rfl, q _ (I.hok.fresh (Nat.le_refl _))⟩
  refine pe_imp (pe_callTy hc hg hm hv (pa_cons ha pa_nil he) hn hdb he hpl) fun σ H Q hw' => ?_
  obtain ⟨e, Ω, ρ, d, Ω', eH, w, rl, q, kk⟩ := hw'
  obtain ⟨⟨d1, Ω1⟩, q1, q⟩ := Option.bind_eq_some_iff.mp q
  obtain ⟨ds, q2, q⟩ := Option.bind_eq_some_iff.mp q
  obtain ⟨kvs, q3, q⟩ := Option.bind_eq_some_iff.mp q
  obtain ⟨hnd, q⟩ := grd_some q
  cases q
  refine ⟨e, Ω, ρ, d1, Ω1, eH, w, rl, q1, fun v e1 x1 w1 i1 => ?_⟩
  have fin : ∀ {l : Addr} {vs : List V}, SqL X.K e1.H l vs → IsL X.K e1.α e1.F ds vs → ∃ l' vs' kvs', [V.ref l] = [V.ref l'] ∧ SqL X.K e1.H l' vs' ∧ Prs e1.H vs' kvs' ∧ (kvs'.map (·.1)).Nodup ∧ ∀ q, e1.H q = none → Q (.ref q) (upd e1.H q (.dT kvs')) := fun {l vs} hl il => by
    obtain ⟨kv, c1, c2⟩ := pairs_is w1.fh q3 il
    refine ⟨l, vs, kv, rfl, hl, c1, by rw [psIs_keys c2]; exact hnd, fun q hq => ?_⟩
    obtain ⟨w2, x2⟩ := w1.obj (H' := upd e1.H q (.dT kv)) (o := .dT kvs) hq (fun b u hb => by rw [upd_ne (ne_of_none hb hq)]; exact hb) (by rw [upd_same]; exact ⟨by simp, fun xs z => nomatch z⟩) ⟨kv, upd_same, c2.mono (Same.refl _) ⟨[q], rfl⟩⟩
    refine kk _ (e1.obj q _) (x1.trans x2) w2 ?_
    rw [Is]
    exact ⟨q, by show (e1.α ++ [q])[Ω1.length]? = some q; rw [← w1.ol]; simp, rfl⟩
  dsimp only at q2
  unfold seqD at q2
  split at q2
  · cases q2
    rw [Is] at i1
    obtain ⟨l, vs, rfl, h1, r1⟩ := i1
    exact fin (SqL.of (w1.fh _ _ h1)) r1
  · cases q2
    rw [Is] at i1
    obtain ⟨l, rfl, h1⟩ := i1
    exact fin (w1.fh.seq h1) (IsL.ints _)
  · cases q2
end
end DL
set_option Elab.async false
set_option linter.all false
set_option maxRecDepth 100000
set_option genSizeOf false
set_option bootstrap.genMatcherCode false
namespace DL
open PySem PySem.Spec PyProof.Rows L2
theorem gLs_inv {g : Den} {ρ : List Sl} {Ω Ω' : List OS} {ds : List D} (h : gLs g ρ Ω = some (ds, Ω')) : g ρ Ω = some (.lst ds, Ω') := by
  unfold gLs at h
  split at h
  · rename_i q; cases h; exact q
  · cases h
def E4.lay (e : E4) (a : Addr) (o : HO) : E4 := ⟨e.α, e.F, e.A, upd e.H a o⟩
section
variable {K : PySem.W.Frag} {C : Cl} {e e' : E4} {Ω : List OS} {a : Addr} {o : HO}
theorem Wf.lay (w : Wf K C e Ω) (hF : e.F a = none) (hA : ¬ e.A a) : Wf K C (e.lay a o) Ω := by
  refine ⟨fun b u h => ?_, w.fa, fun b h => ?_, w.ol, w.nd, fun n b u h1 h2 => ⟨(w.ob n b u h1 h2).1, (w.ob n b u h1 h2).2.keep (fun v hv => ?_) (Same.refl _) ⟨[], by simp [E4.lay]⟩⟩⟩
  · show upd e.H a o b = some u
    rw [upd_ne (fun z => by subst z; rw [show e.F b = some u from h] at hF; cases hF)]; exact w.fh b u h
  · show upd e.H a o b ≠ none ∧ ∀ xs, upd e.H a o b ≠ some (.tup xs)
    rw [upd_ne (fun z => hA (by rw [← z]; exact h))]; exact w.ah b h
  · show upd e.H a o b = some v
    rw [upd_ne (fun z => hA (by rw [← z]; exact (w.ob n b u h1 h2).1))]; exact hv
theorem Ext.lay (x : Ext e e') (ha : e.H a = none) : Ext e (e'.lay a o) := by
  refine ⟨fun b o' u h => ?_, fun b u h hn => ?_, fun b u h => ?_, x.ff, x.fn, x.an, x.aa, x.al⟩
  · show upd e'.H a o b = some (.frz o' u)
    rw [upd_ne (ne_of_none h ha)]; exact x.fz b o' u h
  · show upd e'.H a o b = some u
    rw [upd_ne (ne_of_none h ha)]; exact x.hk b u h hn
  · obtain ⟨u', z⟩ := x.dm b u h
    exact ⟨u', by show upd e'.H a o b = some u'; rw [upd_ne (ne_of_none h ha)]; exact z⟩
def E4.bare (e : E4) (a : Addr) : E4 := ⟨e.α, e.F, e.A, fun b => if b = a then none else e.H b⟩
theorem bare_upd (h : e.H a = some o) : upd (e.bare a).H a o = e.H := by
  funext b
  by_cases z : b = a
  · subst z; rw [upd_same]; exact h.symm
  · rw [upd_ne z]; show (if b = a then none else e.H b) = e.H b; rw [if_neg z]
theorem Wf.bare (w : Wf K C e Ω) (hF : e.F a = none) (hA : ¬ e.A a) : Wf K C (e.bare a) Ω := by
  have hb : ∀ b, b ≠ a → (e.bare a).H b = e.H b := fun b z => by show (if b = a then none else e.H b) = e.H b; rw [if_neg z]
  refine ⟨fun b u h => ?_, w.fa, fun b h => ?_, w.ol, w.nd, fun n b u h1 h2 => ⟨(w.ob n b u h1 h2).1, (w.ob n b u h1 h2).2.keep (fun v hv => ?_) (Same.refl _) ⟨[], by simp [E4.bare]⟩⟩⟩
  · rw [hb b (fun z => by subst z; rw [show e.F b = some u from h] at hF; cases hF)]; exact w.fh b u h
  · rw [hb b (fun z => hA (by rw [← z]; exact h))]; exact w.ah b h
  · rw [hb b (fun z => hA (by rw [← z]; exact (w.ob n b u h1 h2).1))]; exact hv
theorem Ext.bare (x : Ext e e') (ha : e.H a = none) : Ext e (e'.bare a) := by
  have hb : ∀ b, b ≠ a → (e'.bare a).H b = e'.H b := fun b z => by show (if b = a then none else e'.H b) = e'.H b; rw [if_neg z]
  refine ⟨fun b o' u h => ?_, fun b u h hn => ?_, fun b u h => ?_, x.ff, x.fn, x.an, x.aa, x.al⟩
  · rw [hb b (ne_of_none h ha)]; exact x.fz b o' u h
  · rw [hb b (ne_of_none h ha)]; exact x.hk b u h hn
  · obtain ⟨u', z⟩ := x.dm b u h
    exact ⟨u', by rw [hb b (ne_of_none h ha)]; exact z⟩
end
section
variable {X : Cx} {C : Cl} {tg iter elt : Expr} {ifs : List Expr} {scope : Scope} {pos : Pos} {N : List Str} {μ : List (Option Nat)} {γ : ADen} {β : BDen} {p : TDen} {g : Den}
theorem comp_inv {ρ : List Sl} {Ω Ω' : List OS} {d : D} (h : gComp μ γ β p g ρ Ω = some (d, Ω')) : ∃ ds Ω1 ys, γ ρ Ω = some (ds, Ω1) ∧ ds.length ≤ big ∧ compD β p g ds (innerD μ ρ) Ω1 = some (ys, Ω') ∧ d = .lst ys := by
  unfold gComp at h
  split at h
  · rename_i ds Ω1 q1
    split at h
    · rename_i hb
      split at h
      · rename_i ys Ω2 q2
        cases h
        exact ⟨ds, Ω1, ys, q1, hb, q2, rfl⟩
      · cases h
    · cases h
  · cases h
theorem pdn_comp (hc : X.calm = true) (ok : CompOk X N scope μ) (hi : PDI X C tg iter γ)
    (hg : ∀ fp A s H, PDG (cxComp X N scope (clos X.env.cells scope.names []) A fp s H) C tg β) (ht : ∀ fp A s H, PDTs (cxComp X N scope (clos X.env.cells scope.names []) A fp s H) C ifs p) (he : ∀ fp A s H, PD (cxComp X N scope (clos X.env.cells scope.names []) A fp s H) C elt g)
    (hs : ∀ x, foldedSetIterable iter X.env x = pure x := by intro _; rfl) : PDN X C (.ListComp elt [⟨tg, iter, ifs, 0⟩] scope pos) (gLs (gComp μ γ β p g)) :=
  pe_imp (pe_comp (g := tDG X.K C β) (tt := tDT X.K C p) (te := tD X.K C g) hc ok.cell ok.kind ok.names ok.free ok.has ok.mu hi hg ht he hs) fun σ H Q hw => by
    obtain ⟨e, Ω, ρ, ys, Ωf, eH, w, rl, q, kk⟩ := hw
    obtain ⟨ds, Ω1, ys', q1, hb, q2, ey⟩ := comp_inv (gLs_inv q)
    cases ey
    refine comp_gen eH w rl q1 hb q2 fun a vs e2 x2 w2 ha2 hF2 hA2 ha iy => ?_
    have := kk a vs (e2.bare a) (x2.bare ha) (w2.bare hF2 hA2) iy (if_pos rfl)
    rw [bare_upd ha2] at this
    exact this
end
def spL (K : PySem.W.Frag) (C : Cl) (F : FDen) : Sp := fun vs H Q _ => ∃ e Ω ds xs Ω', e.H = H ∧ Wf K C e Ω ∧ IsL K e.α e.F ds vs ∧ F ds Ω = some (.lst xs, Ω') ∧
  ∀ a us e', Ext e e' → Wf K C e' Ω' → IsL K e'.α e'.F xs us → e'.H a = none → Q (.ref a) (upd e'.H a (.lst us))
def Lst (F : FDen) : Prop := ∀ ds Ω d Ω', F ds Ω = some (d, Ω') → ∃ xs, d = .lst xs
section
variable {P : Program} {w : World} {K : PySem.W.Frag} {mg : Str → Option Value} {base : Heap} {C : Cl}
theorem spL.sp {F : FDen} (hF : Lst F) {vs : List V} {H : Hp} {Q : VK} {E : XK} (h : spD K C F vs H Q E) : spL K C F vs H Q E := by
  obtain ⟨e, Ω, ds, d, Ω', eH, w, i, q, kk⟩ := h
  obtain ⟨xs, rfl⟩ := hF _ _ _ _ q
  refine ⟨e, Ω, ds, xs, Ω', eH, w, i, q, fun a us e' x' w' iu ha => kk (.ref a) (e'.new a _) (x'.trans (w'.new_ext ha)) (w'.new ha) ?_⟩
  rw [Is]
  exact ⟨a, us, rfl, upd_same, iu.ext (w'.new_ext ha)⟩
theorem comp_Lst {n m : Nat} {μ : List (Option Nat)} {γ : ADen} {β : BDen} {p : TDen} {g : Den} : Lst (runD n m (sRet (gComp μ γ β p g))) := by
  intro ds Ω d Ω' h
  unfold runD at h
  split at h
  · cases q : sRet (gComp μ γ β p g) (ds.map Sl.dat ++ List.replicate (m - n) Sl.und) Ω with
    | none => rw [q] at h; cases h
    | some o =>
      rw [q] at h
      unfold sRet at q
      cases q1 : gComp μ γ β p g (ds.map Sl.dat ++ List.replicate (m - n) Sl.und) Ω with
      | none => rw [q1] at q; cases q
      | some r =>
        obtain ⟨d1, Ω1⟩ := r
        obtain ⟨_, _, ys, _, _, _, rfl⟩ := comp_inv q1
        rw [q1] at q
        cases q
        cases h
        exact ⟨ys, rfl⟩
  · cases h
theorem fn_LV {x qual : Str} {st : Stmt} {dV : Value} {f : Addr} {fd : FuncData} {N ps : List Str} {k n m : Nat} {g : Den} {r : Expr} {rp : Pos} (F : FunV K x qual st dV f fd) (S : FnScope N ps (defScope st)) (hn : ps.length = n) (hm : N.length = m) (hr : defBody st = [.Return (some r) rp])
    (hbody : ∀ (cdv : Value) (A : Around) (outer : List Env) (sh : Shared) (H : Hp) (E : XK), Room k (A.deeper (envOfC qual (defScope st) sh.heap.objs.size f cdv)) →
      PDN (cxOf CX0 P w K mg base N qual (defScope st) f cdv A outer sh H E).nox C r (gLs g)) : FnOk P w K mg base CX0 (k + 1) f fd ps (spL K C (runD n m (sRet g))) := by
  obtain ⟨oc, od, kV, doc, pm, an, cdv, ct, osl, rfl, lk, hcd⟩ := F.ex
  refine fn_of lk hcd S (fun vs H Q E h => ?_) fun A outer sh H vs Q E hr' h => ?_
  · obtain ⟨e, Ω, ds, d, Ω', _, _, i, q, _⟩ := h
    unfold runD at q
    by_cases hl : ds.length = n
    · rw [← i.length, hl, hn]
    · rw [if_neg hl] at q; cases q
  · obtain ⟨e, Ω, ds, xs, Ω', eH, wf, i, q, kk⟩ := h
    unfold runD at q
    by_cases hl : ds.length = n
    · rw [if_pos hl] at q
      refine ⟨tRet (tDN K C (gLs g)), by rw [hr]; exact (pss_one (ps_ret (hbody cdv A outer sh H E hr'))).nox, e, Ω, _, xs, Ω', eH, wf, (start_rel wf i).rel, ?_, kk⟩
      rw [hl, hm]
      unfold sRet at q
      unfold gLs
      cases q1 : g (ds.map Sl.dat ++ List.replicate (m - n) Sl.und) Ω with
      | none => rw [q1] at q; cases q
      | some r =>
        obtain ⟨d1, Ω1⟩ := r
        rw [q1] at q
        cases q
        rfl
    · rw [if_neg hl] at q; cases q
end
structure MtL (P : Program) (w : World) (K : PySem.W.Frag) (mg : Str → Option Value) (base : Heap) (C : Cl) (k : Nat) (c m : Str) (F : FDen) (dfl : List D) : Prop where
  ex : ∃ Ca f fd ps ds dvs, C c = some Ca ∧ Cls K Ca ∧ Meth K Ca m f ∧ Binds K fd ps ds ∧ Vals dvs ds ∧ (∀ α H, IsL K α H dfl dvs) ∧ FnOk P w K mg base CX0 k f fd ps (spL K C F)
theorem MtL.mt {P : Program} {w : World} {K : PySem.W.Frag} {mg : Str → Option Value} {base : Heap} {C : Cl} {k : Nat} {c m : Str} {F : FDen} {dfl : List D} (G : MtL P w K mg base C k c m F dfl) (h : Lst F) : Mt P w K mg base C k c m F dfl := by
  obtain ⟨Ca, f, fd, ps, ds, dvs, h1, h2, h3, h4, h5, h6, ok⟩ := G.ex
  exact ⟨Ca, f, fd, ps, ds, dvs, h1, h2, h3, h4, h5, h6, ok.imp fun vs H Q E q => spL.sp h q⟩
theorem gMeth_inv {c m : Str} {F : FDen} {dfl : List D} {go : Den} {ga : ADen} {ρ : List Sl} {Ω Ω' : List OS} {d : D} (h : gMeth c m F dfl go ga ρ Ω = some (d, Ω')) : ∃ n Ω1 fs ds Ω2, go ρ Ω = some (.obj n, Ω1) ∧ Ω1[n]? = some (.ins c fs) ∧ fs.lookup m = none ∧ ga ρ Ω1 = some (ds, Ω2) ∧ F (.obj n :: (ds ++ dfl)) Ω2 = some (d, Ω') := by
  unfold gMeth at h
  split at h
  · rename_i n Ω1 q1
    split at h
    · rename_i c' fs q2
      split at h
      · rename_i ec
        subst ec
        split at h
        · rename_i q3
          split at h
          · rename_i ds Ω2 q4
            exact ⟨n, Ω1, fs, ds, Ω2, q1, q2, q3, q4, h⟩
          · cases h
        · cases h
      · cases h
    · cases h
  · cases h
section
variable {X : Cx} {C : Cl} {a x b : Expr} {f g : Den} {ga gl : ADen} {ap cp pos : Pos}
theorem methL_read {K : PySem.W.Frag} {c m : Str} {F : FDen} {dfl : List D} {dvs : List V} {Ca : Addr} (hC : C c = some Ca) (hd : ∀ α H, IsL K α H dfl dvs) {σ : St} {H : Hp} {Q : VK} {E : XK} (hw : tDN K C (gLs (gMeth c m F dfl f ga)) σ H Q) :
    tMeth Ca m (spL K C F) dvs E (tD K C f) (tDA K C ga) σ H Q := by
  obtain ⟨e, Ω, ρ, xs, Ω', eH, w, rl, q, kk⟩ := hw
  obtain ⟨n, Ω1, fs, ds, Ω2, q1, q0, q2, q3, q⟩ := gMeth_inv (gLs_inv q)
  refine ⟨e, Ω, ρ, _, Ω1, eH, w, rl, q1, fun v e1 x1 w1 i1 => ?_⟩
  rw [Is] at i1
  obtain ⟨p, hα, rfl⟩ := i1
  obtain ⟨Cb, dx, fvs, h1, h2, h3⟩ := (w1.ob n p _ hα q0).2
  rw [hC] at h1
  cases h1
  have ov := h3.look m
  rw [q2] at ov
  have e2 : fvs.lookup m = none := by
    cases z : fvs.lookup m with
    | none => rfl
    | some v => rw [z] at ov; exact ov.elim
  refine ⟨p, dx, fvs, rfl, h2, e2, e1, Ω1, ρ, ds, Ω2, rfl, w1, rl.ext x1, q3, fun vs e3 x3 w3 i3 => ?_⟩
  exact ⟨e3, Ω2, _, xs, Ω', rfl, w3, .cons (by rw [Is]; exact ⟨p, obj_ext (K := K) x3 hα, rfl⟩) (i3.append (hd _ _)), q, fun a us e4 x4 w4 i4 ha => kk a us e4 ((x1.trans x3).trans x4) w4 i4 ha⟩
theorem pdn_meth {k : Nat} {c m : Str} {F : FDen} {dfl : List D} {es : List Expr} {pl : Sem Bool} (G : MtL X.prog X.w X.K X.mg X.base C k c m F dfl) (hr : Room k X.A) (ho : PD X C a f) (ha : PDA X C (x :: es) ga)
    (hst : starEach (x :: es) X.env = (false, eval x X.env) :: starEach es X.env := by rfl) (hpl : (backTo cp (starEach es X.env)).any (·.1) = false := by rfl)
    (ht : eval (.Call (.Attribute a m ap) (x :: es) [] cp) X.env = (do
      let ov ← eval a X.env
      standAt ap.atName
      let (f, first) ← holding [ov] (getMethod ov m pl)
      callWith cp f first (backTo cp (starEach (x :: es) X.env)) (backToKw cp (keywordEach [] X.env))) := by rfl) :
    PDN X C (.Call (.Attribute a m ap) (x :: es) [] cp) (gLs (gMeth c m F dfl f ga)) := by
  obtain ⟨Ca, fa, fd, ps, ds, dvs, hC, cl, me, hb, hd, hdd, ok⟩ := G.ex
  exact pe_imp (pe_meth ho cl me ok hr hb hd pass0 ha hst hpl ht) fun _ _ _ hw => methL_read hC hdd hw
theorem pdn_meth0 {k : Nat} {c m : Str} {F : FDen} {dfl : List D} {pl : Sem Bool} (G : MtL X.prog X.w X.K X.mg X.base C k c m F dfl) (hr : Room k X.A) (ho : PD X C a f)
    (ht : eval (.Call (.Attribute a m ap) [] [] cp) X.env = (do
      let ov ← eval a X.env
      standAt ap.atName
      let (f, first) ← holding [ov] (getMethod ov m pl)
      callWith cp f first (backTo cp (starEach [] X.env)) (backToKw cp (keywordEach [] X.env))) := by rfl) :
    PDN X C (.Call (.Attribute a m ap) [] [] cp) (gLs (gMeth c m F dfl f gNil)) := by
  obtain ⟨Ca, fa, fd, ps, ds, dvs, hC, cl, me, hb, hd, hdd, ok⟩ := G.ex
  exact pe_imp (pe_meth0 ho cl me ok hr hb hd pass0 ht) fun σ H Q hw => by
    have z := methL_read (ga := gNil) (E := E0) hC hdd hw
    obtain ⟨e, Ω, ρ, d, Ω', eH, w, rl, q, kk⟩ := z
    refine ⟨e, Ω, ρ, d, Ω', eH, w, rl, q, fun v e1 x1 w1 i1 => ?_⟩
    obtain ⟨a', dx, fs, e2, e3, e4, z⟩ := kk v e1 x1 w1 i1
    refine ⟨a', dx, fs, e2, e3, e4, ?_⟩
    obtain ⟨e5, Ω5, ρ5, ds5, Ω6, eH5, w5, rl5, q5, kk5⟩ := z
    cases q5
    have := kk5 [] e5 (Ext.refl _) w5 .nil
    rw [eH5] at this
    exact this
def sAppN (gl : ADen) (g : Den) : SDen := fun ρ Ω => (gl ρ Ω).bind fun p => (g ρ p.2).bind fun r => if p.1.length < big then some (.nx ρ r.2) else none
def sClearN (gl : ADen) : SDen := fun ρ Ω => (gl ρ Ω).bind fun p => some (.nx ρ p.2)
theorem pds_appN (ha : PDN X C a gl) (hb : PD X C b g) (hbase : attributeBase a "append" X.env (eval a X.env) = eval a X.env := by rfl)
    (hfew : ((backTo cp (starEach [b] X.env)).all (fun x => !x.1) && (backToKw cp (keywordEach [] X.env)).all (fun x => x.1.isSome)
      && decide (([b] : List Expr).length + ([] : List Keyword).length + (if ([] : List Keyword).isEmpty then 0 else 1) < 30)) = true := by rfl)
    (hline : (ap.endLine == cp.line) = true := by rfl) (hst : starEach [b] X.env = (false, eval b X.env) :: starEach [] X.env := by rfl) (hplain : (backTo cp (starEach [] X.env)).any (·.1) = false := by rfl)
    (hs : swapsWith (.Call (.Attribute a "append" ap) [b] [] cp) none pos.line X.env = pure false := by rfl) :
    PDS X C (.Expr (.Call (.Attribute a "append" ap) [b] [] cp) pos) (sAppN gl g) := fun e₀ =>
  ps_imp (ps_expr (pe_bm PySem.F.plainAttrs_list PySem.F.slot_list_append PySem.F.type_list_append mt_append ha (pa_cons hb pa_nil hst) hbase hfew hline hst hplain) hs) fun Dn σ H hw' => by
    obtain ⟨e, Ω, ρ, o, eH, r, q, k⟩ := hw'
    obtain ⟨⟨ds, Ω1⟩, q1, qa⟩ := Option.bind_eq_some_iff.mp q
    obtain ⟨⟨d2, Ω2⟩, q2, qb⟩ := Option.bind_eq_some_iff.mp qa
    split at qb
    · rename_i hl
      cases qb
      refine ⟨e, Ω, ρ, ds, Ω1, eH, r.wf, r.rel, q1, fun a vs e1 x1 w1 il ha => ?_⟩
      have nF := w1.nF ha
      have nA : ¬ e1.A a := fun z => (w1.ah a z).1 ha
      have x1' : Ext e1 (e1.lay a (.lst vs)) := (Ext.refl e1).lay ha
      refine ⟨.inl ⟨rfl, _, SqL.of upd_same⟩, e1.lay a (.lst vs), Ω1, ρ, d2, Ω2, rfl, w1.lay nF nA, (r.rel.ext x1).ext x1', q2, fun u e2 x2 w2 i2 => ?_⟩
      obtain ⟨z1, z2, z3⟩ := x2.keepOwn (show (e1.lay a (.lst vs)).H a = some (.lst vs) from upd_same) nF nA
      refine ⟨a, vs, u, rfl, rfl, z1, by rw [← il.length]; exact big_lt hl, ?_⟩
      exact k (e2.lay a (.lst (vs ++ [u]))) σ (r.to (((x1.trans x1').trans x2).lay (x1.back ha)) (w2.lay z2 z3))
    · cases qb
theorem pds_clearN (ha : PDN X C a gl) (hbase : attributeBase a "clear" X.env (eval a X.env) = eval a X.env := by rfl) (hline : (ap.endLine == cp.line) = true := by rfl)
    (hs : swapsWith (.Call (.Attribute a "clear" ap) [] [] cp) none pos.line X.env = pure false := by rfl) :
    PDS X C (.Expr (.Call (.Attribute a "clear" ap) [] [] cp) pos) (sClearN gl) := fun e₀ =>
  ps_imp (ps_expr (pe_bm0 PySem.F.plainAttrs_list PySem.F.slot_list_clear PySem.F.type_list_clear mt_clear ha hbase hline) hs) fun Dn σ H hw' => by
    obtain ⟨e, Ω, ρ, o, eH, r, q, k⟩ := hw'
    obtain ⟨⟨ds, Ω1⟩, q1, qa⟩ := Option.bind_eq_some_iff.mp q
    cases qa
    refine ⟨e, Ω, ρ, ds, Ω1, eH, r.wf, r.rel, q1, fun a vs e1 x1 w1 il ha => ?_⟩
    have nF := w1.nF ha
    have nA : ¬ e1.A a := fun z => (w1.ah a z).1 ha
    refine ⟨.inl ⟨rfl, _, SqL.of upd_same⟩, a, vs, rfl, rfl, upd_same, ?_⟩
    exact k ((e1.lay a (.lst vs)).lay a (.lst [])) σ (r.to ((x1.lay (x1.back ha)).lay (x1.back ha)) ((w1.lay nF nA).lay nF nA))
end
end DL
namespace Law
open PySem DL
noncomputable def d_Table___init__ : FDen := runD 1 1 (sFldD "Table" "thing_by" (gVar 0) gNewT)
noncomputable def d_l_stream : FDen := runD 2 5 (sSeq (sOwn 2 gNil) (sSeq (sSet 3 (gOp addD (gOp modD (gVar 0) (gC (.int 2147483647))) (gC (.int 48271)))) (sSeq (sFor (gRng rng1 (gCons (gOp addD (gVar 1) (gC (.int 1))) gNil)) (bName 4) (sSeq (sSet 3 (gOp modD (gOp addD (gOp addD (gOp mulD (gVar 3) (gVar 3)) (gOp mulD (gC (.int 48271)) (gVar 3))) (gVar 4)) (gC (.int 2147483647)))) (sApp 2 (gVar 3)))) (sGhost (frz 2) (sRet (gSl (gVar 2) (gPart (gC (.int 1))) gNoPart))))))
noncomputable def d_l_bits : FDen := runD 2 4 (sSeq (sSet 2 (gLst gNil)) (sSeq (sFor (gRng rng1 (gCons (gVar 1) gNil)) (bName 3) (sSeq (sSet 2 (gOp addD (gLst (gCons (gOp modD (gVar 0) (gC (.int 2))) gNil)) (gVar 2))) (sSet 0 (gOp divD (gVar 0) (gC (.int 2)))))) (sRet (gVar 2))))
noncomputable def d_l_number : FDen := runD 1 3 (sSeq (sSet 1 (gC (.int 0))) (sSeq (sFor (gSeq (gVar 0)) (bName 2) (sSet 1 (gOp addD (gOp mulD (gC (.int 2)) (gVar 1)) (gVar 2)))) (sRet (gVar 1))))
noncomputable def d_l_beginning : FDen := runD 2 5 (sSeq (sSet 2 (gCall d_l_stream (gCons (gVar 0) (gCons (gC (.int 4)) gNil)))) (sSeq (sSet 3 (gSl (gCall d_l_bits (gCons (gVar 1) (gCons (gC (.int 16)) gNil))) gNoPart (gPart (gOp modD (gOp ixD (gVar 2) (gC (.int 0))) (gC (.int 17)))))) (sSeq (sIf (gAndT (gT (gOp (eqD false) (gOp modD (gOp ixD (gVar 2) (gC (.int 1))) (gC (.int 4))) (gC (.int 1)))) (gT (gOp (eqD true) (gVar 3) (gLst gNil)))) (sSeq (sSet 4 (gOp ixD (gLst (gCons (gOp subD (gCB lenD (gCons (gVar 3) gNil)) (gC (.int 1))) (gCons (gOp modD (gOp ixD (gVar 2) (gC (.int 2))) (gCB lenD (gCons (gVar 3) gNil))) gNil))) (gOp modD (gOp divD (gOp ixD (gVar 2) (gC (.int 1))) (gC (.int 4))) (gC (.int 2))))) (sSet 3 (gOp addD (gOp addD (gSl (gVar 3) gNoPart (gPart (gVar 4))) (gLst (gCons (gOp subD (gC (.int 1)) (gOp ixD (gVar 3) (gVar 4))) gNil))) (gSl (gVar 3) (gPart (gOp addD (gVar 4) (gC (.int 1)))) gNoPart)))) sNext) (sSeq (sIf (gT (gOp (eqD false) (gOp modD (gOp ixD (gVar 2) (gC (.int 1))) (gC (.int 4))) (gC (.int 2)))) (sSet 3 (gOp addD (gSl (gVar 3) gNoPart (gPart (gOp modD (gOp ixD (gVar 2) (gC (.int 2))) (gOp addD (gCB lenD (gCons (gVar 3) gNil)) (gC (.int 1)))))) (gSl (gCall d_l_bits (gCons (gOp ixD (gVar 2) (gC (.int 3))) (gCons (gOp subD (gC (.int 16)) (gOp modD (gOp ixD (gVar 2) (gC (.int 0))) (gC (.int 17)))) gNil))) gNoPart (gPart (gOp modD (gOp ixD (gVar 2) (gC (.int 0))) (gC (.int 5))))))) sNext) (sSeq (sIf (gT (gOp (eqD false) (gOp modD (gOp ixD (gVar 2) (gC (.int 1))) (gC (.int 16))) (gC (.int 3)))) (sSet 3 (gOp mulD (gLst (gCons (gOp ixD (gLst (gCons (gC (.int 0)) (gCons (gC (.int 1)) gNil))) (gOp modD (gOp ixD (gVar 2) (gC (.int 2))) (gC (.int 2)))) gNil)) (gCB lenD (gCons (gVar 3) gNil)))) sNext) (sRet (gTup (gCons (gCall d_l_number (gCons (gVar 3) gNil)) (gCons (gCB lenD (gCons (gVar 3) gNil)) gNil)))))))))
noncomputable def d_l_picked : FDen := runD 3 6 (sSeq (sSet 3 (gCall d_l_stream (gCons (gVar 0) (gCons (gC (.int 3)) gNil)))) (sSeq (sIf (gOrT (gT (gOp (eqD false) (gVar 1) (gLst gNil))) (gT (gOp (eqD false) (gOp modD (gOp ixD (gVar 3) (gC (.int 0))) (gC (.int 3))) (gC (.int 0))))) (sRet (gCall d_l_beginning (gCons (gOp ixD (gVar 3) (gC (.int 1))) (gCons (gVar 2) gNil)))) sNext) (sSeq (sAsg (bTup [4, 5]) (gOp ixD (gOp ixD (gVar 1) (gOp modD (gOp ixD (gVar 3) (gC (.int 2))) (gCB lenD (gCons (gVar 1) gNil)))) (gC (.int 0)))) (sSeq (sIf (gT (gOp (eqD false) (gOp modD (gOp ixD (gVar 3) (gC (.int 0))) (gC (.int 3))) (gC (.int 1)))) (sRet (gTup (gCons (gVar 4) (gCons (gVar 5) gNil)))) sNext) (sSeq (sIf (gT (gOp (eqD false) (gOp modD (gOp divD (gOp ixD (gVar 3) (gC (.int 0))) (gC (.int 3))) (gC (.int 2))) (gC (.int 0)))) (sRet (gTup (gCons (gOp divD (gVar 4) (gC (.int 2))) (gCons (gCB max2D (gCons (gC (.int 0)) (gCons (gOp subD (gVar 5) (gC (.int 1))) gNil))) gNil)))) sNext) (sRet (gOp ixD (gLst (gCons (gTup (gCons (gOp addD (gOp mulD (gC (.int 2)) (gVar 4)) (gOp modD (gOp ixD (gVar 3) (gC (.int 1))) (gC (.int 2)))) (gCons (gOp addD (gVar 5) (gC (.int 1))) gNil))) (gCons (gTup (gCons (gVar 4) (gCons (gVar 5) gNil))) gNil))) (gCB int1D (gCons (gOp (eqD false) (gVar 5) (gC (.int 16))) gNil)))))))))
noncomputable def d_Table_cut : FDen := runD 2 2 (sSeq (sIf (gT (gDIn true (gVar 1) (gFld "Table" "thing_by" (gVar 0)))) sNever sNext) (sExpr (gDPop (gFld "Table" "thing_by" (gVar 0)) (gVar 1))))
noncomputable def d_Table_put : FDen := runD 3 3 (sDPut (gFld "Table" "thing_by" (gVar 0)) (gVar 1) (gVar 2))
noncomputable def d_l_place : FDen := runD 2 3 (sSeq (sFor (gRng rng1 (gCons (gCB lenD (gCons (gVar 0) gNil)) gNil)) (bName 2) (sIf (gT (gOp (eqD false) (gOp ixD (gOp ixD (gVar 0) (gVar 2)) (gC (.int 0))) (gVar 1))) (sRet (gVar 2)) sNext)) (sRet (gC .non)))
noncomputable def d_l_put : FDen := runD 3 4 (sSeq (sSet 3 (gCall d_l_place (gCons (gVar 0) (gCons (gVar 1) gNil)))) (sSeq (sIf (gT (gOp (isD false) (gVar 3) (gC .non))) (sRet (gOp addD (gVar 0) (gLst (gCons (gTup (gCons (gVar 1) (gCons (gVar 2) gNil))) gNil)))) sNext) (sRet (gOp addD (gOp addD (gSl (gVar 0) gNoPart (gPart (gVar 3))) (gLst (gCons (gTup (gCons (gVar 1) (gCons (gVar 2) gNil))) gNil))) (gSl (gVar 0) (gPart (gOp addD (gVar 3) (gC (.int 1)))) gNoPart)))))
noncomputable def d_least : FDen := runD 1 1 (sRet (gOp shrD (gOp shlD (gOp ixD (gVar 0) (gC (.int 0))) (gC (.int 16))) (gOp ixD (gVar 0) (gC (.int 1)))))
noncomputable def d_place_in_order : FDen := runD 1 1 (sRet (gTup (gCons (gCall d_least (gCons (gVar 0) gNil)) (gCons (gOp ixD (gVar 0) (gC (.int 1))) gNil))))
noncomputable def d_in_order : FDen := runD 1 1 (sRet (gSortK d_place_in_order (gVar 0)))
noncomputable def d_Table_rows : FDen := runD 1 1 (sRet (gComp [none, some 0] (gSeq (gCall d_in_order (gCons (gDList (gFld "Table" "thing_by" (gVar 0))) gNil))) (bName 0) gTrue (gTup (gCons (gVar 0) (gCons (gDGet (gFld "Table" "thing_by" (gVar 1)) (gVar 0)) gNil)))))
noncomputable def d_l_place_of : FDen := runD 1 3 (sSeq (sSet 1 (gOp ixD (gVar 0) (gC (.int 0)))) (sSeq (sFor (gRng rng1 (gCons (gOp subD (gC (.int 16)) (gOp ixD (gVar 0) (gC (.int 1)))) gNil)) (bName 2) (sSet 1 (gOp mulD (gC (.int 2)) (gVar 1)))) (sRet (gTup (gCons (gVar 1) (gCons (gOp ixD (gVar 0) (gC (.int 1))) gNil))))))
noncomputable def d_l_sorted : FDen := runD 1 2 (sSeq (sSet 1 (gSort (gComp [none, some 0] (gRng rng1 (gCons (gCB lenD (gCons (gVar 0) gNil)) gNil)) (bName 0) gTrue (gTup (gCons (gCall d_l_place_of (gCons (gOp ixD (gOp ixD (gVar 1) (gVar 0)) (gC (.int 0))) gNil)) (gCons (gVar 0) gNil)))))) (sRet (gComp [none, none, some 0] (gSeq (gVar 1)) (bTup [0, 1]) gTrue (gOp ixD (gVar 2) (gVar 1)))))
noncomputable def d_l_cell_at : FDen := runD 2 2 (sSeq (sIf (gT (gOp ltD (gVar 1) (gCB lenD (gCons (gVar 0) gNil)))) (sRet (gOp ixD (gVar 0) (gVar 1))) sNext) (sRet (gC (.int 0))))
noncomputable def d_l_thing_by : FDen := runD 1 1 (sRet (gOp ixD (gLst (gCons (gC .non) (gCons (gC (.int 0)) (gCons (gOp modD (gOp divD (gVar 0) (gC (.int 8))) (gC (.int 32))) (gCons (gOp modD (gOp divD (gVar 0) (gC (.int 8))) (gC (.int 32))) (gCons (gOp subD (gNeg (gC (.int 1))) (gOp modD (gOp divD (gVar 0) (gC (.int 8))) (gC (.int 99)))) (gCons (gOp mulD (gVar 0) (gVar 0)) (gCons (gC (.int 31)) (gCons (gOp modD (gOp divD (gVar 0) (gC (.int 8))) (gC (.int 3))) gNil))))))))) (gOp modD (gVar 0) (gC (.int 8)))))
noncomputable def d_l_address : FDen := runD 2 5 (sSeq (sSet 2 (gCall d_l_stream (gCons (gVar 0) (gCons (gC (.int 3)) gNil)))) (sSeq (sIf (gT (gOp (eqD false) (gOp modD (gOp ixD (gVar 2) (gC (.int 0))) (gC (.int 4))) (gC (.int 0)))) (sRet (gOp modD (gOp ixD (gVar 2) (gC (.int 1))) (gC (.int 65536)))) sNext) (sSeq (sIf (gT (gOp (eqD false) (gOp modD (gOp ixD (gVar 2) (gC (.int 0))) (gC (.int 8))) (gC (.int 1)))) (sRet (gOp ixD (gLst (gCons (gC (.int 0)) (gCons (gC (.int 65535)) (gCons (gC (.int 32768)) (gCons (gC (.int 32767)) gNil))))) (gOp modD (gOp ixD (gVar 2) (gC (.int 1))) (gC (.int 4))))) sNext) (sSeq (sSet 3 (gCall d_l_bits (gCons (gVar 1) (gCons (gC (.int 16)) gNil)))) (sSeq (sSet 4 (gOp modD (gOp ixD (gVar 2) (gC (.int 1))) (gC (.int 17)))) (sRet (gCall d_l_number (gCons (gOp addD (gOp addD (gSl (gVar 3) gNoPart (gPart (gVar 4))) (gComp [none] (gSeq (gSl (gVar 3) (gPart (gVar 4)) (gPart (gOp addD (gVar 4) (gC (.int 1)))))) (bName 0) gTrue (gOp subD (gC (.int 1)) (gVar 0)))) (gSl (gCall d_l_bits (gCons (gOp ixD (gVar 2) (gC (.int 2))) (gCons (gC (.int 16)) gNil))) gNoPart (gPart (gCB max2D (gCons (gC (.int 0)) (gCons (gOp subD (gC (.int 15)) (gVar 4)) gNil)))))) gNil))))))))
noncomputable def d_within : FDen := runD 2 3 (sSeq (sSet 2 (gOp subD (gOp ixD (gVar 0) (gC (.int 1))) (gOp ixD (gVar 1) (gC (.int 1))))) (sRet (gAndV (gOp geD (gVar 2) (gC (.int 0))) (gOp (eqD false) (gOp shrD (gOp ixD (gVar 0) (gC (.int 0))) (gVar 2)) (gOp ixD (gVar 1) (gC (.int 0)))))))
noncomputable def d_Table_under : FDen := runD 2 2 (sRet (gComp [none, some 1] (gSeq (gMeth "Table" "rows" d_Table_rows [] (gVar 0) gNil)) (bName 0) (gT (gCall d_within (gCons (gOp ixD (gVar 0) (gC (.int 0))) (gCons (gVar 1) gNil)))) (gVar 0)))
noncomputable def d_l_under : FDen := runD 2 7 (sSeq (sAsg (bTup [2, 3]) (gCall d_l_place_of (gCons (gVar 1) gNil))) (sSeq (sSet 4 (gOp ixD (gCall d_l_place_of (gCons (gTup (gCons (gOp addD (gOp ixD (gVar 1) (gC (.int 0))) (gC (.int 1))) (gCons (gVar 3) gNil))) gNil)) (gC (.int 0)))) (sSeq (sOwn 5 gNil) (sSeq (sFor (gSeq (gCall d_l_sorted (gCons (gVar 0) gNil))) (bName 6) (sIf (gAndT (gT (gChain leD ltD (gVar 2) (gOp ixD (gCall d_l_place_of (gCons (gOp ixD (gVar 6) (gC (.int 0))) gNil)) (gC (.int 0))) (gVar 4))) (gT (gOp geD (gOp ixD (gOp ixD (gVar 6) (gC (.int 0))) (gC (.int 1))) (gVar 3)))) (sApp 5 (gVar 6)) sNext)) (sGhost (frz 5) (sRet (gVar 5)))))))
noncomputable def d_Table_longest : FDen := runD 3 5 (sSeq (sFor (gRng rngDn (gCons (gCB min2D (gCons (gVar 2) (gCons (gC (.int 16)) gNil))) (gCons (gNeg (gC (.int 1))) (gCons (gNeg (gC (.int 1))) gNil)))) (bName 3) (sSeq (sSet 4 (gTup (gCons (gOp shrD (gVar 1) (gOp subD (gC (.int 16)) (gVar 3))) (gCons (gVar 3) gNil)))) (sIf (gT (gDIn false (gVar 4) (gFld "Table" "thing_by" (gVar 0)))) (sRet (gTup (gCons (gVar 4) (gCons (gDGet (gFld "Table" "thing_by" (gVar 0)) (gVar 4)) gNil)))) sNext))) (sRet (gC .non)))
noncomputable def d_l_longest : FDen := runD 3 7 (sSeq (sSet 3 (gC .non)) (sSeq (sFor (gSeq (gVar 0)) (bName 4) (sSeq (sSet 5 (gOp ixD (gCall d_l_place_of (gCons (gOp ixD (gVar 4) (gC (.int 0))) gNil)) (gC (.int 0)))) (sSeq (sSet 6 (gOp ixD (gCall d_l_place_of (gCons (gTup (gCons (gOp addD (gOp ixD (gOp ixD (gVar 4) (gC (.int 0))) (gC (.int 0))) (gC (.int 1))) (gCons (gOp ixD (gOp ixD (gVar 4) (gC (.int 0))) (gC (.int 1))) gNil))) gNil)) (gC (.int 0)))) (sIf (gAndT (gT (gOp leD (gOp ixD (gOp ixD (gVar 4) (gC (.int 0))) (gC (.int 1))) (gVar 2))) (gAndT (gT (gChain leD ltD (gVar 5) (gVar 1) (gVar 6))) (gOrT (gT (gOp (isD false) (gVar 3) (gC .non))) (gT (gOp gtD (gOp ixD (gOp ixD (gVar 4) (gC (.int 0))) (gC (.int 1))) (gOp ixD (gOp ixD (gVar 3) (gC (.int 0))) (gC (.int 1)))))))) (sSet 3 (gVar 4)) sNext)))) (sRet (gVar 3))))
noncomputable def d_Table_count : FDen := runD 1 1 (sRet (gDLen (gFld "Table" "thing_by" (gVar 0))))
noncomputable def d_Table_has : FDen := runD 2 2 (sRet (gDIn false (gVar 1) (gFld "Table" "thing_by" (gVar 0))))
noncomputable def d_Table_get : FDen := runD 3 3 (sRet (gDGet2 (gFld "Table" "thing_by" (gVar 0)) (gVar 1) (gVar 2)))
noncomputable def d_l_look : FDen := runD 6 12 (sSeq (sSet 6 (gCall d_l_stream (gCons (gVar 3) (gCons (gC (.int 4)) gNil)))) (sSeq (sSet 7 (gCall d_l_picked (gCons (gOp ixD (gVar 6) (gC (.int 0))) (gCons (gVar 1) (gCons (gVar 4) gNil))))) (sSeq (sSet 8 (gCall d_l_address (gCons (gOp ixD (gVar 6) (gC (.int 1))) (gCons (gVar 4) gNil)))) (sSeq (sSet 9 (gCall d_l_place (gCons (gVar 1) (gCons (gVar 7) gNil)))) (sSeq (sIf (gT (gOp (eqD false) (gVar 2) (gC (.int 0)))) (sRet (gAndV (gOp (eqD false) (gMeth "Table" "count" d_Table_count [] (gVar 0) gNil) (gCB lenD (gCons (gVar 1) gNil))) (gOp (eqD false) (gMeth "Table" "has" d_Table_has [] (gVar 0) (gCons (gVar 7) gNil)) (gOp (isD true) (gVar 9) (gC .non))))) sNext) (sSeq (sIf (gT (gOp (eqD false) (gVar 2) (gC (.int 1)))) (sRet (gAndV (gOp (eqD false) (gMeth "Table" "get" d_Table_get [] (gVar 0) (gCons (gVar 7) (gCons (gNeg (gC (.int 5))) gNil))) (gIf (gT (gOp (isD false) (gVar 9) (gC .non))) (gNeg (gC (.int 5))) (gOp ixD (gOp ixD (gVar 1) (gVar 9)) (gC (.int 1))))) (gOp (eqD false) (gMeth "Table" "get" d_Table_get [.non] (gVar 0) (gCons (gVar 7) gNil)) (gDGet1 (gDictL (gVar 1)) (gVar 7))))) sNext) (sSeq (sIf (gT (gOp (eqD false) (gVar 2) (gC (.int 2)))) (sRet (gOp (eqD false) (gMeth "Table" "longest" d_Table_longest [.int 16] (gVar 0) (gCons (gVar 8) gNil)) (gCall d_l_longest (gCons (gVar 1) (gCons (gVar 8) (gCons (gC (.int 16)) gNil)))))) sNext) (sSeq (sSet 10 (gMeth "Table" "rows" d_Table_rows [] (gVar 0) gNil)) (sSeq (sSet 11 (gCall d_l_sorted (gCons (gVar 1) gNil))) (sSeq (sIf (gT (gOp (eqD false) (gVar 2) (gC (.int 4)))) (sSeq (sSet 10 (gMeth "Table" "under" d_Table_under [] (gVar 0) (gCons (gVar 7) gNil))) (sSet 11 (gCall d_l_under (gCons (gVar 1) (gCons (gVar 7) gNil))))) sNext) (sSeq (sIf (gT (gOp (eqD true) (gVar 10) (gVar 11))) (sRet (gC (.bl false))) sNext) (sSeq (sAppM (gVar 5) (gTup (gCons (gVar 10) (gCons (gCB list1D (gCons (gVar 10) gNil)) gNil)))) (sSeq (sIf (gT (gOp (eqD false) (gOp modD (gOp ixD (gVar 6) (gC (.int 2))) (gC (.int 3))) (gC (.int 0)))) (sSeq (sAppN (gLs (gMeth "Table" "rows" d_Table_rows [] (gVar 0) gNil)) (gTup (gCons (gTup (gCons (gC (.int 0)) (gCons (gC (.int 0)) gNil))) (gCons (gC (.int 7)) gNil)))) (sClearN (gLs (gMeth "Table" "under" d_Table_under [] (gVar 0) (gCons (gVar 7) gNil))))) sNext) (sRet (gC (.bl true))))))))))))))))
noncomputable def d_law : FDen := runD 1 13 (sSeq (sSet 1 (gOp modD (gOp ixD (gCall d_l_stream (gCons (gCall d_l_cell_at (gCons (gVar 0) (gCons (gC (.int 0)) gNil))) (gCons (gC (.int 1)) gNil))) (gC (.int 0))) (gC (.int 65536)))) (sSeq (sSet 2 (gLst (gCons (gMake "Table" d_Table___init__ [] gNil) (gCons (gMake "Table" d_Table___init__ [] gNil) gNil)))) (sSeq (sSet 3 (gNewM (gCons (gLst gNil) (gCons (gLst gNil) gNil)))) (sSeq (sSet 4 (gNewM gNil)) (sSeq (sFor (gSeq (gSl (gVar 0) (gPart (gC (.int 1))) (gPart (gC (.int 21))))) (bName 5) (sSeq (sSet 6 (gCall d_l_stream (gCons (gVar 5) (gCons (gC (.int 8)) gNil)))) (sSeq (sSet 7 (gOp modD (gOp ixD (gVar 6) (gC (.int 0))) (gC (.int 2)))) (sSeq (sSet 8 (gCall d_l_picked (gCons (gOp ixD (gVar 6) (gC (.int 1))) (gCons (gMIx (gVar 3) (gOp modD (gOp divD (gOp ixD (gVar 6) (gC (.int 0))) (gC (.int 2))) (gC (.int 2)))) (gCons (gVar 1) gNil))))) (sSeq (sIf (gAndT (gT (gOp (eqD false) (gOp modD (gOp ixD (gVar 6) (gC (.int 2))) (gC (.int 4))) (gC (.int 0)))) (gT (gOp (isD true) (gCall d_l_place (gCons (gMIx (gVar 3) (gVar 7)) (gCons (gVar 8) gNil))) (gC .non)))) (sSeq (sExpr (gMeth "Table" "cut" d_Table_cut [] (gOp ixD (gVar 2) (gVar 7)) (gCons (gVar 8) gNil))) (sSetM (gVar 3) (gVar 7) (gComp [none, some 8] (gSeq (gMIx (gVar 3) (gVar 7))) (bName 0) (gT (gOp (eqD true) (gOp ixD (gVar 0) (gC (.int 0))) (gVar 1))) (gVar 0)))) (sSeq (sExpr (gMeth "Table" "put" d_Table_put [] (gOp ixD (gVar 2) (gVar 7)) (gCons (gVar 8) (gCons (gCall d_l_thing_by (gCons (gOp ixD (gVar 6) (gC (.int 3))) gNil)) gNil)))) (sSetM (gVar 3) (gVar 7) (gCall d_l_put (gCons (gMIx (gVar 3) (gVar 7)) (gCons (gVar 8) (gCons (gCall d_l_thing_by (gCons (gOp ixD (gVar 6) (gC (.int 3))) gNil)) gNil))))))) (sSeq (sSet 9 (gOp modD (gOp ixD (gVar 6) (gC (.int 4))) (gC (.int 2)))) (sFor (gRng rng1 (gCons (gC (.int 5)) gNil)) (bName 10) (sIf (gNotT (gT (gCall d_l_look (gCons (gOp ixD (gVar 2) (gVar 9)) (gCons (gMIx (gVar 3) (gVar 9)) (gCons (gOp modD (gOp addD (gOp ixD (gVar 6) (gC (.int 5))) (gOp mulD (gVar 10) (gOp addD (gC (.int 1)) (gOp modD (gOp ixD (gVar 6) (gC (.int 6))) (gC (.int 4)))))) (gC (.int 5))) (gCons (gOp addD (gOp ixD (gVar 6) (gC (.int 7))) (gVar 10)) (gCons (gVar 1) (gCons (gVar 4) gNil))))))))) (sRet (gC (.bl false))) sNext)))))))) (sSeq (sForM (gVar 4) (bTup [11, 12]) (sIf (gT (gOp (eqD true) (gVar 11) (gVar 12))) (sRet (gC (.bl false))) sNext)) (sRet (gAndV (gOp (eqD false) (gMeth "Table" "rows" d_Table_rows [] (gOp ixD (gVar 2) (gC (.int 0))) gNil) (gCall d_l_sorted (gCons (gMIx (gVar 3) (gC (.int 0))) gNil))) (gOp (eqD false) (gMeth "Table" "rows" d_Table_rows [] (gOp ixD (gVar 2) (gC (.int 1))) gNil) (gCall d_l_sorted (gCons (gMIx (gVar 3) (gC (.int 1))) gNil)))))))))))
end Law
namespace Law
open PySem DL
def strmL : List Int → Int → List Int
  | [], _ => []
  | k :: ks, n => (n * n + 48271 * n + k) % 2147483647 :: strmL ks ((n * n + 48271 * n + k) % 2147483647)
theorem strmL_length : ∀ (ks : List Int) (n : Int), (strmL ks n).length = ks.length
  | [], _ => rfl
  | k :: ks, n => by simp [strmL, strmL_length ks]
theorem strmL_bd : ∀ (ks : List Int) (n : Int), ∀ x ∈ strmL ks n, 0 ≤ x ∧ x < 2147483647
  | [], _, x, h => by simp [strmL] at h
  | k :: ks, n, x, h => by
    simp only [strmL, List.mem_cons] at h
    rcases h with rfl | h
    · exact ⟨Int.emod_nonneg _ (by decide), Int.emod_lt_of_pos _ (by decide)⟩
    · exact strmL_bd ks _ x h
theorem strm_loop (ks : List Int) : ∀ (c m n : Int) (fs : List Int) (x : Sl) (Ω : List OS), fs.length + ks.length ≤ 1000 → -3000000000 < n → n < 3000000000 → ∃ (z : Int) (y : Sl),
    forD (bName 4) (sSeq (sSet 3 (gOp modD (gOp addD (gOp addD (gOp mulD (gVar 3) (gVar 3)) (gOp mulD (gC (.int 48271)) (gVar 3))) (gVar 4)) (gC (.int 2147483647)))) (sApp 2 (gVar 3))) (ks.map D.int) [.dat (.int c), .dat (.int m), .own (fs.map D.int), .dat (.int n), x] Ω
      = some (.nx [.dat (.int c), .dat (.int m), .own ((fs ++ strmL ks n).map D.int), .dat (.int z), y] Ω) := by
  induction ks with
  | nil => intro c m n fs x Ω _ _ _; exact ⟨n, x, by simp [strmL]⟩
  | cons k ks ih =>
    intro c m n fs x Ω hl h0 h1
    simp only [List.length_cons] at hl
    have b0 : 0 ≤ (n * n + 48271 * n + k) % 2147483647 := Int.emod_nonneg _ (by decide)
    have b1 : (n * n + 48271 * n + k) % 2147483647 < 2147483647 := Int.emod_lt_of_pos _ (by decide)
    obtain ⟨z, y, h⟩ := ih c m ((n * n + 48271 * n + k) % 2147483647) (fs ++ [(n * n + 48271 * n + k) % 2147483647]) (.dat (.int k)) Ω (by simp; omega) (by omega) (by omega)
    refine ⟨z, y, ?_⟩
    have e : fs ++ strmL (k :: ks) n = fs ++ [(n * n + 48271 * n + k) % 2147483647] ++ strmL ks ((n * n + 48271 * n + k) % 2147483647) := by simp [strmL]
    have m1 : mulD (.int n) (.int n) = some (.int (n * n)) := mul_i (.inl ⟨by omega, by omega⟩)
    have m2 : mulD (.int 48271) (.int n) = some (.int (48271 * n)) := mul_i (.inl ⟨by decide, by decide⟩)
    have hb : fs.length < 100000 := by omega
    rw [e, ← h, List.map_cons, for_cons]
    simp [m1, m2, hb]
theorem upD_ints (lo : Int) (n : Nat) : upD lo n = ((List.range n).map fun (k : Nat) => lo + (k : Int)).map D.int := by simp [upD]
theorem strm_den (c : Int) (m : Nat) (hm : m ≤ 900) (Ω : List OS) : ∃ xs : List Int, xs.length = m ∧ (∀ x ∈ xs, 0 ≤ x ∧ x < 2147483647) ∧ d_l_stream [.int c, .int m] Ω = some (.lst (xs.map D.int), Ω) := by
  have b0 : 0 ≤ c % 2147483647 := Int.emod_nonneg _ (by decide)
  have b1 : c % 2147483647 < 2147483647 := Int.emod_lt_of_pos _ (by decide)
  have et : ((m : Int) + 1).toNat = m + 1 := by omega
  have e1 : rng1 [.int ((m : Int) + 1)] = some (upD 0 (m + 1)) := by
    rw [rng_1 (by omega) (by omega), et]
  have eu := upD_ints 0 (m + 1)
  have el : ((List.range (m + 1)).map fun (k : Nat) => 0 + (k : Int)).length = m + 1 := by simp
  generalize ((List.range (m + 1)).map fun (k : Nat) => 0 + (k : Int)) = ks at eu el
  obtain ⟨z, y, h⟩ := strm_loop ks c m (c % 2147483647 + 48271) [] .und Ω (by rw [el, List.length_nil]; omega) (by omega) (by omega)
  have e2 : cutL (strmL ks (c % 2147483647 + 48271)) (some 1) none = (strmL ks (c % 2147483647 + 48271)).drop 1 := cut_from _ 1
  refine ⟨(strmL ks (c % 2147483647 + 48271)).drop 1, by rw [List.length_drop, strmL_length, el]; rfl, fun x hx => strmL_bd _ _ x (List.mem_of_mem_drop hx), ?_⟩
  rw [List.map_nil, List.nil_append, ← eu] at h
  generalize strmL ks (c % 2147483647 + 48271) = xs at h e2 ⊢
  unfold d_l_stream
  rw [ap_run]
  simp only [List.map_cons, List.map_nil, List.length_cons, List.length_nil]
  simp [e1, h, frz, cut_map, e2]
def bitsL (n : Int) : Nat → List Int
  | 0 => []
  | s + 1 => bitsL (n / 2) s ++ [n % 2]
@[simp] theorem bitsL_length (n : Int) (s : Nat) : (bitsL n s).length = s := by
  induction s generalizing n with
  | zero => rfl
  | succ s ih => simp [bitsL, ih]
theorem bits_loop (l : List D) : ∀ (n m : Int) (fs : List Int) (x : Sl) (Ω : List OS), fs.length + l.length ≤ 1000 → ∃ (z : Int) (y : Sl),
    forD (bName 3) (sSeq (sSet 2 (gOp addD (gLst (gCons (gOp modD (gVar 0) (gC (.int 2))) gNil)) (gVar 2))) (sSet 0 (gOp divD (gVar 0) (gC (.int 2))))) l [.dat (.int n), .dat (.int m), .dat (.lst (fs.map D.int)), x] Ω
      = some (.nx [.dat (.int z), .dat (.int m), .dat (.lst ((bitsL n l.length ++ fs).map D.int)), y] Ω) := by
  induction l with
  | nil => intro n m fs x Ω _; exact ⟨n, x, rfl⟩
  | cons d l ih =>
    intro n m fs x Ω hl
    simp only [List.length_cons] at hl
    obtain ⟨z, y, h⟩ := ih (n / 2) m (n % 2 :: fs) (.dat d) Ω (by simp only [List.length_cons]; omega)
    refine ⟨z, y, ?_⟩
    have e : bitsL n (l.length + 1) ++ fs = bitsL (n / 2) l.length ++ (n % 2 :: fs) := by simp [bitsL]
    rw [List.length_cons, e, ← h, for_cons]
    have hb : 1 + fs.length ≤ 100000 := by omega
    simp [hb]
theorem bits_den (n : Int) (s : Nat) (hs : s ≤ 900) (Ω : List OS) : d_l_bits [.int n, .int s] Ω = some (.lst ((bitsL n s).map D.int), Ω) := by
  obtain ⟨z, y, h⟩ := bits_loop (upD 0 s) n s [] .und Ω (by simp; omega)
  have e1 : rng1 [.int (s : Int)] = some (upD 0 s) := by
    rw [rng_1 (by omega) (by omega), Int.toNat_natCast]
  rw [upD_length, List.append_nil, List.map_nil] at h
  unfold d_l_bits
  rw [ap_run]
  simp only [List.map_cons, List.map_nil, List.length_cons, List.length_nil]
  simp [e1, h]
def numL (bs : List Int) : Int := bs.foldl (fun a b => 2 * a + b) 0
theorem num_loop (bs : List Int) : ∀ (a : Int) (x0 x : Sl) (Ω : List OS), ∃ y : Sl,
    forD (bName 2) (sSet 1 (gOp addD (gOp mulD (gC (.int 2)) (gVar 1)) (gVar 2))) (bs.map D.int) [x0, .dat (.int a), x] Ω = some (.nx [x0, .dat (.int (bs.foldl (fun a b => 2 * a + b) a)), y] Ω) := by
  induction bs with
  | nil => intro a x0 x Ω; exact ⟨x, rfl⟩
  | cons b bs ih =>
    intro a x0 x Ω
    obtain ⟨y, h⟩ := ih (2 * a + b) x0 (.dat (.int b)) Ω
    refine ⟨y, ?_⟩
    have m2 : mulD (.int 2) (.int a) = some (.int (2 * a)) := mul_i (.inl ⟨by decide, by decide⟩)
    rw [List.foldl_cons, ← h, List.map_cons, for_cons]
    simp [m2]
theorem num_den (bs : List Int) (Ω : List OS) : d_l_number [.lst (bs.map D.int)] Ω = some (.int (numL bs), Ω) := by
  obtain ⟨y, h⟩ := num_loop bs 0 (.dat (.lst (bs.map D.int))) .und Ω
  unfold d_l_number
  rw [ap_run]
  simp only [List.map_cons, List.map_nil, List.length_cons, List.length_nil]
  simp [h, numL]
end Law
namespace Law
open PySem DL
@[simp] theorem atI_0 {β : Type} (a : β) (l : List β) : L2.atI (a :: l) 0 = some a := by
  have := atI_nat' (a :: l) 0 (by simp)
  simpa using this
@[simp] theorem atI_1 {β : Type} (a b : β) (l : List β) : L2.atI (a :: b :: l) 1 = some b := by
  have := atI_nat' (a :: b :: l) 1 (by simp)
  simpa using this
@[simp] theorem atI_2 {β : Type} (a b c : β) (l : List β) : L2.atI (a :: b :: c :: l) 2 = some c := by
  have := atI_nat' (a :: b :: c :: l) 2 (by simp)
  simpa using this
@[simp] theorem atI_3 {β : Type} (a b c d : β) (l : List β) : L2.atI (a :: b :: c :: d :: l) 3 = some d := by
  have := atI_nat' (a :: b :: c :: d :: l) 3 (by simp)
  simpa using this
structure B (bs : List Int) : Prop where
  len : bs.length ≤ 16
  bit : ∀ b ∈ bs, b = 0 ∨ b = 1
theorem bitsL_bit (n : Int) (s : Nat) : ∀ b ∈ bitsL n s, b = 0 ∨ b = 1 := by
  induction s generalizing n with
  | zero => intro b h; simp [bitsL] at h
  | succ s ih =>
    intro b h
    simp only [bitsL, List.mem_append, List.mem_singleton] at h
    rcases h with h | h
    · exact ih _ b h
    · omega
theorem B.take {bs : List Int} (h : B bs) (k : Nat) : B (bs.take k) := ⟨by have := h.len; rw [List.length_take]; omega, fun b hb => h.bit b (List.mem_of_mem_take hb)⟩
theorem bitsL_B (n : Int) {s : Nat} (h : s ≤ 16) : B (bitsL n s) := ⟨by simp [h], bitsL_bit n s⟩
theorem B.flip {bs : List Int} (h : B bs) {a : Nat} (ha : a < bs.length) : B (bs.take a ++ [1 - bs[a]] ++ bs.drop (a + 1)) := by
  refine ⟨?_, fun b hb => ?_⟩
  · have := h.len
    simp only [List.length_append, List.length_take, List.length_drop, List.length_singleton]
    omega
  · simp only [List.mem_append, List.mem_singleton] at hb
    rcases hb with (hb | hb) | hb
    · exact h.bit b (List.mem_of_mem_take hb)
    · have := h.bit bs[a] (List.getElem_mem ha)
      omega
    · exact h.bit b (List.mem_of_mem_drop hb)
noncomputable def gAt : Den := gOp ixD (gLst (gCons (gOp subD (gCB lenD (gCons (gVar 3) gNil)) (gC (.int 1))) (gCons (gOp modD (gOp ixD (gVar 2) (gC (.int 2))) (gCB lenD (gCons (gVar 3) gNil))) gNil))) (gOp modD (gOp divD (gOp ixD (gVar 2) (gC (.int 1))) (gC (.int 4))) (gC (.int 2)))
theorem at_den (X0 X1 y : Sl) (x0 x1 x2 x3 : Int) (bs : List Int) (hne : bs ≠ []) (Ω : List OS) : ∃ a : Nat, a < bs.length ∧ gAt [X0, X1, .dat (.lst ([x0, x1, x2, x3].map D.int)), .dat (.lst (bs.map D.int)), y] Ω = some (.int a, Ω) := by
  have hL : 0 < bs.length := List.length_pos_iff.mpr hne
  have hL' : (0 : Int) < bs.length := by omega
  rcases (by omega : x1 / 4 % 2 = 0 ∨ x1 / 4 % 2 = 1) with h | h
  · refine ⟨bs.length - 1, by omega, ?_⟩
    unfold gAt
    simp [h, hL]
    omega
  · refine ⟨(x2 % bs.length).toNat, ?_, ?_⟩
    · have := Int.emod_lt_of_pos x2 hL'
      have := Int.emod_nonneg x2 (by omega : (bs.length : Int) ≠ 0)
      omega
    · have := Int.emod_nonneg x2 (by omega : (bs.length : Int) ≠ 0)
      unfold gAt
      simp [h, hL]
      omega
theorem st1 (X0 X1 y : Sl) (x0 x1 x2 x3 : Int) (bs : List Int) (hB : B bs) (Ω : List OS) : ∃ (bs' : List Int) (y' : Sl), B bs' ∧ bs'.length = bs.length ∧
    sIf (gAndT (gT (gOp (eqD false) (gOp modD (gOp ixD (gVar 2) (gC (.int 1))) (gC (.int 4))) (gC (.int 1)))) (gT (gOp (eqD true) (gVar 3) (gLst gNil)))) (sSeq (sSet 4 gAt) (sSet 3 (gOp addD (gOp addD (gSl (gVar 3) gNoPart (gPart (gVar 4))) (gLst (gCons (gOp subD (gC (.int 1)) (gOp ixD (gVar 3) (gVar 4))) gNil))) (gSl (gVar 3) (gPart (gOp addD (gVar 4) (gC (.int 1)))) gNoPart)))) sNext
      [X0, X1, .dat (.lst ([x0, x1, x2, x3].map D.int)), .dat (.lst (bs.map D.int)), y] Ω = some (.nx [X0, X1, .dat (.lst ([x0, x1, x2, x3].map D.int)), .dat (.lst (bs'.map D.int)), y'] Ω) := by
  by_cases h1 : x1 % 4 = 1
  · by_cases h2 : bs = []
    · refine ⟨bs, y, hB, rfl, ?_⟩
      have e : eqD true (.lst []) (.lst []) = some (.bl false) := eq_ints true [] []
      subst h2
      simp [h1, e]
    · obtain ⟨a, ha, e1⟩ := at_den X0 X1 y x0 x1 x2 x3 bs h2 Ω
      have e := eq_ints_nil true bs
      refine ⟨bs.take a ++ [1 - bs[a]] ++ bs.drop (a + 1), .dat (.int a), hB.flip ha, by simp only [List.length_append, List.length_take, List.length_drop, List.length_singleton]; omega, ?_⟩
      have c1 : cutL (bs.map D.int) none (some (a : Int)) = (bs.take a).map D.int := by rw [cut_to, List.map_take]
      have c2 : cutL (bs.map D.int) (some ((a : Int) + 1)) none = (bs.drop (a + 1)).map D.int := by
        have : ((a : Int) + 1) = ((a + 1 : Nat) : Int) := by omega
        rw [this, cut_from, List.map_drop]
      have c3 : L2.atI (bs.map D.int) (a : Int) = some (.int bs[a]) := by rw [atI_map, atI_nat' bs a ha]; rfl
      have l1 := hB.len
      have l2 : min a bs.length ≤ 99999 := by omega
      have l3 : min a bs.length + 1 + (bs.length - (a + 1)) ≤ 100000 := by omega
      simp at e1
      simp [h1, e, h2, e1, c1, c2, c3, l2, l3]
  · refine ⟨bs, y, hB, rfl, ?_⟩
    simp [h1]
theorem st2 (X0 X1 y : Sl) (x0 x1 x2 x3 : Int) (bs : List Int) (hB : B bs) (hl : (bs.length : Int) = x0 % 17) (Ω : List OS) : ∃ (bs' : List Int), B bs' ∧
    sIf (gT (gOp (eqD false) (gOp modD (gOp ixD (gVar 2) (gC (.int 1))) (gC (.int 4))) (gC (.int 2)))) (sSet 3 (gOp addD (gSl (gVar 3) gNoPart (gPart (gOp modD (gOp ixD (gVar 2) (gC (.int 2))) (gOp addD (gCB lenD (gCons (gVar 3) gNil)) (gC (.int 1)))))) (gSl (gCall d_l_bits (gCons (gOp ixD (gVar 2) (gC (.int 3))) (gCons (gOp subD (gC (.int 16)) (gOp modD (gOp ixD (gVar 2) (gC (.int 0))) (gC (.int 17)))) gNil))) gNoPart (gPart (gOp modD (gOp ixD (gVar 2) (gC (.int 0))) (gC (.int 5))))))) sNext
      [X0, X1, .dat (.lst ([x0, x1, x2, x3].map D.int)), .dat (.lst (bs.map D.int)), y] Ω = some (.nx [X0, X1, .dat (.lst ([x0, x1, x2, x3].map D.int)), .dat (.lst (bs'.map D.int)), y] Ω) := by
  by_cases h1 : x1 % 4 = 2
  · have l1 := hB.len
    obtain ⟨k, hk⟩ : ∃ k : Nat, x2 % ((bs.length : Int) + 1) = k := ⟨(x2 % ((bs.length : Int) + 1)).toNat, by
      have := Int.emod_nonneg x2 (by omega : (bs.length : Int) + 1 ≠ 0)
      omega⟩
    obtain ⟨s, hs⟩ : ∃ s : Nat, 16 - x0 % 17 = s := ⟨(16 - x0 % 17).toNat, by omega⟩
    obtain ⟨t, ht⟩ : ∃ t : Nat, x0 % 5 = t := ⟨(x0 % 5).toNat, by omega⟩
    have e1 := bits_den x3 s (by omega) Ω
    have c1 : cutL (bs.map D.int) none (some (k : Int)) = (bs.take k).map D.int := by rw [cut_to, List.map_take]
    have c2 : cutL ((bitsL x3 s).map D.int) none (some (t : Int)) = ((bitsL x3 s).take t).map D.int := by rw [cut_to, List.map_take]
    have p1 : (0 : Int) < (bs.length : Int) + 1 := by omega
    have l2 : min k bs.length + min t s ≤ 100000 := by omega
    refine ⟨bs.take k ++ (bitsL x3 s).take t, ⟨by rw [List.length_append, List.length_take, List.length_take, bitsL_length]; omega, fun b hb => ?_⟩, ?_⟩
    · rcases List.mem_append.mp hb with hb | hb
      · exact hB.bit b (List.mem_of_mem_take hb)
      · exact bitsL_bit _ _ b (List.mem_of_mem_take hb)
    · simp [h1, p1, hk, hs, ht, e1, c1, c2, l2]
  · refine ⟨bs, hB, ?_⟩
    simp [h1]
theorem flat_rep (k : Nat) (b : Int) : (List.replicate k [D.int b]).flatten = (List.replicate k b).map D.int := by
  induction k with
  | zero => rfl
  | succ k ih => simp [List.replicate_succ, ih]
theorem st3 (X0 X1 y : Sl) (x0 x1 x2 x3 : Int) (bs : List Int) (hB : B bs) (Ω : List OS) : ∃ (bs' : List Int), B bs' ∧
    sIf (gT (gOp (eqD false) (gOp modD (gOp ixD (gVar 2) (gC (.int 1))) (gC (.int 16))) (gC (.int 3)))) (sSet 3 (gOp mulD (gLst (gCons (gOp ixD (gLst (gCons (gC (.int 0)) (gCons (gC (.int 1)) gNil))) (gOp modD (gOp ixD (gVar 2) (gC (.int 2))) (gC (.int 2)))) gNil)) (gCB lenD (gCons (gVar 3) gNil)))) sNext
      [X0, X1, .dat (.lst ([x0, x1, x2, x3].map D.int)), .dat (.lst (bs.map D.int)), y] Ω = some (.nx [X0, X1, .dat (.lst ([x0, x1, x2, x3].map D.int)), .dat (.lst (bs'.map D.int)), y] Ω) := by
  by_cases h1 : x1 % 16 = 3
  · have l1 := hB.len
    have key : ∀ b : Int, mulD (.lst [.int b]) (.int (bs.length : Int)) = some (.lst ((List.replicate bs.length b).map D.int)) := fun b => by
      rw [mul_l (by omega) (by omega) (by simp; omega), Int.toNat_natCast, flat_rep]
    have k0 := key 0
    have k1 := key 1
    rcases (by omega : x2 % 2 = 0 ∨ x2 % 2 = 1) with h | h
    · refine ⟨List.replicate bs.length 0, ⟨by simp [l1], fun b hb => .inl (List.eq_of_mem_replicate hb)⟩, ?_⟩
      simp at k0
      simp [h1, h, k0]
    · refine ⟨List.replicate bs.length 1, ⟨by simp [l1], fun b hb => .inr (List.eq_of_mem_replicate hb)⟩, ?_⟩
      simp at k1
      simp [h1, h, k1]
  · refine ⟨bs, hB, ?_⟩
    simp [h1]
theorem beg_den (x base : Int) (Ω : List OS) : ∃ bs : List Int, B bs ∧ d_l_beginning [.int x, .int base] Ω = some (.tup [.int (numL bs), .int bs.length], Ω) := by
  obtain ⟨xs, hl, hb, e0⟩ := strm_den x 4 (by decide) Ω
  obtain ⟨x0, x1, x2, x3, rfl⟩ : ∃ x0 x1 x2 x3, xs = [x0, x1, x2, x3] := by
    match xs, hl with
    | [a, b, c, d], _ => exact ⟨a, b, c, d, rfl⟩
  have e1 := bits_den base 16 (by decide) Ω
  obtain ⟨s, hs⟩ : ∃ s : Nat, x0 % 17 = s := ⟨(x0 % 17).toNat, by omega⟩
  have hs' : s ≤ 16 := by omega
  have c1 : cutL ((bitsL base 16).map D.int) none (some (s : Int)) = ((bitsL base 16).take s).map D.int := by rw [cut_to, List.map_take]
  have B0 : B ((bitsL base 16).take s) := (bitsL_B base (Nat.le_refl 16)).take s
  obtain ⟨b1, y1, B1, len1, q1⟩ := st1 (.dat (.int x)) (.dat (.int base)) .und x0 x1 x2 x3 _ B0 Ω
  have hl1 : (b1.length : Int) = x0 % 17 := by rw [len1, hs, List.length_take, bitsL_length]; omega
  obtain ⟨b2, B2, q2⟩ := st2 (.dat (.int x)) (.dat (.int base)) y1 x0 x1 x2 x3 b1 B1 hl1 Ω
  obtain ⟨b3, B3, q3⟩ := st3 (.dat (.int x)) (.dat (.int base)) y1 x0 x1 x2 x3 b2 B2 Ω
  refine ⟨b3, B3, ?_⟩
  have e4 := num_den b3 Ω
  have e0' : d_l_stream [.int x, .int 4] Ω = some (.lst ([x0, x1, x2, x3].map D.int), Ω) := e0
  have e1' : d_l_bits [.int base, .int 16] Ω = some (.lst ((bitsL base 16).map D.int), Ω) := e1
  unfold gAt at q1
  refine run_rt rfl ?_
  refine (seq_nx (ρ' := [.dat (.int x), .dat (.int base), .dat (.lst ([x0, x1, x2, x3].map D.int)), .und, .und]) (Ω' := Ω) (by simp [e0'])).trans ?_
  refine (seq_nx (ρ' := [.dat (.int x), .dat (.int base), .dat (.lst ([x0, x1, x2, x3].map D.int)), .dat (.lst (((bitsL base 16).take s).map D.int)), .und]) (Ω' := Ω) (by simp [e1', hs, c1])).trans ?_
  refine (seq_nx q1).trans ?_
  refine (seq_nx q2).trans ?_
  refine (seq_nx q3).trans ?_
  simp [e4]
end Law
namespace Law
open PySem DL
theorem fold_num (ys : List Int) : ∀ a : Int, ys.foldl (fun a b => 2 * a + b) a = a * 2 ^ ys.length + numL ys := by
  induction ys with
  | nil => intro a; simp [numL]
  | cons b ys ih =>
    intro a
    have h1 := ih (2 * a + b)
    have h2 := ih (2 * 0 + b)
    show List.foldl (fun a b => 2 * a + b) (2 * a + b) ys = a * 2 ^ (ys.length + 1) + List.foldl (fun a b => 2 * a + b) (2 * 0 + b) ys
    rw [h1, h2]
    generalize numL ys = N
    rw [Int.pow_succ]
    generalize (2 : Int) ^ ys.length = p
    have e1 : (2 * a + b) * p = 2 * (a * p) + b * p := by rw [Int.add_mul, Int.mul_assoc]
    have e2 : (2 * 0 + b) * p = b * p := by simp
    have e3 : a * (p * 2) = 2 * (a * p) := by rw [← Int.mul_assoc, Int.mul_comm]
    rw [e1, e2, e3]
    omega
theorem numL_append (xs ys : List Int) : numL (xs ++ ys) = numL xs * 2 ^ ys.length + numL ys := by
  unfold numL
  rw [List.foldl_append, fold_num]
  rfl
theorem pow_pos2 (n : Nat) : (0 : Int) < 2 ^ n := Int.pow_pos (by decide)
theorem numL_bd : ∀ (bs : List Int), (∀ b ∈ bs, b = 0 ∨ b = 1) → 0 ≤ numL bs ∧ numL bs < 2 ^ bs.length
  | [], _ => by simp [numL]
  | b :: bs, h => by
    have ih := numL_bd bs fun c hc => h c (List.mem_cons_of_mem _ hc)
    have e := numL_append [b] bs
    have e1 : numL [b] = b := by simp [numL]
    rw [List.singleton_append, e1] at e
    rw [e, List.length_cons, Int.pow_succ]
    have p := pow_pos2 bs.length
    rcases h b (List.mem_cons_self) with rfl | rfl
    · simp; omega
    · omega
theorem pow16 {s : Nat} (hs : s ≤ 16) : (2 : Int) ^ s * 2 ^ (16 - s) = 65536 := by
  rw [← Int.pow_add, show s + (16 - s) = 16 by omega]
  rfl
theorem low_eq (v : Int) {s : Nat} (hs : s ≤ 16) : v * 65536 / 2 ^ s = v * 2 ^ (16 - s) := by
  rw [← pow16 hs, ← Int.mul_assoc, Int.mul_comm v, Int.mul_assoc]
  exact Int.mul_ediv_cancel_left _ (Int.ne_of_gt (pow_pos2 s))
theorem pow_le16 {n : Nat} (h : n ≤ 16) : (2 : Int) ^ n ≤ 65536 := by
  have h1 : 2 ^ n ≤ 2 ^ 16 := Nat.pow_le_pow_right (by decide) h
  have e : (2 : Int) ^ n = ((2 ^ n : Nat) : Int) := by simp
  rw [e]
  have e2 : (2 : Nat) ^ 16 = 65536 := rfl
  omega
theorem cut_ab {β : Type} (xs : List β) {a b : Nat} (h : a ≤ b) : cutL xs (some (a : Int)) (some (b : Int)) = (xs.drop a).take (b - a) := by
  unfold cutL
  rw [HT.sIx_nat, HT.sIx_nat]
  rcases Nat.le_total a xs.length with h1 | h1
  · rw [Nat.min_eq_left h1]
    rcases Nat.le_total b xs.length with h2 | h2
    · rw [Nat.min_eq_left h2]
    · rw [Nat.min_eq_right h2, List.take_of_length_le (by simp), List.take_of_length_le (by simp; omega)]
  · rw [Nat.min_eq_right h1, List.drop_length, List.drop_eq_nil_of_le h1]; simp
theorem comp_flip (bs : List Int) : ∀ (x : Sl) (Ω : List OS), compD (bName 0) gTrue (gOp subD (gC (.int 1)) (gVar 0)) (bs.map D.int) [x] Ω = some ((bs.map fun b => 1 - b).map D.int, Ω) := by
  induction bs with
  | nil => intro x Ω; rfl
  | cons b bs ih =>
    intro x Ω
    rw [List.map_cons, comp_cons]
    simp [ih]
theorem addr_den (x base : Int) (Ω : List OS) : ∃ a : Int, 0 ≤ a ∧ a ≤ 65535 ∧ d_l_address [.int x, .int base] Ω = some (.int a, Ω) := by
  obtain ⟨xs, hl, hb, e0⟩ := strm_den x 3 (by decide) Ω
  obtain ⟨x0, x1, x2, rfl⟩ : ∃ x0 x1 x2, xs = [x0, x1, x2] := by
    match xs, hl with
    | [a, b, c], _ => exact ⟨a, b, c, rfl⟩
  have e0' : d_l_stream [.int x, .int 3] Ω = some (.lst ([x0, x1, x2].map D.int), Ω) := e0
  have s1 : sSet 2 (gCall d_l_stream (gCons (gVar 0) (gCons (gC (.int 3)) gNil))) [.dat (.int x), .dat (.int base), .und, .und, .und] Ω = some (.nx [.dat (.int x), .dat (.int base), .dat (.lst ([x0, x1, x2].map D.int)), .und, .und] Ω) := by simp [e0']
  by_cases h1 : x0 % 4 = 0
  · refine ⟨x1 % 65536, by omega, by omega, run_rt rfl ((seq_nx s1).trans (seq_rt ?_))⟩
    simp [h1]
  · have s2 : sIf (gT (gOp (eqD false) (gOp modD (gOp ixD (gVar 2) (gC (.int 0))) (gC (.int 4))) (gC (.int 0)))) (sRet (gOp modD (gOp ixD (gVar 2) (gC (.int 1))) (gC (.int 65536)))) sNext [.dat (.int x), .dat (.int base), .dat (.lst ([x0, x1, x2].map D.int)), .und, .und] Ω = some (.nx [.dat (.int x), .dat (.int base), .dat (.lst ([x0, x1, x2].map D.int)), .und, .und] Ω) := by simp [h1]
    by_cases h2 : x0 % 8 = 1
    · have q : ∃ a : Int, 0 ≤ a ∧ a ≤ 65535 ∧ L2.atI [D.int 0, D.int 65535, D.int 32768, D.int 32767] (x1 % 4) = some (.int a) := by
        rcases (by omega : x1 % 4 = 0 ∨ x1 % 4 = 1 ∨ x1 % 4 = 2 ∨ x1 % 4 = 3) with h | h | h | h <;> rw [h]
        · exact ⟨0, by decide, by decide, by simp⟩
        · exact ⟨65535, by decide, by decide, by simp⟩
        · exact ⟨32768, by decide, by decide, by simp⟩
        · exact ⟨32767, by decide, by decide, by simp⟩
      obtain ⟨a, ha, ha', qa⟩ := q
      refine ⟨a, ha, ha', run_rt rfl ((seq_nx s1).trans ((seq_nx s2).trans (seq_rt ?_)))⟩
      simp [h2, qa]
    · have e1 : d_l_bits [.int base, .int 16] Ω = some (.lst ((bitsL base 16).map D.int), Ω) := bits_den base 16 (by decide) Ω
      have e2 : d_l_bits [.int x2, .int 16] Ω = some (.lst ((bitsL x2 16).map D.int), Ω) := bits_den x2 16 (by decide) Ω
      obtain ⟨k, hk⟩ : ∃ k : Nat, x1 % 17 = k := ⟨(x1 % 17).toNat, by omega⟩
      obtain ⟨t, ht⟩ : ∃ t : Nat, (if (15 : Int) - k > 0 then (15 : Int) - k else 0) = t := ⟨15 - k, by split <;> omega⟩
      have hkt : k + t ≤ 16 := by split at ht <;> omega
      have c1 : cutL ((bitsL base 16).map D.int) none (some (k : Int)) = ((bitsL base 16).take k).map D.int := by rw [cut_to, List.map_take]
      have c2 : cutL ((bitsL base 16).map D.int) (some (k : Int)) (some ((k : Int) + 1)) = (((bitsL base 16).drop k).take 1).map D.int := by
        have : ((k : Int) + 1) = ((k + 1 : Nat) : Int) := by omega
        rw [this, cut_map, cut_ab _ (by omega), show k + 1 - k = 1 by omega]
      have c3 : cutL ((bitsL x2 16).map D.int) none (some (t : Int)) = ((bitsL x2 16).take t).map D.int := by rw [cut_to, List.map_take]
      have hB : ∀ b ∈ (bitsL base 16).take k ++ (((bitsL base 16).drop k).take 1).map (fun b => 1 - b) ++ (bitsL x2 16).take t, b = 0 ∨ b = 1 := by
        intro b hb
        rcases List.mem_append.mp hb with hb | hb
        · rcases List.mem_append.mp hb with hb | hb
          · exact bitsL_bit _ _ b (List.mem_of_mem_take hb)
          · obtain ⟨c, hc, rfl⟩ := List.mem_map.mp hb
            have := bitsL_bit _ _ c (List.mem_of_mem_drop (List.mem_of_mem_take hc))
            omega
        · exact bitsL_bit _ _ b (List.mem_of_mem_take hb)
      have hlen : ((bitsL base 16).take k ++ (((bitsL base 16).drop k).take 1).map (fun b => 1 - b) ++ (bitsL x2 16).take t).length ≤ 16 := by
        simp only [List.length_append, List.length_map, List.length_take, List.length_drop, bitsL_length]
        split at ht <;> omega
      have bd := numL_bd _ hB
      have pw : (2 : Int) ^ ((bitsL base 16).take k ++ (((bitsL base 16).drop k).take 1).map (fun b => 1 - b) ++ (bitsL x2 16).take t).length ≤ 65536 := pow_le16 hlen
      have en := num_den ((bitsL base 16).take k ++ (((bitsL base 16).drop k).take 1).map (fun b => 1 - b) ++ (bitsL x2 16).take t) Ω
      have cf := comp_flip (((bitsL base 16).drop k).take 1) .und Ω
      refine ⟨numL ((bitsL base 16).take k ++ (((bitsL base 16).drop k).take 1).map (fun b => 1 - b) ++ (bitsL x2 16).take t), bd.1, by omega, run_rt rfl ((seq_nx s1).trans ((seq_nx s2).trans ?_))⟩
      refine (seq_nx (ρ' := [.dat (.int x), .dat (.int base), .dat (.lst ([x0, x1, x2].map D.int)), .und, .und]) (Ω' := Ω) (by simp [h2])).trans ?_
      refine (seq_nx (ρ' := [.dat (.int x), .dat (.int base), .dat (.lst ([x0, x1, x2].map D.int)), .dat (.lst ((bitsL base 16).map D.int)), .und]) (Ω' := Ω) (by simp [e1])).trans ?_
      refine (seq_nx (ρ' := [.dat (.int x), .dat (.int base), .dat (.lst ([x0, x1, x2].map D.int)), .dat (.lst ((bitsL base 16).map D.int)), .dat (.int k)]) (Ω' := Ω) (by simp [hk])).trans ?_
      generalize (bitsL base 16).take k = A at *
      generalize ((bitsL base 16).drop k).take 1 = Bq at *
      generalize (bitsL x2 16).take t = Cq at *
      simp only [List.length_append, List.length_map] at hlen
      have ht' : (if (k : Int) < 15 then (15 : Int) - k else 0) = t := by split at ht <;> split <;> omega
      have g0 : Bq.length ≤ 100000 := by omega
      have g1 : A.length + Bq.length ≤ 100000 := by omega
      have g2 : A.length + Bq.length + Cq.length ≤ 100000 := by omega
      simp at en cf
      simp [e2, c1, c2, c3, ht', innerD, cf, g0, g1, g2, en]
end Law
namespace Law
open PySem DL
theorem cell_den (ns : List Int) (k : Nat) (Ω : List OS) : ∃ c : Int, d_l_cell_at [.scr ns, .int k] Ω = some (.int c, Ω) := by
  by_cases h : k < ns.length
  · refine ⟨ns[k], run_rt rfl (seq_rt ?_)⟩
    have e := atI_nat' ns k h
    simp [h, e]
  · refine ⟨0, run_rt rfl ((seq_nx (ρ' := [.dat (.scr ns), .dat (.int k)]) (Ω' := Ω) ?_).trans ?_)⟩
    · simp [h]
    · simp
theorem base_den (ns : List Int) (Ω : List OS) : ∃ base : Int, 0 ≤ base ∧ base ≤ 65535 ∧ ∀ ρ : List Sl, ρ[0]? = some (.dat (.scr ns)) → gOp modD (gOp ixD (gCall d_l_stream (gCons (gCall d_l_cell_at (gCons (gVar 0) (gCons (gC (.int 0)) gNil))) (gCons (gC (.int 1)) gNil))) (gC (.int 0))) (gC (.int 65536)) ρ Ω = some (.int base, Ω) := by
  obtain ⟨c, hc⟩ := cell_den ns 0 Ω
  obtain ⟨xs, hl, hb, e0⟩ := strm_den c 1 (by decide) Ω
  obtain ⟨x0, rfl⟩ : ∃ x0, xs = [x0] := by
    match xs, hl with
    | [a], _ => exact ⟨a, rfl⟩
  have hc' : d_l_cell_at [.scr ns, .int 0] Ω = some (.int c, Ω) := hc
  have e0' : d_l_stream [.int c, .int 1] Ω = some (.lst [.int x0], Ω) := e0
  refine ⟨x0 % 65536, by omega, by omega, fun ρ hρ => ?_⟩
  simp [hρ, hc', e0']
end Law
namespace Law
open PySem DL
abbrev Bg := Int × Int
abbrev Rw := Bg × D
def bD (k : Bg) : D := .tup [.int k.1, .int k.2]
def rowD (r : Rw) : D := .tup [bD r.1, r.2]
def rowsD (rs : List Rw) : D := .lst (rs.map rowD)
def kk (k : Bg) : List L2.Key := [.inl k.1, .inl k.2]
def tab (rs : List Rw) : List (List L2.Key × D) := rs.map fun r => (kk r.1, r.2)
def findR (rs : List Rw) (k : Bg) : Option D := (rs.find? fun r => decide (r.1 = k)).map (·.2)
def putR (rs : List Rw) (k : Bg) (v : D) : List Rw := if (rs.any fun r => decide (r.1 = k)) = true then rs.map (fun r => if r.1 = k then (r.1, v) else r) else rs ++ [(k, v)]
def cutR (rs : List Rw) (k : Bg) : List Rw := rs.filter fun r => decide (r.1 ≠ k)
theorem kk_inj {a b : Bg} : kk a = kk b ↔ a = b := by
  obtain ⟨a1, a2⟩ := a
  obtain ⟨b1, b2⟩ := b
  simp [kk]
theorem val_tab (k : Bg) : ∀ rs : List Rw, valD (tab rs) (kk k) = findR rs k
  | [] => rfl
  | r :: rs => by
    have ih := val_tab k rs
    unfold valD findR tab at ih ⊢
    rw [List.map_cons, List.find?_cons, List.find?_cons]
    by_cases h : r.1 = k
    · simp [h]
    · have h' : ¬ kk r.1 = kk k := fun z => h (kk_inj.mp z)
      simpa [h, h'] using ih
theorem any_tab (k : Bg) : ∀ rs : List Rw, ((tab rs).any fun kv => decide (kv.1 = kk k)) = rs.any fun r => decide (r.1 = k)
  | [] => rfl
  | r :: rs => by
    have ih := any_tab k rs
    unfold tab at ih ⊢
    rw [List.map_cons, List.any_cons, List.any_cons, ih]
    congr 1
    exact decide_eq_decide.mpr kk_inj
theorem put_tab (rs : List Rw) (k : Bg) (v : D) : putD (tab rs) (kk k) v = tab (putR rs k v) := by
  unfold putD putR
  rw [any_tab]
  split
  · unfold tab
    rw [List.map_map, List.map_map]
    apply List.map_congr_left
    intro r _
    show (if kk r.1 = kk k then (kk r.1, v) else (kk r.1, r.2)) = _
    by_cases h : r.1 = k
    · rw [if_pos (by rw [h])]; simp [h]
    · rw [if_neg (fun z => h (kk_inj.mp z))]; simp [h]
  · simp [tab]
theorem drop_tab (rs : List Rw) (k : Bg) : dropD (tab rs) (kk k) = tab (cutR rs k) := by
  unfold dropD cutR tab
  rw [List.filter_map]
  congr 1
  apply List.filter_congr
  intro r _
  exact decide_eq_decide.mpr (not_congr kk_inj)
@[simp] theorem tab_length (rs : List Rw) : (tab rs).length = rs.length := by simp [tab]
structure Be (k : Bg) : Prop where
  s0 : 0 ≤ k.2
  s1 : k.2 ≤ 16
  b0 : 0 ≤ k.1
  b1 : k.1 < 2 ^ k.2.toNat
structure Okr (rs : List Rw) : Prop where
  be : ∀ r ∈ rs, Be r.1
  th : ∀ r ∈ rs, r.2 = .non ∨ ∃ i, r.2 = .int i
  nd : (rs.map (·.1)).Nodup
theorem Okr.nil : Okr [] := ⟨fun _ h => absurd h List.not_mem_nil, fun _ h => absurd h List.not_mem_nil, List.nodup_nil⟩
theorem cut_sub {rs : List Rw} {k : Bg} {r : Rw} (h : r ∈ cutR rs k) : r ∈ rs := (List.mem_filter.mp h).1
theorem Okr.cut {rs : List Rw} (h : Okr rs) (k : Bg) : Okr (cutR rs k) := ⟨fun r hr => h.be r (cut_sub hr), fun r hr => h.th r (cut_sub hr), h.nd.sublist (List.filter_sublist.map _)⟩
theorem keys_put (rs : List Rw) (k : Bg) (v : D) : (putR rs k v).map (·.1) = if (rs.any fun r => decide (r.1 = k)) = true then rs.map (·.1) else rs.map (·.1) ++ [k] := by
  unfold putR
  split
  · rw [List.map_map]
    apply List.map_congr_left
    intro r _
    show (if r.1 = k then (r.1, v) else r).1 = r.1
    split <;> rfl
  · simp
theorem mem_put {rs : List Rw} {k : Bg} {v : D} {r : Rw} (h : r ∈ putR rs k v) : r ∈ rs ∨ r = (k, v) := by
  unfold putR at h
  split at h
  · obtain ⟨q, hq, e⟩ := List.mem_map.mp h
    by_cases z : q.1 = k
    · rw [if_pos z] at e; exact .inr (by rw [← e, z])
    · rw [if_neg z] at e; exact .inl (by rw [← e]; exact hq)
  · rcases List.mem_append.mp h with h | h
    · exact .inl h
    · exact .inr (by simpa using h)
theorem Okr.put {rs : List Rw} (h : Okr rs) {k : Bg} {v : D} (hk : Be k) (hv : v = .non ∨ ∃ i, v = .int i) : Okr (putR rs k v) := by
  refine ⟨fun r hr => ?_, fun r hr => ?_, ?_⟩
  · rcases mem_put hr with z | rfl
    · exact h.be r z
    · exact hk
  · rcases mem_put hr with z | rfl
    · exact h.th r z
    · exact hv
  · rw [keys_put]
    split
    · exact h.nd
    · rename_i hn
      rw [List.nodup_append]
      refine ⟨h.nd, by simp, fun a ha b hb => ?_⟩
      simp only [List.mem_singleton] at hb
      subst hb
      intro z
      subst z
      obtain ⟨r, hr, rfl⟩ := List.mem_map.mp ha
      exact hn (List.any_eq_true.mpr ⟨r, hr, by simp⟩)
theorem len_put (rs : List Rw) (k : Bg) (v : D) : (putR rs k v).length ≤ rs.length + 1 := by
  unfold putR
  split <;> simp
theorem len_cut (rs : List Rw) (k : Bg) : (cutR rs k).length ≤ rs.length := List.length_filter_le _ _
structure IsTab (Ω : List OS) (n m : Nat) (rs : List Rw) : Prop where
  ob : Ω[n]? = some (.ins "Table" [("thing_by", .obj m)])
  dc : Ω[m]? = some (.dT (tab rs))
  ne : n ≠ m
theorem look_tb (d : D) : List.lookup ("thing_by" : Str) [("thing_by", d)] = some d := by simp [List.lookup_cons]
theorem look_no {f : Str} (h : (f == ("thing_by" : Str)) = false) (d : D) : List.lookup f [(("thing_by" : Str), d)] = none := by rw [List.lookup_cons, h]; rfl
theorem n_put : (("put" : Str) == "thing_by") = false := by decide +kernel
theorem n_cut : (("cut" : Str) == "thing_by") = false := by decide +kernel
theorem n_count : (("count" : Str) == "thing_by") = false := by decide +kernel
theorem n_longest : (("longest" : Str) == "thing_by") = false := by decide +kernel
theorem n_rows : (("rows" : Str) == "thing_by") = false := by decide +kernel
theorem n_under : (("under" : Str) == "thing_by") = false := by decide +kernel
theorem n_get : (("get" : Str) == "thing_by") = false := by decide +kernel
theorem n_has : (("has" : Str) == "thing_by") = false := by decide +kernel
theorem IsTab.set {Ω : List OS} {n m : Nat} {rs rs' : List Rw} (h : IsTab Ω n m rs) : IsTab (Ω.set m (.dT (tab rs'))) n m rs' :=
  ⟨by rw [List.getElem?_set_ne h.ne.symm]; exact h.ob, List.getElem?_set_self (List.getElem?_eq_some_iff.mp h.dc).1, h.ne⟩
theorem tput_den {Ω : List OS} {n m : Nat} {rs : List Rw} (h : IsTab Ω n m rs) (hl : rs.length < 1000) (k : Bg) (v : D) : d_Table_put [.obj n, bD k, v] Ω = some (.non, Ω.set m (.dT (tab (putR rs k v)))) := by
  unfold d_Table_put
  rw [ap_run]
  have hl' : rs.length < 100000 := by omega
  have e : putD (tab rs) [.inl k.1, .inl k.2] v = tab (putR rs k v) := put_tab rs k v
  simp [h.ob, look_tb, bD, h.dc, hl', e]
theorem valb_tab (k : Bg) (rs : List Rw) : valD (tab rs) [.inl k.1, .inl k.2] = findR rs k := val_tab k rs
theorem tcut_den {Ω : List OS} {n m : Nat} {rs : List Rw} (h : IsTab Ω n m rs) (k : Bg) {v : D} (hv : findR rs k = some v) : d_Table_cut [.obj n, bD k] Ω = some (.non, Ω.set m (.dT (tab (cutR rs k)))) := by
  unfold d_Table_cut
  rw [ap_run]
  have e : dropD (tab rs) [.inl k.1, .inl k.2] = tab (cutR rs k) := drop_tab rs k
  have e2 := valb_tab k rs
  rw [hv] at e2
  simp [h.ob, look_tb, bD, h.dc, e, e2]
theorem tcount_den {Ω : List OS} {n m : Nat} {rs : List Rw} (h : IsTab Ω n m rs) : d_Table_count [.obj n] Ω = some (.int rs.length, Ω) := by
  unfold d_Table_count
  rw [ap_run]
  simp [h.ob, look_tb, h.dc]
end Law
namespace Law
open PySem DL
@[simp] theorem ix_rows (rs : List Rw) (i : Int) : ixD (rowsD rs) (.int i) = L2.atI (rs.map rowD) i := (rfl)
@[simp] theorem len_rows (rs : List Rw) : lenD [rowsD rs] = some (.int rs.length) := by simp [rowsD]
@[simp] theorem sl_rows (rs : List Rw) (lo hi : Option Int) : slD (rowsD rs) lo hi = some (.lst (cutL (rs.map rowD) lo hi)) := (rfl)
@[simp] theorem seq_rows (rs : List Rw) : seqD (rowsD rs) = some (rs.map rowD) := (rfl)
@[simp] theorem ix_row0 (r : Rw) : ixD (rowD r) (.int 0) = some (bD r.1) := by unfold rowD; rw [ix_tup]; exact atI_0 _ _
@[simp] theorem ix_row1 (r : Rw) : ixD (rowD r) (.int 1) = some r.2 := by unfold rowD; rw [ix_tup]; exact atI_1 _ _ _
@[simp] theorem ix_bD0 (k : Bg) : ixD (bD k) (.int 0) = some (.int k.1) := by unfold bD; rw [ix_tup]; exact atI_0 _ _
@[simp] theorem ix_bD1 (k : Bg) : ixD (bD k) (.int 1) = some (.int k.2) := by unfold bD; rw [ix_tup]; exact atI_1 _ _ _
theorem add_rows (rs : List Rw) (xs : List D) (h : rs.length + xs.length ≤ 100000) : addD (rowsD rs) (.lst xs) = some (.lst (rs.map rowD ++ xs)) := by
  unfold rowsD
  rw [add_lst, if_pos (by simpa using h)]
theorem atI_rows {rs : List Rw} {i : Nat} (h : i < rs.length) : L2.atI (rs.map rowD) (i : Int) = some (rowD rs[i]) := by rw [atI_map, atI_nat' _ _ h]; rfl
theorem pl_bD (k : Bg) : pl (bD k) = true := by simp [bD, pl, plL]
theorem dep_bD (k : Bg) : dep (bD k) ≤ 64 := by simp [bD, dep, depL]
theorem bD_inj {a b : Bg} : bD a = bD b ↔ a = b := by
  obtain ⟨a1, a2⟩ := a
  obtain ⟨b1, b2⟩ := b
  simp [bD]
theorem eq_bD (neg : Bool) (a b : Bg) : eqD neg (bD a) (bD b) = some (.bl (if a = b then !neg else neg)) := by
  by_cases h : a = b
  · subst h
    rw [eq_self_pl neg (pl_bD a) (dep_bD a), if_pos rfl]
  · rw [eq_ne_pl neg (pl_bD a) (pl_bD b) (dep_bD a) (dep_bD b) fun z => h (bD_inj.mp z), if_neg h]
theorem th_pl {v : D} (h : v = .non ∨ ∃ i, v = .int i) : pl v = true ∧ dep v = 0 := by
  rcases h with rfl | ⟨i, rfl⟩ <;> simp [pl, dep]
theorem rows_pl : ∀ {rs : List Rw}, (∀ r ∈ rs, r.2 = .non ∨ ∃ i, r.2 = .int i) → plL (rs.map rowD) = true ∧ depL (rs.map rowD) ≤ 3
  | [], _ => by simp [plL, depL]
  | r :: rs, h => by
    obtain ⟨h1, h2⟩ := rows_pl fun q hq => h q (List.mem_cons_of_mem _ hq)
    obtain ⟨t1, t2⟩ := th_pl (h r List.mem_cons_self)
    refine ⟨?_, ?_⟩
    · simp [plL, h1, rowD, pl, bD, t1]
    · simp [depL, rowD, dep, bD, t2]
      omega
theorem pl_rows {rs : List Rw} (h : Okr rs) : pl (rowsD rs) = true ∧ dep (rowsD rs) ≤ 64 := by
  obtain ⟨h1, h2⟩ := rows_pl h.th
  unfold rowsD
  rw [pl, dep]
  exact ⟨h1, by omega⟩
theorem eq_rows_nil {rs : List Rw} (h : Okr rs) : eqD false (rowsD rs) (.lst []) = some (.bl (rs.isEmpty)) := by
  obtain ⟨h1, h2⟩ := pl_rows h
  cases rs with
  | nil => exact eq_self_pl false h1 h2
  | cons r rs => exact eq_ne_pl false h1 (by simp [pl, plL]) h2 (by simp [dep, depL]) (by simp [rowsD])
@[simp] theorem atI_4 {β : Type} (a b c d e : β) (l : List β) : L2.atI (a :: b :: c :: d :: e :: l) 4 = some e := by
  have := atI_nat' (a :: b :: c :: d :: e :: l) 4 (by simp)
  simpa using this
@[simp] theorem atI_5 {β : Type} (a b c d e f : β) (l : List β) : L2.atI (a :: b :: c :: d :: e :: f :: l) 5 = some f := by
  have := atI_nat' (a :: b :: c :: d :: e :: f :: l) 5 (by simp)
  simpa using this
@[simp] theorem atI_6 {β : Type} (a b c d e f g : β) (l : List β) : L2.atI (a :: b :: c :: d :: e :: f :: g :: l) 6 = some g := by
  have := atI_nat' (a :: b :: c :: d :: e :: f :: g :: l) 6 (by simp)
  simpa using this
@[simp] theorem atI_7 {β : Type} (a b c d e f g h : β) (l : List β) : L2.atI (a :: b :: c :: d :: e :: f :: g :: h :: l) 7 = some h := by
  have := atI_nat' (a :: b :: c :: d :: e :: f :: g :: h :: l) 7 (by simp)
  simpa using this
theorem upD_cons (lo : Int) (n : Nat) : upD lo (n + 1) = D.int lo :: upD (lo + 1) n := by
  unfold upD
  rw [List.range_succ_eq_map, List.map_cons, List.map_map]
  congr 1
  · simp
  · apply List.map_congr_left
    intro k _
    show D.int (lo + ((k + 1 : Nat) : Int)) = D.int (lo + 1 + (k : Int))
    congr 1
    omega
def idxR (rs : List Rw) (k : Bg) : Option Nat := rs.findIdx? fun r => decide (r.1 = k)
theorem place_loop (k : Bg) (Ω : List OS) : ∀ (suf pre : List Rw) (x : Sl), (∀ j, idxR suf k = some j → forD (bName 2) (sIf (gT (gOp (eqD false) (gOp ixD (gOp ixD (gVar 0) (gVar 2)) (gC (.int 0))) (gVar 1))) (sRet (gVar 2)) sNext) (upD pre.length suf.length) [.dat (rowsD (pre ++ suf)), .dat (bD k), x] Ω = some (.rt (.int (pre.length + j : Nat)) Ω)) ∧
    (idxR suf k = none → ∃ y, forD (bName 2) (sIf (gT (gOp (eqD false) (gOp ixD (gOp ixD (gVar 0) (gVar 2)) (gC (.int 0))) (gVar 1))) (sRet (gVar 2)) sNext) (upD pre.length suf.length) [.dat (rowsD (pre ++ suf)), .dat (bD k), x] Ω = some (.nx [.dat (rowsD (pre ++ suf)), .dat (bD k), y] Ω))
  | [], pre, x => ⟨fun j h => by simp [idxR] at h, fun _ => ⟨x, rfl⟩⟩
  | r :: suf, pre, x => by
    obtain ⟨ih1, ih2⟩ := place_loop k Ω suf (pre ++ [r]) (.dat (.int pre.length))
    have el : ((pre ++ [r]).length : Int) = (pre.length : Int) + 1 := by simp
    have ea : pre ++ [r] ++ suf = pre ++ r :: suf := by simp
    rw [el, ea] at ih1 ih2
    have eget : L2.atI ((pre ++ r :: suf).map rowD) (pre.length : Int) = some (rowD r) := by
      rw [atI_rows (by simp)]
      simp
    generalize pre ++ r :: suf = all at *
    have e1 := eq_bD false r.1 k
    rw [List.length_cons, upD_cons]
    by_cases h : r.1 = k
    · rw [if_pos h] at e1
      have ei : idxR (r :: suf) k = some 0 := by simp [idxR, List.findIdx?_cons, h]
      rw [ei]
      refine ⟨fun j hj => ?_, fun z => nomatch z⟩
      cases hj
      rw [for_cons]
      simp [eget, e1]
    · rw [if_neg h] at e1
      have ei : idxR (r :: suf) k = (idxR suf k).map (· + 1) := by simp [idxR, List.findIdx?_cons, h]
      have step : ∀ rest, forD (bName 2) (sIf (gT (gOp (eqD false) (gOp ixD (gOp ixD (gVar 0) (gVar 2)) (gC (.int 0))) (gVar 1))) (sRet (gVar 2)) sNext) (D.int pre.length :: rest) [.dat (rowsD all), .dat (bD k), x] Ω = forD (bName 2) (sIf (gT (gOp (eqD false) (gOp ixD (gOp ixD (gVar 0) (gVar 2)) (gC (.int 0))) (gVar 1))) (sRet (gVar 2)) sNext) rest [.dat (rowsD all), .dat (bD k), .dat (.int pre.length)] Ω := fun rest => by
        rw [for_cons]
        simp [eget, e1]
      rw [step, ei]
      refine ⟨fun j hj => ?_, fun hn => ?_⟩
      · obtain ⟨j', h1, rfl⟩ := Option.map_eq_some_iff.mp hj
        have := ih1 j' h1
        rw [this]
        congr 3
        simp
        omega
      · exact ih2 (by simpa using hn)
def optI : Option Nat → D
  | none => .non
  | some i => .int i
theorem place_den (rs : List Rw) (k : Bg) (hl : rs.length ≤ 900) (Ω : List OS) : d_l_place [rowsD rs, bD k] Ω = some (optI (idxR rs k), Ω) := by
  obtain ⟨h1, h2⟩ := place_loop k Ω rs [] .und
  have e1 : rng1 [.int (rs.length : Int)] = some (upD 0 rs.length) := by rw [rng_1 (by omega) (by omega), Int.toNat_natCast]
  unfold d_l_place
  rw [ap_run]
  cases q : idxR rs k with
  | some j =>
    have := h1 j q
    simp at this
    simp [e1, this, optI]
  | none =>
    obtain ⟨y, this⟩ := h2 q
    simp at this
    simp [e1, this, optI]
theorem idx_some {rs : List Rw} {k : Bg} {i : Nat} (h : idxR rs k = some i) : ∃ hi : i < rs.length, rs[i].1 = k ∧ ∀ j (hj : j < i), rs[j].1 ≠ k := by
  unfold idxR at h
  rw [List.findIdx?_eq_some_iff_getElem] at h
  obtain ⟨hi, h1, h2⟩ := h
  exact ⟨hi, by simpa using h1, fun j hj => by simpa using h2 j hj⟩
theorem idx_none {rs : List Rw} {k : Bg} : idxR rs k = none ↔ ∀ r ∈ rs, r.1 ≠ k := by
  unfold idxR
  rw [List.findIdx?_eq_none_iff]
  simp
theorem find_none {rs : List Rw} {k : Bg} : findR rs k = none ↔ ∀ r ∈ rs, r.1 ≠ k := by
  unfold findR
  rw [Option.map_eq_none_iff, List.find?_eq_none]
  simp
theorem find_mem {rs : List Rw} (h : (rs.map (·.1)).Nodup) {r : Rw} (hr : r ∈ rs) : findR rs r.1 = some r.2 := by
  induction rs with
  | nil => exact absurd hr List.not_mem_nil
  | cons q rs ih =>
    rw [List.map_cons, List.nodup_cons] at h
    unfold findR
    rw [List.find?_cons]
    rcases List.mem_cons.mp hr with rfl | hr
    · simp
    · have ne : ¬ q.1 = r.1 := fun z => h.1 (by rw [z]; exact List.mem_map.mpr ⟨r, hr, rfl⟩)
      have := ih h.2 hr
      unfold findR at this
      simp [ne, this]
theorem find_some {rs : List Rw} {k : Bg} {v : D} (h : findR rs k = some v) : (k, v) ∈ rs := by
  unfold findR at h
  obtain ⟨r, h1, h2⟩ := Option.map_eq_some_iff.mp h
  have := List.mem_of_find?_eq_some h1
  have e := List.find?_some h1
  simp at e
  rw [← h2, ← e]
  exact this
theorem put_at {k : Bg} {v : D} : ∀ {rs : List Rw} {i : Nat}, (rs.map (·.1)).Nodup → idxR rs k = some i → rs.take i ++ [(k, v)] ++ rs.drop (i + 1) = putR rs k v
  | [], i, _, h => by simp [idxR] at h
  | r :: rs, i, hn, h => by
    rw [List.map_cons, List.nodup_cons] at hn
    by_cases e : r.1 = k
    · have ei : idxR (r :: rs) k = some 0 := by simp [idxR, List.findIdx?_cons, e]
      rw [ei] at h
      cases h
      unfold putR
      rw [if_pos (by simp [e])]
      rw [List.map_cons, if_pos e]
      have : rs.map (fun r => if r.1 = k then (r.1, v) else r) = rs := by
        rw [List.map_congr_left (g := id) fun q hq => ?_]
        · simp
        · rw [if_neg (fun z => hn.1 (by rw [e, ← z]; exact List.mem_map.mpr ⟨q, hq, rfl⟩))]; rfl
      rw [this]
      simp [e]
    · have ei : idxR (r :: rs) k = (idxR rs k).map (· + 1) := by simp [idxR, List.findIdx?_cons, e]
      rw [ei] at h
      obtain ⟨j, h1, rfl⟩ := Option.map_eq_some_iff.mp h
      have ih := put_at (v := v) hn.2 h1
      have an : (rs.any fun r => decide (r.1 = k)) = true := by
        obtain ⟨hi, q, _⟩ := idx_some h1
        exact List.any_eq_true.mpr ⟨rs[j], List.getElem_mem hi, by simp [q]⟩
      unfold putR at ih ⊢
      rw [if_pos an] at ih
      rw [if_pos (by simp [an]), List.map_cons, if_neg e, ← ih]
      simp
theorem lput_den {rs : List Rw} (h : Okr rs) (hl : rs.length ≤ 900) (k : Bg) (v : D) (Ω : List OS) : d_l_put [rowsD rs, bD k, v] Ω = some (rowsD (putR rs k v), Ω) := by
  have e := place_den rs k hl Ω
  unfold d_l_put
  rw [ap_run]
  cases q : idxR rs k with
  | none =>
    rw [q] at e
    have en : putR rs k v = rs ++ [(k, v)] := by
      unfold putR
      rw [if_neg]
      intro z
      obtain ⟨r, hr, z⟩ := List.any_eq_true.mp z
      exact idx_none.mp q r hr (by simpa using z)
    have ha := add_rows rs [.tup [bD k, v]] (by simp; omega)
    rw [en]
    have e2 : rowsD (rs ++ [(k, v)]) = .lst (rs.map rowD ++ [.tup [bD k, v]]) := by simp [rowsD, rowD]
    rw [e2]
    simp [e, optI, isD, isNone, ha]
  | some i =>
    rw [q] at e
    obtain ⟨hi, _, _⟩ := idx_some q
    have hp := put_at (v := v) h.nd q
    have c1 : cutL (rs.map rowD) none (some (i : Int)) = (rs.take i).map rowD := by rw [cut_to, List.map_take]
    have c2 : cutL (rs.map rowD) (some ((i : Int) + 1)) none = (rs.drop (i + 1)).map rowD := by
      have : ((i : Int) + 1) = ((i + 1 : Nat) : Int) := by omega
      rw [this, cut_from, List.map_drop]
    have l2 : min i rs.length ≤ 99999 := by omega
    have l3 : min i rs.length + 1 + (rs.length - (i + 1)) ≤ 100000 := by omega
    rw [← hp]
    have en : rowsD (rs.take i ++ [(k, v)] ++ rs.drop (i + 1)) = .lst ((rs.take i).map rowD ++ (.tup [bD k, v] :: (rs.drop (i + 1)).map rowD)) := by simp [rowsD, rowD]
    rw [en]
    simp [e, optI, isD, isNone, c1, c2, l2, l3]
theorem thing_den {x : Int} (h0 : 0 ≤ x) (h1 : x < 2147483647) (Ω : List OS) : ∃ v : D, (v = .non ∨ ∃ i, v = .int i) ∧ d_l_thing_by [.int x] Ω = some (v, Ω) := by
  have m : mulD (.int x) (.int x) = some (.int (x * x)) := mul_i (.inl ⟨by omega, by omega⟩)
  have r : ∀ i : Int, 0 ≤ i → i < 8 → ∃ v : D, (v = .non ∨ ∃ i, v = .int i) ∧ L2.atI [D.non, .int 0, .int (x / 8 % 32), .int (x / 8 % 32), .int (-1 - x / 8 % 99), .int (x * x), .int 31, .int (x / 8 % 3)] i = some v := fun i a b => by
    rcases (by omega : i = 0 ∨ i = 1 ∨ i = 2 ∨ i = 3 ∨ i = 4 ∨ i = 5 ∨ i = 6 ∨ i = 7) with rfl | rfl | rfl | rfl | rfl | rfl | rfl | rfl
    · exact ⟨_, .inl rfl, by simp⟩
    all_goals exact ⟨_, .inr ⟨_, rfl⟩, by simp; rfl⟩
  obtain ⟨v, hv, e⟩ := r (x % 8) (by omega) (by omega)
  refine ⟨v, hv, ?_⟩
  unfold d_l_thing_by
  rw [ap_run]
  simp [m, e]
theorem be_B {bs : List Int} (h : B bs) : Be (numL bs, (bs.length : Int)) := by
  have := numL_bd bs h.bit
  have := h.len
  exact ⟨by show (0 : Int) ≤ bs.length; omega, by show (bs.length : Int) ≤ 16; omega, by show 0 ≤ numL bs; omega, by show numL bs < 2 ^ (bs.length : Int).toNat; simp; omega⟩
theorem begb_den (x base : Int) (Ω : List OS) : ∃ k : Bg, Be k ∧ d_l_beginning [.int x, .int base] Ω = some (bD k, Ω) := by
  obtain ⟨bs, hB, e⟩ := beg_den x base Ω
  exact ⟨_, be_B hB, e⟩
theorem Be.up {k : Bg} (h : Be k) : Be (k.1 / 2, if k.2 - 1 > 0 then k.2 - 1 else 0) := by
  obtain ⟨b, s⟩ := k
  obtain ⟨s0, s1, b0, b1⟩ := h
  dsimp only at *
  obtain ⟨n, rfl⟩ : ∃ n : Nat, s = n := ⟨s.toNat, by omega⟩
  cases n with
  | zero =>
    simp at b1
    refine ⟨by simp, by simp, ?_, ?_⟩
    · show 0 ≤ b / 2; omega
    · show b / 2 < _; simp; omega
  | succ n =>
    rw [Int.toNat_natCast, Int.pow_succ] at b1
    have e : (if ((n + 1 : Nat) : Int) - 1 > 0 then ((n + 1 : Nat) : Int) - 1 else 0) = (n : Int) := by split <;> omega
    rw [e]
    refine ⟨by show (0 : Int) ≤ n; omega, by show (n : Int) ≤ 16; omega, by show 0 ≤ b / 2; omega, ?_⟩
    show b / 2 < 2 ^ (n : Int).toNat
    rw [Int.toNat_natCast]
    generalize (2 : Int) ^ n = p at *
    omega
theorem Be.dn {k : Bg} (h : Be k) (hs : k.2 ≠ 16) {c : Int} (c0 : 0 ≤ c) (c1 : c < 2) : Be (2 * k.1 + c, k.2 + 1) := by
  obtain ⟨b, s⟩ := k
  obtain ⟨s0, s1, b0, b1⟩ := h
  dsimp only at *
  obtain ⟨n, rfl⟩ : ∃ n : Nat, s = n := ⟨s.toNat, by omega⟩
  refine ⟨by show (0 : Int) ≤ (n : Int) + 1; omega, by show (n : Int) + 1 ≤ 16; omega, by show 0 ≤ 2 * b + c; omega, ?_⟩
  show 2 * b + c < 2 ^ ((n : Int) + 1).toNat
  rw [show ((n : Int) + 1).toNat = n + 1 by omega, Int.pow_succ]
  rw [Int.toNat_natCast] at b1
  generalize (2 : Int) ^ n = p at *
  omega
theorem picked_den (x base : Int) {rs : List Rw} (h : Okr rs) (hl : rs.length ≤ 900) (Ω : List OS) : ∃ k : Bg, Be k ∧ d_l_picked [.int x, rowsD rs, .int base] Ω = some (bD k, Ω) := by
  obtain ⟨xs, xl, xb, e0⟩ := strm_den x 3 (by decide) Ω
  obtain ⟨x0, x1, x2, rfl⟩ : ∃ x0 x1 x2, xs = [x0, x1, x2] := by
    match xs, xl with
    | [a, b, c], _ => exact ⟨a, b, c, rfl⟩
  have e0' : d_l_stream [.int x, .int 3] Ω = some (.lst ([x0, x1, x2].map D.int), Ω) := e0
  have en := eq_rows_nil h
  have s1 : sSet 3 (gCall d_l_stream (gCons (gVar 0) (gCons (gC (.int 3)) gNil))) [.dat (.int x), .dat (rowsD rs), .dat (.int base), .und, .und, .und] Ω = some (.nx [.dat (.int x), .dat (rowsD rs), .dat (.int base), .dat (.lst ([x0, x1, x2].map D.int)), .und, .und] Ω) := by simp [e0']
  by_cases hf : rs = [] ∨ x0 % 3 = 0
  · obtain ⟨k, hk, ek⟩ := begb_den x1 base Ω
    refine ⟨k, hk, run_rt rfl ((seq_nx s1).trans (seq_rt ?_))⟩
    by_cases hn : rs = []
    · subst hn
      simp [en, ek]
    · have hz := hf.resolve_left hn
      have he : rs.isEmpty = false := by simpa using hn
      rw [he] at en
      simp [en, hz, ek]
  · rw [not_or] at hf
    obtain ⟨hn, hz⟩ := hf
    have he : rs.isEmpty = false := by simpa using hn
    rw [he] at en
    have hL : 0 < rs.length := List.length_pos_iff.mpr hn
    obtain ⟨i, hi, ei⟩ : ∃ i : Nat, i < rs.length ∧ x2 % (rs.length : Int) = i := ⟨(x2 % (rs.length : Int)).toNat, by
      have := Int.emod_lt_of_pos x2 (by omega : (0 : Int) < rs.length)
      have := Int.emod_nonneg x2 (by omega : (rs.length : Int) ≠ 0)
      omega, by
      have := Int.emod_nonneg x2 (by omega : (rs.length : Int) ≠ 0)
      omega⟩
    have hk := h.be rs[i] (List.getElem_mem hi)
    obtain ⟨k, ek⟩ : ∃ k, rs[i].1 = k := ⟨_, rfl⟩
    rw [ek] at hk
    have eg := atI_rows hi
    have e00 : ixD (rowD rs[i]) (.int 0) = some (.tup [.int k.1, .int k.2]) := by rw [ix_row0, ek]; rfl
    have hL' : (0 : Int) < rs.length := by omega
    refine ⟨if x0 % 3 = 1 then k else if x0 / 3 % 2 = 0 then (k.1 / 2, if k.2 - 1 > 0 then k.2 - 1 else 0) else if k.2 = 16 then k else (2 * k.1 + x1 % 2, k.2 + 1), ?_, run_rt rfl ((seq_nx s1).trans ?_)⟩
    · split
      · exact hk
      · split
        · exact hk.up
        · split
          · exact hk
          · exact hk.dn (by assumption) (by omega) (by omega)
    · refine (seq_nx (ρ' := [.dat (.int x), .dat (rowsD rs), .dat (.int base), .dat (.lst ([x0, x1, x2].map D.int)), .und, .und]) (Ω' := Ω) (by simp [en, hz])).trans ?_
      refine (seq_nx (ρ' := [.dat (.int x), .dat (rowsD rs), .dat (.int base), .dat (.lst ([x0, x1, x2].map D.int)), .dat (.int k.1), .dat (.int k.2)]) (Ω' := Ω) (by simp [hL, ei, eg, e00, bNames])).trans ?_
      by_cases h1 : x0 % 3 = 1
      · rw [if_pos h1]
        exact seq_rt (by simp [h1, bD])
      · rw [if_neg h1]
        refine (seq_nx (ρ' := [.dat (.int x), .dat (rowsD rs), .dat (.int base), .dat (.lst ([x0, x1, x2].map D.int)), .dat (.int k.1), .dat (.int k.2)]) (Ω' := Ω) (by simp [h1])).trans ?_
        by_cases h2 : x0 / 3 % 2 = 0
        · rw [if_pos h2]
          exact seq_rt (by simp [h2, bD])
        · rw [if_neg h2]
          have m2 : mulD (.int 2) (.int k.1) = some (.int (2 * k.1)) := mul_i (.inl ⟨by decide, by decide⟩)
          refine (seq_nx (ρ' := [.dat (.int x), .dat (rowsD rs), .dat (.int base), .dat (.lst ([x0, x1, x2].map D.int)), .dat (.int k.1), .dat (.int k.2)]) (Ω' := Ω) (by simp [h2])).trans ?_
          by_cases h3 : k.2 = 16
          · simp [m2, h3, bD]
          · simp [m2, h3, bD]
end Law
namespace Law
open PySem DL
theorem dbl_loop (Ω : List OS) (x0 : Sl) : ∀ (l : List D) (v : Int) (x : Sl), ∃ y : Sl, forD (bName 2) (sSet 1 (gOp mulD (gC (.int 2)) (gVar 1))) l [x0, .dat (.int v), x] Ω = some (.nx [x0, .dat (.int (v * 2 ^ l.length)), y] Ω)
  | [], v, x => ⟨x, by simp⟩
  | d :: l, v, x => by
    have m2 : mulD (.int 2) (.int v) = some (.int (2 * v)) := mul_i (.inl ⟨by decide, by decide⟩)
    obtain ⟨y, hy⟩ := dbl_loop Ω x0 l (2 * v) (.dat d)
    refine ⟨y, ?_⟩
    rw [for_cons]
    simp [m2]
    rw [hy]
    congr 6
    rw [Int.pow_succ, Int.mul_comm 2 v, Int.mul_assoc, Int.mul_comm 2]
theorem place_of_den (b s : Int) (h0 : 0 ≤ s) (h1 : s ≤ 16) (Ω : List OS) : d_l_place_of [.tup [.int b, .int s]] Ω = some (.tup [.int (b * 2 ^ (16 - s).toNat), .int s], Ω) := by
  have e1 : rng1 [.int (16 - s)] = some (upD 0 (16 - s).toNat) := rng_1 (by omega) (by omega)
  obtain ⟨y, hy⟩ := dbl_loop Ω (.dat (.tup [.int b, .int s])) (upD 0 (16 - s).toNat) b .und
  have el : (upD 0 (16 - s).toNat).length = (16 - s).toNat := by simp [upD]
  rw [el] at hy
  refine run_rt rfl ((seq_nx (ρ' := [.dat (.tup [.int b, .int s]), .dat (.int b), .und]) (Ω' := Ω) (by simp)).trans ?_)
  refine (seq_nx (ρ' := [.dat (.tup [.int b, .int s]), .dat (.int (b * 2 ^ (16 - s).toNat)), y]) (Ω' := Ω) (by simp [e1, hy])).trans ?_
  simp
def fits (a most : Int) (k : Bg) : Prop := k.2 ≤ most ∧ a / 2 ^ (16 - k.2).toNat = k.1
instance (a most : Int) (k : Bg) : Decidable (fits a most k) := by unfold fits; infer_instance
theorem div_iff (a b : Int) (n : Nat) : (b * 2 ^ n ≤ a ∧ a < (b + 1) * 2 ^ n) ↔ a / 2 ^ n = b := by
  have pw := pow_pos2 n
  generalize (2 : Int) ^ n = p at *
  constructor
  · rintro ⟨h1, h2⟩
    have q1 := (Int.le_ediv_iff_mul_le pw).mpr h1
    have q2 := (Int.ediv_lt_iff_lt_mul pw).mpr h2
    omega
  · intro h
    exact ⟨(Int.le_ediv_iff_mul_le pw).mp (by omega), (Int.ediv_lt_iff_lt_mul pw).mp (by omega)⟩
def best (a most : Int) (o : Option Rw) (r : Rw) : Option Rw := if fits a most r.1 ∧ (o.all fun q => decide (q.1.2 < r.1.2)) = true then some r else o
def optR : Option Rw → D
  | none => .non
  | some r => rowD r
theorem lon_step {r : Rw} (hk : Be r.1) (a most : Int) (o : Option Rw) (X0 x4 x5 x6 : Sl) (Ω : List OS) : ∃ y4 y5 y6 : Sl,
    (sSeq (sSet 5 (gOp ixD (gCall d_l_place_of (gCons (gOp ixD (gVar 4) (gC (.int 0))) gNil)) (gC (.int 0)))) (sSeq (sSet 6 (gOp ixD (gCall d_l_place_of (gCons (gTup (gCons (gOp addD (gOp ixD (gOp ixD (gVar 4) (gC (.int 0))) (gC (.int 0))) (gC (.int 1))) (gCons (gOp ixD (gOp ixD (gVar 4) (gC (.int 0))) (gC (.int 1))) gNil))) gNil)) (gC (.int 0)))) (sIf (gAndT (gT (gOp leD (gOp ixD (gOp ixD (gVar 4) (gC (.int 0))) (gC (.int 1))) (gVar 2))) (gAndT (gT (gChain leD ltD (gVar 5) (gVar 1) (gVar 6))) (gOrT (gT (gOp (isD false) (gVar 3) (gC .non))) (gT (gOp gtD (gOp ixD (gOp ixD (gVar 4) (gC (.int 0))) (gC (.int 1))) (gOp ixD (gOp ixD (gVar 3) (gC (.int 0))) (gC (.int 1)))))))) (sSet 3 (gVar 4)) sNext))) [X0, .dat (.int a), .dat (.int most), .dat (optR o), .dat (rowD r), x5, x6] Ω
      = some (.nx [X0, .dat (.int a), .dat (.int most), .dat (optR (best a most o r)), y4, y5, y6] Ω) := by
  have p1 : d_l_place_of [bD r.1] Ω = _ := place_of_den r.1.1 r.1.2 hk.s0 hk.s1 Ω
  have p2 := place_of_den (r.1.1 + 1) r.1.2 hk.s0 hk.s1 Ω
  have dv := div_iff a r.1.1 (16 - r.1.2).toNat
  refine ⟨.dat (rowD r), .dat (.int (r.1.1 * 2 ^ (16 - r.1.2).toNat)), .dat (.int ((r.1.1 + 1) * 2 ^ (16 - r.1.2).toNat)), ?_⟩
  refine (seq_nx (ρ' := [X0, .dat (.int a), .dat (.int most), .dat (optR o), .dat (rowD r), .dat (.int (r.1.1 * 2 ^ (16 - r.1.2).toNat)), x6]) (Ω' := Ω) (by simp [p1])).trans ?_
  refine (seq_nx (ρ' := [X0, .dat (.int a), .dat (.int most), .dat (optR o), .dat (rowD r), .dat (.int (r.1.1 * 2 ^ (16 - r.1.2).toNat)), .dat (.int ((r.1.1 + 1) * 2 ^ (16 - r.1.2).toNat))]) (Ω' := Ω) (by simp [p2])).trans ?_
  unfold best fits
  by_cases h1 : r.1.2 ≤ most
  · by_cases h2 : r.1.1 * 2 ^ (16 - r.1.2).toNat ≤ a
    · by_cases h3 : a < (r.1.1 + 1) * 2 ^ (16 - r.1.2).toNat
      · have h4 := dv.mp ⟨h2, h3⟩
        cases o with
        | none => simp [h1, h2, h3, h4, optR, isD, isNone]
        | some q =>
          by_cases h5 : r.1.2 > q.1.2
          · have h5' : q.1.2 < r.1.2 := h5
            simp [h1, h2, h3, h4, h5', optR, isD, isNone, rowD]
          · have h5' : ¬ q.1.2 < r.1.2 := h5
            simp [h1, h2, h3, h4, h5', optR, isD, isNone, rowD]
      · have h4 : ¬ a / 2 ^ (16 - r.1.2).toNat = r.1.1 := fun z => h3 (dv.mpr z).2
        simp [h1, h2, h3, h4]
    · have h4 : ¬ a / 2 ^ (16 - r.1.2).toNat = r.1.1 := fun z => h2 (dv.mpr z).1
      simp [h1, h2, h4]
  · simp [h1]
end Law
namespace Law
open PySem DL
structure Best (rs : List Rw) (a most : Int) (o : Option Rw) : Prop where
  no : o = none → ∀ q ∈ rs, ¬ fits a most q.1
  yes : ∀ r, o = some r → r ∈ rs ∧ fits a most r.1 ∧ ∀ q ∈ rs, fits a most q.1 → q.1.2 ≤ r.1.2
theorem Best.one {rs : List Rw} (h : Okr rs) {a most : Int} {o o' : Option Rw} (b : Best rs a most o) (b' : Best rs a most o') : o = o' := by
  cases o with
  | none =>
    cases o' with
    | none => rfl
    | some r' => obtain ⟨h1, h2, _⟩ := b'.yes r' rfl; exact absurd h2 (b.no rfl r' h1)
  | some r =>
    obtain ⟨h1, h2, h3⟩ := b.yes r rfl
    cases o' with
    | none => exact absurd h2 (b'.no rfl r h1)
    | some r' =>
      obtain ⟨g1, g2, g3⟩ := b'.yes r' rfl
      have e2 : r.1.2 = r'.1.2 := by have := h3 r' g1 g2; have := g3 r h1 h2; omega
      have e1 : r.1.1 = r'.1.1 := by rw [← h2.2, ← g2.2, e2]
      have ek : r.1 = r'.1 := Prod.ext e1 e2
      have f1 := find_mem h.nd h1
      have f2 := find_mem h.nd g1
      rw [ek, f2] at f1
      rw [Option.some.injEq] at f1 ⊢
      exact Prod.ext ek f1.symm
theorem best_fold (a most : Int) : ∀ (suf pre : List Rw) (o : Option Rw), Best pre a most o → Best (pre ++ suf) a most (suf.foldl (best a most) o)
  | [], pre, o, h => by simpa using h
  | r :: suf, pre, o, h => by
    have := best_fold a most suf (pre ++ [r]) (best a most o r) ?_
    · simpa using this
    · unfold best
      split
      · rename_i hf
        refine ⟨fun z => (nomatch z), fun r' z => ?_⟩
        cases z
        refine ⟨by simp, hf.1, fun q hq hq' => ?_⟩
        rcases List.mem_append.mp hq with hq | hq
        · cases o with
          | none => exact absurd hq' (h.no rfl q hq)
          | some p =>
            have := (h.yes p rfl).2.2 q hq hq'
            have := hf.2
            simp at this
            omega
        · simp at hq
          rw [hq]
          exact Int.le_refl _
      · rename_i hf
        refine ⟨fun z q hq hq' => ?_, fun r' z => ?_⟩
        · rcases List.mem_append.mp hq with hq | hq
          · exact h.no z q hq hq'
          · simp at hq
            subst hq
            exact hf ⟨hq', by rw [z]; rfl⟩
        · obtain ⟨h1, h2, h3⟩ := h.yes r' z
          refine ⟨by simp [h1], h2, fun q hq hq' => ?_⟩
          rcases List.mem_append.mp hq with hq | hq
          · exact h3 q hq hq'
          · simp at hq
            subst hq
            rw [z] at hf
            simp at hf
            exact hf hq'
theorem lon_loop (a most : Int) (Ω : List OS) (X0 : Sl) : ∀ (rs : List Rw) (o : Option Rw) (x4 x5 x6 : Sl), (∀ r ∈ rs, Be r.1) → ∃ y4 y5 y6 : Sl,
    forD (bName 4) (sSeq (sSet 5 (gOp ixD (gCall d_l_place_of (gCons (gOp ixD (gVar 4) (gC (.int 0))) gNil)) (gC (.int 0)))) (sSeq (sSet 6 (gOp ixD (gCall d_l_place_of (gCons (gTup (gCons (gOp addD (gOp ixD (gOp ixD (gVar 4) (gC (.int 0))) (gC (.int 0))) (gC (.int 1))) (gCons (gOp ixD (gOp ixD (gVar 4) (gC (.int 0))) (gC (.int 1))) gNil))) gNil)) (gC (.int 0)))) (sIf (gAndT (gT (gOp leD (gOp ixD (gOp ixD (gVar 4) (gC (.int 0))) (gC (.int 1))) (gVar 2))) (gAndT (gT (gChain leD ltD (gVar 5) (gVar 1) (gVar 6))) (gOrT (gT (gOp (isD false) (gVar 3) (gC .non))) (gT (gOp gtD (gOp ixD (gOp ixD (gVar 4) (gC (.int 0))) (gC (.int 1))) (gOp ixD (gOp ixD (gVar 3) (gC (.int 0))) (gC (.int 1)))))))) (sSet 3 (gVar 4)) sNext))) (rs.map rowD) [X0, .dat (.int a), .dat (.int most), .dat (optR o), x4, x5, x6] Ω
      = some (.nx [X0, .dat (.int a), .dat (.int most), .dat (optR (rs.foldl (best a most) o)), y4, y5, y6] Ω)
  | [], o, x4, x5, x6, _ => ⟨x4, x5, x6, rfl⟩
  | r :: rs, o, x4, x5, x6, h => by
    obtain ⟨y4, y5, y6, e⟩ := lon_step (h r List.mem_cons_self) a most o X0 x4 x5 x6 Ω
    obtain ⟨z4, z5, z6, e'⟩ := lon_loop a most Ω X0 rs (best a most o r) y4 y5 y6 fun q hq => h q (List.mem_cons_of_mem _ hq)
    refine ⟨z4, z5, z6, ?_⟩
    rw [List.map_cons, for_cons, ap_bName]
    dsimp only [List.set]
    rw [e]
    exact e'
theorem lon_den {rs : List Rw} (h : Okr rs) (a most : Int) (Ω : List OS) : d_l_longest [rowsD rs, .int a, .int most] Ω = some (optR (rs.foldl (best a most) none), Ω) := by
  obtain ⟨y4, y5, y6, e⟩ := lon_loop a most Ω (.dat (rowsD rs)) rs none .und .und .und h.be
  refine run_rt rfl ((seq_nx (ρ' := [.dat (rowsD rs), .dat (.int a), .dat (.int most), .dat (optR none), .und, .und, .und]) (Ω' := Ω) (by simp [optR])).trans ?_)
  refine (seq_nx (ρ' := [.dat (rowsD rs), .dat (.int a), .dat (.int most), .dat (optR (rs.foldl (best a most) none)), y4, y5, y6]) (Ω' := Ω) ?_).trans ?_
  · simp only [ap_for, ap_seq, ap_var, List.getElem?_cons_zero, seq_rows]
    exact e
  · simp
theorem downD_cons (hi : Int) (n : Nat) : downD hi (n + 1) = D.int hi :: downD (hi - 1) n := by
  unfold downD
  rw [List.range_succ_eq_map, List.map_cons, List.map_map]
  congr 1
  · simp
  · apply List.map_congr_left
    intro k _
    show D.int (hi - ((k + 1 : Nat) : Int)) = D.int (hi - 1 - (k : Int))
    congr 1
    omega
theorem tlon_loop {Ω : List OS} {n m : Nat} {rs : List Rw} (h : IsTab Ω n m rs) (a : Int) (X2 : Sl) : ∀ (N : Nat) (x3 x4 : Sl), N ≤ 17 → ∃ o, Best (rs.filter fun r => decide (0 ≤ r.1.2)) a ((N : Int) - 1) o ∧
    (∀ r, o = some r → forD (bName 3) (sSeq (sSet 4 (gTup (gCons (gOp shrD (gVar 1) (gOp subD (gC (.int 16)) (gVar 3))) (gCons (gVar 3) gNil)))) (sIf (gT (gDIn false (gVar 4) (gFld "Table" "thing_by" (gVar 0)))) (sRet (gTup (gCons (gVar 4) (gCons (gDGet (gFld "Table" "thing_by" (gVar 0)) (gVar 4)) gNil)))) sNext)) (downD ((N : Int) - 1) N) [.dat (.obj n), .dat (.int a), X2, x3, x4] Ω = some (.rt (rowD r) Ω)) ∧
    (o = none → ∃ y3 y4, forD (bName 3) (sSeq (sSet 4 (gTup (gCons (gOp shrD (gVar 1) (gOp subD (gC (.int 16)) (gVar 3))) (gCons (gVar 3) gNil)))) (sIf (gT (gDIn false (gVar 4) (gFld "Table" "thing_by" (gVar 0)))) (sRet (gTup (gCons (gVar 4) (gCons (gDGet (gFld "Table" "thing_by" (gVar 0)) (gVar 4)) gNil)))) sNext)) (downD ((N : Int) - 1) N) [.dat (.obj n), .dat (.int a), X2, x3, x4] Ω = some (.nx [.dat (.obj n), .dat (.int a), X2, y3, y4] Ω))
  | 0, x3, x4, _ => by
    refine ⟨none, ⟨fun _ q hq hf => ?_, fun r z => (nomatch z)⟩, fun r z => (nomatch z), fun _ => ⟨x3, x4, rfl⟩⟩
    have h1 := (List.mem_filter.mp hq).2
    have h2 := hf.1
    simp at h1 h2
    omega
  | N + 1, x3, x4, hN => by
    have e1 : ((N + 1 : Nat) : Int) - 1 = N := by omega
    rw [e1, downD_cons]
    have tn : (16 - (N : Int)).toNat = 16 - N := by omega
    have ge : (N : Int) ≤ 16 := by omega
    have key := valb_tab (a / 2 ^ (16 - N), (N : Int)) rs
    cases q : findR rs (a / 2 ^ (16 - N), (N : Int)) with
    | some v =>
      rw [q] at key
      dsimp only at key
      have hm := find_some q
      refine ⟨some ((a / 2 ^ (16 - N), (N : Int)), v), ⟨fun z => (nomatch z), fun r z => ?_⟩, fun r z => ?_, fun z => (nomatch z)⟩
      · cases z
        refine ⟨List.mem_filter.mpr ⟨hm, by simp⟩, ⟨Int.le_refl _, by rw [← tn]⟩, fun q _ hq => hq.1⟩
      · cases z
        rw [for_cons]
        simp [ge, h.ob, look_tb, h.dc, key, rowD, bD]
    | none =>
      rw [q] at key
      dsimp only at key
      have hn := find_none.mp q
      obtain ⟨o, b, c1, c2⟩ := tlon_loop h a X2 N (.dat (.int N)) (.dat (.tup [.int (a / 2 ^ (16 - N)), .int N])) (by omega)
      have step : ∀ rest, forD (bName 3) (sSeq (sSet 4 (gTup (gCons (gOp shrD (gVar 1) (gOp subD (gC (.int 16)) (gVar 3))) (gCons (gVar 3) gNil)))) (sIf (gT (gDIn false (gVar 4) (gFld "Table" "thing_by" (gVar 0)))) (sRet (gTup (gCons (gVar 4) (gCons (gDGet (gFld "Table" "thing_by" (gVar 0)) (gVar 4)) gNil)))) sNext)) (D.int N :: rest) [.dat (.obj n), .dat (.int a), X2, x3, x4] Ω = forD (bName 3) (sSeq (sSet 4 (gTup (gCons (gOp shrD (gVar 1) (gOp subD (gC (.int 16)) (gVar 3))) (gCons (gVar 3) gNil)))) (sIf (gT (gDIn false (gVar 4) (gFld "Table" "thing_by" (gVar 0)))) (sRet (gTup (gCons (gVar 4) (gCons (gDGet (gFld "Table" "thing_by" (gVar 0)) (gVar 4)) gNil)))) sNext)) rest [.dat (.obj n), .dat (.int a), X2, .dat (.int N), .dat (.tup [.int (a / 2 ^ (16 - N)), .int N])] Ω := fun rest => by
        rw [for_cons]
        simp [ge, h.ob, look_tb, h.dc, key]
      have ft : ∀ q ∈ rs, fits a (N : Int) q.1 → fits a ((N : Int) - 1) q.1 := fun q hq hf => by
        refine ⟨?_, hf.2⟩
        have h1 := hf.1
        rcases Int.lt_or_eq_of_le h1 with z | z
        · omega
        · have e2 := hf.2
          rw [z, tn] at e2
          exact absurd (Prod.ext e2.symm z) (hn q hq)
      refine ⟨o, ⟨fun z q hq hf => b.no z q hq (ft q (List.mem_filter.mp hq).1 hf), fun r z => ?_⟩, fun r z => ?_, fun z => ?_⟩
      · obtain ⟨h1, h2, h3⟩ := b.yes r z
        exact ⟨h1, ⟨by have := h2.1; omega, h2.2⟩, fun q hq hf => h3 q hq (ft q (List.mem_filter.mp hq).1 hf)⟩
      · rw [step]; exact c1 r z
      · rw [step]; exact c2 z
theorem tlon_den {Ω : List OS} {n m : Nat} {rs : List Rw} (h : IsTab Ω n m rs) (ok : Okr rs) (a most : Int) (hm : -4000000000000000000 < most) : d_Table_longest [.obj n, .int a, .int most] Ω = some (optR (rs.foldl (best a most) none), Ω) := by
  obtain ⟨N, hN, eN⟩ : ∃ N : Nat, N ≤ 17 ∧ ((if 16 < most then 16 else most) + 1).toNat = N := ⟨_, by split <;> omega, rfl⟩
  have hf : rs.filter (fun r => decide (0 ≤ r.1.2)) = rs := List.filter_eq_self.mpr fun r hr => by simpa using (ok.be r hr).s0
  obtain ⟨o, b, c1, c2⟩ := tlon_loop h a (.dat (.int most)) N .und .und hN
  rw [hf] at b
  have b1 : Best rs a most o := by
    have ft : ∀ q ∈ rs, fits a most q.1 ↔ fits a ((N : Int) - 1) q.1 := fun q hq => by
      have s0 := (ok.be q hq).s0
      have s1 := (ok.be q hq).s1
      unfold fits
      have : q.1.2 ≤ most ↔ q.1.2 ≤ (N : Int) - 1 := by
        rw [← eN]
        split <;> omega
      rw [this]
    exact ⟨fun z q hq hf => b.no z q hq ((ft q hq).mp hf), fun r z => by
      obtain ⟨h1, h2, h3⟩ := b.yes r z
      exact ⟨h1, (ft r h1).mpr h2, fun q hq hf => h3 q hq ((ft q hq).mp hf)⟩⟩
  have b2 : Best rs a most (rs.foldl (best a most) none) := best_fold a most rs [] none ⟨fun _ q hq => absurd hq List.not_mem_nil, fun r z => (nomatch z)⟩
  have eo := b1.one ok b2
  rw [← eo]
  have er : rngDn [.int (if 16 < most then 16 else most), .int (-1), .int (-1)] = some (downD ((N : Int) - 1) N) := by
    have e0 : rngDn [.int (if 16 < most then 16 else most), .int (-1), .int (-1)] = some (downD (if 16 < most then 16 else most) ((if 16 < most then 16 else most) - (-1)).toNat) := grd_pos (by split <;> omega)
    rw [e0]
    have e1 : ((if 16 < most then 16 else most) - (-1)).toNat = N := by rw [← eN]; congr 1
    rw [e1]
    cases N with
    | zero => rfl
    | succ N' =>
      congr 2
      omega
  unfold d_Table_longest
  cases o with
  | some r =>
    refine run_rt rfl (seq_rt ?_)
    simp only [ap_for, ap_rng, ap_cons, ap_nil, ap_CB, ap_neg, ap_c, ap_var, List.map_cons, List.map_nil, List.getElem?_cons_zero, List.getElem?_cons_succ, List.cons_append, min_2, er]
    exact c1 r rfl
  | none =>
    obtain ⟨y3, y4, e⟩ := c2 rfl
    refine run_rt rfl ((seq_nx (ρ' := [.dat (.obj n), .dat (.int a), .dat (.int most), y3, y4]) (Ω' := Ω) ?_).trans ?_)
    · simp only [ap_for, ap_rng, ap_cons, ap_nil, ap_CB, ap_neg, ap_c, ap_var, List.map_cons, List.map_nil, List.getElem?_cons_zero, List.getElem?_cons_succ, List.cons_append, min_2, er]
      exact e
    · simp [optR]
theorem row_pl {r : Rw} (h : r.2 = .non ∨ ∃ i, r.2 = .int i) : pl (rowD r) = true ∧ dep (rowD r) ≤ 64 := by
  obtain ⟨t1, t2⟩ := th_pl h
  exact ⟨by simp [rowD, pl, plL, bD, t1], by simp [rowD, dep, depL, bD, t2]⟩
end Law
namespace Law
open PySem DL L2
def kyB (k : Bg) : List Int := [k.1 * 2 ^ (16 - k.2).toNat, k.2]
def leF {β : Type} (f : β → List Int) (a b : β) : Bool := !HT.lexLt (f b) (f a)
theorem leF_trans {β : Type} (f : β → List Int) (a b c : β) (h1 : leF f a b = true) (h2 : leF f b c = true) : leF f a c = true :=
  leK_trans (f a, .non) (f b, .non) (f c, .non) h1 h2
theorem leF_total {β : Type} (f : β → List Int) (a b : β) : (leF f a b || leF f b a) = true := leK_total (f a, .non) (f b, .non)
theorem zip_two {β γ δ : Type} (f : β → γ) (g : β → δ) : ∀ l : List β, (l.map f).zip (l.map g) = l.map fun x => (f x, g x)
  | [] => rfl
  | x :: l => by simp [zip_two f g l]
theorem srt_map {β : Type} (f : β → List Int) (g : β → D) (l : List β) : srt (l.map f) (l.map g) = (l.mergeSort (leF f)).map g := by
  unfold srt
  rw [zip_two, ← List.map_mergeSort (r := leF f) (s := leK) (f := fun x => (f x, g x)) (l := l) fun a _ b _ => rfl, List.map_map]
  rfl
theorem one_map {β : Type} {f : β → List Int} {g : β → D} {l : List β} (h : ∀ a ∈ l, ∀ b ∈ l, f a = f b → g a = g b) : OneKey (l.map f) (l.map g) := by
  intro x hx y hy e
  rw [zip_two] at hx hy
  obtain ⟨a, ha, rfl⟩ := List.mem_map.mp hx
  obtain ⟨b, hb, rfl⟩ := List.mem_map.mp hy
  have e' : f a = f b := e
  show (f a, g a) = (f b, g b)
  rw [e', h a ha b hb e']
theorem sortOf_map {β : Type} {f : β → List Int} {g : β → D} {l : List β} (hl : l.length < 64) (h : ∀ a ∈ l, ∀ b ∈ l, f a = f b → g a = g b) : sortOf (l.map f) (l.map g) = some (.lst ((l.mergeSort (leF f)).map g)) := by
  unfold sortOf
  rw [grd_pos ⟨by simpa using hl, by simp, one_map h⟩, srt_map]
theorem kyB_inj {a b : Bg} (h : kyB a = kyB b) : a = b := by
  unfold kyB at h
  simp only [List.cons.injEq, and_true] at h
  obtain ⟨h1, h2⟩ := h
  rw [h2] at h1
  have pw := pow_pos2 (16 - b.2).toNat
  exact Prod.ext (Int.eq_of_mul_eq_mul_right (by omega) h1) h2
def sr (rs : List Rw) : List Rw := rs.mergeSort (leF fun r => kyB r.1)
theorem sr_mem {rs : List Rw} {r : Rw} : r ∈ sr rs ↔ r ∈ rs := (List.mergeSort_perm _ _).mem_iff
theorem sr_len (rs : List Rw) : (sr rs).length = rs.length := (List.mergeSort_perm _ _).length_eq
theorem bless {k : Bg} (h : Be k) : k.1 < 65536 := by
  have := h.b1
  have h1 := h.s1
  have h0 := h.s0
  have := pow_le16 (n := k.2.toNat) (by omega)
  omega
theorem leastb_den {k : Bg} (h : Be k) (Ω : List OS) : d_least [bD k] Ω = some (.int (k.1 * 2 ^ (16 - k.2).toNat), Ω) := by
  have h0 := h.s0
  have h1 := h.s1
  have b0 := h.b0
  have b1 := bless h
  have na : k.1.natAbs < 18446744073709551616 := by omega
  have e := low_eq k.1 (s := k.2.toNat) (by omega)
  have tn : (16 - k.2).toNat = 16 - k.2.toNat := by omega
  rw [tn]
  unfold d_least
  rw [ap_run]
  simp [na, h0, e]
theorem pio_den {k : Bg} (h : Be k) (Ω : List OS) : d_place_in_order [bD k] Ω = some (.tup ((kyB k).map D.int), Ω) := by
  have e := leastb_den h Ω
  unfold d_place_in_order
  rw [ap_run]
  simp [e, kyB]
theorem keyI_ky (k : Bg) : keyI (.tup ((kyB k).map D.int)) = some (kyB k) := by simp [kyB, keyI, intsD]
theorem keysF_pio (Ω : List OS) : ∀ {ks : List Bg}, (∀ k ∈ ks, Be k) → keysF d_place_in_order (ks.map bD) Ω = some (ks.map kyB, Ω)
  | [], _ => rfl
  | k :: ks, h => by
    have e1 := pio_den (h k List.mem_cons_self) Ω
    have e2 := keysF_pio Ω (ks := ks) fun q hq => h q (List.mem_cons_of_mem _ hq)
    rw [List.map_cons]
    unfold keysF
    rw [e1]
    dsimp only
    rw [keyI_ky]
    dsimp only
    rw [e2]
    rfl
theorem inorder_den {rs : List Rw} (ok : Okr rs) (hl : rs.length < 64) (Ω : List OS) : d_in_order [.lst (rs.map fun r => bD r.1)] Ω = some (.lst ((sr rs).map fun r => bD r.1), Ω) := by
  have e1 := keysF_pio Ω (ks := rs.map (·.1)) fun k hk => by
    obtain ⟨r, hr, rfl⟩ := List.mem_map.mp hk
    exact ok.be r hr
  have e2 := sortOf_map (f := fun r : Rw => kyB r.1) (g := fun r : Rw => bD r.1) (l := rs) hl fun a _ b _ h => by rw [kyB_inj h]
  rw [List.map_map, List.map_map] at e1
  have e1' : keysF d_place_in_order (rs.map fun r => bD r.1) Ω = some (rs.map fun r => kyB r.1, Ω) := e1
  refine run_rt rfl ?_
  show sRet (gSortK d_place_in_order (gVar 0)) [.dat (.lst (rs.map fun r => bD r.1))] Ω = _
  rw [ap_ret]
  unfold gSortK
  rw [ap_var]
  dsimp only [List.getElem?_cons_zero]
  rw [e1']
  dsimp only
  rw [e2]
  rfl
theorem keysO_tab (rs : List Rw) : keysO (.dT (tab rs)) = some (rs.map fun r => bD r.1) := by
  rw [keysO_dT]
  unfold tab
  rw [List.map_map]
  rfl
theorem rows_comp {Ω : List OS} {n m : Nat} {rs : List Rw} (h : IsTab Ω n m rs) (ok : Okr rs) : ∀ (qs : List Rw) (x : Sl), (∀ r ∈ qs, r ∈ rs) → compD (bName 0) gTrue (gTup (gCons (gVar 0) (gCons (gDGet (gFld "Table" "thing_by" (gVar 1)) (gVar 0)) gNil))) (qs.map fun r => bD r.1) [x, .dat (.obj n)] Ω = some (qs.map rowD, Ω)
  | [], x, _ => rfl
  | r :: qs, x, hq => by
    have ih := rows_comp h ok qs (.dat (bD r.1)) fun q hq' => hq q (List.mem_cons_of_mem _ hq')
    have e := valb_tab r.1 rs
    rw [find_mem ok.nd (hq r List.mem_cons_self)] at e
    have e2 : lookO (.dT (tab rs)) (bD r.1) = some (some r.2) := by unfold bD; rw [look_dT, keys_2]; dsimp only; rw [e]
    rw [List.map_cons]
    unfold compD
    simp [h.ob, look_tb, h.dc, e2, ih, rowD]
theorem trows_den {Ω : List OS} {n m : Nat} {rs : List Rw} (h : IsTab Ω n m rs) (ok : Okr rs) (hl : rs.length < 64) : d_Table_rows [.obj n] Ω = some (rowsD (sr rs), Ω) := by
  have e1 := inorder_den ok hl Ω
  have e2 := rows_comp h ok (sr rs) .und fun r hr => sr_mem.mp hr
  have e3 := keysO_tab rs
  have l1 : (sr rs).length ≤ 100000 := by rw [sr_len]; omega
  refine run_rt rfl ?_
  have g1 : gSeq (gCall d_in_order (gCons (gDList (gFld "Table" "thing_by" (gVar 0))) gNil)) [.dat (.obj n)] Ω = some ((sr rs).map fun r => bD r.1, Ω) := by
    rw [ap_seq, ap_call, ap_cons, ap_dlist, ap_fld, ap_var]
    dsimp only [List.getElem?_cons_zero]
    rw [h.ob]
    dsimp only
    rw [if_pos rfl, look_tb]
    dsimp only
    rw [h.dc]
    dsimp only
    rw [e3]
    simp [e1]
  show sRet (gComp [none, some 0] _ _ _ _) [.dat (.obj n)] Ω = _
  rw [ap_ret, ap_comp, g1]
  dsimp only
  rw [if_pos (by simpa using l1)]
  show (match (match compD _ _ _ _ [.und, .dat (.obj n)] Ω with | some (ys, Ω2) => some (D.lst ys, Ω2) | none => none) with | some (d, Ω') => some (Out.rt d Ω') | none => none) = _
  rw [e2]
  rfl
def wi (k : Bg) (r : Rw) : Bool := decide (k.2 ≤ r.1.2) && decide (r.1.1 / 2 ^ (r.1.2 - k.2).toNat = k.1)
theorem withinb_den (a k : Bg) (Ω : List OS) : d_within [bD a, bD k] Ω = some (.bl (decide (k.2 ≤ a.2) && decide (a.1 / 2 ^ (a.2 - k.2).toNat = k.1)), Ω) := by
  refine run_rt rfl ((seq_nx (ρ' := [.dat (bD a), .dat (bD k), .dat (.int (a.2 - k.2))]) (Ω' := Ω) (by simp)).trans ?_)
  by_cases h : k.2 ≤ a.2
  · have h' : 0 ≤ a.2 - k.2 := by omega
    simp [h, h']
  · have h' : ¬ 0 ≤ a.2 - k.2 := by omega
    simp [h, h']
theorem under_comp (k : Bg) (Ω : List OS) : ∀ (qs : List Rw) (x : Sl), compD (bName 0) (gT (gCall d_within (gCons (gOp ixD (gVar 0) (gC (.int 0))) (gCons (gVar 1) gNil)))) (gVar 0) (qs.map rowD) [x, .dat (bD k)] Ω = some ((qs.filter (wi k)).map rowD, Ω)
  | [], x => rfl
  | r :: qs, x => by
    have ih := under_comp k Ω qs (.dat (rowD r))
    have e := withinb_den r.1 k Ω
    rw [List.map_cons]
    unfold compD
    cases h : wi k r with
    | true =>
      unfold wi at h
      rw [h] at e
      rw [List.filter_cons_of_pos (by unfold wi; exact h)]
      simp [e, ih]
    | false =>
      unfold wi at h
      rw [h] at e
      rw [List.filter_cons_of_neg (by unfold wi; rw [h]; exact Bool.false_ne_true)]
      simp [e, ih]
theorem tunder_den {Ω : List OS} {n m : Nat} {rs : List Rw} (h : IsTab Ω n m rs) (ok : Okr rs) (hl : rs.length < 64) (k : Bg) : d_Table_under [.obj n, bD k] Ω = some (rowsD ((sr rs).filter (wi k)), Ω) := by
  have e1 := trows_den h ok hl
  have e2 := under_comp k Ω (sr rs) .und
  have l1 : (sr rs).length ≤ 100000 := by rw [sr_len]; omega
  refine run_rt rfl ?_
  have g1 : gSeq (gMeth "Table" "rows" d_Table_rows [] (gVar 0) gNil) [.dat (.obj n), .dat (bD k)] Ω = some ((sr rs).map rowD, Ω) := by
    simp [h.ob, look_no n_rows, e1]
  show sRet (gComp [none, some 1] _ _ _ _) [.dat (.obj n), .dat (bD k)] Ω = _
  rw [ap_ret, ap_comp, g1]
  dsimp only
  rw [if_pos (by simpa using l1)]
  show (match (match compD _ _ _ _ [.und, .dat (bD k)] Ω with | some (ys, Ω2) => some (D.lst ys, Ω2) | none => none) with | some (d, Ω') => some (Out.rt d Ω') | none => none) = _
  rw [e2]
  rfl
end Law
namespace Law
open PySem DL L2
def f3 (rs : List Rw) (i : Nat) : List Int := kyB (rs.getD i ((0, 0), .non)).1 ++ [(i : Int)]
def g3 (rs : List Rw) (i : Nat) : D := .tup [.tup ((kyB (rs.getD i ((0, 0), .non)).1).map D.int), .int i]
theorem flats_map {β : Type} {f : β → List Int} {g : β → D} (h : ∀ b, flat3 (g b) = some (f b)) : ∀ l : List β, flats (l.map g) = some (l.map f)
  | [] => rfl
  | b :: l => by
    rw [List.map_cons]
    unfold flats
    rw [h]
    dsimp only
    rw [flats_map h l]
    rfl
theorem flat_g3 (rs : List Rw) (i : Nat) : flat3 (g3 rs i) = some (f3 rs i) := rfl
theorem lex_snoc {a b : List Int} {x y : Int} (hl : a.length = b.length) (h : HT.lexLt (a ++ [x]) (b ++ [y]) = false) : HT.lexLt a b = false := by
  induction a generalizing b with
  | nil =>
    cases b with
    | nil => rfl
    | cons c b => simp at hl
  | cons c a ih =>
    cases b with
    | nil => simp at hl
    | cons d b =>
      rw [List.cons_append, List.cons_append, HT.lexLt_cons] at h
      rw [HT.lexLt_cons]
      split at h
      · rename_i e; rw [if_pos e]; exact ih (by simpa using hl) h
      · rename_i e; rw [if_neg e]; exact h
theorem sr_unique {rs : List Rw} (ok : Okr rs) {l : List Nat} (hp : l.Perm (List.range rs.length)) (hs : l.Pairwise fun i j => leF (f3 rs) i j = true) : l.map (fun i => rs.getD i ((0, 0), .non)) = sr rs := by
  have pm : (l.map fun i => rs.getD i ((0, 0), .non)).Perm rs := by
    have := hp.map fun i => rs.getD i ((0, 0), .non)
    rw [map_range_getD] at this
    exact this
  refine List.Perm.eq_of_pairwise (le := fun a b => leF (fun r : Rw => kyB r.1) a b = true) ?_ ?_ (List.pairwise_mergeSort (leF_trans _) (leF_total _) _) (pm.trans (List.mergeSort_perm _ _).symm)
  · intro a b ha hb h1 h2
    have ha' := pm.mem_iff.mp ha
    have hb' := sr_mem.mp hb
    unfold leF at h1 h2
    have e : kyB a.1 = kyB b.1 := lexLt_eq _ _ (by simpa using h2) (by simpa using h1)
    have ek := kyB_inj e
    have f1 := find_mem ok.nd ha'
    have f2 := find_mem ok.nd hb'
    rw [ek, f2] at f1
    exact Prod.ext ek (Option.some.inj f1).symm
  · rw [List.pairwise_map]
    refine hs.imp fun {i j} h => ?_
    unfold leF f3 at h
    have h' : HT.lexLt (kyB (rs.getD j ((0, 0), .non)).1 ++ [(j : Int)]) (kyB (rs.getD i ((0, 0), .non)).1 ++ [(i : Int)]) = false := by simpa using h
    unfold leF
    rw [lex_snoc (by simp [kyB]) h']
    rfl
theorem place_ky {k : Bg} (h : Be k) (Ω : List OS) : d_l_place_of [bD k] Ω = some (.tup ((kyB k).map D.int), Ω) := place_of_den k.1 k.2 h.s0 h.s1 Ω
theorem places_comp {rs : List Rw} (ok : Okr rs) (Ω : List OS) : ∀ (N i : Nat) (x : Sl), i + N = rs.length → compD (bName 0) gTrue (gTup (gCons (gCall d_l_place_of (gCons (gOp ixD (gOp ixD (gVar 1) (gVar 0)) (gC (.int 0))) gNil)) (gCons (gVar 0) gNil))) (upD (i : Int) N) [x, .dat (rowsD rs)] Ω = some ((List.range' i N).map (g3 rs), Ω)
  | 0, i, x, _ => rfl
  | N + 1, i, x, h => by
    have ih := places_comp ok Ω N (i + 1) (.dat (.int i)) (by omega)
    have hi : i < rs.length := by omega
    have e1 := atI_rows hi
    have e2 := place_ky (ok.be rs[i] (List.getElem_mem hi)) Ω
    have eg : rs.getD i ((0, 0), .non) = rs[i] := getD_get hi
    rw [upD_cons]
    unfold compD
    have ec : ((i : Int) + 1) = ((i + 1 : Nat) : Int) := by omega
    rw [← ec] at ih
    rw [List.range'_succ, List.map_cons]
    have gg : g3 rs i = .tup [.tup ((kyB rs[i].1).map D.int), .int i] := by unfold g3; rw [eg]
    rw [gg]
    simp only [ap_bName, List.set_cons_zero, ap_true, ap_tup, ap_cons, ap_call, ap_op, ap_var, ap_c, ap_nil, List.getElem?_cons_zero, List.getElem?_cons_succ, ix_rows, e1, ix_row0, e2, ih]
    simp [ih]
theorem picks_comp {rs : List Rw} (Ω : List OS) : ∀ (l : List Nat) (x y : Sl), (∀ i ∈ l, i < rs.length) → compD (bTup [0, 1]) gTrue (gOp ixD (gVar 2) (gVar 1)) (l.map (g3 rs)) [x, y, .dat (rowsD rs)] Ω = some ((l.map fun i => rs.getD i ((0, 0), .non)).map rowD, Ω)
  | [], x, y, _ => rfl
  | i :: l, x, y, h => by
    have ih := picks_comp Ω l (.dat (.tup ((kyB (rs.getD i ((0, 0), .non)).1).map D.int))) (.dat (.int i)) fun j hj => h j (List.mem_cons_of_mem _ hj)
    have hi := h i List.mem_cons_self
    have e1 := atI_rows hi
    have eg : rs.getD i ((0, 0), .non) = rs[i] := getD_get hi
    rw [List.map_cons, List.map_cons, List.map_cons]
    unfold compD
    have gg : bTup [0, 1] (g3 rs i) [x, y, .dat (rowsD rs)] = some [.dat (.tup ((kyB (rs.getD i ((0, 0), .non)).1).map D.int)), .dat (.int i), .dat (rowsD rs)] := rfl
    rw [gg]
    simp only [ap_true, ap_op, ap_var, List.getElem?_cons_zero, List.getElem?_cons_succ, ix_rows, e1, ih]
    rw [eg]
theorem lsorted_den {rs : List Rw} (ok : Okr rs) (hl : rs.length < 64) (Ω : List OS) : d_l_sorted [rowsD rs] Ω = some (rowsD (sr rs), Ω) := by
  have e1 := places_comp ok Ω rs.length 0 .und (by omega)
  rw [← List.range_eq_range'] at e1
  have er : rng1 [.int (rs.length : Int)] = some (upD ((0 : Nat) : Int) rs.length) := by rw [rng_1 (by omega) (by omega), Int.toNat_natCast]; rfl
  have e2 := sortOf_map (f := f3 rs) (g := g3 rs) (l := List.range rs.length) (by simpa using hl) fun a _ b _ h => by
    unfold f3 at h
    have := List.append_inj_right' h (by simp)
    simp at this
    have hab : a = b := by omega
    rw [hab]
  have e3 := flats_map (flat_g3 rs) (List.range rs.length)
  have pm := List.mergeSort_perm (List.range rs.length) (leF (f3 rs))
  have e4 := picks_comp (rs := rs) Ω ((List.range rs.length).mergeSort (leF (f3 rs))) .und .und fun i hi => by simpa using pm.mem_iff.mp hi
  rw [sr_unique ok pm (List.pairwise_mergeSort (leF_trans _) (leF_total _) _)] at e4
  have ll : ((List.range rs.length).mergeSort (leF (f3 rs))).length ≤ 100000 := by rw [pm.length_eq]; simp; omega
  refine run_rt rfl ((seq_nx (ρ' := [.dat (rowsD rs), .dat (.lst (((List.range rs.length).mergeSort (leF (f3 rs))).map (g3 rs)))]) (Ω' := Ω) ?_).trans ?_)
  · have g1 : gComp [none, some 0] (gRng rng1 (gCons (gCB lenD (gCons (gVar 0) gNil)) gNil)) (bName 0) gTrue (gTup (gCons (gCall d_l_place_of (gCons (gOp ixD (gOp ixD (gVar 1) (gVar 0)) (gC (.int 0))) gNil)) (gCons (gVar 0) gNil))) [.dat (rowsD rs), .und] Ω = some (.lst ((List.range rs.length).map (g3 rs)), Ω) := by
      rw [ap_comp]
      simp only [ap_rng, ap_cons, ap_CB, ap_nil, ap_var, List.getElem?_cons_zero, len_rows, er]
      rw [if_pos (by simp [upD]; omega)]
      show (match compD _ _ _ _ [.und, .dat (rowsD rs)] Ω with | some (ys, Ω2) => some (D.lst ys, Ω2) | none => none) = _
      rw [e1]
    show sSet 1 (gSort _) [.dat (rowsD rs), .und] Ω = _
    rw [ap_set]
    unfold gSort
    rw [g1]
    dsimp only
    rw [e3]
    dsimp only
    rw [e2]
    rfl
  · rw [ap_ret, ap_comp, ap_seq, ap_var]
    dsimp only [List.getElem?_cons_zero, List.getElem?_cons_succ]
    rw [seq_lst]
    dsimp only
    rw [if_pos (by simpa using ll)]
    show (match (match compD _ _ _ _ [.und, .und, .dat (rowsD rs)] Ω with | some (ys, Ω2) => some (D.lst ys, Ω2) | none => none) with | some (d, Ω') => some (Out.rt d Ω') | none => none) = _
    rw [e4]
    rfl
theorem wi_iff {k : Bg} (hk : Be k) {r : Rw} (hr : Be r.1) : (k.1 * 2 ^ (16 - k.2).toNat ≤ r.1.1 * 2 ^ (16 - r.1.2).toNat ∧ r.1.1 * 2 ^ (16 - r.1.2).toNat < (k.1 + 1) * 2 ^ (16 - k.2).toNat ∧ k.2 ≤ r.1.2) ↔ wi k r = true := by
  unfold wi
  rw [Bool.and_eq_true, decide_eq_true_iff, decide_eq_true_iff]
  have k0 := hk.s0
  have r1 := hr.s1
  by_cases h : k.2 ≤ r.1.2
  · have e : (16 - k.2).toNat = (r.1.2 - k.2).toNat + (16 - r.1.2).toNat := by omega
    rw [e, Int.pow_add, ← Int.mul_assoc, ← Int.mul_assoc, ← div_iff]
    have pw := pow_pos2 (16 - r.1.2).toNat
    generalize (2 : Int) ^ (16 - r.1.2).toNat = q at *
    generalize (2 : Int) ^ (r.1.2 - k.2).toNat = t at *
    constructor
    · rintro ⟨h1, h2, _⟩
      exact ⟨h, Int.le_of_mul_le_mul_right h1 pw, Int.lt_of_mul_lt_mul_right h2 (by omega)⟩
    · rintro ⟨_, h1, h2⟩
      exact ⟨Int.mul_le_mul_of_nonneg_right h1 (by omega), Int.mul_lt_mul_of_pos_right h2 pw, h⟩
  · exact ⟨fun z => absurd z.2.2 h, fun z => absurd z.1 h⟩
noncomputable def undS : SDen := sIf (gAndT (gT (gChain leD ltD (gVar 2) (gOp ixD (gCall d_l_place_of (gCons (gOp ixD (gVar 6) (gC (.int 0))) gNil)) (gC (.int 0))) (gVar 4))) (gT (gOp geD (gOp ixD (gOp ixD (gVar 6) (gC (.int 0))) (gC (.int 1))) (gVar 3)))) (sApp 5 (gVar 6)) sNext
theorem und_loop {k : Bg} (hk : Be k) (X0 X1 : Sl) (Ω : List OS) : ∀ (qs fs : List Rw) (x : Sl), (∀ r ∈ qs, Be r.1) → fs.length + qs.length ≤ 1000 → ∃ y : Sl,
    forD (bName 6) undS (qs.map rowD) [X0, X1, .dat (.int (k.1 * 2 ^ (16 - k.2).toNat)), .dat (.int k.2), .dat (.int ((k.1 + 1) * 2 ^ (16 - k.2).toNat)), .own (fs.map rowD), x] Ω = some (.nx [X0, X1, .dat (.int (k.1 * 2 ^ (16 - k.2).toNat)), .dat (.int k.2), .dat (.int ((k.1 + 1) * 2 ^ (16 - k.2).toNat)), .own ((fs ++ qs.filter (wi k)).map rowD), y] Ω)
  | [], fs, x, _, _ => ⟨x, by simp⟩
  | r :: qs, fs, x, h, hl => by
    rw [List.length_cons] at hl
    have hr := h r List.mem_cons_self
    have e1 : d_l_place_of [bD r.1] Ω = some (.tup [.int (r.1.1 * 2 ^ (16 - r.1.2).toNat), .int r.1.2], Ω) := place_of_den r.1.1 r.1.2 hr.s0 hr.s1 Ω
    have w := wi_iff hk hr
    rw [List.map_cons, for_cons, ap_bName]
    dsimp only [List.set]
    cases hw : wi k r with
    | true =>
      obtain ⟨h1, h2, h3⟩ := w.mpr hw
      obtain ⟨y, ih⟩ := und_loop hk X0 X1 Ω qs (fs ++ [r]) (.dat (rowD r)) (fun q hq => h q (List.mem_cons_of_mem _ hq)) (by simp; omega)
      refine ⟨y, ?_⟩
      rw [List.filter_cons_of_pos hw]
      have l1 : fs.length < 100000 := by omega
      have s1 : undS [X0, X1, .dat (.int (k.1 * 2 ^ (16 - k.2).toNat)), .dat (.int k.2), .dat (.int ((k.1 + 1) * 2 ^ (16 - k.2).toNat)), .own (fs.map rowD), .dat (rowD r)] Ω = some (.nx [X0, X1, .dat (.int (k.1 * 2 ^ (16 - k.2).toNat)), .dat (.int k.2), .dat (.int ((k.1 + 1) * 2 ^ (16 - k.2).toNat)), .own ((fs ++ [r]).map rowD), .dat (rowD r)] Ω) := by
        unfold undS
        simp [e1, h1, h2, h3, l1]
      rw [s1]
      dsimp only
      rw [ih]
      simp
    | false =>
      obtain ⟨y, ih⟩ := und_loop hk X0 X1 Ω qs fs (.dat (rowD r)) (fun q hq => h q (List.mem_cons_of_mem _ hq)) (by omega)
      refine ⟨y, ?_⟩
      rw [List.filter_cons_of_neg (by rw [hw]; exact Bool.false_ne_true)]
      have nw : ¬ (k.1 * 2 ^ (16 - k.2).toNat ≤ r.1.1 * 2 ^ (16 - r.1.2).toNat ∧ r.1.1 * 2 ^ (16 - r.1.2).toNat < (k.1 + 1) * 2 ^ (16 - k.2).toNat ∧ k.2 ≤ r.1.2) := fun z => by rw [w.mp z] at hw; cases hw
      have s1 : undS [X0, X1, .dat (.int (k.1 * 2 ^ (16 - k.2).toNat)), .dat (.int k.2), .dat (.int ((k.1 + 1) * 2 ^ (16 - k.2).toNat)), .own (fs.map rowD), .dat (rowD r)] Ω = some (.nx [X0, X1, .dat (.int (k.1 * 2 ^ (16 - k.2).toNat)), .dat (.int k.2), .dat (.int ((k.1 + 1) * 2 ^ (16 - k.2).toNat)), .own (fs.map rowD), .dat (rowD r)] Ω) := by
        unfold undS
        by_cases h1 : k.1 * 2 ^ (16 - k.2).toNat ≤ r.1.1 * 2 ^ (16 - r.1.2).toNat
        · by_cases h2 : r.1.1 * 2 ^ (16 - r.1.2).toNat < (k.1 + 1) * 2 ^ (16 - k.2).toNat
          · have h3 : ¬ k.2 ≤ r.1.2 := fun z => nw ⟨h1, h2, z⟩
            simp [e1, h1, h2, h3]
          · simp [e1, h1, h2]
        · simp [e1, h1]
      rw [s1]
      exact ih
theorem lunder_den {rs : List Rw} (ok : Okr rs) (hl : rs.length < 64) {k : Bg} (hk : Be k) (Ω : List OS) : d_l_under [rowsD rs, bD k] Ω = some (rowsD ((sr rs).filter (wi k)), Ω) := by
  have e1 : d_l_place_of [bD k] Ω = some (.tup [.int (k.1 * 2 ^ (16 - k.2).toNat), .int k.2], Ω) := place_of_den k.1 k.2 hk.s0 hk.s1 Ω
  have e2 := place_of_den (k.1 + 1) k.2 hk.s0 hk.s1 Ω
  have e3 := lsorted_den ok hl Ω
  obtain ⟨y, e4⟩ := und_loop hk (.dat (rowsD rs)) (.dat (bD k)) Ω (sr rs) [] .und (fun r hr => ok.be r (sr_mem.mp hr)) (by rw [sr_len]; simp; omega)
  refine run_rt rfl ((seq_nx (ρ' := [.dat (rowsD rs), .dat (bD k), .dat (.int (k.1 * 2 ^ (16 - k.2).toNat)), .dat (.int k.2), .und, .und, .und]) (Ω' := Ω) (by simp [e1, bNames])).trans ?_)
  refine (seq_nx (ρ' := [.dat (rowsD rs), .dat (bD k), .dat (.int (k.1 * 2 ^ (16 - k.2).toNat)), .dat (.int k.2), .dat (.int ((k.1 + 1) * 2 ^ (16 - k.2).toNat)), .und, .und]) (Ω' := Ω) (by simp [e2])).trans ?_
  refine (seq_nx (ρ' := [.dat (rowsD rs), .dat (bD k), .dat (.int (k.1 * 2 ^ (16 - k.2).toNat)), .dat (.int k.2), .dat (.int ((k.1 + 1) * 2 ^ (16 - k.2).toNat)), .own [], .und]) (Ω' := Ω) (by simp)).trans ?_
  refine (seq_nx (ρ' := [.dat (rowsD rs), .dat (bD k), .dat (.int (k.1 * 2 ^ (16 - k.2).toNat)), .dat (.int k.2), .dat (.int ((k.1 + 1) * 2 ^ (16 - k.2).toNat)), .own (((sr rs).filter (wi k)).map rowD), y]) (Ω' := Ω) ?_).trans ?_
  · simp only [ap_for, ap_seq, ap_call, ap_cons, ap_nil, ap_var, List.getElem?_cons_zero, e3, seq_rows]
    rw [List.nil_append, List.map_nil] at e4
    exact e4
  · rw [ap_ghost]
    simp [frz, rowsD]
end Law
namespace Law
open PySem DL L2
theorem comp_cut (k : Bg) : ∀ (rs : List Rw) (x : Sl) (Ω : List OS), compD (bName 0) (gT (gOp (eqD true) (gOp ixD (gVar 0) (gC (.int 0))) (gVar 1))) (gVar 0) (rs.map rowD) [x, .dat (bD k)] Ω = some ((cutR rs k).map rowD, Ω)
  | [], x, Ω => rfl
  | r :: rs, x, Ω => by
    have ih := comp_cut k rs (.dat (rowD r)) Ω
    have e := eq_bD true r.1 k
    rw [List.map_cons]
    unfold compD
    by_cases h : r.1 = k
    · rw [if_pos h] at e
      have ec : cutR (r :: rs) k = cutR rs k := by simp [cutR, h]
      rw [ec]
      simp [e, ih]
    · rw [if_neg h] at e
      have ec : cutR (r :: rs) k = r :: cutR rs k := by simp [cutR, h]
      rw [ec]
      simp [e, ih]
theorem rows_plT {X : List Rw} (h : ∀ r ∈ X, r.2 = .non ∨ ∃ i, r.2 = .int i) : pl (rowsD X) = true ∧ dep (rowsD X) ≤ 64 := by
  obtain ⟨h1, h2⟩ := rows_pl h
  unfold rowsD
  rw [pl, dep]
  exact ⟨h1, by omega⟩
theorem thing_all {x : Int} (h0 : 0 ≤ x) (h1 : x < 2147483647) : ∃ v : D, (v = .non ∨ ∃ i, v = .int i) ∧ ∀ Ω, d_l_thing_by [.int x] Ω = some (v, Ω) := by
  obtain ⟨v, hv, ev⟩ := thing_den h0 h1 []
  refine ⟨v, hv, fun Ω1 => ?_⟩
  have m : mulD (.int x) (.int x) = some (.int (x * x)) := mul_i (.inl ⟨by omega, by omega⟩)
  unfold d_l_thing_by at ev ⊢
  rw [ap_run] at ev ⊢
  simp [m] at ev ⊢
  revert ev
  cases L2.atI [D.non, .int 0, .int (x / 8 % 32), .int (x / 8 % 32), .int (-1 - x / 8 % 99), .int (x * x), .int 31, .int (x / 8 % 3)] (x % 8) with
  | none => intro z; simp at z
  | some q => intro z; simp at z; simp [z]
theorem tget_den {Ω : List OS} {n m : Nat} {rs : List Rw} (h : IsTab Ω n m rs) (k : Bg) (v : D) : d_Table_get [.obj n, bD k, v] Ω = some ((findR rs k).getD v, Ω) := by
  unfold d_Table_get
  rw [ap_run]
  have e2 := valb_tab k rs
  simp [h.ob, look_tb, bD, h.dc, e2]
theorem thas_den {Ω : List OS} {n m : Nat} {rs : List Rw} (h : IsTab Ω n m rs) (k : Bg) : d_Table_has [.obj n, bD k] Ω = some (.bl (findR rs k).isSome, Ω) := by
  unfold d_Table_has
  rw [ap_run]
  have e2 := valb_tab k rs
  simp [h.ob, look_tb, bD, h.dc, e2]
theorem find_idx {rs : List Rw} {k : Bg} (hn : (rs.map (·.1)).Nodup) : (∀ i, idxR rs k = some i → ∃ hi : i < rs.length, findR rs k = some rs[i].2) ∧ (idxR rs k = none → findR rs k = none) := by
  refine ⟨fun i h => ?_, fun h => find_none.mpr (idx_none.mp h)⟩
  obtain ⟨hi, e, _⟩ := idx_some h
  refine ⟨hi, ?_⟩
  have := find_mem hn (List.getElem_mem hi)
  rw [e] at this
  exact this
theorem isplace {rs : List Rw} (ok : Okr rs) (k : Bg) : isD true (optI (idxR rs k)) .non = some (.bl (findR rs k).isSome) := by
  obtain ⟨f1, f2⟩ := find_idx (k := k) ok.nd
  cases q : idxR rs k with
  | none => rw [f2 q]; simp [optI, isD, isNone]
  | some i => obtain ⟨_, ef⟩ := f1 i q; rw [ef]; simp [optI, isD, isNone]
theorem getD_ok {rs : List Rw} (ok : Okr rs) (k : Bg) {v : D} (hv : v = .non ∨ ∃ i, v = .int i) : (findR rs k).getD v = .non ∨ ∃ i, (findR rs k).getD v = .int i := by
  cases q : findR rs k with
  | none => exact hv
  | some w => exact ok.th _ (find_some q)
end Law
namespace Law
open PySem DL L2
def hD (X : List Rw) : D := .tup [rowsD X, rowsD X]
def Th (X : List Rw) : Prop := ∀ r ∈ X, r.2 = .non ∨ ∃ i, r.2 = .int i
def upR (r : Nat → List Rw) (w : Nat) (X : List Rw) : Nat → List Rw := fun i => if i = w then X else r i
structure GI (Ω : List OS) (r : Nat → List Rw) (hs : List (List Rw)) : Prop where
  tb : ∀ w, w < 2 → IsTab Ω (2 * w) (2 * w + 1) (r w)
  rw : Ω[4]? = some (.mls [rowsD (r 0), rowsD (r 1)])
  hd : Ω[5]? = some (.mls (hs.map hD))
  ok : ∀ w, w < 2 → Okr (r w)
  th : ∀ X ∈ hs, Th X
theorem GI.app {Ω : List OS} {r : Nat → List Rw} {hs : List (List Rw)} (h : GI Ω r hs) (o : OS) : GI (Ω ++ [o]) r hs := by
  have k : ∀ {i : Nat} {u : OS}, Ω[i]? = some u → (Ω ++ [o])[i]? = some u := fun {i u} e => by rw [List.getElem?_append_left (List.getElem?_eq_some_iff.mp e).1]; exact e
  exact ⟨fun w hw => ⟨k (h.tb w hw).ob, k (h.tb w hw).dc, (h.tb w hw).ne⟩, k h.rw, k h.hd, h.ok, h.th⟩
theorem GI.held {Ω : List OS} {r : Nat → List Rw} {hs : List (List Rw)} (h : GI Ω r hs) {X : List Rw} (hX : Th X) : GI (Ω.set 5 (.mls (hs.map hD ++ [hD X]))) r (hs ++ [X]) := by
  have k : ∀ {i : Nat} {u : OS}, i ≠ 5 → Ω[i]? = some u → (Ω.set 5 (.mls (hs.map hD ++ [hD X])))[i]? = some u := fun {i u} n e => by rw [List.getElem?_set_ne (fun z => n z.symm)]; exact e
  refine ⟨fun w hw => ⟨k (by omega) (h.tb w hw).ob, k (by omega) (h.tb w hw).dc, (h.tb w hw).ne⟩, k (by decide) h.rw, ?_, h.ok, fun Y hY => ?_⟩
  · rw [List.getElem?_set_self (List.getElem?_eq_some_iff.mp h.hd).1, List.map_append]; rfl
  · rcases List.mem_append.mp hY with z | z
    · exact h.th Y z
    · rw [List.mem_singleton.mp z]; exact hX
theorem GI.upd {Ω : List OS} {r : Nat → List Rw} {hs : List (List Rw)} (h : GI Ω r hs) {w : Nat} (hw : w < 2) {X : List Rw} (ok : Okr X) :
    GI ((Ω.set (2 * w + 1) (.dT (tab X))).set 4 (.mls ([rowsD (r 0), rowsD (r 1)].set w (rowsD X)))) (upR r w X) hs := by
  have l4 : 4 < Ω.length := (List.getElem?_eq_some_iff.mp h.rw).1
  refine ⟨fun v hv => ?_, ?_, ?_, fun v hv => ?_, h.th⟩
  · have n1 : 4 ≠ 2 * v := by omega
    have n2 : 4 ≠ 2 * v + 1 := by omega
    have n3 : 2 * w + 1 ≠ 2 * v := by omega
    refine ⟨?_, ?_, (h.tb v hv).ne⟩
    · rw [List.getElem?_set_ne n1, List.getElem?_set_ne n3]; exact (h.tb v hv).ob
    · rw [List.getElem?_set_ne n2]
      by_cases e : v = w
      · subst e
        rw [List.getElem?_set_self (by omega)]
        show some (OS.dT (tab X)) = some (.dT (tab (if v = v then X else r v)))
        rw [if_pos rfl]
      · rw [List.getElem?_set_ne (by omega)]
        show _ = some (OS.dT (tab (if v = w then X else r v)))
        rw [if_neg e]
        exact (h.tb v hv).dc
  · rw [List.getElem?_set_self (by rw [List.length_set]; exact l4)]
    have : w = 0 ∨ w = 1 := by omega
    rcases this with rfl | rfl <;> rfl
  · rw [List.getElem?_set_ne (by decide), List.getElem?_set_ne (by omega)]; exact h.hd
  · show Okr (if v = w then X else r v)
    by_cases e : v = w
    · rw [if_pos e]; exact ok
    · rw [if_neg e]; exact h.ok v hv
theorem eq_bl (b : Bool) (neg : Bool) : eqD neg (.bl b) (.bl b) = some (.bl (!neg)) := by cases b <;> cases neg <;> rfl
theorem eq_th (neg : Bool) {v : D} (h : v = .non ∨ ∃ i, v = .int i) : eqD neg v v = some (.bl (!neg)) := by
  obtain ⟨p, d⟩ := th_pl h
  exact eq_self_pl neg p (by omega)
theorem eq_rows (neg : Bool) {X : List Rw} (h : Th X) : eqD neg (rowsD X) (rowsD X) = some (.bl (!neg)) := by
  obtain ⟨p, d⟩ := rows_plT h
  exact eq_self_pl neg p d
theorem pairs_tab : ∀ rs : List Rw, pairsK (rs.map rowD) = some (tab rs)
  | [] => rfl
  | r :: rs => by
    have e : pairK (rowD r) = some (kk r.1, r.2) := rfl
    rw [List.map_cons, pairsK, e, pairs_tab rs]
    rfl
theorem tab_nd {rs : List Rw} (ok : Okr rs) : ((tab rs).map (·.1)).Nodup := by
  have e : (tab rs).map (·.1) = (rs.map (·.1)).map kk := by simp [tab]
  rw [e]
  exact List.Pairwise.map kk (fun a b n z => n (kk_inj.mp z)) ok.nd
end Law
namespace Law
open PySem DL L2
theorem look_den {Ω : List OS} {r : Nat → List Rw} {hs : List (List Rw)} (h : GI Ω r hs) (hl : hs.length < 1000) {w : Nat} (hw : w < 2) (hr : (r w).length < 60) {j : Int} (j0 : 0 ≤ j) (j1 : j < 5) (x base : Int) : ∃ (Ω' : List OS) (hs' : List (List Rw)), GI Ω' r hs' ∧ hs'.length ≤ hs.length + 1 ∧
    d_l_look [.obj (2 * w : Nat), rowsD (r w), .int j, .int x, .int base, .obj 5] Ω = some (.bl true, Ω') := by
  have t := h.tb w hw
  have ok := h.ok w hw
  have hd := h.hd
  generalize hn : 2 * w = n at *
  generalize hm : n + 1 = m at *
  generalize hrs : r w = rs at *
  obtain ⟨xs, xl, xb, e0⟩ := strm_den x 4 (by decide) Ω
  obtain ⟨a, b, c, d, rfl⟩ : ∃ a b c d, xs = [a, b, c, d] := by
    match xs, xl with
    | [a, b, c, d], _ => exact ⟨a, b, c, d, rfl⟩
  have e0' : d_l_stream [.int x, .int 4] Ω = some (.lst [.int a, .int b, .int c, .int d], Ω) := e0
  obtain ⟨k, hk, ek⟩ := picked_den a base ok (by omega) Ω
  obtain ⟨ad, _, _, ea⟩ := addr_den b base Ω
  have ep := place_den rs k (by omega) Ω
  let R (x9 x10 x11 : Sl) : List Sl := [.dat (.obj n), .dat (rowsD rs), .dat (.int j), .dat (.int x), .dat (.int base), .dat (.obj 5), .dat (.lst [.int a, .int b, .int c, .int d]), .dat (bD k), .dat (.int ad), x9, x10, x11]
  have go : ∀ {s : SDen} {v : D} {Ω' : List OS}, s (R (.dat (optI (idxR rs k))) .und .und) Ω = some (.rt v Ω') → runD 6 12 (sSeq (sSet 6 (gCall d_l_stream (gCons (gVar 3) (gCons (gC (.int 4)) gNil)))) (sSeq (sSet 7 (gCall d_l_picked (gCons (gOp ixD (gVar 6) (gC (.int 0))) (gCons (gVar 1) (gCons (gVar 4) gNil))))) (sSeq (sSet 8 (gCall d_l_address (gCons (gOp ixD (gVar 6) (gC (.int 1))) (gCons (gVar 4) gNil)))) (sSeq (sSet 9 (gCall d_l_place (gCons (gVar 1) (gCons (gVar 7) gNil)))) s))))
      [.obj n, rowsD rs, .int j, .int x, .int base, .obj 5] Ω = some (v, Ω') := fun {s v Ω'} z => by
    refine run_rt rfl ((seq_nx (ρ' := [.dat (.obj n), .dat (rowsD rs), .dat (.int j), .dat (.int x), .dat (.int base), .dat (.obj 5), .dat (.lst [.int a, .int b, .int c, .int d]), .und, .und, .und, .und, .und]) (Ω' := Ω) (by simp [e0'])).trans ?_)
    refine (seq_nx (ρ' := [.dat (.obj n), .dat (rowsD rs), .dat (.int j), .dat (.int x), .dat (.int base), .dat (.obj 5), .dat (.lst [.int a, .int b, .int c, .int d]), .dat (bD k), .und, .und, .und, .und]) (Ω' := Ω) (by simp [ek])).trans ?_
    refine (seq_nx (ρ' := R .und .und .und) (Ω' := Ω) (by simp [R, ea])).trans ?_
    exact (seq_nx (ρ' := R (.dat (optI (idxR rs k))) .und .und) (Ω' := Ω) (by simp [R, ep])).trans z
  have stay : ∀ {s : SDen} {q : Int}, j ≠ q → sIf (gT (gOp (eqD false) (gVar 2) (gC (.int q)))) s sNext (R (.dat (optI (idxR rs k))) .und .und) Ω = some (.nx (R (.dat (optI (idxR rs k))) .und .und) Ω) := fun {s q} n => by simp [R, n]
  by_cases j00 : j = 0
  · refine ⟨Ω, hs, h, by omega, go (seq_rt ?_)⟩
    have e1 := tcount_den t
    have e2 := thas_den t k
    have e3 := isplace ok k
    simp [R, j00, t.ob, look_no n_count, look_no n_has, e1, e2, e3, eq_bl]
  by_cases j01 : j = 1
  · refine ⟨Ω ++ [.dT (tab rs)], hs, h.app _, by omega, go ((seq_nx (stay j00)).trans (seq_rt ?_))⟩
    have g1 := tget_den t k (.int (-5))
    have g2 := tget_den t k .non
    have ev := val_tab k rs
    obtain ⟨f1, f2⟩ := find_idx (k := k) ok.nd
    subst j01
    have lk : lookO (.dT (tab rs)) (bD k) = some (findR rs k) := by
      show (match tkeyD (bD k) with | some k => some (valD (tab rs) k) | none => none) = _
      have : tkeyD (bD k) = some (kk k) := rfl
      rw [this, ← ev]
    have dk : ∀ x9 : Sl, gDictL (gVar 1) [.dat (.obj n), .dat (rowsD rs), .dat (.int 1), .dat (.int x), .dat (.int base), .dat (.obj 5), .dat (.lst [.int a, .int b, .int c, .int d]), .dat (bD k), .dat (.int ad), x9, .und, .und] Ω = some (.obj Ω.length, Ω ++ [.dT (tab rs)]) := fun x9 => by
      unfold gDictL
      simp only [ap_var, List.getElem?_cons_succ, List.getElem?_cons_zero, Option.bind_some, seq_rows, pairs_tab]
      exact grd_pos (tab_nd ok)
    have e2 := eq_th false (getD_ok ok k (v := .non) (.inl rfl))
    cases q : idxR rs k with
    | none =>
      rw [f2 q] at g1 g2 lk e2
      simp [R, t.ob, look_no n_get, g1, g2, dk, lk, (show eqD false D.non D.non = some (.bl true) from rfl), optI, isD, isNone, isDct]
    | some i =>
      obtain ⟨hi, ef⟩ := f1 i q
      have e1 := eq_th false (ok.th _ (List.getElem_mem hi))
      rw [ef] at g1 g2 lk e2
      have ex := atI_rows hi
      simp [R, t.ob, look_no n_get, g1, g2, dk, lk, e2, optI, isD, isNone, isDct, ex, e1]
  by_cases j02 : j = 2
  · refine ⟨Ω, hs, h, by omega, go ((seq_nx (stay j00)).trans ((seq_nx (stay j01)).trans (seq_rt ?_)))⟩
    have e1 := tlon_den t ok ad 16 (by decide)
    have e2 := lon_den ok ad 16 Ω
    have hb : Best rs ad 16 (rs.foldl (best ad 16) none) := best_fold ad 16 rs [] none ⟨fun _ q hq => absurd hq List.not_mem_nil, fun r z => (nomatch z)⟩
    generalize rs.foldl (best ad 16) none = o at *
    have e3 : eqD false (optR o) (optR o) = some (.bl true) := by
      cases o with
      | none => rfl
      | some q =>
        obtain ⟨p1, p2⟩ := row_pl (ok.th q (hb.yes q rfl).1)
        exact eq_self_pl false p1 p2
    simp [R, j02, t.ob, look_no n_longest, e1, e2, e3]
  have u1 := trows_den t ok (by omega)
  have u2 := lsorted_den ok (by omega) Ω
  have u3 := tunder_den t ok (by omega) k
  have u4 := lunder_den ok (by omega) hk Ω
  have th1 : Th (sr rs) := fun q hq => ok.th q (sr_mem.mp hq)
  have th2 : Th ((sr rs).filter (wi k)) := fun q hq => ok.th q (sr_mem.mp (List.mem_filter.mp hq).1)
  obtain ⟨X, hX, eX⟩ : ∃ X : List Rw, Th X ∧ ∀ {s : SDen} {v : D} {Ω' : List OS}, s (R (.dat (optI (idxR rs k))) (.dat (rowsD X)) (.dat (rowsD X))) Ω = some (.rt v Ω') →
      sSeq (sSet 10 (gMeth "Table" "rows" d_Table_rows [] (gVar 0) gNil)) (sSeq (sSet 11 (gCall d_l_sorted (gCons (gVar 1) gNil))) (sSeq (sIf (gT (gOp (eqD false) (gVar 2) (gC (.int 4)))) (sSeq (sSet 10 (gMeth "Table" "under" d_Table_under [] (gVar 0) (gCons (gVar 7) gNil))) (sSet 11 (gCall d_l_under (gCons (gVar 1) (gCons (gVar 7) gNil))))) sNext) s)) (R (.dat (optI (idxR rs k))) .und .und) Ω = some (.rt v Ω') := by
    have f : ∀ {s : SDen}, sSeq (sSet 10 (gMeth "Table" "rows" d_Table_rows [] (gVar 0) gNil)) (sSeq (sSet 11 (gCall d_l_sorted (gCons (gVar 1) gNil))) s) (R (.dat (optI (idxR rs k))) .und .und) Ω = s (R (.dat (optI (idxR rs k))) (.dat (rowsD (sr rs))) (.dat (rowsD (sr rs)))) Ω := fun {s} => by
      refine (seq_nx (ρ' := R (.dat (optI (idxR rs k))) (.dat (rowsD (sr rs))) .und) (Ω' := Ω) (by simp [R, t.ob, look_no n_rows, u1])).trans ?_
      exact seq_nx (by simp [R, u2])
    by_cases j4 : j = 4
    · refine ⟨_, th2, fun z => f.trans ((seq_nx (ρ' := R (.dat (optI (idxR rs k))) (.dat (rowsD ((sr rs).filter (wi k)))) (.dat (rowsD ((sr rs).filter (wi k))))) (Ω' := Ω) ?_).trans z)⟩
      simp [R, j4, t.ob, look_no n_under, u3, u4]
    · exact ⟨_, th1, fun z => f.trans ((seq_nx (by simp [R, j4])).trans z)⟩
  have hG := h.held hX
  refine ⟨_, _, hG, by simp, go ((seq_nx (stay j00)).trans ((seq_nx (stay j01)).trans ((seq_nx (stay j02)).trans (eX ?_))))⟩
  have eq1 := eq_rows true hX
  refine (seq_nx (ρ' := R (.dat (optI (idxR rs k))) (.dat (rowsD X)) (.dat (rowsD X))) (Ω' := Ω) (by simp [R, eq1])).trans ?_
  have hl' : (hs.map hD).length < 100000 := by rw [List.length_map]; omega
  have lc : list1D [rowsD X] = some (rowsD X) := rfl
  refine (seq_nx (ρ' := R (.dat (optI (idxR rs k))) (.dat (rowsD X)) (.dat (rowsD X))) (Ω' := Ω.set 5 (.mls (hs.map hD ++ [hD X]))) ?_).trans ?_
  · unfold sAppM
    simp only [R, ap_var, List.getElem?_cons_succ, List.getElem?_cons_zero, Option.bind_some, objN, hd, mlsO]
    simp [lc, hd, hD]
    exact Nat.lt_of_lt_of_le hl (by decide)
  have t' : IsTab (Ω.set 5 (.mls (hs.map hD ++ [hD X]))) n m rs := by
    have := hG.tb w hw
    rw [hn, hm, hrs] at this
    exact this
  generalize Ω.set 5 (.mls (hs.map hD ++ [hD X])) = Ω1 at *
  have v1 := trows_den t' ok (by omega)
  have v3 := tunder_den t' ok (by omega) k
  have ls : (sr rs).length < 100000 := by rw [sr_len]; omega
  by_cases c3 : c % 3 = 0
  · refine (seq_nx (ρ' := R (.dat (optI (idxR rs k))) (.dat (rowsD X)) (.dat (rowsD X))) (Ω' := Ω1) ?_).trans (by simp)
    have s0 : ∀ s t : SDen, sIf (gT (gOp (eqD false) (gOp modD (gOp ixD (gVar 6) (gC (.int 2))) (gC (.int 3))) (gC (.int 0)))) s t (R (.dat (optI (idxR rs k))) (.dat (rowsD X)) (.dat (rowsD X))) Ω1 = s (R (.dat (optI (idxR rs k))) (.dat (rowsD X)) (.dat (rowsD X))) Ω1 := fun s t => by simp [R, c3]
    rw [s0]
    refine (seq_nx (ρ' := R (.dat (optI (idxR rs k))) (.dat (rowsD X)) (.dat (rowsD X))) (Ω' := Ω1) ?_).trans ?_
    · simp [sAppN, gLs, R, t'.ob, look_no n_rows, v1, rowsD, ls]
    · simp [sClearN, gLs, R, t'.ob, look_no n_under, v3, rowsD]
  · exact (seq_nx (ρ' := R (.dat (optI (idxR rs k))) (.dat (rowsD X)) (.dat (rowsD X))) (Ω' := Ω1) (by simp [R, c3])).trans (by simp)
end Law
namespace Law
open PySem DL L2
theorem at2 (r : Nat → List Rw) {w : Nat} (hw : w < 2) : L2.atI [rowsD (r 0), rowsD (r 1)] (w : Int) = some (rowsD (r w)) := by
  have : w = 0 ∨ w = 1 := by omega
  rcases this with rfl | rfl
  · exact atI_0 _ _
  · exact atI_1 _ _ _
theorem atO {w : Nat} (hw : w < 2) : L2.atI [D.obj 0, D.obj 2] (w : Int) = some (.obj (2 * w)) := by
  have : w = 0 ∨ w = 1 := by omega
  rcases this with rfl | rfl
  · exact atI_0 _ _
  · exact atI_1 _ _ _
theorem mixr {Ω : List OS} {r : Nat → List Rw} (h4 : Ω[4]? = some (.mls [rowsD (r 0), rowsD (r 1)])) {g : Den} {ρ : List Sl} {w : Nat} (hw : w < 2) (e3 : ρ[3]? = some (.dat (.obj 4))) (eg : g ρ Ω = some (.int w, Ω)) : gMIx (gVar 3) g ρ Ω = some (rowsD (r w), Ω) := by
  unfold gMIx
  simp only [ap_var, e3, Option.bind_some, objN, eg, intN, h4, mlsO, at2 r hw]
noncomputable def lookB : SDen := (sIf (gNotT (gT (gCall d_l_look (gCons (gOp ixD (gVar 2) (gVar 9)) (gCons (gMIx (gVar 3) (gVar 9)) (gCons (gOp modD (gOp addD (gOp ixD (gVar 6) (gC (.int 5))) (gOp mulD (gVar 10) (gOp addD (gC (.int 1)) (gOp modD (gOp ixD (gVar 6) (gC (.int 6))) (gC (.int 4)))))) (gC (.int 5))) (gCons (gOp addD (gOp ixD (gVar 6) (gC (.int 7))) (gVar 10)) (gCons (gVar 1) (gCons (gVar 4) gNil))))))))) (sRet (gC (.bl false))) sNext)
theorem looks_den (S x11 x12 : Sl) (base c a0 a1 a2 a3 a4 a5 a6 a7 : Int) (x7 x8 : Sl) {w : Nat} (hw : w < 2) (r : Nat → List Rw) (hr : (r w).length < 60) : ∀ (ks : List Nat) (Ω : List OS) (hs : List (List Rw)) (x10 : Sl), GI Ω r hs → hs.length + ks.length < 1000 → ∃ (Ω' : List OS) (hs' : List (List Rw)) (y : Sl), GI Ω' r hs' ∧ hs'.length ≤ hs.length + ks.length ∧
    forD (bName 10) lookB (ks.map fun (k : Nat) => D.int k) [S, .dat (.int base), .dat (.lst [.obj 0, .obj 2]), .dat (.obj 4), .dat (.obj 5), .dat (.int c), .dat (.lst [.int a0, .int a1, .int a2, .int a3, .int a4, .int a5, .int a6, .int a7]), x7, x8, .dat (.int w), x10, x11, x12] Ω = some (.nx [S, .dat (.int base), .dat (.lst [.obj 0, .obj 2]), .dat (.obj 4), .dat (.obj 5), .dat (.int c), .dat (.lst [.int a0, .int a1, .int a2, .int a3, .int a4, .int a5, .int a6, .int a7]), x7, x8, .dat (.int w), y, x11, x12] Ω')
  | [], Ω, hs, x10, h, _ => ⟨Ω, hs, x10, h, by simp, rfl⟩
  | k :: ks, Ω, hs, x10, h, hl => by
    rw [List.length_cons] at hl
    have em : mulD (.int k) (.int (1 + a6 % 4)) = some (.int (k * (1 + a6 % 4))) := mul_i (.inr ⟨by omega, by omega⟩)
    have j0 := Int.emod_nonneg (a5 + k * (1 + a6 % 4)) (b := 5) (by decide)
    have j1 := Int.emod_lt_of_pos (a5 + k * (1 + a6 % 4)) (b := 5) (by decide)
    obtain ⟨Ω1, hs1, g1, l1, e1⟩ := look_den h (by omega) hw hr j0 j1 (a7 + k) base
    obtain ⟨Ω2, hs2, y, g2, l2, e2⟩ := looks_den S x11 x12 base c a0 a1 a2 a3 a4 a5 a6 a7 x7 x8 hw r hr ks Ω1 hs1 (.dat (.int k)) g1 (by omega)
    refine ⟨Ω2, hs2, y, g2, by rw [List.length_cons]; omega, ?_⟩
    have mx := mixr h.rw hw (g := gVar 9) (ρ := [S, .dat (.int base), .dat (.lst [.obj 0, .obj 2]), .dat (.obj 4), .dat (.obj 5), .dat (.int c), .dat (.lst [.int a0, .int a1, .int a2, .int a3, .int a4, .int a5, .int a6, .int a7]), x7, x8, .dat (.int w), .dat (.int k), x11, x12]) rfl rfl
    have ao := atO hw
    rw [← e2, List.map_cons, for_cons, ap_bName]
    have s1 : lookB [S, .dat (.int base), .dat (.lst [.obj 0, .obj 2]), .dat (.obj 4), .dat (.obj 5), .dat (.int c), .dat (.lst [.int a0, .int a1, .int a2, .int a3, .int a4, .int a5, .int a6, .int a7]), x7, x8, .dat (.int w), .dat (.int k), x11, x12] Ω = some (.nx [S, .dat (.int base), .dat (.lst [.obj 0, .obj 2]), .dat (.obj 4), .dat (.obj 5), .dat (.int c), .dat (.lst [.int a0, .int a1, .int a2, .int a3, .int a4, .int a5, .int a6, .int a7]), x7, x8, .dat (.int w), .dat (.int k), x11, x12] Ω1) := by
      unfold lookB
      simp [mx, em, ao, e1]
    dsimp only [List.set]
    rw [s1]
noncomputable def turnB : SDen := (sSeq (sSet 6 (gCall d_l_stream (gCons (gVar 5) (gCons (gC (.int 8)) gNil)))) (sSeq (sSet 7 (gOp modD (gOp ixD (gVar 6) (gC (.int 0))) (gC (.int 2)))) (sSeq (sSet 8 (gCall d_l_picked (gCons (gOp ixD (gVar 6) (gC (.int 1))) (gCons (gMIx (gVar 3) (gOp modD (gOp divD (gOp ixD (gVar 6) (gC (.int 0))) (gC (.int 2))) (gC (.int 2)))) (gCons (gVar 1) gNil))))) (sSeq (sIf (gAndT (gT (gOp (eqD false) (gOp modD (gOp ixD (gVar 6) (gC (.int 2))) (gC (.int 4))) (gC (.int 0)))) (gT (gOp (isD true) (gCall d_l_place (gCons (gMIx (gVar 3) (gVar 7)) (gCons (gVar 8) gNil))) (gC .non)))) (sSeq (sExpr (gMeth "Table" "cut" d_Table_cut [] (gOp ixD (gVar 2) (gVar 7)) (gCons (gVar 8) gNil))) (sSetM (gVar 3) (gVar 7) (gComp [none, some 8] (gSeq (gMIx (gVar 3) (gVar 7))) (bName 0) (gT (gOp (eqD true) (gOp ixD (gVar 0) (gC (.int 0))) (gVar 1))) (gVar 0)))) (sSeq (sExpr (gMeth "Table" "put" d_Table_put [] (gOp ixD (gVar 2) (gVar 7)) (gCons (gVar 8) (gCons (gCall d_l_thing_by (gCons (gOp ixD (gVar 6) (gC (.int 3))) gNil)) gNil)))) (sSetM (gVar 3) (gVar 7) (gCall d_l_put (gCons (gMIx (gVar 3) (gVar 7)) (gCons (gVar 8) (gCons (gCall d_l_thing_by (gCons (gOp ixD (gVar 6) (gC (.int 3))) gNil)) gNil))))))) (sSeq (sSet 9 (gOp modD (gOp ixD (gVar 6) (gC (.int 4))) (gC (.int 2)))) (sFor (gRng rng1 (gCons (gC (.int 5)) gNil)) (bName 10) (sIf (gNotT (gT (gCall d_l_look (gCons (gOp ixD (gVar 2) (gVar 9)) (gCons (gMIx (gVar 3) (gVar 9)) (gCons (gOp modD (gOp addD (gOp ixD (gVar 6) (gC (.int 5))) (gOp mulD (gVar 10) (gOp addD (gC (.int 1)) (gOp modD (gOp ixD (gVar 6) (gC (.int 6))) (gC (.int 4)))))) (gC (.int 5))) (gCons (gOp addD (gOp ixD (gVar 6) (gC (.int 7))) (gVar 10)) (gCons (gVar 1) (gCons (gVar 4) gNil))))))))) (sRet (gC (.bl false))) sNext)))))))
end Law
namespace Law
open PySem DL L2
theorem upR_len {r : Nat → List Rw} {w : Nat} {X : List Rw} {L : Nat} (h : ∀ v, v < 2 → (r v).length ≤ L) (hX : X.length ≤ L + 1) : ∀ v, v < 2 → (upR r w X v).length ≤ L + 1 := fun v hv => by
  show (if v = w then X else r v).length ≤ L + 1
  by_cases e : v = w
  · rw [if_pos e]; exact hX
  · rw [if_neg e]; exact Nat.le_succ_of_le (h v hv)
theorem turn_den (S x6 x7 x8 x9 x10 x11 x12 : Sl) (base c : Int) {Ω : List OS} {r : Nat → List Rw} {hs : List (List Rw)} {L : Nat} (h : GI Ω r hs) (hL : L ≤ 50) (hr : ∀ v, v < 2 → (r v).length ≤ L) (hl : hs.length ≤ 900) : ∃ (Ω' : List OS) (r' : Nat → List Rw) (hs' : List (List Rw)) (y6 y7 y8 y9 y10 : Sl), GI Ω' r' hs' ∧ (∀ v, v < 2 → (r' v).length ≤ L + 1) ∧ hs'.length ≤ hs.length + 5 ∧
    turnB [S, .dat (.int base), .dat (.lst [.obj 0, .obj 2]), .dat (.obj 4), .dat (.obj 5), .dat (.int c), x6, x7, x8, x9, x10, x11, x12] Ω = some (.nx [S, .dat (.int base), .dat (.lst [.obj 0, .obj 2]), .dat (.obj 4), .dat (.obj 5), .dat (.int c), y6, y7, y8, y9, y10, x11, x12] Ω') := by
  obtain ⟨xs, xl, xb, e0⟩ := strm_den c 8 (by decide) Ω
  obtain ⟨a0, a1, a2, a3, a4, a5, a6, a7, rfl⟩ : ∃ a0 a1 a2 a3 a4 a5 a6 a7, xs = [a0, a1, a2, a3, a4, a5, a6, a7] := by
    match xs, xl with
    | [a, b, c, d, e, f, g, h], _ => exact ⟨a, b, c, d, e, f, g, h, rfl⟩
  have e0' : d_l_stream [.int c, .int 8] Ω = some (.lst [.int a0, .int a1, .int a2, .int a3, .int a4, .int a5, .int a6, .int a7], Ω) := e0
  have b3 := xb a3 (by simp)
  obtain ⟨w, hw, ew⟩ : ∃ w : Nat, w < 2 ∧ a0 % 2 = w := ⟨(a0 % 2).toNat, by omega, by omega⟩
  obtain ⟨w2, hw2, ew2⟩ : ∃ w : Nat, w < 2 ∧ a0 / 2 % 2 = w := ⟨(a0 / 2 % 2).toNat, by omega, by omega⟩
  obtain ⟨w4, hw4, ew4⟩ : ∃ w : Nat, w < 2 ∧ a4 % 2 = w := ⟨(a4 % 2).toNat, by omega, by omega⟩
  have hr2 := hr w2 hw2
  obtain ⟨k, hk, ek⟩ := picked_den a1 base (h.ok w2 hw2) (by omega) Ω
  have t := h.tb w hw
  have ok := h.ok w hw
  have hrw := hr w hw
  have ao := atO hw
  have mid : ∃ (X : List Rw), Okr X ∧ X.length ≤ L + 1 ∧ (sIf (gAndT (gT (gOp (eqD false) (gOp modD (gOp ixD (gVar 6) (gC (.int 2))) (gC (.int 4))) (gC (.int 0)))) (gT (gOp (isD true) (gCall d_l_place (gCons (gMIx (gVar 3) (gVar 7)) (gCons (gVar 8) gNil))) (gC .non)))) (sSeq (sExpr (gMeth "Table" "cut" d_Table_cut [] (gOp ixD (gVar 2) (gVar 7)) (gCons (gVar 8) gNil))) (sSetM (gVar 3) (gVar 7) (gComp [none, some 8] (gSeq (gMIx (gVar 3) (gVar 7))) (bName 0) (gT (gOp (eqD true) (gOp ixD (gVar 0) (gC (.int 0))) (gVar 1))) (gVar 0)))) (sSeq (sExpr (gMeth "Table" "put" d_Table_put [] (gOp ixD (gVar 2) (gVar 7)) (gCons (gVar 8) (gCons (gCall d_l_thing_by (gCons (gOp ixD (gVar 6) (gC (.int 3))) gNil)) gNil)))) (sSetM (gVar 3) (gVar 7) (gCall d_l_put (gCons (gMIx (gVar 3) (gVar 7)) (gCons (gVar 8) (gCons (gCall d_l_thing_by (gCons (gOp ixD (gVar 6) (gC (.int 3))) gNil)) gNil))))))) [S, .dat (.int base), .dat (.lst [.obj 0, .obj 2]), .dat (.obj 4), .dat (.obj 5), .dat (.int c), .dat (.lst [.int a0, .int a1, .int a2, .int a3, .int a4, .int a5, .int a6, .int a7]), .dat (.int w), .dat (bD k), x9, x10, x11, x12] Ω = some (.nx [S, .dat (.int base), .dat (.lst [.obj 0, .obj 2]), .dat (.obj 4), .dat (.obj 5), .dat (.int c), .dat (.lst [.int a0, .int a1, .int a2, .int a3, .int a4, .int a5, .int a6, .int a7]), .dat (.int w), .dat (bD k), x9, x10, x11, x12] ((Ω.set (2 * w + 1) (.dT (tab X))).set 4 (.mls ([rowsD (r 0), rowsD (r 1)].set w (rowsD X))))) := by
    have m7 := mixr h.rw hw (g := gVar 7) (ρ := [S, .dat (.int base), .dat (.lst [.obj 0, .obj 2]), .dat (.obj 4), .dat (.obj 5), .dat (.int c), .dat (.lst [.int a0, .int a1, .int a2, .int a3, .int a4, .int a5, .int a6, .int a7]), .dat (.int w), .dat (bD k), x9, x10, x11, x12]) rfl rfl
    have ip := place_den (r w) k (by omega) Ω
    have isp := isplace ok k
    have h4' : ∀ u : OS, (Ω.set (2 * w + 1) u)[4]? = some (.mls [rowsD (r 0), rowsD (r 1)]) := fun u => by rw [List.getElem?_set_ne (by omega)]; exact h.rw
    have ixw : L2.ixN 2 (w : Int) = some w := by
      have : w = 0 ∨ w = 1 := by omega
      rcases this with rfl | rfl <;> rfl
    have st : ∀ (u : OS) {f : Den} {X : List Rw}, f [S, .dat (.int base), .dat (.lst [.obj 0, .obj 2]), .dat (.obj 4), .dat (.obj 5), .dat (.int c), .dat (.lst [.int a0, .int a1, .int a2, .int a3, .int a4, .int a5, .int a6, .int a7]), .dat (.int w), .dat (bD k), x9, x10, x11, x12] (Ω.set (2 * w + 1) u) = some (rowsD X, Ω.set (2 * w + 1) u) → sSetM (gVar 3) (gVar 7) f [S, .dat (.int base), .dat (.lst [.obj 0, .obj 2]), .dat (.obj 4), .dat (.obj 5), .dat (.int c), .dat (.lst [.int a0, .int a1, .int a2, .int a3, .int a4, .int a5, .int a6, .int a7]), .dat (.int w), .dat (bD k), x9, x10, x11, x12] (Ω.set (2 * w + 1) u) = some (.nx [S, .dat (.int base), .dat (.lst [.obj 0, .obj 2]), .dat (.obj 4), .dat (.obj 5), .dat (.int c), .dat (.lst [.int a0, .int a1, .int a2, .int a3, .int a4, .int a5, .int a6, .int a7]), .dat (.int w), .dat (bD k), x9, x10, x11, x12] ((Ω.set (2 * w + 1) u).set 4 (.mls ([rowsD (r 0), rowsD (r 1)].set w (rowsD X))))) := fun u {f X} ef => by
      unfold sSetM
      simp only [ef, Option.bind_some, ap_var, List.getElem?_cons_succ, List.getElem?_cons_zero, objN, intN, h4' u, mlsO]
      simp [ixw]
    by_cases hc : a2 % 4 = 0 ∧ (findR (r w) k).isSome = true
    · obtain ⟨v, hv⟩ := Option.isSome_iff_exists.mp hc.2
      have ec := tcut_den t k hv
      refine ⟨cutR (r w) k, ok.cut k, by have := len_cut (r w) k; omega, ?_⟩
      have s0 : ∀ s t : SDen, sIf (gAndT (gT (gOp (eqD false) (gOp modD (gOp ixD (gVar 6) (gC (.int 2))) (gC (.int 4))) (gC (.int 0)))) (gT (gOp (isD true) (gCall d_l_place (gCons (gMIx (gVar 3) (gVar 7)) (gCons (gVar 8) gNil))) (gC .non)))) s t [S, .dat (.int base), .dat (.lst [.obj 0, .obj 2]), .dat (.obj 4), .dat (.obj 5), .dat (.int c), .dat (.lst [.int a0, .int a1, .int a2, .int a3, .int a4, .int a5, .int a6, .int a7]), .dat (.int w), .dat (bD k), x9, x10, x11, x12] Ω = s [S, .dat (.int base), .dat (.lst [.obj 0, .obj 2]), .dat (.obj 4), .dat (.obj 5), .dat (.int c), .dat (.lst [.int a0, .int a1, .int a2, .int a3, .int a4, .int a5, .int a6, .int a7]), .dat (.int w), .dat (bD k), x9, x10, x11, x12] Ω := fun s t => by simp [m7, ip, isp, hc.1, hv]
      rw [s0]
      refine (seq_nx (ρ' := [S, .dat (.int base), .dat (.lst [.obj 0, .obj 2]), .dat (.obj 4), .dat (.obj 5), .dat (.int c), .dat (.lst [.int a0, .int a1, .int a2, .int a3, .int a4, .int a5, .int a6, .int a7]), .dat (.int w), .dat (bD k), x9, x10, x11, x12]) (Ω' := Ω.set (2 * w + 1) (.dT (tab (cutR (r w) k)))) (by simp [ao, t.ob, look_no n_cut, ec])).trans ?_
      refine st _ ?_
      have m8 := mixr (h4' (.dT (tab (cutR (r w) k)))) hw (g := gVar 7) (ρ := [S, .dat (.int base), .dat (.lst [.obj 0, .obj 2]), .dat (.obj 4), .dat (.obj 5), .dat (.int c), .dat (.lst [.int a0, .int a1, .int a2, .int a3, .int a4, .int a5, .int a6, .int a7]), .dat (.int w), .dat (bD k), x9, x10, x11, x12]) rfl rfl
      have ein : innerD [none, some 8] [S, .dat (.int base), .dat (.lst [.obj 0, .obj 2]), .dat (.obj 4), .dat (.obj 5), .dat (.int c), .dat (.lst [.int a0, .int a1, .int a2, .int a3, .int a4, .int a5, .int a6, .int a7]), .dat (.int w), .dat (bD k), x9, x10, x11, x12] = [.und, .dat (bD k)] := rfl
      have hcc := comp_cut k (r w) .und (Ω.set (2 * w + 1) (.dT (tab (cutR (r w) k))))
      rw [ap_comp, ein, ap_seq, m8]
      dsimp only
      rw [seq_rows]
      dsimp only
      rw [hcc, if_pos (by rw [List.length_map]; show (r w).length ≤ 100000; omega)]
      rfl
    · obtain ⟨v, hv, ev⟩ := thing_all b3.1 b3.2
      have epu := tput_den t (by omega) k v
      have elp := lput_den ok (by omega) k v (Ω.set (2 * w + 1) (.dT (tab (putR (r w) k v))))
      refine ⟨putR (r w) k v, ok.put hk hv, by have := len_put (r w) k v; omega, ?_⟩
      have s0 : ∀ s t : SDen, sIf (gAndT (gT (gOp (eqD false) (gOp modD (gOp ixD (gVar 6) (gC (.int 2))) (gC (.int 4))) (gC (.int 0)))) (gT (gOp (isD true) (gCall d_l_place (gCons (gMIx (gVar 3) (gVar 7)) (gCons (gVar 8) gNil))) (gC .non)))) s t [S, .dat (.int base), .dat (.lst [.obj 0, .obj 2]), .dat (.obj 4), .dat (.obj 5), .dat (.int c), .dat (.lst [.int a0, .int a1, .int a2, .int a3, .int a4, .int a5, .int a6, .int a7]), .dat (.int w), .dat (bD k), x9, x10, x11, x12] Ω = t [S, .dat (.int base), .dat (.lst [.obj 0, .obj 2]), .dat (.obj 4), .dat (.obj 5), .dat (.int c), .dat (.lst [.int a0, .int a1, .int a2, .int a3, .int a4, .int a5, .int a6, .int a7]), .dat (.int w), .dat (bD k), x9, x10, x11, x12] Ω := fun s t => by
        by_cases h2 : a2 % 4 = 0
        · have hf : (findR (r w) k).isSome = false := by
            cases z : (findR (r w) k).isSome with
            | false => rfl
            | true => exact absurd ⟨h2, z⟩ hc
          simp [m7, ip, isp, h2, hf]
        · simp [h2]
      rw [s0]
      refine (seq_nx (ρ' := [S, .dat (.int base), .dat (.lst [.obj 0, .obj 2]), .dat (.obj 4), .dat (.obj 5), .dat (.int c), .dat (.lst [.int a0, .int a1, .int a2, .int a3, .int a4, .int a5, .int a6, .int a7]), .dat (.int w), .dat (bD k), x9, x10, x11, x12]) (Ω' := Ω.set (2 * w + 1) (.dT (tab (putR (r w) k v)))) (by simp [ao, t.ob, look_no n_put, ev, epu])).trans ?_
      refine st _ ?_
      have m8 := mixr (h4' (.dT (tab (putR (r w) k v)))) hw (g := gVar 7) (ρ := [S, .dat (.int base), .dat (.lst [.obj 0, .obj 2]), .dat (.obj 4), .dat (.obj 5), .dat (.int c), .dat (.lst [.int a0, .int a1, .int a2, .int a3, .int a4, .int a5, .int a6, .int a7]), .dat (.int w), .dat (bD k), x9, x10, x11, x12]) rfl rfl
      simp [m8, ev, elp]
  obtain ⟨X, okX, lX, em⟩ := mid
  have g1 := h.upd hw okX
  generalize (Ω.set (2 * w + 1) (.dT (tab X))).set 4 (.mls ([rowsD (r 0), rowsD (r 1)].set w (rowsD X))) = Ω1 at *
  have hr1 := upR_len (w := w) hr lX
  obtain ⟨Ω2, hs2, y10, g2, l2, e2⟩ := looks_den S x11 x12 base c a0 a1 a2 a3 a4 a5 a6 a7 (.dat (.int w)) (.dat (bD k)) hw4 (upR r w X) (by have := hr1 w4 hw4; omega) (List.range 5) Ω1 hs x10 g1 (by rw [List.length_range]; omega)
  rw [List.length_range] at l2
  refine ⟨Ω2, upR r w X, hs2, .dat (.lst [.int a0, .int a1, .int a2, .int a3, .int a4, .int a5, .int a6, .int a7]), .dat (.int w), .dat (bD k), .dat (.int w4), y10, g2, hr1, l2, ?_⟩
  unfold turnB
  refine (seq_nx (ρ' := [S, .dat (.int base), .dat (.lst [.obj 0, .obj 2]), .dat (.obj 4), .dat (.obj 5), .dat (.int c), .dat (.lst [.int a0, .int a1, .int a2, .int a3, .int a4, .int a5, .int a6, .int a7]), x7, x8, x9, x10, x11, x12]) (Ω' := Ω) (by simp [e0'])).trans ?_
  refine (seq_nx (ρ' := [S, .dat (.int base), .dat (.lst [.obj 0, .obj 2]), .dat (.obj 4), .dat (.obj 5), .dat (.int c), .dat (.lst [.int a0, .int a1, .int a2, .int a3, .int a4, .int a5, .int a6, .int a7]), .dat (.int w), x8, x9, x10, x11, x12]) (Ω' := Ω) (by simp [ew])).trans ?_
  have m7 := mixr h.rw hw2 (g := gOp modD (gOp divD (gOp ixD (gVar 6) (gC (.int 0))) (gC (.int 2))) (gC (.int 2))) (ρ := [S, .dat (.int base), .dat (.lst [.obj 0, .obj 2]), .dat (.obj 4), .dat (.obj 5), .dat (.int c), .dat (.lst [.int a0, .int a1, .int a2, .int a3, .int a4, .int a5, .int a6, .int a7]), .dat (.int w), x8, x9, x10, x11, x12]) rfl (by simp [ew2])
  refine (seq_nx (ρ' := [S, .dat (.int base), .dat (.lst [.obj 0, .obj 2]), .dat (.obj 4), .dat (.obj 5), .dat (.int c), .dat (.lst [.int a0, .int a1, .int a2, .int a3, .int a4, .int a5, .int a6, .int a7]), .dat (.int w), .dat (bD k), x9, x10, x11, x12]) (Ω' := Ω) (by simp [m7, ek])).trans ?_
  refine (seq_nx em).trans ?_
  refine (seq_nx (ρ' := [S, .dat (.int base), .dat (.lst [.obj 0, .obj 2]), .dat (.obj 4), .dat (.obj 5), .dat (.int c), .dat (.lst [.int a0, .int a1, .int a2, .int a3, .int a4, .int a5, .int a6, .int a7]), .dat (.int w), .dat (bD k), .dat (.int w4), x10, x11, x12]) (Ω' := Ω1) (by simp [ew4])).trans ?_
  have er : rng1 [.int 5] = some ((List.range 5).map fun (k : Nat) => D.int k) := by
    rw [rng_1 (by decide) (by decide)]
    simp [upD]
  simp only [ap_for, ap_rng, ap_cons, ap_c, ap_nil, er]
  exact e2
theorem turns_den (S x11 x12 : Sl) (base : Int) : ∀ (cs : List Int) (L : Nat) (x5 x6 x7 x8 x9 x10 : Sl) (Ω : List OS) (r : Nat → List Rw) (hs : List (List Rw)), GI Ω r hs → L + cs.length ≤ 50 → (∀ v, v < 2 → (r v).length ≤ L) → hs.length + 5 * cs.length ≤ 900 → ∃ (Ω' : List OS) (r' : Nat → List Rw) (hs' : List (List Rw)) (y5 y6 y7 y8 y9 y10 : Sl), GI Ω' r' hs' ∧ (∀ v, v < 2 → (r' v).length ≤ 50) ∧ hs'.length ≤ 900 ∧
    forD (bName 5) turnB (cs.map D.int) [S, .dat (.int base), .dat (.lst [.obj 0, .obj 2]), .dat (.obj 4), .dat (.obj 5), x5, x6, x7, x8, x9, x10, x11, x12] Ω = some (.nx [S, .dat (.int base), .dat (.lst [.obj 0, .obj 2]), .dat (.obj 4), .dat (.obj 5), y5, y6, y7, y8, y9, y10, x11, x12] Ω')
  | [], L, x5, x6, x7, x8, x9, x10, Ω, r, hs, h, hL, hr, hl => ⟨Ω, r, hs, x5, x6, x7, x8, x9, x10, h, fun v hv => Nat.le_trans (hr v hv) (by simpa using hL), by simpa using hl, rfl⟩
  | c :: cs, L, x5, x6, x7, x8, x9, x10, Ω, r, hs, h, hL, hr, hl => by
    rw [List.length_cons] at hL hl
    obtain ⟨Ω1, r1, hs1, y6, y7, y8, y9, y10, g1, hr1, l1, e1⟩ := turn_den S x6 x7 x8 x9 x10 x11 x12 base c h (by omega) hr (by omega)
    obtain ⟨Ω2, r2, hs2, z5, z6, z7, z8, z9, z10, g2, hr2, l2, e2⟩ := turns_den S x11 x12 base cs (L + 1) (.dat (.int c)) y6 y7 y8 y9 y10 Ω1 r1 hs1 g1 (by omega) hr1 (by omega)
    refine ⟨Ω2, r2, hs2, z5, z6, z7, z8, z9, z10, g2, hr2, l2, ?_⟩
    rw [← e2, List.map_cons, for_cons, ap_bName]
    dsimp only [List.set]
    rw [e1]
noncomputable def heldB : SDen := (sIf (gT (gOp (eqD true) (gVar 11) (gVar 12))) (sRet (gC (.bl false))) sNext)
theorem helds_den (S x10 : Sl) (base : Int) (x5 x6 x7 x8 x9 : Sl) {Ω : List OS} {hs : List (List Rw)} (h5 : Ω[5]? = some (.mls (hs.map hD))) : ∀ (X : List (List Rw)) (x11 x12 : Sl), (∀ Y ∈ X, Th Y) → ∃ y11 y12 : Sl,
    forM (bTup [11, 12]) heldB 5 (hs.map hD) (X.map hD) [S, .dat (.int base), .dat (.lst [.obj 0, .obj 2]), .dat (.obj 4), .dat (.obj 5), x5, x6, x7, x8, x9, x10, x11, x12] Ω = some (.nx [S, .dat (.int base), .dat (.lst [.obj 0, .obj 2]), .dat (.obj 4), .dat (.obj 5), x5, x6, x7, x8, x9, x10, y11, y12] Ω)
  | [], x11, x12, _ => ⟨x11, x12, grd_pos h5⟩
  | Y :: X, x11, x12, h => by
    obtain ⟨y11, y12, e⟩ := helds_den S x10 base x5 x6 x7 x8 x9 h5 X (.dat (rowsD Y)) (.dat (rowsD Y)) fun Z hZ => h Z (List.mem_cons_of_mem _ hZ)
    refine ⟨y11, y12, ?_⟩
    have eq1 := eq_rows true (h Y List.mem_cons_self)
    have s1 : heldB [S, .dat (.int base), .dat (.lst [.obj 0, .obj 2]), .dat (.obj 4), .dat (.obj 5), x5, x6, x7, x8, x9, x10, .dat (rowsD Y), .dat (rowsD Y)] Ω = some (.nx [S, .dat (.int base), .dat (.lst [.obj 0, .obj 2]), .dat (.obj 4), .dat (.obj 5), x5, x6, x7, x8, x9, x10, .dat (rowsD Y), .dat (rowsD Y)] Ω) := by
      unfold heldB
      simp [eq1]
    rw [List.map_cons]
    unfold DL.forM
    rw [grd_pos h5]
    have eb : bTup [11, 12] (hD Y) [S, .dat (.int base), .dat (.lst [.obj 0, .obj 2]), .dat (.obj 4), .dat (.obj 5), x5, x6, x7, x8, x9, x10, x11, x12] = some [S, .dat (.int base), .dat (.lst [.obj 0, .obj 2]), .dat (.obj 4), .dat (.obj 5), x5, x6, x7, x8, x9, x10, .dat (rowsD Y), .dat (rowsD Y)] := rfl
    rw [eb]
    dsimp only
    rw [s1]
    exact e
end Law
namespace Law
open PySem DL L2
theorem make0 (ρ : List Sl) : gMake "Table" d_Table___init__ [] gNil ρ [] = some (.obj 0, [.ins "Table" [("thing_by", .obj 1)], .dT []]) := by
  have h : d_Table___init__ [.obj 0] [.ins "Table" []] = some (.non, [.ins "Table" [("thing_by", .obj 1)], .dT []]) := by
    unfold d_Table___init__
    rw [ap_run]
    simp [putFD]
  simp [h]
theorem make1 (ρ : List Sl) : gMake "Table" d_Table___init__ [] gNil ρ [.ins "Table" [("thing_by", .obj 1)], .dT []] = some (.obj 2, [.ins "Table" [("thing_by", .obj 1)], .dT [], .ins "Table" [("thing_by", .obj 3)], .dT []]) := by
  have h : d_Table___init__ [.obj 2] ([.ins "Table" [("thing_by", .obj 1)], .dT []] ++ [.ins "Table" []]) = some (.non, [.ins "Table" [("thing_by", .obj 1)], .dT [], .ins "Table" [("thing_by", .obj 3)], .dT []]) := by
    unfold d_Table___init__
    rw [ap_run]
    simp [putFD]
  simp at h
  simp [h]
theorem holds : ∀ ns : List Int, ns.length ≤ 63 → ∃ Ω, d_law [.scr ns] [] = some (.bl true, Ω) := by
  intro ns hn
  obtain ⟨base, hb0, hb1, eb⟩ := base_den ns []
  have g0 : GI [.ins "Table" [("thing_by", .obj 1)], .dT [], .ins "Table" [("thing_by", .obj 3)], .dT [], .mls [.lst [], .lst []], .mls []] (fun _ => []) [] := by
    refine ⟨fun w hw => ?_, rfl, rfl, fun w _ => Okr.nil, fun X hX => absurd hX List.not_mem_nil⟩
    have : w = 0 ∨ w = 1 := by omega
    rcases this with rfl | rfl
    · exact ⟨rfl, rfl, by decide⟩
    · exact ⟨rfl, rfl, by decide⟩
  have lc : (cutL ns (some 1) (some 21)).length ≤ 20 := by
    have e : cutL ns (some 1) (some 21) = (ns.drop 1).take (21 - 1) := cut_ab ns (a := 1) (b := 21) (by decide)
    rw [e, List.length_take]
    omega
  obtain ⟨Ω, r, hs, y5, y6, y7, y8, y9, y10, g, hr, hl, e1⟩ := turns_den (.dat (.scr ns)) .und .und base (cutL ns (some 1) (some 21)) 0 .und .und .und .und .und .und _ (fun _ => []) [] g0 (by omega) (fun _ _ => Nat.le_refl _) (by simp; omega)
  obtain ⟨y11, y12, e2⟩ := helds_den (.dat (.scr ns)) y10 base y5 y6 y7 y8 y9 g.hd hs .und .und g.th
  refine ⟨Ω, run_rt rfl ?_⟩
  refine (seq_nx (ρ' := [.dat (.scr ns), .dat (.int base), .und, .und, .und, .und, .und, .und, .und, .und, .und, .und, .und]) (Ω' := []) ?_).trans ?_
  · rw [ap_set, eb _ rfl]
    rfl
  refine (seq_nx (ρ' := [.dat (.scr ns), .dat (.int base), .dat (.lst [.obj 0, .obj 2]), .und, .und, .und, .und, .und, .und, .und, .und, .und, .und]) (Ω' := [.ins "Table" [("thing_by", .obj 1)], .dT [], .ins "Table" [("thing_by", .obj 3)], .dT []]) ?_).trans ?_
  · have m0 := make0 [.dat (.scr ns), .dat (.int base), .und, .und, .und, .und, .und, .und, .und, .und, .und, .und, .und]
    have m1 := make1 [.dat (.scr ns), .dat (.int base), .und, .und, .und, .und, .und, .und, .und, .und, .und, .und, .und]
    rw [ap_set, ap_lst, ap_cons, m0]
    dsimp only
    rw [ap_cons, m1]
    rfl
  refine (seq_nx (ρ' := [.dat (.scr ns), .dat (.int base), .dat (.lst [.obj 0, .obj 2]), .dat (.obj 4), .und, .und, .und, .und, .und, .und, .und, .und, .und]) (Ω' := [.ins "Table" [("thing_by", .obj 1)], .dT [], .ins "Table" [("thing_by", .obj 3)], .dT [], .mls [.lst [], .lst []]]) (by simp [gNewM, big])).trans ?_
  refine (seq_nx (ρ' := [.dat (.scr ns), .dat (.int base), .dat (.lst [.obj 0, .obj 2]), .dat (.obj 4), .dat (.obj 5), .und, .und, .und, .und, .und, .und, .und, .und]) (Ω' := [.ins "Table" [("thing_by", .obj 1)], .dT [], .ins "Table" [("thing_by", .obj 3)], .dT [], .mls [.lst [], .lst []], .mls []]) (by simp [gNewM, big])).trans ?_
  refine (seq_nx (ρ' := [.dat (.scr ns), .dat (.int base), .dat (.lst [.obj 0, .obj 2]), .dat (.obj 4), .dat (.obj 5), y5, y6, y7, y8, y9, y10, .und, .und]) (Ω' := Ω) ?_).trans ?_
  · simp only [ap_for, ap_seq, ap_sl, ap_var, ap_part, ap_c, List.getElem?_cons_zero, sl_scr, seq_lst]
    exact e1
  refine (seq_nx (ρ' := [.dat (.scr ns), .dat (.int base), .dat (.lst [.obj 0, .obj 2]), .dat (.obj 4), .dat (.obj 5), y5, y6, y7, y8, y9, y10, y11, y12]) (Ω' := Ω) ?_).trans ?_
  · unfold sForM
    simp only [ap_var, List.getElem?_cons_succ, List.getElem?_cons_zero, Option.bind_some, objN, g.hd, mlsO]
    exact e2
  have t0 := g.tb 0 (by decide)
  have t1 := g.tb 1 (by decide)
  have l0 := hr 0 (by decide)
  have l1 := hr 1 (by decide)
  have u0 := trows_den t0 (g.ok 0 (by decide)) (by omega)
  have u1 := trows_den t1 (g.ok 1 (by decide)) (by omega)
  have v0 := lsorted_den (g.ok 0 (by decide)) (by omega) Ω
  have v1 := lsorted_den (g.ok 1 (by decide)) (by omega) Ω
  have q0 := eq_rows false (X := sr (r 0)) fun q hq => (g.ok 0 (by decide)).th q (sr_mem.mp hq)
  have q1 := eq_rows false (X := sr (r 1)) fun q hq => (g.ok 1 (by decide)).th q (sr_mem.mp hq)
  have m0 := mixr g.rw (w := 0) (by decide) (g := gC (.int 0)) (ρ := [.dat (.scr ns), .dat (.int base), .dat (.lst [.obj 0, .obj 2]), .dat (.obj 4), .dat (.obj 5), y5, y6, y7, y8, y9, y10, y11, y12]) rfl rfl
  have m1 := mixr g.rw (w := 1) (by decide) (g := gC (.int 1)) (ρ := [.dat (.scr ns), .dat (.int base), .dat (.lst [.obj 0, .obj 2]), .dat (.obj 4), .dat (.obj 5), y5, y6, y7, y8, y9, y10, y11, y12]) rfl rfl
  have o0 := t0.ob
  have o1 := t1.ob
  simp only [Nat.mul_zero, Nat.mul_one, Nat.zero_add] at u0 u1 o0 o1
  simp [o0, o1, look_no n_rows, u0, u1, v0, v1, q0, q1, m0, m1]
end Law
namespace Law
open PySem PySem.Spec PyProof.Rows L2 DL
set_option maxHeartbeats 4000000
seal PD PDA PDS PDB PDT PDI PDG
def top (i : Nat) : Stmt := PySem.Challenge.pw_posthouse_k11_whole_tables_by_turns.main.body.getD i (.Pass ⟨0, 0, 0, 0⟩)
abbrev s_Table___init__ : Stmt := inClass (top 10) 0
abbrev s_l_stream : Stmt := top 13
abbrev s_l_bits : Stmt := top 15
abbrev s_l_number : Stmt := top 16
abbrev s_l_beginning : Stmt := top 17
abbrev s_l_picked : Stmt := top 22
abbrev s_Table_cut : Stmt := inClass (top 10) 2
abbrev s_Table_put : Stmt := inClass (top 10) 1
abbrev s_l_place : Stmt := top 20
abbrev s_l_put : Stmt := top 21
abbrev s_least : Stmt := top 3
abbrev s_place_in_order : Stmt := top 4
abbrev s_in_order : Stmt := top 5
abbrev s_Table_rows : Stmt := inClass (top 10) 7
abbrev s_l_place_of : Stmt := top 23
abbrev s_l_sorted : Stmt := top 24
abbrev s_l_cell_at : Stmt := top 12
abbrev s_l_thing_by : Stmt := top 19
abbrev s_l_address : Stmt := top 18
abbrev s_within : Stmt := top 2
abbrev s_Table_under : Stmt := inClass (top 10) 8
abbrev s_l_under : Stmt := top 25
abbrev s_Table_longest : Stmt := inClass (top 10) 6
abbrev s_l_longest : Stmt := top 26
abbrev s_Table_count : Stmt := inClass (top 10) 5
abbrev s_Table_has : Stmt := inClass (top 10) 4
abbrev s_Table_get : Stmt := inClass (top 10) 3
abbrev s_l_look : Stmt := top 27
abbrev s_law : Stmt := top 28
section
variable {P : Program} {w : World} {K : PySem.W.Frag} {mg : Str → Option Value} {base : Heap} {C : Cl}
theorem sc_Table___init__ : FnScope ["self"] ["self"] (defScope s_Table___init__) := ⟨rfl, rfl, rfl, by decide +kernel, rfl, by decide +kernel, by decide +kernel⟩
theorem ok_Table___init__ {dV : Value} {f : Addr} {fd : FuncData} (F : FunV K "__init__" "Table.__init__" s_Table___init__ dV f fd) (T_Table : ClD K C "Table") (n_Table_thing_by : NoA K C "Table" "thing_by") : FnOk P w K mg base CX0 1 f fd ["self"] (spD K C d_Table___init__) :=
  fn_DV F sc_Table___init__ rfl rfl fun cdv A outer sh H E hr =>
    have nd : (cxOf CX0 P w K mg base ["self"] "Table.__init__" (defScope s_Table___init__) f cdv A outer sh H E).nox.N.Nodup := sc_Table___init__.nd
    (pdb_one (pds_fld T_Table n_Table_thing_by (pd_var (pv 0)) pd_newT))
theorem sc_l_stream : FnScope ["_law_cell", "_law_many", "_law_found", "_law_number_here", "_law_k"] ["_law_cell", "_law_many"] (defScope s_l_stream) := ⟨rfl, rfl, rfl, by decide +kernel, rfl, by decide +kernel, by decide +kernel⟩
theorem ok_l_stream (T : TF K mg "_law_stream" s_l_stream) (b_range : mg "range" = none) : Fn P w K mg base C 1 "_law_stream" d_l_stream :=
  fn_F T sc_l_stream rfl rfl (fun _ _ _ _ _ _ us hl => len2 us hl (fun _ _ => rfl)) fun f cdv A outer sh H E hr =>
    have nd : (cxOf CX0 P w K mg base ["_law_cell", "_law_many", "_law_found", "_law_number_here", "_law_k"] "_law_stream" (defScope s_l_stream) f cdv A outer sh H E).nox.N.Nodup := sc_l_stream.nd
    (pdb_cons (pds_own (i := 2) nd rfl (by first | exact Or.inl rfl | exact Or.inr rfl) pda_nil) (pdb_cons (pds_set (i := 3) nd rfl (by first | exact Or.inl rfl | exact Or.inr rfl) (pd_op opD_add (pd_op opD_mod (pd_var (pv 0)) pd_int) pd_int)) (pdb_cons (pds_for PassesOwn.never rfl (pdi_range1 rfl b_range (pda_cons (pd_op opD_add (pd_var (pv 1)) pd_int) pda_nil)) (pdg_name nd rfl (by first | exact Or.inl rfl | exact Or.inr rfl)) (pdb_cons (pds_set (i := 3) nd rfl (by first | exact Or.inl rfl | exact Or.inr rfl) (pd_op opD_mod (pd_op opD_add (pd_op opD_add (pd_op opD_mul (pd_var (pv 3)) (pd_var (pv 3))) (pd_op opD_mul pd_int (pd_var (pv 3)))) (pd_var (pv 4))) pd_int)) (pdb_one (pds_app (pv 2) (pd_var (pv 3)))))) (pdb_ghost (ghost_frz 2) (pdb_one (pds_ret (pd_sl (pd_var (pv 2)) (pdo_some pd_int) pdo_none)))))))
theorem sc_l_bits : FnScope ["_law_number_here", "_law_size", "_law_found", "_law_turn"] ["_law_number_here", "_law_size"] (defScope s_l_bits) := ⟨rfl, rfl, rfl, by decide +kernel, rfl, by decide +kernel, by decide +kernel⟩
theorem ok_l_bits (T : TF K mg "_law_bits" s_l_bits) (b_range : mg "range" = none) : Fn P w K mg base C 1 "_law_bits" d_l_bits :=
  fn_F T sc_l_bits rfl rfl (fun _ _ _ _ _ _ us hl => len2 us hl (fun _ _ => rfl)) fun f cdv A outer sh H E hr =>
    have nd : (cxOf CX0 P w K mg base ["_law_number_here", "_law_size", "_law_found", "_law_turn"] "_law_bits" (defScope s_l_bits) f cdv A outer sh H E).nox.N.Nodup := sc_l_bits.nd
    (pdb_cons (pds_set (i := 2) nd rfl (by first | exact Or.inl rfl | exact Or.inr rfl) (pd_lst pda_nil)) (pdb_cons (pds_for PassesOwn.never rfl (pdi_range1 rfl b_range (pda_cons (pd_var (pv 1)) pda_nil)) (pdg_name nd rfl (by first | exact Or.inl rfl | exact Or.inr rfl)) (pdb_cons (pds_set (i := 2) nd rfl (by first | exact Or.inl rfl | exact Or.inr rfl) (pd_op opD_add (pd_lst (pda_cons (pd_op opD_mod (pd_var (pv 0)) pd_int) pda_nil)) (pd_var (pv 2)))) (pdb_one (pds_set (i := 0) nd rfl (by first | exact Or.inl rfl | exact Or.inr rfl) (pd_op opD_div (pd_var (pv 0)) pd_int))))) (pdb_one (pds_ret (pd_var (pv 2))))))
theorem sc_l_number : FnScope ["_law_bits_here", "_law_found", "_law_bit"] ["_law_bits_here"] (defScope s_l_number) := ⟨rfl, rfl, rfl, by decide +kernel, rfl, by decide +kernel, by decide +kernel⟩
theorem ok_l_number (T : TF K mg "_law_number" s_l_number) : Fn P w K mg base C 1 "_law_number" d_l_number :=
  fn_F T sc_l_number rfl rfl (fun _ _ _ _ _ _ us hl => len1 us hl (fun _ => rfl)) fun f cdv A outer sh H E hr =>
    have nd : (cxOf CX0 P w K mg base ["_law_bits_here", "_law_found", "_law_bit"] "_law_number" (defScope s_l_number) f cdv A outer sh H E).nox.N.Nodup := sc_l_number.nd
    (pdb_cons (pds_set (i := 1) nd rfl (by first | exact Or.inl rfl | exact Or.inr rfl) pd_int) (pdb_cons (pds_for PassesOwn.never rfl (pdi_list (pd_var (pv 0))) (pdg_name nd rfl (by first | exact Or.inl rfl | exact Or.inr rfl)) (pdb_one (pds_set (i := 1) nd rfl (by first | exact Or.inl rfl | exact Or.inr rfl) (pd_op opD_add (pd_op opD_mul pd_int (pd_var (pv 1))) (pd_var (pv 2)))))) (pdb_one (pds_ret (pd_var (pv 1))))))
theorem sc_l_beginning : FnScope ["_law_x", "_law_base", "_law_xs", "_law_bits_here", "_law_at"] ["_law_x", "_law_base"] (defScope s_l_beginning) := ⟨rfl, rfl, rfl, by decide +kernel, rfl, by decide +kernel, by decide +kernel⟩
theorem ok_l_beginning (T : TF K mg "_law_beginning" s_l_beginning) (b_len : mg "len" = none) (G_l_stream : Fn P w K mg base C 1 "_law_stream" d_l_stream) (G_l_bits : Fn P w K mg base C 1 "_law_bits" d_l_bits) (G_l_number : Fn P w K mg base C 1 "_law_number" d_l_number) : Fn P w K mg base C 2 "_law_beginning" d_l_beginning :=
  fn_F T sc_l_beginning rfl rfl (fun _ _ _ _ _ _ us hl => len2 us hl (fun _ _ => rfl)) fun f cdv A outer sh H E hr =>
    have nd : (cxOf CX0 P w K mg base ["_law_x", "_law_base", "_law_xs", "_law_bits_here", "_law_at"] "_law_beginning" (defScope s_l_beginning) f cdv A outer sh H E).nox.N.Nodup := sc_l_beginning.nd
    (pdb_cons (pds_set (i := 2) nd rfl (by first | exact Or.inl rfl | exact Or.inr rfl) (pd_callF G_l_stream (hr.mono (by decide)) rfl (pda_cons (pd_var (pv 0)) (pda_cons pd_int pda_nil)))) (pdb_cons (pds_set (i := 3) nd rfl (by first | exact Or.inl rfl | exact Or.inr rfl) (pd_sl (pd_callF G_l_bits (hr.mono (by decide)) rfl (pda_cons (pd_var (pv 1)) (pda_cons pd_int pda_nil))) pdo_none (pdo_some (pd_op opD_mod (pd_ix (pd_var (pv 2)) pd_int) pd_int)))) (pdb_cons (pds_if (PDW.pt (pdw_and (pdt_cmp (opD_eq hr.units) (pd_op opD_mod (pd_ix (pd_var (pv 2)) pd_int) pd_int) pd_int (nomark _)) (pdw_and1 (pdt_cmp (opD_ne hr.units) (pd_var (pv 3)) (pd_lst pda_nil) (nomark _))))) (pdb_cons (pds_set (i := 4) nd rfl (by first | exact Or.inl rfl | exact Or.inr rfl) (pd_ix (pd_lst (pda_cons (pd_op opD_sub (pd_callB callD_len rfl b_len PySem.boot_len (pda_cons (pd_var (pv 3)) pda_nil)) pd_int) (pda_cons (pd_op opD_mod (pd_ix (pd_var (pv 2)) pd_int) (pd_callB callD_len rfl b_len PySem.boot_len (pda_cons (pd_var (pv 3)) pda_nil))) pda_nil))) (pd_op opD_mod (pd_op opD_div (pd_ix (pd_var (pv 2)) pd_int) pd_int) pd_int))) (pdb_one (pds_set (i := 3) nd rfl (by first | exact Or.inl rfl | exact Or.inr rfl) (pd_op opD_add (pd_op opD_add (pd_sl (pd_var (pv 3)) pdo_none (pdo_some (pd_var (pv 4)))) (pd_lst (pda_cons (pd_op opD_sub pd_int (pd_ix (pd_var (pv 3)) (pd_var (pv 4)))) pda_nil))) (pd_sl (pd_var (pv 3)) (pdo_some (pd_op opD_add (pd_var (pv 4)) pd_int)) pdo_none))))) pdb_nil) (pdb_cons (pds_if (pdt_cmp (opD_eq hr.units) (pd_op opD_mod (pd_ix (pd_var (pv 2)) pd_int) pd_int) pd_int (nomark _)) (pdb_one (pds_set (i := 3) nd rfl (by first | exact Or.inl rfl | exact Or.inr rfl) (pd_op opD_add (pd_sl (pd_var (pv 3)) pdo_none (pdo_some (pd_op opD_mod (pd_ix (pd_var (pv 2)) pd_int) (pd_op opD_add (pd_callB callD_len rfl b_len PySem.boot_len (pda_cons (pd_var (pv 3)) pda_nil)) pd_int)))) (pd_sl (pd_callF G_l_bits (hr.mono (by decide)) rfl (pda_cons (pd_ix (pd_var (pv 2)) pd_int) (pda_cons (pd_op opD_sub pd_int (pd_op opD_mod (pd_ix (pd_var (pv 2)) pd_int) pd_int)) pda_nil))) pdo_none (pdo_some (pd_op opD_mod (pd_ix (pd_var (pv 2)) pd_int) pd_int)))))) pdb_nil) (pdb_cons (pds_if (pdt_cmp (opD_eq hr.units) (pd_op opD_mod (pd_ix (pd_var (pv 2)) pd_int) pd_int) pd_int (nomark _)) (pdb_one (pds_set (i := 3) nd rfl (by first | exact Or.inl rfl | exact Or.inr rfl) (pd_op opD_mul (pd_lst (pda_cons (pd_ix (pd_lst (pda_cons pd_int (pda_cons pd_int pda_nil))) (pd_op opD_mod (pd_ix (pd_var (pv 2)) pd_int) pd_int)) pda_nil)) (pd_callB callD_len rfl b_len PySem.boot_len (pda_cons (pd_var (pv 3)) pda_nil))))) pdb_nil) (pdb_one (pds_ret (pd_tup (pda_cons (pd_callF G_l_number (hr.mono (by decide)) rfl (pda_cons (pd_var (pv 3)) pda_nil)) (pda_cons (pd_callB callD_len rfl b_len PySem.boot_len (pda_cons (pd_var (pv 3)) pda_nil)) pda_nil))))))))))
theorem sc_l_picked : FnScope ["_law_x", "_law_rows", "_law_base", "_law_xs", "_law_bits_here", "_law_size"] ["_law_x", "_law_rows", "_law_base"] (defScope s_l_picked) := ⟨rfl, rfl, rfl, by decide +kernel, rfl, by decide +kernel, by decide +kernel⟩
theorem ok_l_picked (T : TF K mg "_law_picked" s_l_picked) (b_int : mg "int" = none) (b_len : mg "len" = none) (b_max : mg "max" = none) (G_l_stream : Fn P w K mg base C 1 "_law_stream" d_l_stream) (G_l_beginning : Fn P w K mg base C 2 "_law_beginning" d_l_beginning) : Fn P w K mg base C 3 "_law_picked" d_l_picked :=
  fn_F T sc_l_picked rfl rfl (fun _ _ _ _ _ _ us hl => len3 us hl (fun _ _ _ => rfl)) fun f cdv A outer sh H E hr =>
    have nd : (cxOf CX0 P w K mg base ["_law_x", "_law_rows", "_law_base", "_law_xs", "_law_bits_here", "_law_size"] "_law_picked" (defScope s_l_picked) f cdv A outer sh H E).nox.N.Nodup := sc_l_picked.nd
    (pdb_cons (pds_set (i := 3) nd rfl (by first | exact Or.inl rfl | exact Or.inr rfl) (pd_callF G_l_stream (hr.mono (by decide)) rfl (pda_cons (pd_var (pv 0)) (pda_cons pd_int pda_nil)))) (pdb_cons (pds_if (PDW.pt (pdw_or (pdt_cmp (opD_eq hr.units) (pd_var (pv 1)) (pd_lst pda_nil) (nomark _)) (pdw_or1 (pdt_cmp (opD_eq hr.units) (pd_op opD_mod (pd_ix (pd_var (pv 3)) pd_int) pd_int) pd_int (nomark _))))) (pdb_one (pds_ret (pd_callF G_l_beginning (hr.mono (by decide)) rfl (pda_cons (pd_ix (pd_var (pv 3)) pd_int) (pda_cons (pd_var (pv 2)) pda_nil))))) pdb_nil) (pdb_cons (pds_asg (pd_ix (pd_ix (pd_var (pv 1)) (pd_op opD_mod (pd_ix (pd_var (pv 3)) pd_int) (pd_callB callD_len rfl b_len PySem.boot_len (pda_cons (pd_var (pv 1)) pda_nil)))) pd_int) (pdg_tup rfl (pdgs_cons (i := 4) nd rfl (by first | exact Or.inl rfl | exact Or.inr rfl) (pdgs_cons (i := 5) nd rfl (by first | exact Or.inl rfl | exact Or.inr rfl) pdgs_nil)))) (pdb_cons (pds_if (pdt_cmp (opD_eq hr.units) (pd_op opD_mod (pd_ix (pd_var (pv 3)) pd_int) pd_int) pd_int (nomark _)) (pdb_one (pds_ret (pd_tup (pda_cons (pd_var (pv 4)) (pda_cons (pd_var (pv 5)) pda_nil))))) pdb_nil) (pdb_cons (pds_if (pdt_cmp (opD_eq hr.units) (pd_op opD_mod (pd_op opD_div (pd_ix (pd_var (pv 3)) pd_int) pd_int) pd_int) pd_int (nomark _)) (pdb_one (pds_ret (pd_tup (pda_cons (pd_op opD_div (pd_var (pv 4)) pd_int) (pda_cons (pd_callB (callD_max rfl) rfl b_max boot_max (pda_cons pd_int (pda_cons (pd_op opD_sub (pd_var (pv 5)) pd_int) pda_nil))) pda_nil))))) pdb_nil) (pdb_one (pds_ret (pd_ix (pd_lst (pda_cons (pd_tup (pda_cons (pd_op opD_add (pd_op opD_mul pd_int (pd_var (pv 4))) (pd_op opD_mod (pd_ix (pd_var (pv 3)) pd_int) pd_int)) (pda_cons (pd_op opD_add (pd_var (pv 5)) pd_int) pda_nil))) (pda_cons (pd_tup (pda_cons (pd_var (pv 4)) (pda_cons (pd_var (pv 5)) pda_nil))) pda_nil))) (pd_callTy callD_int rfl b_int boot_int (pda_cons (pd_cmp (opD_eq hr.units) (pd_var (pv 5)) pd_int (nomark _)) pda_nil))))))))))
theorem sc_Table_cut : FnScope ["self", "beginning"] ["self", "beginning"] (defScope s_Table_cut) := ⟨rfl, rfl, rfl, by decide +kernel, rfl, by decide +kernel, by decide +kernel⟩
theorem ok_Table_cut {dV : Value} {f : Addr} {fd : FuncData} (F : FunV K "cut" "Table.cut" s_Table_cut dV f fd) (T_Table : ClD K C "Table") (n_Table_thing_by : NoA K C "Table" "thing_by") : FnOk P w K mg base CX0 1 f fd ["self", "beginning"] (spD K C d_Table_cut) :=
  fn_DV F sc_Table_cut rfl rfl fun cdv A outer sh H E hr =>
    have nd : (cxOf CX0 P w K mg base ["self", "beginning"] "Table.cut" (defScope s_Table_cut) f cdv A outer sh H E).nox.N.Nodup := sc_Table_cut.nd
    (pdb_cons (pds_if (pdt_dnotin (hu_of hr) (pd_var (pv 1)) (pd_fld T_Table n_Table_thing_by (pd_var (pv 0)))) (pdb_one pds_never) pdb_nil) (pdb_one (pds_expr (pd_dpop (hu_of hr) (pd_fld T_Table n_Table_thing_by (pd_var (pv 0))) (pd_var (pv 1)) ⟨rfl, rfl, rfl, rfl⟩))))
theorem sc_Table_put : FnScope ["self", "beginning", "thing"] ["self", "beginning", "thing"] (defScope s_Table_put) := ⟨rfl, rfl, rfl, by decide +kernel, rfl, by decide +kernel, by decide +kernel⟩
theorem ok_Table_put {dV : Value} {f : Addr} {fd : FuncData} (F : FunV K "put" "Table.put" s_Table_put dV f fd) (T_Table : ClD K C "Table") (n_Table_thing_by : NoA K C "Table" "thing_by") : FnOk P w K mg base CX0 1 f fd ["self", "beginning", "thing"] (spD K C d_Table_put) :=
  fn_DV F sc_Table_put rfl rfl fun cdv A outer sh H E hr =>
    have nd : (cxOf CX0 P w K mg base ["self", "beginning", "thing"] "Table.put" (defScope s_Table_put) f cdv A outer sh H E).nox.N.Nodup := sc_Table_put.nd
    (pdb_one (pds_dput (hu_of hr) (pd_fld T_Table n_Table_thing_by (pd_var (pv 0))) (pd_var (pv 1)) (pd_var (pv 2))))
theorem sc_l_place : FnScope ["_law_rows", "_law_beginning_here", "_law_at"] ["_law_rows", "_law_beginning_here"] (defScope s_l_place) := ⟨rfl, rfl, rfl, by decide +kernel, rfl, by decide +kernel, by decide +kernel⟩
theorem ok_l_place (T : TF K mg "_law_place" s_l_place) (b_len : mg "len" = none) (b_range : mg "range" = none) : Fn P w K mg base C 1 "_law_place" d_l_place :=
  fn_F T sc_l_place rfl rfl (fun _ _ _ _ _ _ us hl => len2 us hl (fun _ _ => rfl)) fun f cdv A outer sh H E hr =>
    have nd : (cxOf CX0 P w K mg base ["_law_rows", "_law_beginning_here", "_law_at"] "_law_place" (defScope s_l_place) f cdv A outer sh H E).nox.N.Nodup := sc_l_place.nd
    (pdb_cons (pds_for PassesOwn.never rfl (pdi_range1 rfl b_range (pda_cons (pd_callB callD_len rfl b_len PySem.boot_len (pda_cons (pd_var (pv 0)) pda_nil)) pda_nil)) (pdg_name nd rfl (by first | exact Or.inl rfl | exact Or.inr rfl)) (pdb_one (pds_if (pdt_cmp (opD_eq hr.units) (pd_ix (pd_ix (pd_var (pv 0)) (pd_var (pv 2))) pd_int) (pd_var (pv 1)) (nomark _)) (pdb_one (pds_ret (pd_var (pv 2)))) pdb_nil))) (pdb_one (pds_ret pd_non)))
theorem sc_l_put : FnScope ["_law_rows", "_law_beginning_here", "_law_thing", "_law_at"] ["_law_rows", "_law_beginning_here", "_law_thing"] (defScope s_l_put) := ⟨rfl, rfl, rfl, by decide +kernel, rfl, by decide +kernel, by decide +kernel⟩
theorem ok_l_put (T : TF K mg "_law_put" s_l_put) (G_l_place : Fn P w K mg base C 1 "_law_place" d_l_place) : Fn P w K mg base C 2 "_law_put" d_l_put :=
  fn_F T sc_l_put rfl rfl (fun _ _ _ _ _ _ us hl => len3 us hl (fun _ _ _ => rfl)) fun f cdv A outer sh H E hr =>
    have nd : (cxOf CX0 P w K mg base ["_law_rows", "_law_beginning_here", "_law_thing", "_law_at"] "_law_put" (defScope s_l_put) f cdv A outer sh H E).nox.N.Nodup := sc_l_put.nd
    (pdb_cons (pds_set (i := 3) nd rfl (by first | exact Or.inl rfl | exact Or.inr rfl) (pd_callF G_l_place (hr.mono (by decide)) rfl (pda_cons (pd_var (pv 0)) (pda_cons (pd_var (pv 1)) pda_nil)))) (pdb_cons (pds_if (pdt_cmp opD_is (pd_var (pv 3)) pd_non (nomark _)) (pdb_one (pds_ret (pd_op opD_add (pd_var (pv 0)) (pd_lst (pda_cons (pd_tup (pda_cons (pd_var (pv 1)) (pda_cons (pd_var (pv 2)) pda_nil))) pda_nil))))) pdb_nil) (pdb_one (pds_ret (pd_op opD_add (pd_op opD_add (pd_sl (pd_var (pv 0)) pdo_none (pdo_some (pd_var (pv 3)))) (pd_lst (pda_cons (pd_tup (pda_cons (pd_var (pv 1)) (pda_cons (pd_var (pv 2)) pda_nil))) pda_nil))) (pd_sl (pd_var (pv 0)) (pdo_some (pd_op opD_add (pd_var (pv 3)) pd_int)) pdo_none))))))
theorem sc_least : FnScope ["beginning"] ["beginning"] (defScope s_least) := ⟨rfl, rfl, rfl, by decide +kernel, rfl, by decide +kernel, by decide +kernel⟩
theorem ok_least (T : TF K mg "least" s_least) {t_WIDTH : Tok} (c_WIDTH : mg "WIDTH" = some (.int 16 t_WIDTH)) : Fn P w K mg base C 1 "least" d_least :=
  fn_F T sc_least rfl rfl (fun _ _ _ _ _ _ us hl => len1 us hl (fun _ => rfl)) fun f cdv A outer sh H E hr =>
    have nd : (cxOf CX0 P w K mg base ["beginning"] "least" (defScope s_least) f cdv A outer sh H E).nox.N.Nodup := sc_least.nd
    (pdb_one (pds_ret (pd_op opD_shr (pd_op opD_shl (pd_ix (pd_var (pv 0)) pd_int) (pd_globI rfl c_WIDTH)) (pd_ix (pd_var (pv 0)) pd_int))))
theorem sc_place_in_order : FnScope ["beginning"] ["beginning"] (defScope s_place_in_order) := ⟨rfl, rfl, rfl, by decide +kernel, rfl, by decide +kernel, by decide +kernel⟩
theorem ok_place_in_order (T : TF K mg "place_in_order" s_place_in_order) (G_least : Fn P w K mg base C 1 "least" d_least) : Fn P w K mg base C 2 "place_in_order" d_place_in_order :=
  fn_F T sc_place_in_order rfl rfl (fun _ _ _ _ _ _ us hl => len1 us hl (fun _ => rfl)) fun f cdv A outer sh H E hr =>
    have nd : (cxOf CX0 P w K mg base ["beginning"] "place_in_order" (defScope s_place_in_order) f cdv A outer sh H E).nox.N.Nodup := sc_place_in_order.nd
    (pdb_one (pds_ret (pd_tup (pda_cons (pd_callF G_least (hr.mono (by decide)) rfl (pda_cons (pd_var (pv 0)) pda_nil)) (pda_cons (pd_ix (pd_var (pv 0)) pd_int) pda_nil)))))
theorem sc_in_order : FnScope ["beginnings"] ["beginnings"] (defScope s_in_order) := ⟨rfl, rfl, rfl, by decide +kernel, rfl, by decide +kernel, by decide +kernel⟩
theorem ok_in_order (T : TF K mg "in_order" s_in_order) (b_sorted : mg "sorted" = none) (G_place_in_order : Fn P w K mg base C 2 "place_in_order" d_place_in_order) : Fn P w K mg base C 5 "in_order" d_in_order :=
  fn_F T sc_in_order rfl rfl (fun _ _ _ _ _ _ us hl => len1 us hl (fun _ => rfl)) fun f cdv A outer sh H E hr =>
    have nd : (cxOf CX0 P w K mg base ["beginnings"] "in_order" (defScope s_in_order) f cdv A outer sh H E).nox.N.Nodup := sc_in_order.nd
    (pdb_one (pds_ret (pd_sortK G_place_in_order (hr.mono (by decide)) rfl rfl b_sorted boot_sorted (pd_var (pv 0)))))
theorem sc_Table_rows : FnScope ["self"] ["self"] (defScope s_Table_rows) := ⟨rfl, rfl, rfl, by decide +kernel, rfl, by decide +kernel, by decide +kernel⟩
theorem ok_Table_rows {dV : Value} {f : Addr} {fd : FuncData} (F : FunV K "rows" "Table.rows" s_Table_rows dV f fd) (T_Table : ClD K C "Table") (n_Table_thing_by : NoA K C "Table" "thing_by") (b_list : mg "list" = none) (G_in_order : Fn P w K mg base C 5 "in_order" d_in_order) : FnOk P w K mg base CX0 6 f fd ["self"] (spL K C d_Table_rows) :=
  fn_LV F sc_Table_rows rfl rfl rfl fun cdv A outer sh H E hr =>
    have nd : (cxOf CX0 P w K mg base ["self"] "Table.rows" (defScope s_Table_rows) f cdv A outer sh H E).nox.N.Nodup := sc_Table_rows.nd
    (pdn_comp rfl (compOk_of (oN := ["self"]) (osc := defScope s_Table_rows) (N := ["beginning", "self"]) (μ := [none, some 0]) rfl rfl (by decide +kernel)) (pdi_list (pd_callF G_in_order (hr.mono (by decide)) rfl (pda_cons (pd_dlist hr.hd rfl b_list boot_list (pd_fld T_Table n_Table_thing_by (pd_var (pv 0)))) pda_nil))) (fun _ _ _ _ => (pdg_name (show List.Nodup (["beginning", "self"] : List Str) by decide +kernel) rfl (by first | exact Or.inl rfl | exact Or.inr rfl))) (fun _ _ _ _ => pdts_nil) (fun _ _ _ _ => (pd_tup (pda_cons (pd_var (pv 0)) (pda_cons (pd_dget (hu_of hr) (pd_fld T_Table n_Table_thing_by (pd_var (pv 1))) (pd_var (pv 0)) (fun _ _ => rfl)) pda_nil)))))
theorem sc_l_place_of : FnScope ["_law_beginning_here", "_law_low", "_law_turn"] ["_law_beginning_here"] (defScope s_l_place_of) := ⟨rfl, rfl, rfl, by decide +kernel, rfl, by decide +kernel, by decide +kernel⟩
theorem ok_l_place_of (T : TF K mg "_law_place_of" s_l_place_of) (b_range : mg "range" = none) : Fn P w K mg base C 1 "_law_place_of" d_l_place_of :=
  fn_F T sc_l_place_of rfl rfl (fun _ _ _ _ _ _ us hl => len1 us hl (fun _ => rfl)) fun f cdv A outer sh H E hr =>
    have nd : (cxOf CX0 P w K mg base ["_law_beginning_here", "_law_low", "_law_turn"] "_law_place_of" (defScope s_l_place_of) f cdv A outer sh H E).nox.N.Nodup := sc_l_place_of.nd
    (pdb_cons (pds_set (i := 1) nd rfl (by first | exact Or.inl rfl | exact Or.inr rfl) (pd_ix (pd_var (pv 0)) pd_int)) (pdb_cons (pds_for PassesOwn.never rfl (pdi_range1 rfl b_range (pda_cons (pd_op opD_sub pd_int (pd_ix (pd_var (pv 0)) pd_int)) pda_nil)) (pdg_name nd rfl (by first | exact Or.inl rfl | exact Or.inr rfl)) (pdb_one (pds_set (i := 1) nd rfl (by first | exact Or.inl rfl | exact Or.inr rfl) (pd_op opD_mul pd_int (pd_var (pv 1)))))) (pdb_one (pds_ret (pd_tup (pda_cons (pd_var (pv 1)) (pda_cons (pd_ix (pd_var (pv 0)) pd_int) pda_nil)))))))
theorem sc_l_sorted : FnScope ["_law_rows", "_law_places"] ["_law_rows"] (defScope s_l_sorted) := ⟨rfl, rfl, rfl, by decide +kernel, rfl, by decide +kernel, by decide +kernel⟩
theorem ok_l_sorted (T : TF K mg "_law_sorted" s_l_sorted) (b_len : mg "len" = none) (b_range : mg "range" = none) (b_sorted : mg "sorted" = none) (G_l_place_of : Fn P w K mg base C 1 "_law_place_of" d_l_place_of) : Fn P w K mg base C 2 "_law_sorted" d_l_sorted :=
  fn_F T sc_l_sorted rfl rfl (fun _ _ _ _ _ _ us hl => len1 us hl (fun _ => rfl)) fun f cdv A outer sh H E hr =>
    have nd : (cxOf CX0 P w K mg base ["_law_rows", "_law_places"] "_law_sorted" (defScope s_l_sorted) f cdv A outer sh H E).nox.N.Nodup := sc_l_sorted.nd
    (pdb_cons (pds_set (i := 1) nd rfl (by first | exact Or.inl rfl | exact Or.inr rfl) (pd_sort hr rfl b_sorted boot_sorted (pd_compN rfl (compOk_of (oN := ["_law_rows", "_law_places"]) (osc := defScope s_l_sorted) (N := ["_law_at", "_law_rows"]) (μ := [none, some 0]) rfl rfl (by decide +kernel)) (pdi_range1 rfl b_range (pda_cons (pd_callB callD_len rfl b_len PySem.boot_len (pda_cons (pd_var (pv 0)) pda_nil)) pda_nil)) (fun _ _ _ _ => (pdg_name (show List.Nodup (["_law_at", "_law_rows"] : List Str) by decide +kernel) rfl (by first | exact Or.inl rfl | exact Or.inr rfl))) (fun _ _ _ _ => pdts_nil) (fun _ _ _ _ => (pd_tup (pda_cons (pd_callF G_l_place_of (hr.mono (by decide)) rfl (pda_cons (pd_ix (pd_ix (pd_var (pv 1)) (pd_var (pv 0))) pd_int) pda_nil)) (pda_cons (pd_var (pv 0)) pda_nil))))))) (pdb_one (pds_ret (pd_compN rfl (compOk_of (oN := ["_law_rows", "_law_places"]) (osc := defScope s_l_sorted) (N := ["_law_place_here", "_law_at", "_law_rows"]) (μ := [none, none, some 0]) rfl rfl (by decide +kernel)) (pdi_list (pd_var (pv 1))) (fun _ _ _ _ => (pdg_tup rfl (pdgs_cons (i := 0) (show List.Nodup (["_law_place_here", "_law_at", "_law_rows"] : List Str) by decide +kernel) rfl (by first | exact Or.inl rfl | exact Or.inr rfl) (pdgs_cons (i := 1) (show List.Nodup (["_law_place_here", "_law_at", "_law_rows"] : List Str) by decide +kernel) rfl (by first | exact Or.inl rfl | exact Or.inr rfl) pdgs_nil)))) (fun _ _ _ _ => pdts_nil) (fun _ _ _ _ => (pd_ix (pd_var (pv 2)) (pd_var (pv 1))))))))
theorem sc_l_cell_at : FnScope ["_law_script", "_law_k"] ["_law_script", "_law_k"] (defScope s_l_cell_at) := ⟨rfl, rfl, rfl, by decide +kernel, rfl, by decide +kernel, by decide +kernel⟩
theorem ok_l_cell_at (T : TF K mg "_law_cell_at" s_l_cell_at) (b_len : mg "len" = none) : Fn P w K mg base C 1 "_law_cell_at" d_l_cell_at :=
  fn_F T sc_l_cell_at rfl rfl (fun _ _ _ _ _ _ us hl => len2 us hl (fun _ _ => rfl)) fun f cdv A outer sh H E hr =>
    have nd : (cxOf CX0 P w K mg base ["_law_script", "_law_k"] "_law_cell_at" (defScope s_l_cell_at) f cdv A outer sh H E).nox.N.Nodup := sc_l_cell_at.nd
    (pdb_cons (pds_if (pdt_cmp opD_lt (pd_var (pv 1)) (pd_callB callD_len rfl b_len PySem.boot_len (pda_cons (pd_var (pv 0)) pda_nil)) (nomark _)) (pdb_one (pds_ret (pd_ix (pd_var (pv 0)) (pd_var (pv 1))))) pdb_nil) (pdb_one (pds_ret pd_int)))
theorem sc_l_thing_by : FnScope ["_law_x"] ["_law_x"] (defScope s_l_thing_by) := ⟨rfl, rfl, rfl, by decide +kernel, rfl, by decide +kernel, by decide +kernel⟩
theorem ok_l_thing_by (T : TF K mg "_law_thing_by" s_l_thing_by) : Fn P w K mg base C 1 "_law_thing_by" d_l_thing_by :=
  fn_F T sc_l_thing_by rfl rfl (fun _ _ _ _ _ _ us hl => len1 us hl (fun _ => rfl)) fun f cdv A outer sh H E hr =>
    have nd : (cxOf CX0 P w K mg base ["_law_x"] "_law_thing_by" (defScope s_l_thing_by) f cdv A outer sh H E).nox.N.Nodup := sc_l_thing_by.nd
    (pdb_one (pds_ret (pd_ix (pd_lst (pda_cons pd_non (pda_cons pd_int (pda_cons (pd_op opD_mod (pd_op opD_div (pd_var (pv 0)) pd_int) pd_int) (pda_cons (pd_op opD_mod (pd_op opD_div (pd_var (pv 0)) pd_int) pd_int) (pda_cons (pd_op opD_sub (pd_neg pd_int) (pd_op opD_mod (pd_op opD_div (pd_var (pv 0)) pd_int) pd_int)) (pda_cons (pd_op opD_mul (pd_var (pv 0)) (pd_var (pv 0))) (pda_cons pd_int (pda_cons (pd_op opD_mod (pd_op opD_div (pd_var (pv 0)) pd_int) pd_int) pda_nil))))))))) (pd_op opD_mod (pd_var (pv 0)) pd_int))))
theorem sc_l_address : FnScope ["_law_x", "_law_base", "_law_xs", "_law_bits_here", "_law_at"] ["_law_x", "_law_base"] (defScope s_l_address) := ⟨rfl, rfl, rfl, by decide +kernel, rfl, by decide +kernel, by decide +kernel⟩
theorem ok_l_address (T : TF K mg "_law_address" s_l_address) (b_max : mg "max" = none) (G_l_stream : Fn P w K mg base C 1 "_law_stream" d_l_stream) (G_l_bits : Fn P w K mg base C 1 "_law_bits" d_l_bits) (G_l_number : Fn P w K mg base C 1 "_law_number" d_l_number) : Fn P w K mg base C 2 "_law_address" d_l_address :=
  fn_F T sc_l_address rfl rfl (fun _ _ _ _ _ _ us hl => len2 us hl (fun _ _ => rfl)) fun f cdv A outer sh H E hr =>
    have nd : (cxOf CX0 P w K mg base ["_law_x", "_law_base", "_law_xs", "_law_bits_here", "_law_at"] "_law_address" (defScope s_l_address) f cdv A outer sh H E).nox.N.Nodup := sc_l_address.nd
    (pdb_cons (pds_set (i := 2) nd rfl (by first | exact Or.inl rfl | exact Or.inr rfl) (pd_callF G_l_stream (hr.mono (by decide)) rfl (pda_cons (pd_var (pv 0)) (pda_cons pd_int pda_nil)))) (pdb_cons (pds_if (pdt_cmp (opD_eq hr.units) (pd_op opD_mod (pd_ix (pd_var (pv 2)) pd_int) pd_int) pd_int (nomark _)) (pdb_one (pds_ret (pd_op opD_mod (pd_ix (pd_var (pv 2)) pd_int) pd_int))) pdb_nil) (pdb_cons (pds_if (pdt_cmp (opD_eq hr.units) (pd_op opD_mod (pd_ix (pd_var (pv 2)) pd_int) pd_int) pd_int (nomark _)) (pdb_one (pds_ret (pd_ix (pd_lst (pda_cons pd_int (pda_cons pd_int (pda_cons pd_int (pda_cons pd_int pda_nil))))) (pd_op opD_mod (pd_ix (pd_var (pv 2)) pd_int) pd_int)))) pdb_nil) (pdb_cons (pds_set (i := 3) nd rfl (by first | exact Or.inl rfl | exact Or.inr rfl) (pd_callF G_l_bits (hr.mono (by decide)) rfl (pda_cons (pd_var (pv 1)) (pda_cons pd_int pda_nil)))) (pdb_cons (pds_set (i := 4) nd rfl (by first | exact Or.inl rfl | exact Or.inr rfl) (pd_op opD_mod (pd_ix (pd_var (pv 2)) pd_int) pd_int)) (pdb_one (pds_ret (pd_callF G_l_number (hr.mono (by decide)) rfl (pda_cons (pd_op opD_add (pd_op opD_add (pd_sl (pd_var (pv 3)) pdo_none (pdo_some (pd_var (pv 4)))) (pd_compN rfl (compOk_of (oN := ["_law_x", "_law_base", "_law_xs", "_law_bits_here", "_law_at"]) (osc := defScope s_l_address) (N := ["_law_bit"]) (μ := [none]) rfl rfl (by decide +kernel)) (pdi_list (pd_sl (pd_var (pv 3)) (pdo_some (pd_var (pv 4))) (pdo_some (pd_op opD_add (pd_var (pv 4)) pd_int)))) (fun _ _ _ _ => (pdg_name (show List.Nodup (["_law_bit"] : List Str) by decide +kernel) rfl (by first | exact Or.inl rfl | exact Or.inr rfl))) (fun _ _ _ _ => pdts_nil) (fun _ _ _ _ => (pd_op opD_sub pd_int (pd_var (pv 0)))))) (pd_sl (pd_callF G_l_bits (hr.mono (by decide)) rfl (pda_cons (pd_ix (pd_var (pv 2)) pd_int) (pda_cons pd_int pda_nil))) pdo_none (pdo_some (pd_callB (callD_max rfl) rfl b_max boot_max (pda_cons pd_int (pda_cons (pd_op opD_sub pd_int (pd_var (pv 4))) pda_nil)))))) pda_nil)))))))))
theorem sc_within : FnScope ["one", "other", "spare"] ["one", "other"] (defScope s_within) := ⟨rfl, rfl, rfl, by decide +kernel, rfl, by decide +kernel, by decide +kernel⟩
theorem ok_within (T : TF K mg "within" s_within) : Fn P w K mg base C 1 "within" d_within :=
  fn_F T sc_within rfl rfl (fun _ _ _ _ _ _ us hl => len2 us hl (fun _ _ => rfl)) fun f cdv A outer sh H E hr =>
    have nd : (cxOf CX0 P w K mg base ["one", "other", "spare"] "within" (defScope s_within) f cdv A outer sh H E).nox.N.Nodup := sc_within.nd
    (pdb_cons (pds_set (i := 2) nd rfl (by first | exact Or.inl rfl | exact Or.inr rfl) (pd_op opD_sub (pd_ix (pd_var (pv 0)) pd_int) (pd_ix (pd_var (pv 1)) pd_int))) (pdb_one (pds_ret (pd_and (pd_cmp opD_ge (pd_var (pv 2)) pd_int (nomark _)) (pd_one (pd_cmp (opD_eq hr.units) (pd_op opD_shr (pd_ix (pd_var (pv 0)) pd_int) (pd_var (pv 2))) (pd_ix (pd_var (pv 1)) pd_int) (nomark _)))))))
theorem sc_Table_under : FnScope ["self", "beginning"] ["self", "beginning"] (defScope s_Table_under) := ⟨rfl, rfl, rfl, by decide +kernel, rfl, by decide +kernel, by decide +kernel⟩
theorem ok_Table_under {dV : Value} {f : Addr} {fd : FuncData} (F : FunV K "under" "Table.under" s_Table_under dV f fd) (M_Table_rows_0 : Mt P w K mg base C 6 "Table" "rows" d_Table_rows []) (G_within : Fn P w K mg base C 1 "within" d_within) : FnOk P w K mg base CX0 7 f fd ["self", "beginning"] (spL K C d_Table_under) :=
  fn_LV F sc_Table_under rfl rfl rfl fun cdv A outer sh H E hr =>
    have nd : (cxOf CX0 P w K mg base ["self", "beginning"] "Table.under" (defScope s_Table_under) f cdv A outer sh H E).nox.N.Nodup := sc_Table_under.nd
    (pdn_comp rfl (compOk_of (oN := ["self", "beginning"]) (osc := defScope s_Table_under) (N := ["row", "beginning"]) (μ := [none, some 1]) rfl rfl (by decide +kernel)) (pdi_list (pd_meth0 M_Table_rows_0 (hr.mono (by decide)) (pd_var (pv 0)))) (fun _ _ _ _ => (pdg_name (show List.Nodup (["row", "beginning"] : List Str) by decide +kernel) rfl (by first | exact Or.inl rfl | exact Or.inr rfl))) (fun _ _ _ _ => (pdts_one (pdt_val (pd_callF G_within (hr.mono (by decide)) rfl (pda_cons (pd_ix (pd_var (pv 0)) pd_int) (pda_cons (pd_var (pv 1)) pda_nil)))))) (fun _ _ _ _ => (pd_var (pv 0))))
theorem sc_l_under : FnScope ["_law_rows", "_law_beginning_here", "_law_low", "_law_size", "_law_high", "_law_found", "_law_row"] ["_law_rows", "_law_beginning_here"] (defScope s_l_under) := ⟨rfl, rfl, rfl, by decide +kernel, rfl, by decide +kernel, by decide +kernel⟩
theorem ok_l_under (T : TF K mg "_law_under" s_l_under) (G_l_place_of : Fn P w K mg base C 1 "_law_place_of" d_l_place_of) (G_l_sorted : Fn P w K mg base C 2 "_law_sorted" d_l_sorted) : Fn P w K mg base C 3 "_law_under" d_l_under :=
  fn_F T sc_l_under rfl rfl (fun _ _ _ _ _ _ us hl => len2 us hl (fun _ _ => rfl)) fun f cdv A outer sh H E hr =>
    have nd : (cxOf CX0 P w K mg base ["_law_rows", "_law_beginning_here", "_law_low", "_law_size", "_law_high", "_law_found", "_law_row"] "_law_under" (defScope s_l_under) f cdv A outer sh H E).nox.N.Nodup := sc_l_under.nd
    (pdb_cons (pds_asg (pd_callF G_l_place_of (hr.mono (by decide)) rfl (pda_cons (pd_var (pv 1)) pda_nil)) (pdg_tup rfl (pdgs_cons (i := 2) nd rfl (by first | exact Or.inl rfl | exact Or.inr rfl) (pdgs_cons (i := 3) nd rfl (by first | exact Or.inl rfl | exact Or.inr rfl) pdgs_nil)))) (pdb_cons (pds_set (i := 4) nd rfl (by first | exact Or.inl rfl | exact Or.inr rfl) (pd_ix (pd_callF G_l_place_of (hr.mono (by decide)) rfl (pda_cons (pd_tup (pda_cons (pd_op opD_add (pd_ix (pd_var (pv 1)) pd_int) pd_int) (pda_cons (pd_var (pv 3)) pda_nil))) pda_nil)) pd_int)) (pdb_cons (pds_own (i := 5) nd rfl (by first | exact Or.inl rfl | exact Or.inr rfl) pda_nil) (pdb_cons (pds_for PassesOwn.never rfl (pdi_list (pd_callF G_l_sorted (hr.mono (by decide)) rfl (pda_cons (pd_var (pv 0)) pda_nil))) (pdg_name nd rfl (by first | exact Or.inl rfl | exact Or.inr rfl)) (pdb_one (pds_if (PDW.pt (pdw_and (pdt_chain opD_le opD_lt (pd_var (pv 2)) (pd_ix (pd_callF G_l_place_of (hr.mono (by decide)) rfl (pda_cons (pd_ix (pd_var (pv 6)) pd_int) pda_nil)) pd_int) (pd_var (pv 4))) (pdw_and1 (pdt_cmp opD_ge (pd_ix (pd_ix (pd_var (pv 6)) pd_int) pd_int) (pd_var (pv 3)) (nomark _))))) (pdb_one (pds_app (pv 5) (pd_var (pv 6)))) pdb_nil))) (pdb_ghost (ghost_frz 5) (pdb_one (pds_ret (pd_var (pv 5)))))))))
theorem sc_Table_longest : FnScope ["self", "address", "most", "size", "beginning"] ["self", "address", "most"] (defScope s_Table_longest) := ⟨rfl, rfl, rfl, by decide +kernel, rfl, by decide +kernel, by decide +kernel⟩
theorem ok_Table_longest {dV : Value} {f : Addr} {fd : FuncData} (F : FunV K "longest" "Table.longest" s_Table_longest dV f fd) (T_Table : ClD K C "Table") (n_Table_thing_by : NoA K C "Table" "thing_by") {t_WIDTH : Tok} (c_WIDTH : mg "WIDTH" = some (.int 16 t_WIDTH)) (b_min : mg "min" = none) (b_range : mg "range" = none) : FnOk P w K mg base CX0 1 f fd ["self", "address", "most"] (spD K C d_Table_longest) :=
  fn_DV F sc_Table_longest rfl rfl fun cdv A outer sh H E hr =>
    have nd : (cxOf CX0 P w K mg base ["self", "address", "most", "size", "beginning"] "Table.longest" (defScope s_Table_longest) f cdv A outer sh H E).nox.N.Nodup := sc_Table_longest.nd
    (pdb_cons (pds_for PassesOwn.never rfl (pdi_rangeD rfl b_range (pda_cons (pd_callB (callD_min rfl) rfl b_min boot_min (pda_cons (pd_var (pv 2)) (pda_cons (pd_globI rfl c_WIDTH) pda_nil))) (pda_cons (pd_neg pd_int) (pda_cons (pd_neg pd_int) pda_nil)))) (pdg_name nd rfl (by first | exact Or.inl rfl | exact Or.inr rfl)) (pdb_cons (pds_set (i := 4) nd rfl (by first | exact Or.inl rfl | exact Or.inr rfl) (pd_tup (pda_cons (pd_op opD_shr (pd_var (pv 1)) (pd_op opD_sub (pd_globI rfl c_WIDTH) (pd_var (pv 3)))) (pda_cons (pd_var (pv 3)) pda_nil)))) (pdb_one (pds_if (pdt_din (hu_of hr) (pd_var (pv 4)) (pd_fld T_Table n_Table_thing_by (pd_var (pv 0)))) (pdb_one (pds_ret (pd_tup (pda_cons (pd_var (pv 4)) (pda_cons (pd_dget (hu_of hr) (pd_fld T_Table n_Table_thing_by (pd_var (pv 0))) (pd_var (pv 4)) (fun _ _ => rfl)) pda_nil))))) pdb_nil)))) (pdb_one (pds_ret pd_non)))
theorem sc_l_longest : FnScope ["_law_rows", "_law_address_here", "_law_most", "_law_found", "_law_row", "_law_low", "_law_high"] ["_law_rows", "_law_address_here", "_law_most"] (defScope s_l_longest) := ⟨rfl, rfl, rfl, by decide +kernel, rfl, by decide +kernel, by decide +kernel⟩
theorem ok_l_longest (T : TF K mg "_law_longest" s_l_longest) (G_l_place_of : Fn P w K mg base C 1 "_law_place_of" d_l_place_of) : Fn P w K mg base C 2 "_law_longest" d_l_longest :=
  fn_F T sc_l_longest rfl rfl (fun _ _ _ _ _ _ us hl => len3 us hl (fun _ _ _ => rfl)) fun f cdv A outer sh H E hr =>
    have nd : (cxOf CX0 P w K mg base ["_law_rows", "_law_address_here", "_law_most", "_law_found", "_law_row", "_law_low", "_law_high"] "_law_longest" (defScope s_l_longest) f cdv A outer sh H E).nox.N.Nodup := sc_l_longest.nd
    (pdb_cons (pds_set (i := 3) nd rfl (by first | exact Or.inl rfl | exact Or.inr rfl) pd_non) (pdb_cons (pds_for PassesOwn.never rfl (pdi_list (pd_var (pv 0))) (pdg_name nd rfl (by first | exact Or.inl rfl | exact Or.inr rfl)) (pdb_cons (pds_set (i := 5) nd rfl (by first | exact Or.inl rfl | exact Or.inr rfl) (pd_ix (pd_callF G_l_place_of (hr.mono (by decide)) rfl (pda_cons (pd_ix (pd_var (pv 4)) pd_int) pda_nil)) pd_int)) (pdb_cons (pds_set (i := 6) nd rfl (by first | exact Or.inl rfl | exact Or.inr rfl) (pd_ix (pd_callF G_l_place_of (hr.mono (by decide)) rfl (pda_cons (pd_tup (pda_cons (pd_op opD_add (pd_ix (pd_ix (pd_var (pv 4)) pd_int) pd_int) pd_int) (pda_cons (pd_ix (pd_ix (pd_var (pv 4)) pd_int) pd_int) pda_nil))) pda_nil)) pd_int)) (pdb_one (pds_if (PDW.pt (pdw_and (pdt_cmp opD_le (pd_ix (pd_ix (pd_var (pv 4)) pd_int) pd_int) (pd_var (pv 2)) (nomark _)) (pdw_and (pdt_chain opD_le opD_lt (pd_var (pv 5)) (pd_var (pv 1)) (pd_var (pv 6))) (pdw_and1 (PDW.pt (pdw_or (pdt_cmp opD_is (pd_var (pv 3)) pd_non (nomark _)) (pdw_or1 (pdt_cmp opD_gt (pd_ix (pd_ix (pd_var (pv 4)) pd_int) pd_int) (pd_ix (pd_ix (pd_var (pv 3)) pd_int) pd_int) (nomark _))))))))) (pdb_one (pds_set (i := 3) nd rfl (by first | exact Or.inl rfl | exact Or.inr rfl) (pd_var (pv 4)))) pdb_nil))))) (pdb_one (pds_ret (pd_var (pv 3))))))
theorem sc_Table_count : FnScope ["self"] ["self"] (defScope s_Table_count) := ⟨rfl, rfl, rfl, by decide +kernel, rfl, by decide +kernel, by decide +kernel⟩
theorem ok_Table_count {dV : Value} {f : Addr} {fd : FuncData} (F : FunV K "count" "Table.count" s_Table_count dV f fd) (T_Table : ClD K C "Table") (n_Table_thing_by : NoA K C "Table" "thing_by") (b_len : mg "len" = none) : FnOk P w K mg base CX0 1 f fd ["self"] (spD K C d_Table_count) :=
  fn_DV F sc_Table_count rfl rfl fun cdv A outer sh H E hr =>
    have nd : (cxOf CX0 P w K mg base ["self"] "Table.count" (defScope s_Table_count) f cdv A outer sh H E).nox.N.Nodup := sc_Table_count.nd
    (pdb_one (pds_ret (pd_dlen rfl b_len PySem.boot_len (pd_fld T_Table n_Table_thing_by (pd_var (pv 0))))))
theorem sc_Table_has : FnScope ["self", "beginning"] ["self", "beginning"] (defScope s_Table_has) := ⟨rfl, rfl, rfl, by decide +kernel, rfl, by decide +kernel, by decide +kernel⟩
theorem ok_Table_has {dV : Value} {f : Addr} {fd : FuncData} (F : FunV K "has" "Table.has" s_Table_has dV f fd) (T_Table : ClD K C "Table") (n_Table_thing_by : NoA K C "Table" "thing_by") : FnOk P w K mg base CX0 1 f fd ["self", "beginning"] (spD K C d_Table_has) :=
  fn_DV F sc_Table_has rfl rfl fun cdv A outer sh H E hr =>
    have nd : (cxOf CX0 P w K mg base ["self", "beginning"] "Table.has" (defScope s_Table_has) f cdv A outer sh H E).nox.N.Nodup := sc_Table_has.nd
    (pdb_one (pds_ret (pd_din (hu_of hr) (pd_var (pv 1)) (pd_fld T_Table n_Table_thing_by (pd_var (pv 0))))))
theorem sc_Table_get : FnScope ["self", "beginning", "other"] ["self", "beginning", "other"] (defScope s_Table_get) := ⟨rfl, rfl, rfl, by decide +kernel, rfl, by decide +kernel, by decide +kernel⟩
theorem ok_Table_get {dV : Value} {f : Addr} {fd : FuncData} (F : FunV K "get" "Table.get" s_Table_get dV f fd) (T_Table : ClD K C "Table") (n_Table_thing_by : NoA K C "Table" "thing_by") : FnOk P w K mg base CX0 1 f fd ["self", "beginning", "other"] (spD K C d_Table_get) :=
  fn_DV F sc_Table_get rfl rfl fun cdv A outer sh H E hr =>
    have nd : (cxOf CX0 P w K mg base ["self", "beginning", "other"] "Table.get" (defScope s_Table_get) f cdv A outer sh H E).nox.N.Nodup := sc_Table_get.nd
    (pdb_one (pds_ret (pd_dget2 (hu_of hr) (pd_fld T_Table n_Table_thing_by (pd_var (pv 0))) (pd_var (pv 1)) (pd_var (pv 2)) ⟨rfl, rfl, rfl, rfl⟩)))
theorem sc_l_look : FnScope ["_law_table", "_law_rows", "_law_which", "_law_x", "_law_base", "_law_held", "_law_xs", "_law_one", "_law_address_here", "_law_at", "_law_told", "_law_due"] ["_law_table", "_law_rows", "_law_which", "_law_x", "_law_base", "_law_held"] (defScope s_l_look) := ⟨rfl, rfl, rfl, by decide +kernel, rfl, by decide +kernel, by decide +kernel⟩
theorem ok_l_look (T : TF K mg "_law_look" s_l_look) (M_Table_count_0 : Mt P w K mg base C 1 "Table" "count" d_Table_count []) (M_Table_has_0 : Mt P w K mg base C 1 "Table" "has" d_Table_has []) (M_Table_get_0 : Mt P w K mg base C 1 "Table" "get" d_Table_get []) (M_Table_get_1 : Mt P w K mg base C 1 "Table" "get" d_Table_get [.non]) (M_Table_longest_1 : Mt P w K mg base C 1 "Table" "longest" d_Table_longest [.int 16]) (M_Table_rows_0 : Mt P w K mg base C 6 "Table" "rows" d_Table_rows []) (M_Table_under_0 : Mt P w K mg base C 7 "Table" "under" d_Table_under []) (ML_Table_rows_0 : MtL P w K mg base C 6 "Table" "rows" d_Table_rows []) (ML_Table_under_0 : MtL P w K mg base C 7 "Table" "under" d_Table_under []) (b_dict : mg "dict" = none) (b_len : mg "len" = none) (b_list : mg "list" = none) (G_l_stream : Fn P w K mg base C 1 "_law_stream" d_l_stream) (G_l_picked : Fn P w K mg base C 3 "_law_picked" d_l_picked) (G_l_address : Fn P w K mg base C 2 "_law_address" d_l_address) (G_l_place : Fn P w K mg base C 1 "_law_place" d_l_place) (G_l_longest : Fn P w K mg base C 2 "_law_longest" d_l_longest) (G_l_sorted : Fn P w K mg base C 2 "_law_sorted" d_l_sorted) (G_l_under : Fn P w K mg base C 3 "_law_under" d_l_under) : Fn P w K mg base C 8 "_law_look" d_l_look :=
  fn_F T sc_l_look rfl rfl (fun _ _ _ _ _ _ us hl => len6 us hl (fun _ _ _ _ _ _ => rfl)) fun f cdv A outer sh H E hr =>
    have nd : (cxOf CX0 P w K mg base ["_law_table", "_law_rows", "_law_which", "_law_x", "_law_base", "_law_held", "_law_xs", "_law_one", "_law_address_here", "_law_at", "_law_told", "_law_due"] "_law_look" (defScope s_l_look) f cdv A outer sh H E).nox.N.Nodup := sc_l_look.nd
    (pdb_cons (pds_set (i := 6) nd rfl (by first | exact Or.inl rfl | exact Or.inr rfl) (pd_callF G_l_stream (hr.mono (by decide)) rfl (pda_cons (pd_var (pv 3)) (pda_cons pd_int pda_nil)))) (pdb_cons (pds_set (i := 7) nd rfl (by first | exact Or.inl rfl | exact Or.inr rfl) (pd_callF G_l_picked (hr.mono (by decide)) rfl (pda_cons (pd_ix (pd_var (pv 6)) pd_int) (pda_cons (pd_var (pv 1)) (pda_cons (pd_var (pv 4)) pda_nil))))) (pdb_cons (pds_set (i := 8) nd rfl (by first | exact Or.inl rfl | exact Or.inr rfl) (pd_callF G_l_address (hr.mono (by decide)) rfl (pda_cons (pd_ix (pd_var (pv 6)) pd_int) (pda_cons (pd_var (pv 4)) pda_nil)))) (pdb_cons (pds_set (i := 9) nd rfl (by first | exact Or.inl rfl | exact Or.inr rfl) (pd_callF G_l_place (hr.mono (by decide)) rfl (pda_cons (pd_var (pv 1)) (pda_cons (pd_var (pv 7)) pda_nil)))) (pdb_cons (pds_if (pdt_cmp (opD_eq hr.units) (pd_var (pv 2)) pd_int (nomark _)) (pdb_one (pds_ret (pd_and (pd_cmp (opD_eq hr.units) (pd_meth0 M_Table_count_0 (hr.mono (by decide)) (pd_var (pv 0))) (pd_callB callD_len rfl b_len PySem.boot_len (pda_cons (pd_var (pv 1)) pda_nil)) (nomark _)) (pd_one (pd_cmp (opD_eq hr.units) (pd_meth M_Table_has_0 (hr.mono (by decide)) (pd_var (pv 0)) (pda_cons (pd_var (pv 7)) pda_nil)) (pd_cmp opD_isnot (pd_var (pv 9)) pd_non (nomark _)) (nomark _)))))) pdb_nil) (pdb_cons (pds_if (pdt_cmp (opD_eq hr.units) (pd_var (pv 2)) pd_int (nomark _)) (pdb_one (pds_ret (pd_and (pd_cmp (opD_eq hr.units) (pd_meth M_Table_get_0 (hr.mono (by decide)) (pd_var (pv 0)) (pda_cons (pd_var (pv 7)) (pda_cons (pd_neg pd_int) pda_nil))) (pd_if (pdt_cmp opD_is (pd_var (pv 9)) pd_non (nomark _)) (pd_neg pd_int) (pd_ix (pd_ix (pd_var (pv 1)) (pd_var (pv 9))) pd_int)) (nomark _)) (pd_one (pd_cmp (opD_eq hr.units) (pd_meth M_Table_get_1 (hr.mono (by decide)) (pd_var (pv 0)) (pda_cons (pd_var (pv 7)) pda_nil)) (pd_dget1 (hu_of hr) (pd_dictL hr rfl b_dict boot_dict (pd_var (pv 1))) (pd_var (pv 7)) ⟨rfl, rfl, rfl, rfl⟩) (nomark _)))))) pdb_nil) (pdb_cons (pds_if (pdt_cmp (opD_eq hr.units) (pd_var (pv 2)) pd_int (nomark _)) (pdb_one (pds_ret (pd_cmp (opD_eq hr.units) (pd_meth M_Table_longest_1 (hr.mono (by decide)) (pd_var (pv 0)) (pda_cons (pd_var (pv 8)) pda_nil)) (pd_callF G_l_longest (hr.mono (by decide)) rfl (pda_cons (pd_var (pv 1)) (pda_cons (pd_var (pv 8)) (pda_cons pd_int pda_nil)))) (nomark _)))) pdb_nil) (pdb_cons (pds_set (i := 10) nd rfl (by first | exact Or.inl rfl | exact Or.inr rfl) (pd_meth0 M_Table_rows_0 (hr.mono (by decide)) (pd_var (pv 0)))) (pdb_cons (pds_set (i := 11) nd rfl (by first | exact Or.inl rfl | exact Or.inr rfl) (pd_callF G_l_sorted (hr.mono (by decide)) rfl (pda_cons (pd_var (pv 1)) pda_nil))) (pdb_cons (pds_if (pdt_cmp (opD_eq hr.units) (pd_var (pv 2)) pd_int (nomark _)) (pdb_cons (pds_set (i := 10) nd rfl (by first | exact Or.inl rfl | exact Or.inr rfl) (pd_meth M_Table_under_0 (hr.mono (by decide)) (pd_var (pv 0)) (pda_cons (pd_var (pv 7)) pda_nil))) (pdb_one (pds_set (i := 11) nd rfl (by first | exact Or.inl rfl | exact Or.inr rfl) (pd_callF G_l_under (hr.mono (by decide)) rfl (pda_cons (pd_var (pv 1)) (pda_cons (pd_var (pv 7)) pda_nil)))))) pdb_nil) (pdb_cons (pds_if (pdt_cmp (opD_ne hr.units) (pd_var (pv 10)) (pd_var (pv 11)) (nomark _)) (pdb_one (pds_ret pd_bl)) pdb_nil) (pdb_cons (pds_appM (pd_var (pv 5)) (pd_tup (pda_cons (pd_var (pv 10)) (pda_cons (pd_callTy callD_list rfl b_list boot_list (pda_cons (pd_var (pv 10)) pda_nil)) pda_nil)))) (pdb_cons (pds_if (pdt_cmp (opD_eq hr.units) (pd_op opD_mod (pd_ix (pd_var (pv 6)) pd_int) pd_int) pd_int (nomark _)) (pdb_cons (pds_appN (pdn_meth0 ML_Table_rows_0 (hr.mono (by decide)) (pd_var (pv 0))) (pd_tup (pda_cons (pd_tup (pda_cons pd_int (pda_cons pd_int pda_nil))) (pda_cons pd_int pda_nil)))) (pdb_one (pds_clearN (pdn_meth ML_Table_under_0 (hr.mono (by decide)) (pd_var (pv 0)) (pda_cons (pd_var (pv 7)) pda_nil))))) pdb_nil) (pdb_one (pds_ret pd_bl)))))))))))))))
theorem sc_law : FnScope ["_law_script", "_law_base", "_law_tables", "_law_rows", "_law_held", "_law_cell", "_law_xs", "_law_which", "_law_beginning_here", "_law_one", "_law_k", "_law_told", "_law_copy"] ["_law_script"] (defScope s_law) := ⟨rfl, rfl, rfl, by decide +kernel, rfl, by decide +kernel, by decide +kernel⟩
end
theorem law_fn {P : Program} {w : World} {K : PySem.W.Frag} {mg : Str → Option Value} {base : Heap} {C : Cl} {f : Addr} {fd : FuncData} (F : Fun K "law" "law" s_law f fd) (M_Table_cut_0 : Mt P w K mg base C 1 "Table" "cut" d_Table_cut []) (M_Table_put_0 : Mt P w K mg base C 1 "Table" "put" d_Table_put []) (M_Table_rows_0 : Mt P w K mg base C 6 "Table" "rows" d_Table_rows []) (K_Table : MkD P w K mg base C 1 "Table" d_Table___init__ []) (b_range : mg "range" = none) (G_l_stream : Fn P w K mg base C 1 "_law_stream" d_l_stream) (G_l_cell_at : Fn P w K mg base C 1 "_law_cell_at" d_l_cell_at) (G_l_picked : Fn P w K mg base C 3 "_law_picked" d_l_picked) (G_l_place : Fn P w K mg base C 1 "_law_place" d_l_place) (G_l_thing_by : Fn P w K mg base C 1 "_law_thing_by" d_l_thing_by) (G_l_put : Fn P w K mg base C 2 "_law_put" d_l_put) (G_l_look : Fn P w K mg base C 8 "_law_look" d_l_look) (G_l_sorted : Fn P w K mg base C 2 "_law_sorted" d_l_sorted) : FnOk P w K mg base CX0 9 f fd ["_law_script"] (spD K C d_law) :=
  fn_D F sc_law rfl rfl fun cdv A outer sh H E hr =>
    have nd : (cxOf CX0 P w K mg base ["_law_script", "_law_base", "_law_tables", "_law_rows", "_law_held", "_law_cell", "_law_xs", "_law_which", "_law_beginning_here", "_law_one", "_law_k", "_law_told", "_law_copy"] "law" (defScope s_law) f cdv A outer sh H E).nox.N.Nodup := sc_law.nd
    (pdb_cons (pds_set (i := 1) nd rfl (by first | exact Or.inl rfl | exact Or.inr rfl) (pd_op opD_mod (pd_ix (pd_callF G_l_stream (hr.mono (by decide)) rfl (pda_cons (pd_callF G_l_cell_at (hr.mono (by decide)) rfl (pda_cons (pd_var (pv 0)) (pda_cons pd_int pda_nil))) (pda_cons pd_int pda_nil))) pd_int) pd_int)) (pdb_cons (pds_set (i := 2) nd rfl (by first | exact Or.inl rfl | exact Or.inr rfl) (pd_lst (pda_cons (pd_make0 K_Table (hr.mono (by decide)) rfl) (pda_cons (pd_make0 K_Table (hr.mono (by decide)) rfl) pda_nil)))) (pdb_cons (pds_set (i := 3) nd rfl (by first | exact Or.inl rfl | exact Or.inr rfl) (pd_newM (pda_cons (pd_lst pda_nil) (pda_cons (pd_lst pda_nil) pda_nil)))) (pdb_cons (pds_set (i := 4) nd rfl (by first | exact Or.inl rfl | exact Or.inr rfl) (pd_newM pda_nil)) (pdb_cons (pds_for PassesOwn.never rfl (pdi_list (pd_sl (pd_var (pv 0)) (pdo_some pd_int) (pdo_some pd_int))) (pdg_name nd rfl (by first | exact Or.inl rfl | exact Or.inr rfl)) (pdb_cons (pds_set (i := 6) nd rfl (by first | exact Or.inl rfl | exact Or.inr rfl) (pd_callF G_l_stream (hr.mono (by decide)) rfl (pda_cons (pd_var (pv 5)) (pda_cons pd_int pda_nil)))) (pdb_cons (pds_set (i := 7) nd rfl (by first | exact Or.inl rfl | exact Or.inr rfl) (pd_op opD_mod (pd_ix (pd_var (pv 6)) pd_int) pd_int)) (pdb_cons (pds_set (i := 8) nd rfl (by first | exact Or.inl rfl | exact Or.inr rfl) (pd_callF G_l_picked (hr.mono (by decide)) rfl (pda_cons (pd_ix (pd_var (pv 6)) pd_int) (pda_cons (pd_mix (pd_var (pv 3)) (pd_op opD_mod (pd_op opD_div (pd_ix (pd_var (pv 6)) pd_int) pd_int) pd_int)) (pda_cons (pd_var (pv 1)) pda_nil))))) (pdb_cons (pds_if (PDW.pt (pdw_and (pdt_cmp (opD_eq hr.units) (pd_op opD_mod (pd_ix (pd_var (pv 6)) pd_int) pd_int) pd_int (nomark _)) (pdw_and1 (pdt_cmp opD_isnot (pd_callF G_l_place (hr.mono (by decide)) rfl (pda_cons (pd_mix (pd_var (pv 3)) (pd_var (pv 7))) (pda_cons (pd_var (pv 8)) pda_nil))) pd_non (nomark _))))) (pdb_cons (pds_expr (pd_meth M_Table_cut_0 (hr.mono (by decide)) (pd_ix (pd_var (pv 2)) (pd_var (pv 7))) (pda_cons (pd_var (pv 8)) pda_nil))) (pdb_one (pds_setM (pd_var (pv 3)) (pd_var (pv 7)) (pd_compN rfl (compOk_of (oN := ["_law_script", "_law_base", "_law_tables", "_law_rows", "_law_held", "_law_cell", "_law_xs", "_law_which", "_law_beginning_here", "_law_one", "_law_k", "_law_told", "_law_copy"]) (osc := defScope s_law) (N := ["_law_row", "_law_beginning_here"]) (μ := [none, some 8]) rfl rfl (by decide +kernel)) (pdi_list (pd_mix (pd_var (pv 3)) (pd_var (pv 7)))) (fun _ _ _ _ => (pdg_name (show List.Nodup (["_law_row", "_law_beginning_here"] : List Str) by decide +kernel) rfl (by first | exact Or.inl rfl | exact Or.inr rfl))) (fun _ _ _ _ => (pdts_one (pdt_cmp (opD_ne hr.units) (pd_ix (pd_var (pv 0)) pd_int) (pd_var (pv 1)) (nomark _)))) (fun _ _ _ _ => (pd_var (pv 0))))))) (pdb_cons (pds_expr (pd_meth M_Table_put_0 (hr.mono (by decide)) (pd_ix (pd_var (pv 2)) (pd_var (pv 7))) (pda_cons (pd_var (pv 8)) (pda_cons (pd_callF G_l_thing_by (hr.mono (by decide)) rfl (pda_cons (pd_ix (pd_var (pv 6)) pd_int) pda_nil)) pda_nil)))) (pdb_one (pds_setM (pd_var (pv 3)) (pd_var (pv 7)) (pd_callF G_l_put (hr.mono (by decide)) rfl (pda_cons (pd_mix (pd_var (pv 3)) (pd_var (pv 7))) (pda_cons (pd_var (pv 8)) (pda_cons (pd_callF G_l_thing_by (hr.mono (by decide)) rfl (pda_cons (pd_ix (pd_var (pv 6)) pd_int) pda_nil)) pda_nil)))))))) (pdb_cons (pds_set (i := 9) nd rfl (by first | exact Or.inl rfl | exact Or.inr rfl) (pd_op opD_mod (pd_ix (pd_var (pv 6)) pd_int) pd_int)) (pdb_one (pds_for PassesOwn.never rfl (pdi_range1 rfl b_range (pda_cons pd_int pda_nil)) (pdg_name nd rfl (by first | exact Or.inl rfl | exact Or.inr rfl)) (pdb_one (pds_if (pdt_not (pdt_val (pd_callF G_l_look (hr.mono (by decide)) rfl (pda_cons (pd_ix (pd_var (pv 2)) (pd_var (pv 9))) (pda_cons (pd_mix (pd_var (pv 3)) (pd_var (pv 9))) (pda_cons (pd_op opD_mod (pd_op opD_add (pd_ix (pd_var (pv 6)) pd_int) (pd_op opD_mul (pd_var (pv 10)) (pd_op opD_add pd_int (pd_op opD_mod (pd_ix (pd_var (pv 6)) pd_int) pd_int)))) pd_int) (pda_cons (pd_op opD_add (pd_ix (pd_var (pv 6)) pd_int) (pd_var (pv 10))) (pda_cons (pd_var (pv 1)) (pda_cons (pd_var (pv 4)) pda_nil))))))))) (pdb_one (pds_ret pd_bl)) pdb_nil)))))))))) (pdb_cons (pds_forM PassesOwn.never rfl (pd_var (pv 4)) (pdg_tup rfl (pdgs_cons (i := 11) nd rfl (by first | exact Or.inl rfl | exact Or.inr rfl) (pdgs_cons (i := 12) nd rfl (by first | exact Or.inl rfl | exact Or.inr rfl) pdgs_nil))) (pdb_one (pds_if (pdt_cmp (opD_ne hr.units) (pd_var (pv 11)) (pd_var (pv 12)) (nomark _)) (pdb_one (pds_ret pd_bl)) pdb_nil))) (pdb_one (pds_ret (pd_and (pd_cmp (opD_eq hr.units) (pd_meth0 M_Table_rows_0 (hr.mono (by decide)) (pd_ix (pd_var (pv 2)) pd_int)) (pd_callF G_l_sorted (hr.mono (by decide)) rfl (pda_cons (pd_mix (pd_var (pv 3)) pd_int) pda_nil)) (nomark _)) (pd_one (pd_cmp (opD_eq hr.units) (pd_meth0 M_Table_rows_0 (hr.mono (by decide)) (pd_ix (pd_var (pv 2)) pd_int)) (pd_callF G_l_sorted (hr.mono (by decide)) rfl (pda_cons (pd_mix (pd_var (pv 3)) pd_int) pda_nil)) (nomark _))))))))))))
theorem all_mk {P : Program} {w : World} {K : PySem.W.Frag} {h : Heap} {mg : Str → Option Value} {fa f_Table___init__ f_l_stream f_l_bits f_l_number f_l_beginning f_l_picked f_Table_cut f_Table_put f_l_place f_l_put f_least f_place_in_order f_in_order f_Table_rows f_l_place_of f_l_sorted f_l_cell_at f_l_thing_by f_l_address f_within f_Table_under f_l_under f_Table_longest f_l_longest f_Table_count f_Table_has f_Table_get f_l_look f_law C_Table : Addr} (X : K.In h) (G : h.Ns mainGlobals mg) (hfa : mg "law" = some (.ref fa))
    {od_Table___init__ an_Table___init__ : Option Addr} {sl_Table___init__ : Array (Option Value)} {oc_Table___init__ kV_Table___init__ dc_Table___init__ pm_Table___init__ cd_Table___init__ ct_Table___init__ : Value}
    {od_l_stream an_l_stream : Option Addr} {sl_l_stream : Array (Option Value)} {oc_l_stream kV_l_stream dc_l_stream pm_l_stream cd_l_stream ct_l_stream : Value}
    {od_l_bits an_l_bits : Option Addr} {sl_l_bits : Array (Option Value)} {oc_l_bits kV_l_bits dc_l_bits pm_l_bits cd_l_bits ct_l_bits : Value}
    {od_l_number an_l_number : Option Addr} {sl_l_number : Array (Option Value)} {oc_l_number kV_l_number dc_l_number pm_l_number cd_l_number ct_l_number : Value}
    {od_l_beginning an_l_beginning : Option Addr} {sl_l_beginning : Array (Option Value)} {oc_l_beginning kV_l_beginning dc_l_beginning pm_l_beginning cd_l_beginning ct_l_beginning : Value}
    {od_l_picked an_l_picked : Option Addr} {sl_l_picked : Array (Option Value)} {oc_l_picked kV_l_picked dc_l_picked pm_l_picked cd_l_picked ct_l_picked : Value}
    {od_Table_cut an_Table_cut : Option Addr} {sl_Table_cut : Array (Option Value)} {oc_Table_cut kV_Table_cut dc_Table_cut pm_Table_cut cd_Table_cut ct_Table_cut : Value}
    {od_Table_put an_Table_put : Option Addr} {sl_Table_put : Array (Option Value)} {oc_Table_put kV_Table_put dc_Table_put pm_Table_put cd_Table_put ct_Table_put : Value}
    {od_l_place an_l_place : Option Addr} {sl_l_place : Array (Option Value)} {oc_l_place kV_l_place dc_l_place pm_l_place cd_l_place ct_l_place : Value}
    {od_l_put an_l_put : Option Addr} {sl_l_put : Array (Option Value)} {oc_l_put kV_l_put dc_l_put pm_l_put cd_l_put ct_l_put : Value}
    {od_least an_least : Option Addr} {sl_least : Array (Option Value)} {oc_least kV_least dc_least pm_least cd_least ct_least : Value}
    {od_place_in_order an_place_in_order : Option Addr} {sl_place_in_order : Array (Option Value)} {oc_place_in_order kV_place_in_order dc_place_in_order pm_place_in_order cd_place_in_order ct_place_in_order : Value}
    {od_in_order an_in_order : Option Addr} {sl_in_order : Array (Option Value)} {oc_in_order kV_in_order dc_in_order pm_in_order cd_in_order ct_in_order : Value}
    {od_Table_rows an_Table_rows : Option Addr} {sl_Table_rows : Array (Option Value)} {oc_Table_rows kV_Table_rows dc_Table_rows pm_Table_rows cd_Table_rows ct_Table_rows : Value}
    {od_l_place_of an_l_place_of : Option Addr} {sl_l_place_of : Array (Option Value)} {oc_l_place_of kV_l_place_of dc_l_place_of pm_l_place_of cd_l_place_of ct_l_place_of : Value}
    {od_l_sorted an_l_sorted : Option Addr} {sl_l_sorted : Array (Option Value)} {oc_l_sorted kV_l_sorted dc_l_sorted pm_l_sorted cd_l_sorted ct_l_sorted : Value}
    {od_l_cell_at an_l_cell_at : Option Addr} {sl_l_cell_at : Array (Option Value)} {oc_l_cell_at kV_l_cell_at dc_l_cell_at pm_l_cell_at cd_l_cell_at ct_l_cell_at : Value}
    {od_l_thing_by an_l_thing_by : Option Addr} {sl_l_thing_by : Array (Option Value)} {oc_l_thing_by kV_l_thing_by dc_l_thing_by pm_l_thing_by cd_l_thing_by ct_l_thing_by : Value}
    {od_l_address an_l_address : Option Addr} {sl_l_address : Array (Option Value)} {oc_l_address kV_l_address dc_l_address pm_l_address cd_l_address ct_l_address : Value}
    {od_within an_within : Option Addr} {sl_within : Array (Option Value)} {oc_within kV_within dc_within pm_within cd_within ct_within : Value}
    {od_Table_under an_Table_under : Option Addr} {sl_Table_under : Array (Option Value)} {oc_Table_under kV_Table_under dc_Table_under pm_Table_under cd_Table_under ct_Table_under : Value}
    {od_l_under an_l_under : Option Addr} {sl_l_under : Array (Option Value)} {oc_l_under kV_l_under dc_l_under pm_l_under cd_l_under ct_l_under : Value}
    {od_Table_longest an_Table_longest : Option Addr} {sl_Table_longest : Array (Option Value)} {oc_Table_longest kV_Table_longest dc_Table_longest pm_Table_longest cd_Table_longest ct_Table_longest : Value}
    {D_Table_longest : Addr} {u_Table_longest : Value} {v_Table_longest : Option Addr} {w_Table_longest : Array (Option Value)} {m_Table_longest : Nat} {t_Table_longest_0 : Tok}
    {od_l_longest an_l_longest : Option Addr} {sl_l_longest : Array (Option Value)} {oc_l_longest kV_l_longest dc_l_longest pm_l_longest cd_l_longest ct_l_longest : Value}
    {od_Table_count an_Table_count : Option Addr} {sl_Table_count : Array (Option Value)} {oc_Table_count kV_Table_count dc_Table_count pm_Table_count cd_Table_count ct_Table_count : Value}
    {od_Table_has an_Table_has : Option Addr} {sl_Table_has : Array (Option Value)} {oc_Table_has kV_Table_has dc_Table_has pm_Table_has cd_Table_has ct_Table_has : Value}
    {od_Table_get an_Table_get : Option Addr} {sl_Table_get : Array (Option Value)} {oc_Table_get kV_Table_get dc_Table_get pm_Table_get cd_Table_get ct_Table_get : Value}
    {D_Table_get : Addr} {u_Table_get : Value} {v_Table_get : Option Addr} {w_Table_get : Array (Option Value)} {m_Table_get : Nat}
    {od_l_look an_l_look : Option Addr} {sl_l_look : Array (Option Value)} {oc_l_look kV_l_look dc_l_look pm_l_look cd_l_look ct_l_look : Value}
    {od_law an_law : Option Addr} {sl_law : Array (Option Value)} {oc_law kV_law dc_law pm_law cd_law ct_law : Value}
    {t_WIDTH : Tok}
    (a_Table___init__ : PySem.W.findIn K (.ref C_Table) "__init__" = some (some (.ref f_Table___init__))) (i_Table___init__ : PySem.W.isFn K (.ref f_Table___init__) = true)
    (l_Table___init__ : K.lookup f_Table___init__ = some ⟨oc_Table___init__, od_Table___init__, .func (PySem.W.fnOf "__init__" "Table.__init__" (defArgs s_Table___init__) (defBody s_Table___init__) (defScope s_Table___init__) .none kV_Table___init__ dc_Table___init__ pm_Table___init__ an_Table___init__ cd_Table___init__ ct_Table___init__), sl_Table___init__⟩) (cc_Table___init__ : PySem.W.codeIn K cd_Table___init__ "Table.__init__" = true) (k_Table___init__ : PySem.W.keepIn K (.ref f_Table___init__) = true)
    (a_l_stream : PySem.W.nsIn K mainGlobals "_law_stream" = some (some (.ref f_l_stream)))
    (l_l_stream : K.lookup f_l_stream = some ⟨oc_l_stream, od_l_stream, .func (PySem.W.fnOf "_law_stream" "_law_stream" (defArgs s_l_stream) (defBody s_l_stream) (defScope s_l_stream) .none kV_l_stream dc_l_stream pm_l_stream an_l_stream cd_l_stream ct_l_stream), sl_l_stream⟩) (cc_l_stream : PySem.W.codeIn K cd_l_stream "_law_stream" = true) (k_l_stream : PySem.W.keepIn K (.ref f_l_stream) = true)
    (a_l_bits : PySem.W.nsIn K mainGlobals "_law_bits" = some (some (.ref f_l_bits)))
    (l_l_bits : K.lookup f_l_bits = some ⟨oc_l_bits, od_l_bits, .func (PySem.W.fnOf "_law_bits" "_law_bits" (defArgs s_l_bits) (defBody s_l_bits) (defScope s_l_bits) .none kV_l_bits dc_l_bits pm_l_bits an_l_bits cd_l_bits ct_l_bits), sl_l_bits⟩) (cc_l_bits : PySem.W.codeIn K cd_l_bits "_law_bits" = true) (k_l_bits : PySem.W.keepIn K (.ref f_l_bits) = true)
    (a_l_number : PySem.W.nsIn K mainGlobals "_law_number" = some (some (.ref f_l_number)))
    (l_l_number : K.lookup f_l_number = some ⟨oc_l_number, od_l_number, .func (PySem.W.fnOf "_law_number" "_law_number" (defArgs s_l_number) (defBody s_l_number) (defScope s_l_number) .none kV_l_number dc_l_number pm_l_number an_l_number cd_l_number ct_l_number), sl_l_number⟩) (cc_l_number : PySem.W.codeIn K cd_l_number "_law_number" = true) (k_l_number : PySem.W.keepIn K (.ref f_l_number) = true)
    (a_l_beginning : PySem.W.nsIn K mainGlobals "_law_beginning" = some (some (.ref f_l_beginning)))
    (l_l_beginning : K.lookup f_l_beginning = some ⟨oc_l_beginning, od_l_beginning, .func (PySem.W.fnOf "_law_beginning" "_law_beginning" (defArgs s_l_beginning) (defBody s_l_beginning) (defScope s_l_beginning) .none kV_l_beginning dc_l_beginning pm_l_beginning an_l_beginning cd_l_beginning ct_l_beginning), sl_l_beginning⟩) (cc_l_beginning : PySem.W.codeIn K cd_l_beginning "_law_beginning" = true) (k_l_beginning : PySem.W.keepIn K (.ref f_l_beginning) = true)
    (a_l_picked : PySem.W.nsIn K mainGlobals "_law_picked" = some (some (.ref f_l_picked)))
    (l_l_picked : K.lookup f_l_picked = some ⟨oc_l_picked, od_l_picked, .func (PySem.W.fnOf "_law_picked" "_law_picked" (defArgs s_l_picked) (defBody s_l_picked) (defScope s_l_picked) .none kV_l_picked dc_l_picked pm_l_picked an_l_picked cd_l_picked ct_l_picked), sl_l_picked⟩) (cc_l_picked : PySem.W.codeIn K cd_l_picked "_law_picked" = true) (k_l_picked : PySem.W.keepIn K (.ref f_l_picked) = true)
    (a_Table_cut : PySem.W.findIn K (.ref C_Table) "cut" = some (some (.ref f_Table_cut))) (i_Table_cut : PySem.W.isFn K (.ref f_Table_cut) = true)
    (l_Table_cut : K.lookup f_Table_cut = some ⟨oc_Table_cut, od_Table_cut, .func (PySem.W.fnOf "cut" "Table.cut" (defArgs s_Table_cut) (defBody s_Table_cut) (defScope s_Table_cut) .none kV_Table_cut dc_Table_cut pm_Table_cut an_Table_cut cd_Table_cut ct_Table_cut), sl_Table_cut⟩) (cc_Table_cut : PySem.W.codeIn K cd_Table_cut "Table.cut" = true) (k_Table_cut : PySem.W.keepIn K (.ref f_Table_cut) = true)
    (a_Table_put : PySem.W.findIn K (.ref C_Table) "put" = some (some (.ref f_Table_put))) (i_Table_put : PySem.W.isFn K (.ref f_Table_put) = true)
    (l_Table_put : K.lookup f_Table_put = some ⟨oc_Table_put, od_Table_put, .func (PySem.W.fnOf "put" "Table.put" (defArgs s_Table_put) (defBody s_Table_put) (defScope s_Table_put) .none kV_Table_put dc_Table_put pm_Table_put an_Table_put cd_Table_put ct_Table_put), sl_Table_put⟩) (cc_Table_put : PySem.W.codeIn K cd_Table_put "Table.put" = true) (k_Table_put : PySem.W.keepIn K (.ref f_Table_put) = true)
    (a_l_place : PySem.W.nsIn K mainGlobals "_law_place" = some (some (.ref f_l_place)))
    (l_l_place : K.lookup f_l_place = some ⟨oc_l_place, od_l_place, .func (PySem.W.fnOf "_law_place" "_law_place" (defArgs s_l_place) (defBody s_l_place) (defScope s_l_place) .none kV_l_place dc_l_place pm_l_place an_l_place cd_l_place ct_l_place), sl_l_place⟩) (cc_l_place : PySem.W.codeIn K cd_l_place "_law_place" = true) (k_l_place : PySem.W.keepIn K (.ref f_l_place) = true)
    (a_l_put : PySem.W.nsIn K mainGlobals "_law_put" = some (some (.ref f_l_put)))
    (l_l_put : K.lookup f_l_put = some ⟨oc_l_put, od_l_put, .func (PySem.W.fnOf "_law_put" "_law_put" (defArgs s_l_put) (defBody s_l_put) (defScope s_l_put) .none kV_l_put dc_l_put pm_l_put an_l_put cd_l_put ct_l_put), sl_l_put⟩) (cc_l_put : PySem.W.codeIn K cd_l_put "_law_put" = true) (k_l_put : PySem.W.keepIn K (.ref f_l_put) = true)
    (a_least : PySem.W.nsIn K mainGlobals "least" = some (some (.ref f_least)))
    (l_least : K.lookup f_least = some ⟨oc_least, od_least, .func (PySem.W.fnOf "least" "least" (defArgs s_least) (defBody s_least) (defScope s_least) .none kV_least dc_least pm_least an_least cd_least ct_least), sl_least⟩) (cc_least : PySem.W.codeIn K cd_least "least" = true) (k_least : PySem.W.keepIn K (.ref f_least) = true)
    (a_place_in_order : PySem.W.nsIn K mainGlobals "place_in_order" = some (some (.ref f_place_in_order)))
    (l_place_in_order : K.lookup f_place_in_order = some ⟨oc_place_in_order, od_place_in_order, .func (PySem.W.fnOf "place_in_order" "place_in_order" (defArgs s_place_in_order) (defBody s_place_in_order) (defScope s_place_in_order) .none kV_place_in_order dc_place_in_order pm_place_in_order an_place_in_order cd_place_in_order ct_place_in_order), sl_place_in_order⟩) (cc_place_in_order : PySem.W.codeIn K cd_place_in_order "place_in_order" = true) (k_place_in_order : PySem.W.keepIn K (.ref f_place_in_order) = true)
    (a_in_order : PySem.W.nsIn K mainGlobals "in_order" = some (some (.ref f_in_order)))
    (l_in_order : K.lookup f_in_order = some ⟨oc_in_order, od_in_order, .func (PySem.W.fnOf "in_order" "in_order" (defArgs s_in_order) (defBody s_in_order) (defScope s_in_order) .none kV_in_order dc_in_order pm_in_order an_in_order cd_in_order ct_in_order), sl_in_order⟩) (cc_in_order : PySem.W.codeIn K cd_in_order "in_order" = true) (k_in_order : PySem.W.keepIn K (.ref f_in_order) = true)
    (a_Table_rows : PySem.W.findIn K (.ref C_Table) "rows" = some (some (.ref f_Table_rows))) (i_Table_rows : PySem.W.isFn K (.ref f_Table_rows) = true)
    (l_Table_rows : K.lookup f_Table_rows = some ⟨oc_Table_rows, od_Table_rows, .func (PySem.W.fnOf "rows" "Table.rows" (defArgs s_Table_rows) (defBody s_Table_rows) (defScope s_Table_rows) .none kV_Table_rows dc_Table_rows pm_Table_rows an_Table_rows cd_Table_rows ct_Table_rows), sl_Table_rows⟩) (cc_Table_rows : PySem.W.codeIn K cd_Table_rows "Table.rows" = true) (k_Table_rows : PySem.W.keepIn K (.ref f_Table_rows) = true)
    (a_l_place_of : PySem.W.nsIn K mainGlobals "_law_place_of" = some (some (.ref f_l_place_of)))
    (l_l_place_of : K.lookup f_l_place_of = some ⟨oc_l_place_of, od_l_place_of, .func (PySem.W.fnOf "_law_place_of" "_law_place_of" (defArgs s_l_place_of) (defBody s_l_place_of) (defScope s_l_place_of) .none kV_l_place_of dc_l_place_of pm_l_place_of an_l_place_of cd_l_place_of ct_l_place_of), sl_l_place_of⟩) (cc_l_place_of : PySem.W.codeIn K cd_l_place_of "_law_place_of" = true) (k_l_place_of : PySem.W.keepIn K (.ref f_l_place_of) = true)
    (a_l_sorted : PySem.W.nsIn K mainGlobals "_law_sorted" = some (some (.ref f_l_sorted)))
    (l_l_sorted : K.lookup f_l_sorted = some ⟨oc_l_sorted, od_l_sorted, .func (PySem.W.fnOf "_law_sorted" "_law_sorted" (defArgs s_l_sorted) (defBody s_l_sorted) (defScope s_l_sorted) .none kV_l_sorted dc_l_sorted pm_l_sorted an_l_sorted cd_l_sorted ct_l_sorted), sl_l_sorted⟩) (cc_l_sorted : PySem.W.codeIn K cd_l_sorted "_law_sorted" = true) (k_l_sorted : PySem.W.keepIn K (.ref f_l_sorted) = true)
    (a_l_cell_at : PySem.W.nsIn K mainGlobals "_law_cell_at" = some (some (.ref f_l_cell_at)))
    (l_l_cell_at : K.lookup f_l_cell_at = some ⟨oc_l_cell_at, od_l_cell_at, .func (PySem.W.fnOf "_law_cell_at" "_law_cell_at" (defArgs s_l_cell_at) (defBody s_l_cell_at) (defScope s_l_cell_at) .none kV_l_cell_at dc_l_cell_at pm_l_cell_at an_l_cell_at cd_l_cell_at ct_l_cell_at), sl_l_cell_at⟩) (cc_l_cell_at : PySem.W.codeIn K cd_l_cell_at "_law_cell_at" = true) (k_l_cell_at : PySem.W.keepIn K (.ref f_l_cell_at) = true)
    (a_l_thing_by : PySem.W.nsIn K mainGlobals "_law_thing_by" = some (some (.ref f_l_thing_by)))
    (l_l_thing_by : K.lookup f_l_thing_by = some ⟨oc_l_thing_by, od_l_thing_by, .func (PySem.W.fnOf "_law_thing_by" "_law_thing_by" (defArgs s_l_thing_by) (defBody s_l_thing_by) (defScope s_l_thing_by) .none kV_l_thing_by dc_l_thing_by pm_l_thing_by an_l_thing_by cd_l_thing_by ct_l_thing_by), sl_l_thing_by⟩) (cc_l_thing_by : PySem.W.codeIn K cd_l_thing_by "_law_thing_by" = true) (k_l_thing_by : PySem.W.keepIn K (.ref f_l_thing_by) = true)
    (a_l_address : PySem.W.nsIn K mainGlobals "_law_address" = some (some (.ref f_l_address)))
    (l_l_address : K.lookup f_l_address = some ⟨oc_l_address, od_l_address, .func (PySem.W.fnOf "_law_address" "_law_address" (defArgs s_l_address) (defBody s_l_address) (defScope s_l_address) .none kV_l_address dc_l_address pm_l_address an_l_address cd_l_address ct_l_address), sl_l_address⟩) (cc_l_address : PySem.W.codeIn K cd_l_address "_law_address" = true) (k_l_address : PySem.W.keepIn K (.ref f_l_address) = true)
    (a_within : PySem.W.nsIn K mainGlobals "within" = some (some (.ref f_within)))
    (l_within : K.lookup f_within = some ⟨oc_within, od_within, .func (PySem.W.fnOf "within" "within" (defArgs s_within) (defBody s_within) (defScope s_within) .none kV_within dc_within pm_within an_within cd_within ct_within), sl_within⟩) (cc_within : PySem.W.codeIn K cd_within "within" = true) (k_within : PySem.W.keepIn K (.ref f_within) = true)
    (a_Table_under : PySem.W.findIn K (.ref C_Table) "under" = some (some (.ref f_Table_under))) (i_Table_under : PySem.W.isFn K (.ref f_Table_under) = true)
    (l_Table_under : K.lookup f_Table_under = some ⟨oc_Table_under, od_Table_under, .func (PySem.W.fnOf "under" "Table.under" (defArgs s_Table_under) (defBody s_Table_under) (defScope s_Table_under) .none kV_Table_under dc_Table_under pm_Table_under an_Table_under cd_Table_under ct_Table_under), sl_Table_under⟩) (cc_Table_under : PySem.W.codeIn K cd_Table_under "Table.under" = true) (k_Table_under : PySem.W.keepIn K (.ref f_Table_under) = true)
    (a_l_under : PySem.W.nsIn K mainGlobals "_law_under" = some (some (.ref f_l_under)))
    (l_l_under : K.lookup f_l_under = some ⟨oc_l_under, od_l_under, .func (PySem.W.fnOf "_law_under" "_law_under" (defArgs s_l_under) (defBody s_l_under) (defScope s_l_under) .none kV_l_under dc_l_under pm_l_under an_l_under cd_l_under ct_l_under), sl_l_under⟩) (cc_l_under : PySem.W.codeIn K cd_l_under "_law_under" = true) (k_l_under : PySem.W.keepIn K (.ref f_l_under) = true)
    (a_Table_longest : PySem.W.findIn K (.ref C_Table) "longest" = some (some (.ref f_Table_longest))) (i_Table_longest : PySem.W.isFn K (.ref f_Table_longest) = true)
    (l_Table_longest : K.lookup f_Table_longest = some ⟨oc_Table_longest, od_Table_longest, .func (PySem.W.fnOf "longest" "Table.longest" (defArgs s_Table_longest) (defBody s_Table_longest) (defScope s_Table_longest) (.ref D_Table_longest) kV_Table_longest dc_Table_longest pm_Table_longest an_Table_longest cd_Table_longest ct_Table_longest), sl_Table_longest⟩) (cc_Table_longest : PySem.W.codeIn K cd_Table_longest "Table.longest" = true) (k_Table_longest : PySem.W.keepIn K (.ref f_Table_longest) = true)
    (ld_Table_longest : K.lookup D_Table_longest = some ⟨u_Table_longest, v_Table_longest, .seq #[.int 16 t_Table_longest_0] m_Table_longest, w_Table_longest⟩)
    (a_l_longest : PySem.W.nsIn K mainGlobals "_law_longest" = some (some (.ref f_l_longest)))
    (l_l_longest : K.lookup f_l_longest = some ⟨oc_l_longest, od_l_longest, .func (PySem.W.fnOf "_law_longest" "_law_longest" (defArgs s_l_longest) (defBody s_l_longest) (defScope s_l_longest) .none kV_l_longest dc_l_longest pm_l_longest an_l_longest cd_l_longest ct_l_longest), sl_l_longest⟩) (cc_l_longest : PySem.W.codeIn K cd_l_longest "_law_longest" = true) (k_l_longest : PySem.W.keepIn K (.ref f_l_longest) = true)
    (a_Table_count : PySem.W.findIn K (.ref C_Table) "count" = some (some (.ref f_Table_count))) (i_Table_count : PySem.W.isFn K (.ref f_Table_count) = true)
    (l_Table_count : K.lookup f_Table_count = some ⟨oc_Table_count, od_Table_count, .func (PySem.W.fnOf "count" "Table.count" (defArgs s_Table_count) (defBody s_Table_count) (defScope s_Table_count) .none kV_Table_count dc_Table_count pm_Table_count an_Table_count cd_Table_count ct_Table_count), sl_Table_count⟩) (cc_Table_count : PySem.W.codeIn K cd_Table_count "Table.count" = true) (k_Table_count : PySem.W.keepIn K (.ref f_Table_count) = true)
    (a_Table_has : PySem.W.findIn K (.ref C_Table) "has" = some (some (.ref f_Table_has))) (i_Table_has : PySem.W.isFn K (.ref f_Table_has) = true)
    (l_Table_has : K.lookup f_Table_has = some ⟨oc_Table_has, od_Table_has, .func (PySem.W.fnOf "has" "Table.has" (defArgs s_Table_has) (defBody s_Table_has) (defScope s_Table_has) .none kV_Table_has dc_Table_has pm_Table_has an_Table_has cd_Table_has ct_Table_has), sl_Table_has⟩) (cc_Table_has : PySem.W.codeIn K cd_Table_has "Table.has" = true) (k_Table_has : PySem.W.keepIn K (.ref f_Table_has) = true)
    (a_Table_get : PySem.W.findIn K (.ref C_Table) "get" = some (some (.ref f_Table_get))) (i_Table_get : PySem.W.isFn K (.ref f_Table_get) = true)
    (l_Table_get : K.lookup f_Table_get = some ⟨oc_Table_get, od_Table_get, .func (PySem.W.fnOf "get" "Table.get" (defArgs s_Table_get) (defBody s_Table_get) (defScope s_Table_get) (.ref D_Table_get) kV_Table_get dc_Table_get pm_Table_get an_Table_get cd_Table_get ct_Table_get), sl_Table_get⟩) (cc_Table_get : PySem.W.codeIn K cd_Table_get "Table.get" = true) (k_Table_get : PySem.W.keepIn K (.ref f_Table_get) = true)
    (ld_Table_get : K.lookup D_Table_get = some ⟨u_Table_get, v_Table_get, .seq #[.none] m_Table_get, w_Table_get⟩)
    (a_l_look : PySem.W.nsIn K mainGlobals "_law_look" = some (some (.ref f_l_look)))
    (l_l_look : K.lookup f_l_look = some ⟨oc_l_look, od_l_look, .func (PySem.W.fnOf "_law_look" "_law_look" (defArgs s_l_look) (defBody s_l_look) (defScope s_l_look) .none kV_l_look dc_l_look pm_l_look an_l_look cd_l_look ct_l_look), sl_l_look⟩) (cc_l_look : PySem.W.codeIn K cd_l_look "_law_look" = true) (k_l_look : PySem.W.keepIn K (.ref f_l_look) = true)
    (a_law : PySem.W.nsIn K mainGlobals "law" = some (some (.ref f_law)))
    (l_law : K.lookup f_law = some ⟨oc_law, od_law, .func (PySem.W.fnOf "law" "law" (defArgs s_law) (defBody s_law) (defScope s_law) .none kV_law dc_law pm_law an_law cd_law ct_law), sl_law⟩) (cc_law : PySem.W.codeIn K cd_law "law" = true) (k_law : PySem.W.keepIn K (.ref f_law) = true)
    (a_Table : PySem.W.nsIn K mainGlobals "Table" = some (some (.ref C_Table))) (pg_Table : PySem.W.plainGet K C_Table Str.empty = true) (hd_Table : PySem.W.hasDictIn K C_Table = true) (po_Table : PySem.W.plainOver K C_Table = true) (sa_Table : PySem.W.findIn K (.ref C_Table) "__setattr__" = some (some (.builtin "object.__setattr__"))) (mk_Table : PySem.W.makesIn K C_Table = true) (kc_Table : PySem.W.keepIn K (.ref C_Table) = true)
    (nf_Table_thing_by : PySem.W.findIn K (.ref C_Table) "thing_by" = some none)
    (z_dict : PySem.W.nsIn K mainGlobals "dict" = some none)
    (z_int : PySem.W.nsIn K mainGlobals "int" = some none)
    (z_len : PySem.W.nsIn K mainGlobals "len" = some none)
    (z_list : PySem.W.nsIn K mainGlobals "list" = some none)
    (z_max : PySem.W.nsIn K mainGlobals "max" = some none)
    (z_min : PySem.W.nsIn K mainGlobals "min" = some none)
    (z_range : PySem.W.nsIn K mainGlobals "range" = some none)
    (z_sorted : PySem.W.nsIn K mainGlobals "sorted" = some none)
    (v_WIDTH : PySem.W.nsIn K mainGlobals "WIDTH" = some (some (.int 16 t_WIDTH))) :
    ∃ fd : FuncData, (∀ (s : Shared) (v : Value), BindsTo s fd ⟨[v], []⟩ [("_law_script", v)]) ∧ ∀ base : Heap, K.In base → base.Ns mainGlobals mg → FnOk P w K mg base CX0 9 fa fd ["_law_script"] (spC K d_law) := by
  have e := hfa.symm.trans (PySem.W.mg_of X G a_law)
  cases e
  have hC_Table : (clAdd C0 "Table" C_Table) "Table" = some C_Table := clAdd_same
  have T_Table : ClD K (clAdd C0 "Table" C_Table) "Table" := ⟨C_Table, hC_Table, ⟨pg_Table, hd_Table, po_Table, sa_Table⟩⟩
  have n_Table_thing_by : NoA K (clAdd C0 "Table" C_Table) "Table" "thing_by" := noA_of hC_Table nf_Table_thing_by
  have T_l_stream : TF K mg "_law_stream" s_l_stream := ⟨f_l_stream, _, PySem.W.mg_of X G a_l_stream, fun_mk (st := s_l_stream) l_l_stream cc_l_stream k_l_stream⟩
  have T_l_bits : TF K mg "_law_bits" s_l_bits := ⟨f_l_bits, _, PySem.W.mg_of X G a_l_bits, fun_mk (st := s_l_bits) l_l_bits cc_l_bits k_l_bits⟩
  have T_l_number : TF K mg "_law_number" s_l_number := ⟨f_l_number, _, PySem.W.mg_of X G a_l_number, fun_mk (st := s_l_number) l_l_number cc_l_number k_l_number⟩
  have T_l_beginning : TF K mg "_law_beginning" s_l_beginning := ⟨f_l_beginning, _, PySem.W.mg_of X G a_l_beginning, fun_mk (st := s_l_beginning) l_l_beginning cc_l_beginning k_l_beginning⟩
  have T_l_picked : TF K mg "_law_picked" s_l_picked := ⟨f_l_picked, _, PySem.W.mg_of X G a_l_picked, fun_mk (st := s_l_picked) l_l_picked cc_l_picked k_l_picked⟩
  have T_l_place : TF K mg "_law_place" s_l_place := ⟨f_l_place, _, PySem.W.mg_of X G a_l_place, fun_mk (st := s_l_place) l_l_place cc_l_place k_l_place⟩
  have T_l_put : TF K mg "_law_put" s_l_put := ⟨f_l_put, _, PySem.W.mg_of X G a_l_put, fun_mk (st := s_l_put) l_l_put cc_l_put k_l_put⟩
  have T_least : TF K mg "least" s_least := ⟨f_least, _, PySem.W.mg_of X G a_least, fun_mk (st := s_least) l_least cc_least k_least⟩
  have T_place_in_order : TF K mg "place_in_order" s_place_in_order := ⟨f_place_in_order, _, PySem.W.mg_of X G a_place_in_order, fun_mk (st := s_place_in_order) l_place_in_order cc_place_in_order k_place_in_order⟩
  have T_in_order : TF K mg "in_order" s_in_order := ⟨f_in_order, _, PySem.W.mg_of X G a_in_order, fun_mk (st := s_in_order) l_in_order cc_in_order k_in_order⟩
  have T_l_place_of : TF K mg "_law_place_of" s_l_place_of := ⟨f_l_place_of, _, PySem.W.mg_of X G a_l_place_of, fun_mk (st := s_l_place_of) l_l_place_of cc_l_place_of k_l_place_of⟩
  have T_l_sorted : TF K mg "_law_sorted" s_l_sorted := ⟨f_l_sorted, _, PySem.W.mg_of X G a_l_sorted, fun_mk (st := s_l_sorted) l_l_sorted cc_l_sorted k_l_sorted⟩
  have T_l_cell_at : TF K mg "_law_cell_at" s_l_cell_at := ⟨f_l_cell_at, _, PySem.W.mg_of X G a_l_cell_at, fun_mk (st := s_l_cell_at) l_l_cell_at cc_l_cell_at k_l_cell_at⟩
  have T_l_thing_by : TF K mg "_law_thing_by" s_l_thing_by := ⟨f_l_thing_by, _, PySem.W.mg_of X G a_l_thing_by, fun_mk (st := s_l_thing_by) l_l_thing_by cc_l_thing_by k_l_thing_by⟩
  have T_l_address : TF K mg "_law_address" s_l_address := ⟨f_l_address, _, PySem.W.mg_of X G a_l_address, fun_mk (st := s_l_address) l_l_address cc_l_address k_l_address⟩
  have T_within : TF K mg "within" s_within := ⟨f_within, _, PySem.W.mg_of X G a_within, fun_mk (st := s_within) l_within cc_within k_within⟩
  have T_l_under : TF K mg "_law_under" s_l_under := ⟨f_l_under, _, PySem.W.mg_of X G a_l_under, fun_mk (st := s_l_under) l_l_under cc_l_under k_l_under⟩
  have T_l_longest : TF K mg "_law_longest" s_l_longest := ⟨f_l_longest, _, PySem.W.mg_of X G a_l_longest, fun_mk (st := s_l_longest) l_l_longest cc_l_longest k_l_longest⟩
  have T_l_look : TF K mg "_law_look" s_l_look := ⟨f_l_look, _, PySem.W.mg_of X G a_l_look, fun_mk (st := s_l_look) l_l_look cc_l_look k_l_look⟩
  refine ⟨PySem.W.fnOf "law" "law" (defArgs s_law) (defBody s_law) (defScope s_law) .none kV_law dc_law pm_law an_law cd_law ct_law, fun s v => .of_eq rfl, fun base KB _ => ?_⟩
  have O_Table___init__ : FnOk P w K mg base CX0 1 f_Table___init__ _ ["self"] (spD K (clAdd C0 "Table" C_Table) d_Table___init__) := ok_Table___init__ (funV_mk (st := s_Table___init__) l_Table___init__ cc_Table___init__) T_Table n_Table_thing_by
  have K_Table : MkD P w K mg base (clAdd C0 "Table" C_Table) 1 "Table" d_Table___init__ [] := ⟨C_Table, f_Table___init__, _, _, [], [], hC_Table, PySem.W.mg_of X G a_Table, ⟨mk_Table, a_Table___init__, i_Table___init__, kc_Table⟩, (bindsN (ps := ["self"]) fun us hl => len1 us hl (fun _ => rfl)), .nil, fun _ _ => .nil, O_Table___init__⟩
  have G_l_stream : Fn P w K mg base (clAdd C0 "Table" C_Table) 1 "_law_stream" d_l_stream := ok_l_stream T_l_stream (PySem.W.mg_none_of X G z_range)
  have G_l_bits : Fn P w K mg base (clAdd C0 "Table" C_Table) 1 "_law_bits" d_l_bits := ok_l_bits T_l_bits (PySem.W.mg_none_of X G z_range)
  have G_l_number : Fn P w K mg base (clAdd C0 "Table" C_Table) 1 "_law_number" d_l_number := ok_l_number T_l_number
  have G_l_beginning : Fn P w K mg base (clAdd C0 "Table" C_Table) 2 "_law_beginning" d_l_beginning := ok_l_beginning T_l_beginning (PySem.W.mg_none_of X G z_len) G_l_stream G_l_bits G_l_number
  have G_l_picked : Fn P w K mg base (clAdd C0 "Table" C_Table) 3 "_law_picked" d_l_picked := ok_l_picked T_l_picked (PySem.W.mg_none_of X G z_int) (PySem.W.mg_none_of X G z_len) (PySem.W.mg_none_of X G z_max) G_l_stream G_l_beginning
  have O_Table_cut : FnOk P w K mg base CX0 1 f_Table_cut _ ["self", "beginning"] (spD K (clAdd C0 "Table" C_Table) d_Table_cut) := ok_Table_cut (funV_mk (st := s_Table_cut) l_Table_cut cc_Table_cut) T_Table n_Table_thing_by
  have M_Table_cut_0 : Mt P w K mg base (clAdd C0 "Table" C_Table) 1 "Table" "cut" d_Table_cut [] := ⟨C_Table, f_Table_cut, _, _, [], [], hC_Table, ⟨pg_Table, hd_Table, po_Table, sa_Table⟩, ⟨a_Table_cut, i_Table_cut, k_Table_cut⟩, (bindsN (ps := ["self", "beginning"]) fun us hl => len2 us hl (fun _ _ => rfl)), .nil, fun _ _ => .nil, O_Table_cut⟩
  have O_Table_put : FnOk P w K mg base CX0 1 f_Table_put _ ["self", "beginning", "thing"] (spD K (clAdd C0 "Table" C_Table) d_Table_put) := ok_Table_put (funV_mk (st := s_Table_put) l_Table_put cc_Table_put) T_Table n_Table_thing_by
  have M_Table_put_0 : Mt P w K mg base (clAdd C0 "Table" C_Table) 1 "Table" "put" d_Table_put [] := ⟨C_Table, f_Table_put, _, _, [], [], hC_Table, ⟨pg_Table, hd_Table, po_Table, sa_Table⟩, ⟨a_Table_put, i_Table_put, k_Table_put⟩, (bindsN (ps := ["self", "beginning", "thing"]) fun us hl => len3 us hl (fun _ _ _ => rfl)), .nil, fun _ _ => .nil, O_Table_put⟩
  have G_l_place : Fn P w K mg base (clAdd C0 "Table" C_Table) 1 "_law_place" d_l_place := ok_l_place T_l_place (PySem.W.mg_none_of X G z_len) (PySem.W.mg_none_of X G z_range)
  have G_l_put : Fn P w K mg base (clAdd C0 "Table" C_Table) 2 "_law_put" d_l_put := ok_l_put T_l_put G_l_place
  have G_least : Fn P w K mg base (clAdd C0 "Table" C_Table) 1 "least" d_least := ok_least T_least (PySem.W.mg_of X G v_WIDTH)
  have G_place_in_order : Fn P w K mg base (clAdd C0 "Table" C_Table) 2 "place_in_order" d_place_in_order := ok_place_in_order T_place_in_order G_least
  have G_in_order : Fn P w K mg base (clAdd C0 "Table" C_Table) 5 "in_order" d_in_order := ok_in_order T_in_order (PySem.W.mg_none_of X G z_sorted) G_place_in_order
  have O_Table_rows : FnOk P w K mg base CX0 6 f_Table_rows _ ["self"] (spL K (clAdd C0 "Table" C_Table) d_Table_rows) := ok_Table_rows (funV_mk (st := s_Table_rows) l_Table_rows cc_Table_rows) T_Table n_Table_thing_by (PySem.W.mg_none_of X G z_list) G_in_order
  have ML_Table_rows_0 : MtL P w K mg base (clAdd C0 "Table" C_Table) 6 "Table" "rows" d_Table_rows [] := ⟨C_Table, f_Table_rows, _, _, [], [], hC_Table, ⟨pg_Table, hd_Table, po_Table, sa_Table⟩, ⟨a_Table_rows, i_Table_rows, k_Table_rows⟩, (bindsN (ps := ["self"]) fun us hl => len1 us hl (fun _ => rfl)), .nil, fun _ _ => .nil, O_Table_rows⟩
  have M_Table_rows_0 : Mt P w K mg base (clAdd C0 "Table" C_Table) 6 "Table" "rows" d_Table_rows [] := ML_Table_rows_0.mt comp_Lst
  have G_l_place_of : Fn P w K mg base (clAdd C0 "Table" C_Table) 1 "_law_place_of" d_l_place_of := ok_l_place_of T_l_place_of (PySem.W.mg_none_of X G z_range)
  have G_l_sorted : Fn P w K mg base (clAdd C0 "Table" C_Table) 2 "_law_sorted" d_l_sorted := ok_l_sorted T_l_sorted (PySem.W.mg_none_of X G z_len) (PySem.W.mg_none_of X G z_range) (PySem.W.mg_none_of X G z_sorted) G_l_place_of
  have G_l_cell_at : Fn P w K mg base (clAdd C0 "Table" C_Table) 1 "_law_cell_at" d_l_cell_at := ok_l_cell_at T_l_cell_at (PySem.W.mg_none_of X G z_len)
  have G_l_thing_by : Fn P w K mg base (clAdd C0 "Table" C_Table) 1 "_law_thing_by" d_l_thing_by := ok_l_thing_by T_l_thing_by
  have G_l_address : Fn P w K mg base (clAdd C0 "Table" C_Table) 2 "_law_address" d_l_address := ok_l_address T_l_address (PySem.W.mg_none_of X G z_max) G_l_stream G_l_bits G_l_number
  have G_within : Fn P w K mg base (clAdd C0 "Table" C_Table) 1 "within" d_within := ok_within T_within
  have O_Table_under : FnOk P w K mg base CX0 7 f_Table_under _ ["self", "beginning"] (spL K (clAdd C0 "Table" C_Table) d_Table_under) := ok_Table_under (funV_mk (st := s_Table_under) l_Table_under cc_Table_under) M_Table_rows_0 G_within
  have ML_Table_under_0 : MtL P w K mg base (clAdd C0 "Table" C_Table) 7 "Table" "under" d_Table_under [] := ⟨C_Table, f_Table_under, _, _, [], [], hC_Table, ⟨pg_Table, hd_Table, po_Table, sa_Table⟩, ⟨a_Table_under, i_Table_under, k_Table_under⟩, (bindsN (ps := ["self", "beginning"]) fun us hl => len2 us hl (fun _ _ => rfl)), .nil, fun _ _ => .nil, O_Table_under⟩
  have M_Table_under_0 : Mt P w K mg base (clAdd C0 "Table" C_Table) 7 "Table" "under" d_Table_under [] := ML_Table_under_0.mt comp_Lst
  have G_l_under : Fn P w K mg base (clAdd C0 "Table" C_Table) 3 "_law_under" d_l_under := ok_l_under T_l_under G_l_place_of G_l_sorted
  have O_Table_longest : FnOk P w K mg base CX0 1 f_Table_longest _ ["self", "address", "most"] (spD K (clAdd C0 "Table" C_Table) d_Table_longest) := ok_Table_longest (funV_mk (st := s_Table_longest) l_Table_longest cc_Table_longest) T_Table n_Table_thing_by (PySem.W.mg_of X G v_WIDTH) (PySem.W.mg_none_of X G z_min) (PySem.W.mg_none_of X G z_range)
  have M_Table_longest_1 : Mt P w K mg base (clAdd C0 "Table" C_Table) 1 "Table" "longest" d_Table_longest [.int 16] := ⟨C_Table, f_Table_longest, _, _, [Value.int 16 t_Table_longest_0], [V.int 16], hC_Table, ⟨pg_Table, hd_Table, po_Table, sa_Table⟩, ⟨a_Table_longest, i_Table_longest, k_Table_longest⟩, (bindsV (ps := ["self", "address", "most"]) rfl ld_Table_longest rfl 2 rfl fun us hl => len2 us hl (fun _ _ => ⟨_, rfl, rfl⟩)), (.cons ⟨_, rfl⟩ .nil), fun _ _ => (.cons (by rw [Is]) .nil), O_Table_longest⟩
  have G_l_longest : Fn P w K mg base (clAdd C0 "Table" C_Table) 2 "_law_longest" d_l_longest := ok_l_longest T_l_longest G_l_place_of
  have O_Table_count : FnOk P w K mg base CX0 1 f_Table_count _ ["self"] (spD K (clAdd C0 "Table" C_Table) d_Table_count) := ok_Table_count (funV_mk (st := s_Table_count) l_Table_count cc_Table_count) T_Table n_Table_thing_by (PySem.W.mg_none_of X G z_len)
  have M_Table_count_0 : Mt P w K mg base (clAdd C0 "Table" C_Table) 1 "Table" "count" d_Table_count [] := ⟨C_Table, f_Table_count, _, _, [], [], hC_Table, ⟨pg_Table, hd_Table, po_Table, sa_Table⟩, ⟨a_Table_count, i_Table_count, k_Table_count⟩, (bindsN (ps := ["self"]) fun us hl => len1 us hl (fun _ => rfl)), .nil, fun _ _ => .nil, O_Table_count⟩
  have O_Table_has : FnOk P w K mg base CX0 1 f_Table_has _ ["self", "beginning"] (spD K (clAdd C0 "Table" C_Table) d_Table_has) := ok_Table_has (funV_mk (st := s_Table_has) l_Table_has cc_Table_has) T_Table n_Table_thing_by
  have M_Table_has_0 : Mt P w K mg base (clAdd C0 "Table" C_Table) 1 "Table" "has" d_Table_has [] := ⟨C_Table, f_Table_has, _, _, [], [], hC_Table, ⟨pg_Table, hd_Table, po_Table, sa_Table⟩, ⟨a_Table_has, i_Table_has, k_Table_has⟩, (bindsN (ps := ["self", "beginning"]) fun us hl => len2 us hl (fun _ _ => rfl)), .nil, fun _ _ => .nil, O_Table_has⟩
  have O_Table_get : FnOk P w K mg base CX0 1 f_Table_get _ ["self", "beginning", "other"] (spD K (clAdd C0 "Table" C_Table) d_Table_get) := ok_Table_get (funV_mk (st := s_Table_get) l_Table_get cc_Table_get) T_Table n_Table_thing_by
  have M_Table_get_0 : Mt P w K mg base (clAdd C0 "Table" C_Table) 1 "Table" "get" d_Table_get [] := ⟨C_Table, f_Table_get, _, _, [], [], hC_Table, ⟨pg_Table, hd_Table, po_Table, sa_Table⟩, ⟨a_Table_get, i_Table_get, k_Table_get⟩, (bindsV (ps := ["self", "beginning", "other"]) rfl ld_Table_get rfl 3 rfl fun us hl => len3 us hl (fun _ _ _ => ⟨_, rfl, rfl⟩)), .nil, fun _ _ => .nil, O_Table_get⟩
  have M_Table_get_1 : Mt P w K mg base (clAdd C0 "Table" C_Table) 1 "Table" "get" d_Table_get [.non] := ⟨C_Table, f_Table_get, _, _, [Value.none], [V.non], hC_Table, ⟨pg_Table, hd_Table, po_Table, sa_Table⟩, ⟨a_Table_get, i_Table_get, k_Table_get⟩, (bindsV (ps := ["self", "beginning", "other"]) rfl ld_Table_get rfl 2 rfl fun us hl => len2 us hl (fun _ _ => ⟨_, rfl, rfl⟩)), (.cons rfl .nil), fun _ _ => (.cons (by rw [Is]) .nil), O_Table_get⟩
  have G_l_look : Fn P w K mg base (clAdd C0 "Table" C_Table) 8 "_law_look" d_l_look := ok_l_look T_l_look M_Table_count_0 M_Table_has_0 M_Table_get_0 M_Table_get_1 M_Table_longest_1 M_Table_rows_0 M_Table_under_0 ML_Table_rows_0 ML_Table_under_0 (PySem.W.mg_none_of X G z_dict) (PySem.W.mg_none_of X G z_len) (PySem.W.mg_none_of X G z_list) G_l_stream G_l_picked G_l_address G_l_place G_l_longest G_l_sorted G_l_under
  exact (law_fn (C := (clAdd C0 "Table" C_Table)) (fun_mk (st := s_law) l_law cc_law k_law) M_Table_cut_0 M_Table_put_0 M_Table_rows_0 K_Table (PySem.W.mg_none_of X G z_range) G_l_stream G_l_cell_at G_l_picked G_l_place G_l_thing_by G_l_put G_l_look G_l_sorted).imp fun vs H Q E h => h _
theorem walk {l : PySem.W.OpenLaw} {q : Program} {loose : List Str} {XP : (Str → Option Value) → Heap → Prop} {YP : World → Heap → Prop} {d : DefRec} {K : Params → PySem.W.Frag} (hn : l.most = some 63) (hdf : d.params.defaults = [])
    (hY : ∀ (w : World) (h : Heap), YP w h → (K w.params).In h) (holds : ∀ ns : List Int, ns.length ≤ 63 → ∃ Ω, d_law [.scr ns] [] = some (.bl true, Ω))
    (F : ∀ (w : World) (mg : Str → Option Value) (fa : Addr) (h : Heap), (K w.params).In h → h.Ns mainGlobals mg → mg d.name = some (.ref fa) →
      ∃ fd : FuncData, (∀ (s : Shared) (u : Value), BindsTo s fd ⟨[u], []⟩ [("_law_script", u)]) ∧ ∀ base : Heap, (K w.params).In base → base.Ns mainGlobals mg → FnOk l.prog w (K w.params) mg base CX0 9 fa fd ["_law_script"] (spC (K w.params) d_law)) :
    PySem.W.WalkO q loose XP YP l.row.toRowW d [] (fun f vs => PySem.call f vs) :=
  L2.walk_of (n := 63) (k := 9) (x := "_law_script") (CX := fun _ => CX0) (sp := fun w => spC (K w.params) d_law) hn (by decide) hdf ⟨rfl, by decide, by decide, rfl⟩ hY F (fun _ _ a ns hl _ hS => law_okC hS (holds ns hl)) fun _ _ _ _ _ z => z
end Law
open PySem PySem.W PyProof.Rows
set_option maxRecDepth 100000 in
set_option maxHeartbeats 0 in
theorem PySem.Challenge.cw_posthouse_k11_whole_tables_by_turns_holds : PySem.Challenge.rw_posthouse_k11_whole_tables_by_turns.Holds := by
  w_on; o_law; k_head; (case hw => w_witness2)
  k_fill
  refine Law.walk (l := PySem.Challenge.rw_posthouse_k11_whole_tables_by_turns) rfl rfl (fun w h Y => PySem.W.kIn_of Y) Law.holds ?F
  case F =>
    intro w mg fa h KX G hmg
    refine' Law.all_mk KX G hmg ?a_Table___init__ ?i_Table___init__ ?l_Table___init__ ?cc_Table___init__ ?k_Table___init__ ?a_l_stream ?l_l_stream ?cc_l_stream ?k_l_stream ?a_l_bits ?l_l_bits ?cc_l_bits ?k_l_bits ?a_l_number ?l_l_number ?cc_l_number ?k_l_number ?a_l_beginning ?l_l_beginning ?cc_l_beginning ?k_l_beginning ?a_l_picked ?l_l_picked ?cc_l_picked ?k_l_picked ?a_Table_cut ?i_Table_cut ?l_Table_cut ?cc_Table_cut ?k_Table_cut ?a_Table_put ?i_Table_put ?l_Table_put ?cc_Table_put ?k_Table_put ?a_l_place ?l_l_place ?cc_l_place ?k_l_place ?a_l_put ?l_l_put ?cc_l_put ?k_l_put ?a_least ?l_least ?cc_least ?k_least ?a_place_in_order ?l_place_in_order ?cc_place_in_order ?k_place_in_order ?a_in_order ?l_in_order ?cc_in_order ?k_in_order ?a_Table_rows ?i_Table_rows ?l_Table_rows ?cc_Table_rows ?k_Table_rows ?a_l_place_of ?l_l_place_of ?cc_l_place_of ?k_l_place_of ?a_l_sorted ?l_l_sorted ?cc_l_sorted ?k_l_sorted ?a_l_cell_at ?l_l_cell_at ?cc_l_cell_at ?k_l_cell_at ?a_l_thing_by ?l_l_thing_by ?cc_l_thing_by ?k_l_thing_by ?a_l_address ?l_l_address ?cc_l_address ?k_l_address ?a_within ?l_within ?cc_within ?k_within ?a_Table_under ?i_Table_under ?l_Table_under ?cc_Table_under ?k_Table_under ?a_l_under ?l_l_under ?cc_l_under ?k_l_under ?a_Table_longest ?i_Table_longest ?l_Table_longest ?cc_Table_longest ?k_Table_longest ?ld_Table_longest ?a_l_longest ?l_l_longest ?cc_l_longest ?k_l_longest ?a_Table_count ?i_Table_count ?l_Table_count ?cc_Table_count ?k_Table_count ?a_Table_has ?i_Table_has ?l_Table_has ?cc_Table_has ?k_Table_has ?a_Table_get ?i_Table_get ?l_Table_get ?cc_Table_get ?k_Table_get ?ld_Table_get ?a_l_look ?l_l_look ?cc_l_look ?k_l_look ?a_law ?l_law ?cc_law ?k_law ?a_Table ?pg_Table ?hd_Table ?po_Table ?sa_Table ?mk_Table ?kc_Table ?nf_Table_thing_by ?z_dict ?z_int ?z_len ?z_list ?z_max ?z_min ?z_range ?z_sorted ?v_WIDTH
    (case a_Table => k_is)
    (case a_Table___init__ => k_is)
    (case i_Table___init__ => k_is)
    (case l_Table___init__ => k_is)
    (case cc_Table___init__ => k_is)
    (case k_Table___init__ => k_is)
    (case a_l_stream => k_is)
    (case l_l_stream => k_is)
    (case cc_l_stream => k_is)
    (case k_l_stream => k_is)
    (case a_l_bits => k_is)
    (case l_l_bits => k_is)
    (case cc_l_bits => k_is)
    (case k_l_bits => k_is)
    (case a_l_number => k_is)
    (case l_l_number => k_is)
    (case cc_l_number => k_is)
    (case k_l_number => k_is)
    (case a_l_beginning => k_is)
    (case l_l_beginning => k_is)
    (case cc_l_beginning => k_is)
    (case k_l_beginning => k_is)
    (case a_l_picked => k_is)
    (case l_l_picked => k_is)
    (case cc_l_picked => k_is)
    (case k_l_picked => k_is)
    (case a_Table_cut => k_is)
    (case i_Table_cut => k_is)
    (case l_Table_cut => k_is)
    (case cc_Table_cut => k_is)
    (case k_Table_cut => k_is)
    (case a_Table_put => k_is)
    (case i_Table_put => k_is)
    (case l_Table_put => k_is)
    (case cc_Table_put => k_is)
    (case k_Table_put => k_is)
    (case a_l_place => k_is)
    (case l_l_place => k_is)
    (case cc_l_place => k_is)
    (case k_l_place => k_is)
    (case a_l_put => k_is)
    (case l_l_put => k_is)
    (case cc_l_put => k_is)
    (case k_l_put => k_is)
    (case a_least => k_is)
    (case l_least => k_is)
    (case cc_least => k_is)
    (case k_least => k_is)
    (case a_place_in_order => k_is)
    (case l_place_in_order => k_is)
    (case cc_place_in_order => k_is)
    (case k_place_in_order => k_is)
    (case a_in_order => k_is)
    (case l_in_order => k_is)
    (case cc_in_order => k_is)
    (case k_in_order => k_is)
    (case a_Table_rows => k_is)
    (case i_Table_rows => k_is)
    (case l_Table_rows => k_is)
    (case cc_Table_rows => k_is)
    (case k_Table_rows => k_is)
    (case a_l_place_of => k_is)
    (case l_l_place_of => k_is)
    (case cc_l_place_of => k_is)
    (case k_l_place_of => k_is)
    (case a_l_sorted => k_is)
    (case l_l_sorted => k_is)
    (case cc_l_sorted => k_is)
    (case k_l_sorted => k_is)
    (case a_l_cell_at => k_is)
    (case l_l_cell_at => k_is)
    (case cc_l_cell_at => k_is)
    (case k_l_cell_at => k_is)
    (case a_l_thing_by => k_is)
    (case l_l_thing_by => k_is)
    (case cc_l_thing_by => k_is)
    (case k_l_thing_by => k_is)
    (case a_l_address => k_is)
    (case l_l_address => k_is)
    (case cc_l_address => k_is)
    (case k_l_address => k_is)
    (case a_within => k_is)
    (case l_within => k_is)
    (case cc_within => k_is)
    (case k_within => k_is)
    (case a_Table_under => k_is)
    (case i_Table_under => k_is)
    (case l_Table_under => k_is)
    (case cc_Table_under => k_is)
    (case k_Table_under => k_is)
    (case a_l_under => k_is)
    (case l_l_under => k_is)
    (case cc_l_under => k_is)
    (case k_l_under => k_is)
    (case a_Table_longest => k_is)
    (case i_Table_longest => k_is)
    (case l_Table_longest => k_is)
    (case cc_Table_longest => k_is)
    (case k_Table_longest => k_is)
    (case ld_Table_longest => k_is)
    (case a_l_longest => k_is)
    (case l_l_longest => k_is)
    (case cc_l_longest => k_is)
    (case k_l_longest => k_is)
    (case a_Table_count => k_is)
    (case i_Table_count => k_is)
    (case l_Table_count => k_is)
    (case cc_Table_count => k_is)
    (case k_Table_count => k_is)
    (case a_Table_has => k_is)
    (case i_Table_has => k_is)
    (case l_Table_has => k_is)
    (case cc_Table_has => k_is)
    (case k_Table_has => k_is)
    (case a_Table_get => k_is)
    (case i_Table_get => k_is)
    (case l_Table_get => k_is)
    (case cc_Table_get => k_is)
    (case k_Table_get => k_is)
    (case ld_Table_get => k_is)
    (case a_l_look => k_is)
    (case l_l_look => k_is)
    (case cc_l_look => k_is)
    (case k_l_look => k_is)
    (case a_law => k_is)
    (case l_law => k_is)
    (case cc_law => k_is)
    (case k_law => k_is)
    (case pg_Table => k_is)
    (case hd_Table => k_is)
    (case po_Table => k_is)
    (case sa_Table => k_is)
    (case mk_Table => k_is)
    (case kc_Table => k_is)
    (case nf_Table_thing_by => k_is)
    (case z_dict => k_is)
    (case z_int => k_is)
    (case z_len => k_is)
    (case z_list => k_is)
    (case z_max => k_is)
    (case z_min => k_is)
    (case z_range => k_is)
    (case z_sorted => k_is)
    (case v_WIDTH => k_is)

import PyProof.Rows.All
import Wide.All
import OpenK.AllK
import Wide.FinOn
import Lean
import PyProof.EqAt
import PyProof.EqKinds
import PyProof.TupleCall
import KE.KNest
import KE.KSortTup
import KE.KIntText
import KE.KTryMore
import PyProof.ExcArgs
import KE.KIsAll
import PyProof.ReprNest
import PyProof.NsMap
import PyProof.Rows.Own
import PyProof.ReprStr
import PyProof.ExcBaseAll.ValueError
import PyProof.FitsInt
import PyProof.ZipIter
import KE.KDictOf
import PyProof.AttrMissHeap
import PyProof.WalksEnum
import PyProof.EnumMake
import KE.KEqDict
import KE.KItemsList
import KE.KSorted
import PyProof.SetScanFacts
import PyProof.Rows.SetFrom
import PyProof.Rows.SortShell
import PyProof.CollectWalk
import PyProof.MakeMany
import PyProof.WalksS
import PyProof.WalkLemmas
import PyProof.Rows.SortWalk
import KE.KTabLook
import KE.KUnpack
import PyProof.Draws
import PySem.Challenge.RW_posthouse_k53_rows_read
set_option Elab.async false
set_option linter.all false
set_option maxRecDepth 100000
set_option genSizeOf false
set_option bootstrap.genMatcherCode false
namespace L2
open PySem PySem.Spec PyProof.Rows
noncomputable abbrev Key:=Sum Int Str
noncomputable def keyIs:Key -> Value -> Bool
 | .inl k,v => Value.isInt k v
 | .inr x,v => Value.isStrOf x v
noncomputable def keyH (w:World):Key -> Int
 | .inl k => hashInt k
 | .inr x => hashStr w x
theorem keyIs_shape:∀ {k:Key} {v:Value},keyIs k v = true -> (∃ i t,k = Sum.inl i /\ v = Value.int i t) \/ (∃ x t,k = Sum.inr x /\ v = Value.str x t)
 | .inl i,v,h => by
  obtain ⟨t,e⟩:=Value.isInt_shape (k:=i) (v:=v) h
  exact .inl ⟨i,t,rfl,e⟩
 | .inr x,v,h => by
  obtain ⟨t,e⟩:=Value.isStrOf_shape (x:=x) (v:=v) h
  exact .inr ⟨x,t,rfl,e⟩
theorem keyIs_int (i:Int) (t:Tok):keyIs (.inl i) (.int i t) = true:=by simp [keyIs,Value.isInt]
theorem keyIs_str (x:Str) (t:Tok):keyIs (.inr x) (.str x t) = true:=by simp [keyIs,Value.isStrOf]
theorem key_ll (a b:Int):decide ((Sum.inl a:Key) = Sum.inl b) = (a == b):=by
 by_cases e:a = b
 ·subst e; simp
 ·have h:¬ (Sum.inl a:Key) = Sum.inl b:=fun q => e (Sum.inl.inj q)
  rw [decide_eq_false h]
  exact (beq_eq_false_iff_ne.mpr e).symm
theorem key_rr (a b:Str):decide ((Sum.inr a:Key) = Sum.inr b) = decide (a = b):=by
 by_cases e:a = b
 ·subst e; simp
 ·have h:¬ (Sum.inr a:Key) = Sum.inr b:=fun q => e (Sum.inr.inj q)
  rw [decide_eq_false h,decide_eq_false e]
theorem key_lr (a:Int) (b:Str):decide ((Sum.inl a:Key) = Sum.inr b) = false:=decide_eq_false (fun q => nomatch q)
theorem key_rl (a:Str) (b:Int):decide ((Sum.inr a:Key) = Sum.inl b) = false:=decide_eq_false (fun q => nomatch q)
noncomputable def mixKind (prog:Program) (w:World):PySem.KeyKind prog w Key where
 is:=keyIs
 hash:=keyH w
 inj:=fun v a b ha hb => by
  rcases keyIs_shape ha with ⟨i,t,rfl,rfl⟩ | ⟨x,t,rfl,rfl⟩
  ·rcases keyIs_shape hb with ⟨j,u,rfl,e⟩ | ⟨y,u,rfl,e⟩
   ·injection e with e1 _; rw [e1]
   ·exact nomatch e
  ·rcases keyIs_shape hb with ⟨j,u,rfl,e⟩ | ⟨y,u,rfl,e⟩
   ·exact nomatch e
   ·injection e with e1 _; rw [e1]
 byValue:=fun k v h => by
  rcases keyIs_shape h with ⟨i,t,rfl,rfl⟩ | ⟨x,t,rfl,rfl⟩ <;> rfl
 pyHash:=fun hv h => by
  rcases keyIs_shape hv with ⟨i,t,rfl,rfl⟩ | ⟨x,t,rfl,rfl⟩
  ·exact wpAny_pyHash_int h
  ·exact wpAny_pyHash_str h
 eqBool:=fun hu hv h => by
  rcases keyIs_shape hu with ⟨i,t,rfl,rfl⟩ | ⟨x,t,rfl,rfl⟩
  ·rcases keyIs_shape hv with ⟨j,u,rfl,rfl⟩ | ⟨y,u,rfl,rfl⟩
   ·rw [key_ll] at h; exact wpAny_eqBool_int h
   ·rw [key_lr] at h; exact SeqAt.EqAt.int_str i t y u _ _ _ _ h
  ·rcases keyIs_shape hv with ⟨j,u,rfl,rfl⟩ | ⟨y,u,rfl,rfl⟩
   ·rw [key_rl] at h; exact SeqAt.EqAt.str_int x t j u _ _ _ _ h
   ·rw [key_rr] at h; exact wpAny_eqBool_str h
 «strs»:=fun k x t v h => by
  rcases keyIs_shape h with ⟨i,u,rfl,e⟩ | ⟨y,u,rfl,e⟩
  ·exact nomatch e
  ·injection e with e1 _
   subst e1
   cases v <;> rfl
theorem mixKind_int (prog:Program) (w:World) (i:Int) (t:Tok):(mixKind prog w).is (.inl i) (.int i t) = true:=keyIs_int i t
theorem mixKind_str (prog:Program) (w:World) (x:Str) (t:Tok):(mixKind prog w).is (.inr x) (.str x t) = true:=keyIs_str x t
end L2
namespace L2
open PySem PySem.Spec PyProof.Rows
inductive V where
 | non | bl (b:Bool) | int (i:Int) | str (x:Str) | byt (b:Array UInt8) | flt (b:UInt64) | ref (a:Addr) | ty (n:String)
 deriving DecidableEq
noncomputable def RelV:V -> Value -> Prop
 | .non,u => u = Value.none
 | .bl b,u => u = Value.bool b
 | .int i,u => ∃ t,u = Value.int i t
 | .str x,u => ∃ t,u = Value.str x t
 | .byt b,u => ∃ t,u = Value.bytes b t
 | .flt b,u => ∃ t,u = Value.float b t
 | .ref a,u => u = Value.ref a
 | .ty n,u => u = Value.type n
noncomputable abbrev Vals:List V -> List Value -> Prop:=Paired RelV
theorem Vals.length {xs:List V} {us:List Value} (r:Vals xs us):xs.length = us.length:=Paired.length r
theorem Vals.get:∀ {xs:List V} {us:List Value} {i:Nat} {x:V},Vals xs us -> xs[i]? = some x -> ∃ u,us[i]? = some u /\ RelV x u
 | _,_,_,_,.nil,e => by simp at e
 | _,_,0,_,.cons r _,e => by simp at e; subst e; exact ⟨_,rfl,r⟩
 | _,_,i + 1,x,.cons _ t,e => by
  obtain ⟨u,h1,h2⟩:=Vals.get (i:=i) (x:=x) t (by simpa using e)
  exact ⟨u,by simpa using h1,h2⟩
theorem Vals.append:∀ {xs ys:List V} {us ws:List Value},Vals xs us -> Vals ys ws -> Vals (xs ++ ys) (us ++ ws)
 | _,_,_,_,.nil,s => s
 | _,_,_,_,.cons r t,s => .cons r (Vals.append t s)
theorem Vals.take:∀ {xs:List V} {us:List Value} (n:Nat),Vals xs us -> Vals (xs.take n) (us.take n)
 | _,_,0,_ => .nil
 | _,_,_ + 1,.nil => .nil
 | _,_,n + 1,.cons r t => .cons r (Vals.take n t)
theorem Vals.drop:∀ {xs:List V} {us:List Value} (n:Nat),Vals xs us -> Vals (xs.drop n) (us.drop n)
 | _,_,0,r => r
 | _,_,_ + 1,.nil => .nil
 | _,_,n + 1,.cons _ t => Vals.drop n t
noncomputable def RelO:Option V -> Option Value -> Prop
 | some v,some u => RelV v u
 | none,none => True
 | _,_ => False
noncomputable def KV {κ:Type}:List (κ × V) -> List (κ × Value) -> Prop:=Paired fun (p:κ × V) (q:κ × Value) => p.1 = q.1 /\ RelV p.2 q.2
noncomputable def kV:Key -> V
 | .inl i => .int i
 | .inr x => .str x
inductive HO where
  | lst (xs:List V)
  | tup (xs:List V)
  | dK (kvs:List (Key × V)) | dT (kvs:List (List Key × V))
  | set (S:Int -> Bool) (n:Nat)
  | ins (C dx:Addr) (fs:List (Str × V))
  | own (x:Addr)
  | xd (fs:List (Str × V))
  | met (f x:Addr)
  | rng (lo hi:Int)
  | frz (o:Obj) (u:HO)
  | tbl (ps:Array Value)
  | ext (φ:Heap -> Prop)
noncomputable abbrev Hp:=Addr -> Option HO
noncomputable def upd (H:Hp) (a:Addr) (o:HO):Hp:=fun b => if b = a then some o else H b
theorem upd_same {H:Hp} {a:Addr} {o:HO}:upd H a o a = some o:=by unfold upd; rw [if_pos rfl]
theorem upd_ne {H:Hp} {a b:Addr} {o:HO} (h:b ≠ a):upd H a o b = H b:=by unfold upd; rw [if_neg h]
theorem ne_of_none {H:Hp} {a b:Addr} {o:HO} (h:H a = some o) (h':H b = none):a ≠ b:=by
 intro e; subst e; rw [h] at h'; cases h'
section
variable (P:Program) (w:World)
noncomputable def ObjOk (H:Hp) (h:Heap) (a:Addr):HO -> Prop
 | .lst xs => xs.length <= sizeLine /\ ∃ (its:List Value) (n:Nat),Vals xs its /\ h.get? a = some { cls:=.type "list",data:=.seq its.toArray n }
 | .tup xs => xs.length <= sizeLine /\ ∃ its:List Value,Vals xs its /\ IsTup h a its.toArray
 | .dK kvs => kvs.length <= sizeLine /\ (a == sysModules) = false /\ ∃ vs,KV kvs vs /\ h.DictOf (mixKind P w) a vs
 | .dT kvs => kvs.length <= sizeLine /\ (a == sysModules) = false /\ ∃ xs:List (List Key × Addr × Value),
   Paired (fun (p:List Key × V) (q:List Key × Addr × Value) => p.1 = q.1 /\ H q.2.1 = some (.tup (p.1.map kV)) /\ RelV p.2 q.2.2) kvs xs /\
   ∃ o es ep,h.get? a = some o /\ o.ExactDict /\ o.data = .dict es ep /\ es.toList = xs.map (entryOfKey (tupleKind (mixKind P w))) /\ (xs.map (·.1)).Nodup
 | .set S n => h.SetOf (intKind P w) a S n
 | .ins C dx fs => H dx = some (.own a) /\ fs.length <= 1000 /\ dx ≠ a /\ h.get? a = some (PySem.W.instObj C dx) /\
   ∃ mA,h.Ns1 dx mA /\ (∀ f,RelO (fs.lookup f) (mA f)) /\ PySem.Within mA (fs.map (·.1))
 | .own _ => ∃ o,h.get? a = some o
 | .xd fs => ∃ mA,h.Ns1 a mA /\ ∀ f,RelO (fs.lookup f) (mA f)
 | .rng lo hi => ∃ t u v,h.get? a = some { cls:=.type "range",data:=.fields #[.int lo t,.int hi u,.int 1 v] }
 | .frz o u => h.get? a = some o /\ ObjOk H h a u
 | .tbl ps => h.get? a = some { cls:=.none,data:=.fields ps }
 | .met f x => h.get? a = some (PySem.W.methodObj (.ref f) (.ref x))
 | .ext φ => φ h /\ (∃ o,h.get? a = some o) /\ ∀ h1 h2:Heap,φ h1 -> (∀ o,h1.get? a = some o -> h2.get? a = some o) -> φ h2
noncomputable def HOk (H:Hp) (h:Heap):Prop:=∀ a o,H a = some o -> ObjOk P w H h a o
end
section
variable {P:Program} {w:World} {H H':Hp} {h h':Heap} {a:Addr} {o:HO}
theorem ObjOk.lt (x:ObjOk P w H h a o):a < h.objs.size:=by
 cases o with
 | lst xs => obtain ⟨_,_,_,_,e⟩:=x; exact Heap.lt_size e
 | tup xs => obtain ⟨_,_,_,p⟩:=x; exact p.lt
 | dK kvs => obtain ⟨_,_,_,_,o,_,_,e,_⟩:=x; exact Heap.lt_size e
 | dT kvs => obtain ⟨_,_,_,_,o,_,_,e,_⟩:=x; exact Heap.lt_size e
 | set S n => obtain ⟨o,_,_,_,e,_⟩:=x; exact Heap.lt_size e
 | ins C dx fs => obtain ⟨_,_,_,e,_⟩:=x; exact Heap.lt_size e
 | own y => obtain ⟨_,e⟩:=x; exact Heap.lt_size e
 | xd fs => obtain ⟨_,⟨_,_,_,e,_⟩,_⟩:=x; exact Heap.lt_size e
 | rng lo hi => obtain ⟨_,_,_,e⟩:=x; exact Heap.lt_size e
 | frz ob u => obtain ⟨e,_⟩:=x; exact Heap.lt_size e
 | tbl ps => exact Heap.lt_size (show h.get? a = some _ from x)
 | met f y => exact Heap.lt_size (show h.get? a = some _ from x)
 | ext φ => obtain ⟨_,⟨_,e⟩,_⟩:=x; exact Heap.lt_size e
theorem Paired.mapP {α β:Type} {F G:α -> β -> Prop}:∀ {l₁:List α} {l₂:List β},Paired F l₁ l₂ -> (∀ a b,F a b -> G a b) -> Paired G l₁ l₂
 | _,_,.nil,_ => .nil
 | _,_,.cons r t,f => .cons (f _ _ r) (Paired.mapP t f)
theorem ObjOk.stay (x:ObjOk P w H h a o) (k:∀ b u,(b = a \/ H b = some (.own a)) -> h.get? b = some u -> h'.get? b = some u)
  (ho:∀ b,H b = some (.own a) -> H' b = some (.own a)) (ht:∀ b xs,H b = some (.tup xs) -> H' b = some (.tup xs)):ObjOk P w H' h' a o:=by
 induction o with
 | lst xs => obtain ⟨z,its,n,r,e⟩:=x; exact ⟨z,its,n,r,k _ _ (.inl rfl) e⟩
 | tup xs => obtain ⟨z,its,r,ob,e,c⟩:=x; exact ⟨z,its,r,ob,k _ _ (.inl rfl) e,c⟩
 | dK kvs => obtain ⟨z,y,vs,r,ob,es,ep,e,c⟩:=x; exact ⟨z,y,vs,r,ob,es,ep,k _ _ (.inl rfl) e,c⟩
 | dT kvs =>
  obtain ⟨z,y,xs,r,ob,es,ep,e,c⟩:=x
  exact ⟨z,y,xs,Paired.mapP r fun p q z => ⟨z.1,ht _ _ z.2.1,z.2.2⟩,ob,es,ep,k _ _ (.inl rfl) e,c⟩
 | set S n => obtain ⟨ob,es,ep,t,e,c⟩:=x; exact ⟨ob,es,ep,t,k _ _ (.inl rfl) e,c⟩
 | ins C dx fs =>
  obtain ⟨d,z,ne,e,mA,⟨od,es,ep,e2,c⟩,r⟩:=x
  exact ⟨ho _ d,z,ne,k _ _ (.inl rfl) e,mA,⟨od,es,ep,k _ _ (.inr d) e2,c⟩,r⟩
 | own y => obtain ⟨ob,e⟩:=x; exact ⟨ob,k _ _ (.inl rfl) e⟩
 | xd fs => obtain ⟨mA,⟨od,es,ep,e,c⟩,r⟩:=x; exact ⟨mA,⟨od,es,ep,k _ _ (.inl rfl) e,c⟩,r⟩
 | rng lo hi => obtain ⟨t,u,v,e⟩:=x; exact ⟨t,u,v,k _ _ (.inl rfl) e⟩
 | frz ob u ih => obtain ⟨e,q⟩:=x; exact ⟨k _ _ (.inl rfl) e,ih q⟩
 | tbl ps =>
  have e:h.get? a = some { cls:=.none,data:=.fields ps }:=x
  show h'.get? a = some { cls:=.none,data:=.fields ps }
  exact k a _ (.inl rfl) e
 | met f y =>
  have e:h.get? a = some (PySem.W.methodObj (.ref f) (.ref y)):=x
  show h'.get? a = some (PySem.W.methodObj (.ref f) (.ref y))
  exact k a _ (.inl rfl) e
 | ext φ => obtain ⟨p,⟨o,e⟩,st⟩:=x; exact ⟨st _ _ p fun o q => k _ _ (.inl rfl) q,⟨o,k _ _ (.inl rfl) e⟩,st⟩
theorem HOk.lt (x:HOk P w H h) (e:H a = some o):a < h.objs.size:=(x a o e).lt
theorem HOk.fresh (x:HOk P w H h) (e:h.objs.size <= a):H a = none:=by
 cases q:H a with
 | none => rfl
 | some u => exact absurd (Nat.lt_of_lt_of_le (x.lt q) e) (Nat.lt_irrefl _)
theorem HOk.kept (x:HOk P w H h) (k:∀ b u,h.get? b = some u -> h'.get? b = some u):HOk P w H h':=fun a o e =>
 (x a o e).stay (fun b u _ q => k b u q) (fun _ q => q) fun _ _ q => q
theorem HOk.laid (x:HOk P w H h) (k:∀ b u,h.get? b = some u -> h'.get? b = some u) (hp:h.objs.size <= a) (new:ObjOk P w (upd H a o) h' a o):HOk P w (upd H a o) h':=fun b u e => by
 have hn:=x.fresh hp
 by_cases hb:b = a
 ·subst hb; rw [upd_same] at e; cases e; exact new
 ·rw [upd_ne hb] at e
  exact (x b u e).stay (fun c v _ q => k c v q) (fun c q => by rw [upd_ne (ne_of_none q hn)]; exact q) fun c xs q => by rw [upd_ne (ne_of_none q hn)]; exact q
end
noncomputable def Rd (H:Hp) (a:Addr) (u:HO):Prop:=H a = some u \/ ∃ o,H a = some (.frz o u)
theorem Rd.ok {P:Program} {w:World} {H:Hp} {h:Heap} {a:Addr} {u:HO} (r:Rd H a u) (x:HOk P w H h):ObjOk P w H h a u:=by
 rcases r with r | ⟨o,r⟩
 ·exact x a u r
 ·obtain ⟨_,q⟩:=x a _ r
  exact q
noncomputable def Mut:Option HO -> Prop
 | some (.lst _) => True
 | some (.dK _) => True
 | some (.dT _) => True
 | some (.set _ _) => True
 | some (.ins _ _ _) => True
 | some (.ext _) => True
 | _ => False
section
variable {P:Program} {w:World} {H:Hp} {h h':Heap} {x e:Addr} {o':HO}
theorem HOk.write (ok:HOk P w H h) (mu:Mut (H x)) (he:e = x \/ H e = some (.own x)) (k:∀ b u,b ≠ e -> h.get? b = some u -> h'.get? b = some u) (heo:∃ u,h'.get? e = some u)
  (new:ObjOk P w (upd H x o') h' x o'):HOk P w (upd H x o') h':=fun b u q => by
 have nown:∀ c y,H c = some (.own y) -> c ≠ x:=fun c y r z => by subst z; rw [r] at mu; exact mu
 have ntup:∀ c xs,H c = some (.tup xs) -> c ≠ x:=fun c xs r z => by subst z; rw [r] at mu; exact mu
 by_cases hb:b = x
 ·subst hb; rw [upd_same] at q; cases q; exact new
 ·rw [upd_ne hb] at q
  by_cases hbe:b = e
  ·have q':H b = some (.own x):=by
    rcases he with z | z
    ·exact absurd (hbe.trans z) hb
    ·rw [hbe]; exact z
   rw [q] at q'; cases q'
   obtain ⟨v,hv⟩:=heo
   exact ⟨v,by rw [hbe]; exact hv⟩
  ·refine (ok b u q).stay (fun c v hc r => k c v ?_ r) (fun c r => by rw [upd_ne (nown c b r)]; exact r) fun c xs r => by rw [upd_ne (ntup c xs r)]; exact r
   rcases hc with rfl | hc
   ·exact hbe
   ·rintro rfl
    rcases he with z | z
    ·exact nown c b hc z
    ·rw [hc] at z; cases z; exact hb rfl
end
structure Un (fs ex:List Addr) (H H':Hp) (h h':Heap):Prop where
 keep:∀ b o,h.get? b = some o -> H b = none -> b ∉ fs -> b ∉ ex -> h'.get? b = some o
 slot:∀ b o,h.get? b = some o -> H b = none -> b ∈ fs -> b ∉ ex -> ∃ sl,h'.get? b = some { o with slots:=sl }
 free:∀ b o,h.get? b = some o -> H b = none -> b ∉ ex -> H' b = none
 there:∀ b o,h.get? b = some o -> b ∉ ex -> ∃ o',h'.get? b = some o'
 tups:∀ b xs,H b = some (.tup xs) -> H' b = some (.tup xs)
 frzs:∀ b o u,H b = some (.frz o u) -> H' b = some (.frz o u)
 tbls:∀ b ps,H b = some (.tbl ps) -> ∃ more,H' b = some (.tbl (ps ++ more))
section
variable {fs fs' ex ex':List Addr} {H H1 H2:Hp} {h h1 h2 h':Heap} {a x e:Addr} {o:HO}
theorem Un.any (u:Un fs ex H H1 h h1) {b:Addr} {ob:Obj} (q:h.get? b = some ob) (n:H b = none) (hx:b ∉ ex):∃ sl,h1.get? b = some { ob with slots:=sl }:=by
 by_cases hb:b ∈ fs
 ·exact u.slot b ob q n hb hx
 ·exact ⟨ob.slots,u.keep b ob q n hb hx⟩
theorem Un.kept (k:∀ b u,h.get? b = some u -> h'.get? b = some u):Un fs ex H H h h' :=
 ⟨fun b ob q _ _ _ => k b ob q,fun b ob q _ _ _ => ⟨ob.slots,k b ob q⟩,fun _ _ _ n _ => n,fun b ob q _ => ⟨ob,k b ob q⟩,fun _ _ q => q,fun _ _ _ q => q,fun _ ps q => ⟨#[],by rw [q]; simp⟩⟩
theorem Un.refl:Un fs ex H H h h:=Un.kept fun _ _ q => q
theorem Un.laid (k:∀ b u,h.get? b = some u -> h'.get? b = some u) (hp:h.objs.size <= a) (hn:H a = none):Un fs ex H (upd H a o) h h' where
 keep:=fun b u q _ _ _ => k b u q
 slot:=fun b u q _ _ _ => ⟨u.slots,k b u q⟩
 free:=fun b u q n _ => by rw [upd_ne (Nat.ne_of_lt (Nat.lt_of_lt_of_le (Heap.lt_size q) hp))]; exact n
 there:=fun b u q _ => ⟨u,k b u q⟩
 tups:=fun b xs q => by rw [upd_ne (ne_of_none q hn)]; exact q
 frzs:=fun b u xs q => by rw [upd_ne (ne_of_none q hn)]; exact q
 tbls:=fun b ps q => ⟨#[],by rw [upd_ne (ne_of_none q hn),q]; simp⟩
theorem Un.write (mu:Mut (H x)) (he:e = x \/ H e = some (.own x)) (k:∀ b u,b ≠ e -> h.get? b = some u -> h'.get? b = some u) (heo:∃ u,h'.get? e = some u):Un fs ex H (upd H x o) h h':=by
 have hx:∀ b,H b = none -> b ≠ x:=fun b n z => by subst z; rw [n] at mu; exact mu
 have hb:∀ b,H b = none -> b ≠ e:=fun b n z => by
  subst z
  rcases he with r | r
  ·exact hx b n r
  ·rw [n] at r; cases r
 have hm:∀ b u,H b = some u -> ¬ Mut (some u) -> b ≠ x:=fun b u q nm z => by subst z; rw [q] at mu; exact nm mu
 refine ⟨fun b u q n _ _ => k b u (hb b n) q,fun b u q n _ _ => ⟨u.slots,k b u (hb b n) q⟩,fun b u q n _ => by rw [upd_ne (hx b n)]; exact n,fun b u q _ => ?_,
  fun b xs q => by rw [upd_ne (hm b _ q fun z => z)]; exact q,fun b u xs q => by rw [upd_ne (hm b _ q fun z => z)]; exact q,fun b ps q => ⟨#[],by rw [upd_ne (hm b _ q fun z => z),q]; simp⟩⟩
 by_cases hbe:b = e
 ·subst hbe; exact heo
 ·exact ⟨u,k b u hbe q⟩
end
noncomputable def trk (h:Heap) (H:Hp):List Addr:=(List.range h.objs.size).filter fun a => (H a).isSome
noncomputable def hidT (h:Heap) (H:Hp):Heap:=PySem.W.hideAll h (trk h H)
theorem hidT_size (h:Heap) (H:Hp):(hidT h H).objs.size = h.objs.size:=PySem.W.hideAll_size _ _
theorem hidT_get {h:Heap} {H:Hp} {b:Addr} {o:Obj} (e:h.get? b = some o) (n:H b = none):(hidT h H).get? b = some o :=
 PySem.W.hideAll_get _ e fun hm => by
  have q:(H b).isSome = true:=(List.mem_filter.mp hm).2
  rw [n] at q; simp at q
theorem of_hidT {h:Heap} {H:Hp} {b:Addr} {o:Obj} (e:(hidT h H).get? b = some o):h.get? b = some o /\ H b = none:=by
 have e':h.get? b = some o:=PySem.W.of_hideAll (trk h H) e
 refine ⟨e',?_⟩
 cases q:H b with
 | none => rfl
 | some x =>
  have hm:b ∈ trk h H:=List.mem_filter.mpr ⟨List.mem_range.mpr (Heap.lt_size e'),by simp [q]⟩
  have z:(hidT h H).get? b = none:=PySem.W.hideAll_none (trk h H) hm
  rw [z] at e; cases e
noncomputable def allNews (g h:Heap) (L:Addr):List (Addr × Obj):=(List.range h.objs.size).filterMap fun a => if a = L \/ (g.get? a).isSome = true then none else (h.get? a).map fun o => (a,o)
noncomputable def rest (g h:Heap) (L d:Addr):List (Addr × Obj):=(allNews g h L).filter fun p => decide (p.1 ≠ d)
end L2
namespace L2
open PySem PySem.Spec PyProof.Rows
structure Mod (K:PySem.W.Frag) (mg:Str -> Option Value) (base:Heap):Prop where
 kin:K.In base
 glob:base.Ns mainGlobals mg
 blt:∃ mb,base.Ns builtinsNs mb /\ ∀ x:Str,x ≠ "__name__" -> mb x = bootBuiltins x
 nolimit:base.NoLimit
structure Cx where
 prog:Program
 w:World
 K:PySem.W.Frag
 mg:Str -> Option Value
 base:Heap
 A:Around
 N:List Str
 s₀:Shared
 H₀:Hp
 env:Env
 outer:List Env
 stack:List Env
 ex:List Addr
 fn:Str -> Bool
 calm:Bool
 pn:List (Addr × Obj)
 xe:Value -> Shared -> Prop
noncomputable def frs (l:List Env):List Addr:=l.filterMap (·.frame)
noncomputable abbrev Cx.fs (X:Cx):List Addr:=frs X.outer
noncomputable def Vis (sc:Scope) (x:Str):Prop:=sc.names.lookup x = some .local \/ sc.names.lookup x = some .cell \/ sc.names.lookup x = some .free
noncomputable def Loc (sc:Scope) (x:Str):Prop:=sc.names.lookup x = some .local \/ sc.names.lookup x = some .cell
noncomputable def Look (env:Env) (h:Heap) (m:Str -> Option Value) (x:Str) (u:Value):Prop :=
 (env.kindOf x = some .local /\ m x = some u) \/ ((env.kindOf x = some .cell \/ env.kindOf x = some .free) /\ ∃ c,env.cells.lookup x = some c /\ h.IsCell c (some u))
structure Cx.Ok (X:Cx):Prop where
 mod:Mod X.K X.mg X.base
 kind:X.env.scope.kind = .function
 glob:X.env.globals = mainGlobals
 blt:X.env.builtins = builtinsNs
 above:X.s₀.heap.objs.size <= X.env.locals
 inj:∀ x y c,X.env.cells.lookup x = some c -> X.env.cells.lookup y = some c -> x = y
 has:∀ x,(X.env.kindOf x = some .cell \/ X.env.kindOf x = some .free) -> ∃ c,X.env.cells.lookup x = some c
 cab:∀ x c,X.fn x = true -> X.env.cells.lookup x = some c -> X.s₀.heap.objs.size <= c
 hd:X.calm = true -> X.A.handled = none
 frames:X.A.frames = some X.stack
 stk:X.stack = X.outer \/ (X.stack = X.env :: X.outer /\ X.env.frame = some X.env.locals)
 exf:∀ b ∈ X.ex,b ≠ X.env.locals /\ ∀ x c,X.env.cells.lookup x = some c -> c ≠ b
 bs:∀ b o,X.base.get? b = some o -> X.s₀.heap.get? b = some o /\ X.H₀ b = none
 bsz:X.base.objs.size <= X.s₀.heap.objs.size
 noex:∀ b o,X.base.get? b = some o -> b ∉ X.ex
 exfs:∀ b ∈ X.ex,b ∉ X.fs
 funs:X.s₀.heap.FunFrames X.base X.outer
 frf:∀ b ∈ X.fs,X.H₀ b = none
structure Inv (X:Cx) (pins:List (Addr × Obj)) (σ:List (Option V)) (H:Hp) (s:Shared):Prop where
 ok:X.Ok
 os:s.os = X.s₀.os
 bare:AllBare s.gens
 base:Un X.fs X.ex X.H₀ H X.s₀.heap s.heap
 loc:∃ m,s.heap.Ns X.env.locals m /\ ∀ (i:Nat) (x:Str) (v:V),X.N[i]? = some x -> σ[i]? = some (some v) -> Vis X.env.scope x -> ∃ u,RelV v u /\ Look X.env s.heap m x u
 cell:∀ x c,X.env.cells.lookup x = some c -> ∃ v,s.heap.IsCell c v
 free:H X.env.locals = none
 freeC:∀ x c,X.env.cells.lookup x = some c -> H c = none \/ (X.fn x = false /\ ∃ o b,H c = some (.frz o (.own b)))
 pin:∀ p ∈ X.pn ++ pins,s.heap.get? p.1 = some p.2 /\ H p.1 = none /\ p.1 ≠ X.env.locals /\ p.1 ∉ X.fs /\ ∀ v,p.2.data ≠ .cell v
 hok:HOk X.prog X.w H s.heap
 len:σ.length = X.N.length
section
variable {X:Cx} {pins:List (Addr × Obj)} {σ:List (Option V)} {H H':Hp} {s:Shared} {h':Heap}
theorem Cx.Ok.nofr (ok:X.Ok) {b:Addr} {o:Obj} (e:X.base.get? b = some o):b ∉ X.fs:=fun hb => by
 have:=(ok.funs.mem hb).1
 rw [e] at this; cases this
theorem Inv.bs (I:Inv X pins σ H s):∀ b o,X.base.get? b = some o -> s.heap.get? b = some o /\ H b = none:=fun b o e =>
 ⟨I.base.keep b o (I.ok.bs b o e).1 (I.ok.bs b o e).2 (I.ok.nofr e) (I.ok.noex b o e),I.base.free b o (I.ok.bs b o e).1 (I.ok.bs b o e).2 (I.ok.noex b o e)⟩
theorem Inv.bk (I:Inv X pins σ H s):∀ b o,X.base.get? b = some o -> s.heap.get? b = some o:=fun b o e => (I.bs b o e).1
theorem Inv.mod (I:Inv X pins σ H s):Mod X.K X.mg X.base:=I.ok.mod
theorem Inv.kIn (I:Inv X pins σ H s):X.K.In s.heap:=I.ok.mod.kin.keeps I.bk
theorem Inv.lt (I:Inv X pins σ H s):X.env.locals < s.heap.objs.size:=let ⟨_,hn,_⟩:=I.loc; hn.lt
theorem Inv.sz (I:Inv X pins σ H s):X.s₀.heap.objs.size <= s.heap.objs.size:=Nat.le_trans I.ok.above (Nat.le_of_lt I.lt)
theorem Inv.nofs (I:Inv X pins σ H s) {a:Addr} (h:s.heap.objs.size <= a):a ∉ X.fs:=fun hb => by
 obtain ⟨_,o,ho,_⟩:=I.ok.funs.mem hb
 exact absurd (Nat.lt_of_lt_of_le (Heap.lt_size ho) (Nat.le_trans I.sz h)) (Nat.lt_irrefl _)
theorem Inv.cne (I:Inv X pins σ H s):∀ x c,X.env.cells.lookup x = some c -> c ≠ X.env.locals:=fun x c e z => by
 obtain ⟨v,o,ho,hd⟩:=I.cell x c e
 obtain ⟨m,⟨o',es,ep,ho',hd',_⟩,_⟩:=I.loc
 rw [z,ho'] at ho; cases ho; rw [hd'] at hd; cases hd
theorem Inv.funs (I:Inv X pins σ H s):s.heap.FunFrames X.base X.outer:=by
 have all:∀ (l:List Env),(∀ b ∈ frs l,b ∈ X.fs) -> X.s₀.heap.FunFrames X.base l -> s.heap.FunFrames X.base l:=by
  intro l
  induction l with
  | nil => intro _ _; trivial
  | cons env r ih =>
   intro hs hl
   obtain ⟨hk,⟨L,o,hf,hn,ho,hd⟩,hr⟩:=hl
   have hL:L ∈ X.fs:=hs L (by unfold frs; rw [List.filterMap_cons,hf]; exact List.mem_cons_self)
   obtain ⟨sl,e⟩:=I.base.slot L o ho (I.ok.frf L hL) hL fun z => I.ok.exfs L z hL
   exact ⟨hk,⟨L,_,hf,hn,e,hd⟩,ih (fun b hb => hs b (by unfold frs; rw [List.filterMap_cons,hf]; exact List.mem_cons_of_mem _ hb)) hr⟩
 exact all X.outer (fun _ hb => hb) I.ok.funs
theorem Inv.stack (I:Inv X pins σ H s):s.heap.FunFrames X.base X.stack:=by
 rcases I.ok.stk with e | ⟨e,hf⟩
 ·rw [e]; exact I.funs
 ·rw [e]
  obtain ⟨m,hn,_⟩:=I.loc
  refine .cons (by rw [I.ok.kind]; decide) hf hn ?_ I.funs
  exact Heap.get?_none_of_le (Nat.le_trans I.ok.bsz I.ok.above)
theorem Inv.stkSub (I:Inv X pins σ H s):∀ b ∈ frs X.stack,b ∈ X.env.locals :: X.fs:=fun b hb => by
 rcases I.ok.stk with e | ⟨e,hf⟩
 ·rw [e] at hb; exact List.mem_cons_of_mem _ hb
 ·rw [e] at hb
  unfold frs at hb
  rw [List.filterMap_cons,hf] at hb
  exact hb
theorem Inv.stkFree (I:Inv X pins σ H s):∀ b ∈ frs X.stack,H b = none:=fun b hb => by
 rcases List.mem_cons.mp (I.stkSub b hb) with e | hb
 ·rw [e]; exact I.free
 ·obtain ⟨_,o,ho,_⟩:=I.ok.funs.mem hb
  exact I.base.free b o ho (I.ok.frf b hb) fun z => I.ok.exfs b z hb
theorem Inv.step {g':Array GenState} {t':Nat} {d':Drawn} {ch:List Addr} (I:Inv X pins σ H s)
  (hch:∀ b ∈ ch,(b ∈ X.ex \/ X.s₀.heap.objs.size <= b) /\ b ≠ X.env.locals /\ (∀ x c,X.env.cells.lookup x = some c -> c ≠ b) /\ ∀ p ∈ X.pn ++ pins,p.1 ≠ b)
  (keep:∀ b o,b ≠ X.env.locals -> b ∉ X.fs -> b ∉ ch -> s.heap.get? b = some o -> H b = none -> h'.get? b = some o)
  (slot:∀ b o,b ≠ X.env.locals -> b ∈ X.fs -> b ∉ ch -> s.heap.get? b = some o -> H b = none -> ∃ sl,h'.get? b = some { o with slots:=sl }) (free:∀ b o,b ∉ ch -> s.heap.get? b = some o -> H b = none -> H' b = none)
  (there:∀ b o,b ∉ ch -> s.heap.get? b = some o -> ∃ o',h'.get? b = some o')
  (tups:∀ b xs,H b = some (.tup xs) -> H' b = some (.tup xs)) (frzs:∀ b o u,H b = some (.frz o u) -> H' b = some (.frz o u)) (tbls:∀ b ps,H b = some (.tbl ps) -> ∃ more,H' b = some (.tbl (ps ++ more)))
  (ns:∀ m,s.heap.Ns X.env.locals m -> h'.Ns X.env.locals m) (hok:HOk X.prog X.w H' h') (hg:AllBare g') :
  Inv X pins σ H' { s with heap:=h',gens:=g',drawn:=d',toks:=t' }:=by
 have neL:∀ b o,X.s₀.heap.get? b = some o -> b ≠ X.env.locals:=fun b o e => Nat.ne_of_lt (Nat.lt_of_lt_of_le (Heap.lt_size e) I.ok.above)
 have neC:∀ b o,X.s₀.heap.get? b = some o -> b ∉ X.ex -> b ∉ ch:=fun b o e hx hb => by
  rcases (hch b hb).1 with z | z
  ·exact hx z
  ·exact absurd (Nat.lt_of_lt_of_le (Heap.lt_size e) z) (Nat.lt_irrefl _)
 have cellK:∀ x c,X.env.cells.lookup x = some c -> ∀ v,s.heap.IsCell c v -> h'.IsCell c v:=fun x c e v hw' => by
  obtain ⟨o,ho,hd⟩:=hw'
  have nch:c ∉ ch:=fun z => (hch c z).2.2.1 x c e rfl
  rcases I.freeC x c e with fc | ⟨_,o1,b1,fc⟩
  ·by_cases hc:c ∈ X.fs
   ·obtain ⟨sl,q⟩:=slot c o (I.cne x c e) hc nch ho fc
    exact ⟨_,q,hd⟩
   ·exact ⟨o,keep c o (I.cne x c e) hc nch ho fc,hd⟩
  ·obtain ⟨e1,_⟩:=I.hok c _ fc
   obtain ⟨e2,_⟩:=hok c _ (frzs c _ _ fc)
   rw [ho] at e1
   cases e1
   exact ⟨o,e2,hd⟩
 refine ⟨I.ok,I.os,hg,⟨fun b o e n hb hx => ?_,fun b o e n hb hx => ?_,fun b o e n hx => ?_,fun b o e hx => ?_,fun b xs e => tups b xs (I.base.tups b xs e),fun b o xs e => frzs b o xs (I.base.frzs b o xs e),fun b ps e => ?_⟩,?_,fun x c e => ?_,?_,fun x c e => ?_,fun p hp => ?_,hok,I.len⟩
 ·exact keep b o (neL b o e) hb (neC b o e hx) (I.base.keep b o e n hb hx) (I.base.free b o e n hx)
 ·obtain ⟨sl,e1⟩:=I.base.slot b o e n hb hx
  obtain ⟨sl',e2⟩:=slot b _ (neL b o e) hb (neC b o e hx) e1 (I.base.free b o e n hx)
  exact ⟨sl',e2⟩
 ·obtain ⟨o',e1⟩:=I.base.there b o e hx
  exact free b o' (neC b o e hx) e1 (I.base.free b o e n hx)
 ·obtain ⟨o',e1⟩:=I.base.there b o e hx
  exact there b o' (neC b o e hx) e1
 ·obtain ⟨m1,e1⟩:=I.base.tbls b ps e
  obtain ⟨m2,e2⟩:=tbls b _ e1
  exact ⟨m1 ++ m2,by rw [e2,Array.append_assoc]⟩
 ·obtain ⟨m,hn,hl⟩:=I.loc
  refine ⟨m,ns m hn,fun i x v e1 e2 e3 => ?_⟩
  obtain ⟨u,r,l⟩:=hl i x v e1 e2 e3
  refine ⟨u,r,?_⟩
  rcases l with l | ⟨k,c,e,z⟩
  ·exact .inl l
  ·exact .inr ⟨k,c,e,cellK x c e _ z⟩
 ·obtain ⟨v,z⟩:=I.cell x c e
  exact ⟨v,cellK x c e v z⟩
 ·obtain ⟨m,⟨o,_,_,ho,_⟩,_⟩:=I.loc
  exact free _ o (fun z => (hch _ z).2.1 rfl) ho I.free
 ·obtain ⟨v,o,ho,hd⟩:=I.cell x c e
  rcases I.freeC x c e with fc | ⟨q1,o1,b1,fc⟩
  ·exact .inl (free c o (fun z => (hch c z).2.2.1 x c e rfl) ho fc)
  ·exact .inr ⟨q1,o1,b1,frzs _ _ _ fc⟩
 ·obtain ⟨e,n,ne,nf,d⟩:=I.pin p hp
  have nch:p.1 ∉ ch:=fun z => (hch p.1 z).2.2.2 p hp rfl
  exact ⟨keep p.1 p.2 ne nf nch e n,free p.1 p.2 nch e n,ne,nf,d⟩
theorem Inv.un {t':Nat} (I:Inv X pins σ H s) (u:Un X.fs [] H H' s.heap h') (hok:HOk X.prog X.w H' h'):Inv X pins σ H' { s with heap:=h',toks:=t' }:=by
 obtain ⟨m,⟨o,es,ep,ho,r⟩,_⟩:=id I.loc
 obtain ⟨sl,hL⟩:=u.any ho I.free (by simp)
 exact I.step (g':=s.gens) (d':=s.drawn) (ch:=[]) (fun _ z => nomatch z) (fun b o _ hb _ e n => u.keep b o e n hb (by simp)) (fun b o _ hb _ e n => u.slot b o e n hb (by simp)) (fun b o _ e n => u.free b o e n (by simp)) (fun b o _ e => u.there b o e (by simp)) u.tups u.frzs u.tbls (fun m' hm => by
  obtain ⟨o',es',ep',ho',r'⟩:=hm
  rw [ho] at ho'; cases ho'
  exact ⟨_,es',ep',hL,r'⟩) hok I.bare
theorem Inv.call {g':Array GenState} {t':Nat} {d':Drawn} {ch:List Addr} (I:Inv X pins σ H s) (u:Un (frs X.stack) ch H H' s.heap h') (hok:HOk X.prog X.w H' h') (hg:AllBare g')
  (hch:∀ b ∈ ch,(b ∈ X.ex \/ X.s₀.heap.objs.size <= b) /\ b ≠ X.env.locals /\ (∀ x c,X.env.cells.lookup x = some c -> c ≠ b) /\ ∀ p ∈ X.pn ++ pins,p.1 ≠ b) :
  Inv X pins σ H' { s with heap:=h',gens:=g',drawn:=d',toks:=t' }:=by
 obtain ⟨m,⟨o,es,ep,ho,r⟩,_⟩:=id I.loc
 obtain ⟨sl,hL⟩:=u.any ho I.free fun z => (hch _ z).2.1 rfl
 exact I.step (ch:=ch) hch (fun b o hL hb hc e n => u.keep b o e n (fun z => (List.mem_cons.mp (I.stkSub b z)).elim hL hb) hc) (fun b o _ _ hc e n => u.any e n hc) (fun b o hc e n => u.free b o e n hc) (fun b o hc e => u.there b o e hc) u.tups u.frzs u.tbls (fun m' hm => by
  obtain ⟨o',es',ep',ho',r'⟩:=hm
  rw [ho] at ho'; cases ho'
  exact ⟨_,es',ep',hL,r'⟩) hok hg
theorem Inv.turned {t':Nat} {it:Addr} (I:Inv X pins σ H s) (k:∀ b o,b ≠ it -> s.heap.get? b = some o -> h'.get? b = some o) (hn:H it = none) (hL:it ≠ X.env.locals)
  (h1:it ∈ X.ex \/ X.s₀.heap.objs.size <= it) (h2:∀ x c,X.env.cells.lookup x = some c -> c ≠ it) (h3:∀ p ∈ X.pn ++ pins,p.1 ≠ it):Inv X pins σ H { s with heap:=h',toks:=t' }:=by
 have nit:∀ b u,H b = some u -> b ≠ it:=fun b u e z => by rw [z,hn] at e; cases e
 refine I.step (g':=s.gens) (d':=s.drawn) (ch:=[it]) (fun b hb => ?_) (fun b o _ _ hc e _ => k b o (fun z => hc (by simp [z])) e) (fun b o _ _ hc e _ => ⟨o.slots,k b o (fun z => hc (by simp [z])) e⟩) (fun _ _ _ _ n => n)
  (fun b o hc e => ⟨o,k b o (fun z => hc (by simp [z])) e⟩) (fun _ _ e => e) (fun _ _ _ e => e) (fun b ps e => ⟨#[],by rw [e]; simp⟩) (fun m hm => ?_) (fun b u e => ?_) I.bare
 ·have e:b = it:=by simpa using hb
  subst e
  exact ⟨h1,hL,h2,h3⟩
 ·obtain ⟨o,es,ep,ho,r⟩:=hm
  exact ⟨o,es,ep,k _ o (Ne.symm hL) ho,r⟩
 ·refine (I.hok b u e).stay (fun c v hc q => k c v ?_ q) (fun _ q => q) fun _ _ q => q
  rcases hc with z | z
  ·rw [z]; exact nit b u e
  ·exact nit c _ z
theorem Inv.tok (I:Inv X pins σ H s) (t:Nat):Inv X pins σ H { s with toks:=t }:=I.un (h':=s.heap) (t':=t) Un.refl I.hok
theorem Inv.kept {t':Nat} (I:Inv X pins σ H s) (k:∀ b u,s.heap.get? b = some u -> h'.get? b = some u):Inv X pins σ H { s with heap:=h',toks:=t' }:=I.un (Un.kept k) (I.hok.kept k)
theorem Inv.laid {a:Addr} {o:HO} {t':Nat} (I:Inv X pins σ H s) (k:∀ b u,s.heap.get? b = some u -> h'.get? b = some u) (hp:s.heap.objs.size <= a) (new:ObjOk X.prog X.w (upd H a o) h' a o) :
  Inv X pins σ (upd H a o) { s with heap:=h',toks:=t' }:=I.un (Un.laid k hp (I.hok.fresh hp)) (I.hok.laid k hp new)
theorem Inv.write {x e:Addr} {o:HO} {t':Nat} (I:Inv X pins σ H s) (mu:Mut (H x)) (he:e = x \/ H e = some (.own x)) (k:∀ b u,b ≠ e -> s.heap.get? b = some u -> h'.get? b = some u) (heo:∃ u,h'.get? e = some u)
  (new:ObjOk X.prog X.w (upd H x o) h' x o):Inv X pins σ (upd H x o) { s with heap:=h',toks:=t' }:=I.un (Un.write mu he k heo) (I.hok.write mu he k heo new)
theorem Inv.pins_of {pins':List (Addr × Obj)} (I:Inv X pins σ H s) (h:∀ p ∈ pins',s.heap.get? p.1 = some p.2 /\ H p.1 = none /\ p.1 ≠ X.env.locals /\ p.1 ∉ X.fs /\ ∀ v,p.2.data ≠ .cell v):Inv X pins' σ H s :=
 ⟨I.ok,I.os,I.bare,I.base,I.loc,I.cell,I.free,I.freeC,fun p hp => (List.mem_append.mp hp).elim (fun z => I.pin p (List.mem_append_left _ z)) (h p),I.hok,I.len⟩
theorem nodup_ix {N:List Str} (hN:N.Nodup) {i j:Nat} {x:Str} (a:N[i]? = some x) (b:N[j]? = some x):i = j:=by
 obtain ⟨h1,e1⟩:=List.getElem?_eq_some_iff.mp a
 obtain ⟨h2,e2⟩:=List.getElem?_eq_some_iff.mp b
 exact (List.getElem_inj hN).mp (e1.trans e2.symm)
theorem store_ok2 {M:Model} {A:Around} {E:Value -> Shared -> Prop} {i:Nat} {x:Str} {v:V} {u:Value} {Q:Unit -> Shared -> Prop} (I:Inv X pins σ H s) (hN:X.N.Nodup) (hi:X.N[i]? = some x) (hx:Loc X.env.scope x) (r:RelV v u)
  (h:∀ s',Inv X pins (σ.set i (some v)) H s' -> (∃ a,Heap.SameBut a s.heap s'.heap /\ (a = X.env.locals \/ X.env.cells.lookup x = some a)) -> Q () s') (hf:X.fn x = true \/ X.env.scope.names.lookup x = some .local:=by first | exact .inl rfl | exact .inr rfl | assumption):wpAny M A (storeName X.env x u) Q E s:=by
 obtain ⟨m,hn,hl⟩:=id I.loc
 have hcls:(X.env.scope.kind == .class || (X.env.scope.kind == .module && X.env.locals != X.env.globals)) = false:=by rw [I.ok.kind]; rfl
 have hiσ:i < σ.length:=by rw [I.len]; exact (List.getElem?_eq_some_iff.mp hi).1
 have cne:=I.cne
 have tracked:∀ {a:Addr} {h':Heap},(∃ o,s.heap.get? a = some o /\ H a = none) -> Heap.SameBut a s.heap h' -> HOk X.prog X.w H h':=fun {a h'} ha hs b ob e => by
  obtain ⟨_,_,hfree⟩:=ha
  refine (I.hok b ob e).stay (fun c w' hc q => (hs.2 c ?_).trans q) (fun _ q => q) fun _ _ q => q
  rintro rfl
  rcases hc with rfl | hc
  ·rw [hfree] at e; cases e
  ·rw [hfree] at hc; cases hc
 rcases hx with hk | hk
 ·refine wpAny_storeName_local hk hn (fun h' hn' hs => ?_) hcls
  obtain ⟨oL,_,_,hoL,_⟩:=id hn
  refine h _ ⟨I.ok,I.os,I.bare,⟨fun b o e n hb hx => ?_,fun b o e n hb hx => ?_,I.base.free,fun b o e hx => ?_,I.base.tups,I.base.frzs,I.base.tbls⟩,⟨_,hn',fun j y v' e1 e2 e3 => ?_⟩,fun y c e => ?_,I.free,I.freeC,fun p hp => ?_,tracked ⟨oL,hoL,I.free⟩ hs,by simpa using I.len⟩ ⟨_,hs,.inl rfl⟩
  ·exact (hs.2 b (Nat.ne_of_lt (Nat.lt_of_lt_of_le (Heap.lt_size e) I.ok.above))).trans (I.base.keep b o e n hb hx)
  ·obtain ⟨sl,e1⟩:=I.base.slot b o e n hb hx
   exact ⟨sl,(hs.2 b (Nat.ne_of_lt (Nat.lt_of_lt_of_le (Heap.lt_size e) I.ok.above))).trans e1⟩
  ·obtain ⟨o',e1⟩:=I.base.there b o e hx
   exact ⟨o',(hs.2 b (Nat.ne_of_lt (Nat.lt_of_lt_of_le (Heap.lt_size e) I.ok.above))).trans e1⟩
  ·by_cases hj:j = i
   ·subst hj
    rw [hi] at e1; cases e1
    rw [List.getElem?_set_self hiσ] at e2
    cases e2
    exact ⟨u,r,.inl ⟨hk,by simp⟩⟩
   ·rw [List.getElem?_set_ne (Ne.symm hj)] at e2
    obtain ⟨u',r',q⟩:=hl j y v' e1 e2 e3
    refine ⟨u',r',?_⟩
    rcases q with ⟨k,e⟩ | ⟨k,c,e,z⟩
    ·refine .inl ⟨k,?_⟩
     have:y ≠ x:=fun e => hj (nodup_ix hN e1 (e ▸ hi))
     simp [this,e]
    ·exact .inr ⟨k,c,e,z.sameBut hs (cne y c e)⟩
  ·obtain ⟨w',z⟩:=I.cell y c e
   exact ⟨w',z.sameBut hs (cne y c e)⟩
  ·obtain ⟨e,n,ne,nf,d⟩:=I.pin p hp
   exact ⟨(hs.2 p.1 ne).trans e,n,ne,nf,d⟩
 ·have hfn:X.fn x = true:=by
   rcases hf with z | z
   ·exact z
   ·rw [z] at hk; cases hk
  obtain ⟨c,hc⟩:=I.ok.has x (.inl hk)
  obtain ⟨w',z⟩:=I.cell x c hc
  refine wpAny_storeName_cell I.ok.kind hk hc z (fun h' hc' hs => ?_)
  obtain ⟨oc,hoc,hocd⟩:=id z
  have hHc:H c = none:=(I.freeC x c hc).elim id fun z => by rw [z.1] at hfn; cases hfn
  refine h { s with heap:=h' } ⟨I.ok,I.os,I.bare,⟨fun b o e n hb hx => ?_,fun b o e n hb hx => ?_,I.base.free,fun b o e hx => ?_,I.base.tups,I.base.frzs,I.base.tbls⟩,⟨m,hn.sameBut hs (Ne.symm (cne x c hc)),fun j y v' e1 e2 e3 => ?_⟩,fun y c' e => ?_,I.free,I.freeC,fun p hp => ?_,tracked ⟨oc,hoc,hHc⟩ hs,by simpa using I.len⟩ ⟨c,hs,.inr hc⟩
  ·exact (hs.2 b (Nat.ne_of_lt (Nat.lt_of_lt_of_le (Heap.lt_size e) (I.ok.cab x c hfn hc)))).trans (I.base.keep b o e n hb hx)
  ·obtain ⟨sl,e1⟩:=I.base.slot b o e n hb hx
   exact ⟨sl,(hs.2 b (Nat.ne_of_lt (Nat.lt_of_lt_of_le (Heap.lt_size e) (I.ok.cab x c hfn hc)))).trans e1⟩
  ·obtain ⟨o',e1⟩:=I.base.there b o e hx
   exact ⟨o',(hs.2 b (Nat.ne_of_lt (Nat.lt_of_lt_of_le (Heap.lt_size e) (I.ok.cab x c hfn hc)))).trans e1⟩
  ·by_cases hj:j = i
   ·subst hj
    rw [hi] at e1; cases e1
    rw [List.getElem?_set_self hiσ] at e2
    cases e2
    exact ⟨u,r,.inr ⟨.inl hk,c,hc,hc'⟩⟩
   ·rw [List.getElem?_set_ne (Ne.symm hj)] at e2
    obtain ⟨u',r',q⟩:=hl j y v' e1 e2 e3
    refine ⟨u',r',?_⟩
    rcases q with q | ⟨k,c',e,z'⟩
    ·exact .inl q
    ·refine .inr ⟨k,c',e,z'.sameBut hs ?_⟩
     rintro rfl
     exact hj (nodup_ix hN e1 (I.ok.inj _ _ _ e hc ▸ hi))
  ·by_cases hcc:c' = c
   ·subst hcc; exact ⟨_,hc'⟩
   ·obtain ⟨w2,z2⟩:=I.cell y c' e
    exact ⟨w2,z2.sameBut hs hcc⟩
  ·obtain ⟨e,n,ne,nf,d⟩:=I.pin p hp
   refine ⟨(hs.2 p.1 ?_).trans e,n,ne,nf,d⟩
   intro q
   rw [q,hoc] at e
   have q':oc = p.2:=Option.some.inj e
   exact d w' (by rw [<- q']; exact hocd)
theorem store_ok {M:Model} {A:Around} {E:Value -> Shared -> Prop} {i:Nat} {x:Str} {v:V} {u:Value} {Q:Unit -> Shared -> Prop} (I:Inv X pins σ H s) (hN:X.N.Nodup) (hi:X.N[i]? = some x) (hx:Loc X.env.scope x) (r:RelV v u)
  (h:∀ s',Inv X pins (σ.set i (some v)) H s' -> Q () s') (hf:X.fn x = true \/ X.env.scope.names.lookup x = some .local:=by first | exact .inl rfl | exact .inr rfl | assumption):wpAny M A (storeName X.env x u) Q E s :=
 store_ok2 I hN hi hx r (fun s' I' _ => h s' I') hf
theorem Inv.call' {s':Shared} {ch:List Addr} (I:Inv X pins σ H s) (ho:s'.os = s.os) (u:Un (frs X.stack) ch H H' s.heap s'.heap) (hok:HOk X.prog X.w H' s'.heap) (hg:AllBare s'.gens)
  (hch:∀ b ∈ ch,(b ∈ X.ex \/ X.s₀.heap.objs.size <= b) /\ b ≠ X.env.locals /\ (∀ x c,X.env.cells.lookup x = some c -> c ≠ b) /\ ∀ p ∈ X.pn ++ pins,p.1 ≠ b):Inv X pins σ H' s':=by
 obtain ⟨h',g',d',t',o'⟩:=s'
 have e:o' = s.os:=ho
 subst e
 exact I.call (g':=g') (t':=t') (d':=d') u hok hg hch
end
noncomputable abbrev XK:=Value -> Option Addr -> Hp -> Prop
noncomputable abbrev St:=List (Option V)
noncomputable abbrev VK:=V -> Hp -> Prop
noncomputable abbrev TE:=St -> Hp -> VK -> Prop
noncomputable abbrev TT:=St -> Hp -> (Bool -> Hp -> Prop) -> Prop
noncomputable abbrev TA:=St -> Hp -> (List V -> Hp -> Prop) -> Prop
structure Ends where
 nx:St -> Hp -> Prop
 rt:VK
 bk:St -> Hp -> Prop:=fun _ _ => False
 ct:St -> Hp -> Prop:=fun _ _ => False
noncomputable abbrev TS:=Ends -> St -> Hp -> Prop
noncomputable def EP (X:Cx) (pins:List (Addr × Obj)) (σ:St) (Q:VK) (u:Value) (s':Shared):Prop:=∃ v H',Inv X pins σ H' s' /\ RelV v u /\ Q v H'
noncomputable def TP (X:Cx) (pins:List (Addr × Obj)) (σ:St) (Q:Bool -> Hp -> Prop) (b:Bool) (s':Shared):Prop:=∃ H',Inv X pins σ H' s' /\ Q b H'
noncomputable def AP (X:Cx) (pins:List (Addr × Obj)) (σ:St) (Q:List V -> Hp -> Prop) (us:List Value) (s':Shared):Prop:=∃ vs H',Inv X pins σ H' s' /\ Vals vs us /\ Q vs H'
noncomputable def SP (X:Cx) (pins:List (Addr × Obj)) (D:Ends) (f:Flow) (s':Shared):Prop :=
 match f with
 | .next => ∃ σ' H',Inv X pins σ' H' s' /\ D.nx σ' H'
 | .brk => ∃ σ' H',Inv X pins σ' H' s' /\ D.bk σ' H'
 | .cont => ∃ σ' H',Inv X pins σ' H' s' /\ D.ct σ' H'
 | .ret u => ∃ v σ' H',Inv X pins σ' H' s' /\ RelV v u /\ D.rt v H'
noncomputable def PE (X:Cx) (e:Expr) (t:TE):Prop :=
 ∀ (pins:List (Addr × Obj)) (s:Shared) (σ:St) (H:Hp) (Q:VK),Inv X pins σ H s -> t σ H Q -> wpAny (model X.prog X.w) X.A (eval e X.env) (EP X pins σ Q) X.xe s
noncomputable def PT (X:Cx) (e:Expr) (t:TT):Prop :=
 ∀ (pins:List (Addr × Obj)) (s:Shared) (σ:St) (H:Hp) (Q:Bool -> Hp -> Prop),Inv X pins σ H s -> t σ H Q -> wpAny (model X.prog X.w) X.A (isTrue e X.env (eval e X.env)) (TP X pins σ Q) X.xe s
noncomputable def PW (X:Cx) (e:Expr) (t:TT):Prop :=
 ∀ (whole:Sem Value) (pins:List (Addr × Obj)) (s:Shared) (σ:St) (H:Hp) (Q:Bool -> Hp -> Prop),Inv X pins σ H s -> t σ H Q -> wpAny (model X.prog X.w) X.A (isTrue e X.env whole) (TP X pins σ Q) X.xe s
theorem PW.pt {X:Cx} {e:Expr} {t:TT} (h:PW X e t):PT X e t:=h _
noncomputable def PA (X:Cx) (es:List Expr) (t:TA):Prop :=
 ∀ (pos:Pos) (pins:List (Addr × Obj)) (s:Shared) (σ:St) (H:Hp) (Q:List V -> Hp -> Prop),Inv X pins σ H s -> t σ H Q -> wpAny (model X.prog X.w) X.A (spliced (backTo pos (starEach es X.env))) (AP X pins σ Q) X.xe s
noncomputable def PS (X:Cx) (st:Stmt) (t:TS):Prop :=
 ∀ (pins:List (Addr × Obj)) (s:Shared) (σ:St) (H:Hp) (D:Ends),Inv X pins σ H s -> t D σ H -> wpAny (model X.prog X.w) X.A (exec st X.env) (SP X pins D) X.xe s
noncomputable def PSs (X:Cx) (st:List Stmt) (t:TS):Prop :=
 ∀ (pins:List (Addr × Obj)) (s:Shared) (σ:St) (H:Hp) (D:Ends),Inv X pins σ H s -> t D σ H -> wpAny (model X.prog X.w) X.A (execs st X.env) (SP X pins D) X.xe s
theorem thn {α:Type} {t:Sem α} {Q Q':α -> Shared -> Prop} {M:Model} {A:Around} {E:Value -> Shared -> Prop} {s:Shared} (h:wpAny M A t Q E s) (hQ:∀ a s,Q a s -> Q' a s):wpAny M A t Q' E s:=wpAny_mono h hQ fun _ _ x => x
end L2
namespace L2
open PySem PySem.Spec PyProof.Rows
section
variable {X:Cx}
noncomputable def tVar (i:Nat):TE:=fun σ H Q => ∃ v,σ[i]? = some (some v) /\ Q v H
noncomputable def tC (v:V):TE:=fun _ H Q => Q v H
theorem pe_var {i:Nat} {x:Str} {pos:Pos} (hN:X.N[i]? = some x) (hv:Vis X.env.scope x) (hd:(x == ("__debug__":Str)) = false:=by decide) (hcd:(x == ("__classdict__":Str)) = false:=by decide):PE X (.Name x pos) (tVar i):=by
 intro pins s σ H Q I h
 obtain ⟨v,e,h⟩:=h
 obtain ⟨m,hn,hl⟩:=I.loc
 obtain ⟨u,r,l⟩:=hl i x v hN e hv
 have fin:EP X pins σ Q u s:=⟨v,H,I,r,h⟩
 rcases l with ⟨hk,hm⟩ | ⟨hk,c,hc,hcell⟩
 ·exact wpAny_Name (wpAny_loadName_local I.ok.kind hk hn hm fin) hd
 ·rcases hk with hk | hk
  ·exact wpAny_Name (wpAny_loadName_cell I.ok.kind hk hc hcell fin) hd
  ·exact wpAny_Name (wpAny_loadName_free I.ok.kind hk hc hcell fin hcd) hd
theorem pe_int {i j pos}:PE X (.Constant (.int i) j pos) (tC (.int i)):=fun _ _ _ H _ I h => wpAny_Constant_int ⟨.int i,H,I.tok _,⟨_,rfl⟩,h⟩
theorem pe_bl {b j pos}:PE X (.Constant (.bool b) j pos) (tC (.bl b)):=fun _ _ _ H _ I h => Constant_bool ⟨.bl b,H,I,rfl,h⟩
theorem pe_non {j pos}:PE X (.Constant .none j pos) (tC .non):=fun _ _ _ H _ I h => Constant_none ⟨.non,H,I,rfl,h⟩
theorem pe_str {x j pos}:PE X (.Constant (.str x) j pos) (tC (.str x)):=fun _ _ _ H _ I h => Calls.Constant_str ⟨.str x,H,I.tok _,⟨_,rfl⟩,h⟩
noncomputable def Gl (X:Cx) (x:Str):Prop:=X.env.kindOf x = some .globalImplicit
theorem ld_glob {E:Value -> Shared -> Prop} {pins:List (Addr × Obj)} {s:Shared} {σ:St} {H:Hp} {x:Str} {u:Value} {pos:Pos} {Q:Value -> Shared -> Prop} (I:Inv X pins σ H s) (hg:Gl X x) (hm:X.mg x = some u) (h:Q u s)
  (hd:(x == ("__debug__":Str)) = false:=by decide):wpAny (model X.prog X.w) X.A (eval (.Name x pos) X.env) Q E s :=
 Calls.Name_function_global I.ok.kind hg (Calls.loadGlobal_global (by rw [I.ok.glob]; exact I.mod.glob.keeps I.bk) hm h) hd
theorem ld_blt {E:Value -> Shared -> Prop} {pins:List (Addr × Obj)} {s:Shared} {σ:St} {H:Hp} {x:Str} {u:Value} {pos:Pos} {Q:Value -> Shared -> Prop} (I:Inv X pins σ H s) (hg:Gl X x) (hm:X.mg x = none) (hv:bootBuiltins x = some u) (h:Q u s)
  (hn:x ≠ "__name__":=by decide) (hd:(x == ("__debug__":Str)) = false:=by decide):wpAny (model X.prog X.w) X.A (eval (.Name x pos) X.env) Q E s:=by
 obtain ⟨mb,h1,h2⟩:=I.mod.blt
 exact Calls.Name_function_global I.ok.kind hg (Calls.loadGlobal_builtin (by rw [I.ok.glob]; exact I.mod.glob.keeps I.bk) hm (by rw [I.ok.blt]; exact h1.keeps I.bk) ((h2 x hn).trans hv) h) hd
theorem pe_glob {x:Str} {v:V} {u:Value} {pos:Pos} (hg:Gl X x) (hm:X.mg x = some u) (r:RelV v u) (hd:(x == ("__debug__":Str)) = false:=by decide):PE X (.Name x pos) (tC v) :=
 fun _ _ _ H _ I h => ld_glob I hg hm ⟨v,H,I,r,h⟩ hd
theorem pe_bltn {x:Str} {v:V} {u:Value} {pos:Pos} (hg:Gl X x) (hm:X.mg x = none) (hv:bootBuiltins x = some u) (r:RelV v u) (hn:x ≠ "__name__":=by decide) (hd:(x == ("__debug__":Str)) = false:=by decide):PE X (.Name x pos) (tC v) :=
 fun _ _ _ H _ I h => ld_blt I hg hm hv ⟨v,H,I,r,h⟩ hn hd
variable {a b:Expr} {ta tb:TE} {pos:Pos}
noncomputable def tB (t:TE):TT:=fun σ H Q => t σ H fun x H1 => ∃ c,x = .bl c /\ Q c H1
theorem pt_val {e:Expr} {t:TE} (h:PE X e t) (he:∀ whole,isTrue e X.env whole = (do let v <- whole; standAt e.pos; holding [v] (truthy v)):=by intro _; rfl):PT X e (tB t):=by
 intro pins s σ H Q I hw
 refine isTrue_plain (thn (h pins s σ H _ I hw) fun v s1 ⟨x,H1,I1,r1,q1⟩ => ?_) (he _)
 obtain ⟨d,rfl,q⟩:=q1
 cases r1
 exact wpAny_truthy_bool ⟨H1,I1,q⟩
variable {tA tB':TT} {rest:List Expr}
noncomputable def tAnd (t u:TT):TT:=fun σ H Q => t σ H fun c H1 => if c = true then u σ H1 Q else Q false H1
noncomputable def tOr (t u:TT):TT:=fun σ H Q => t σ H fun c H1 => if c = true then Q true H1 else u σ H1 Q
noncomputable def tNot (t:TT):TT:=fun σ H Q => t σ H fun c H1 => Q (!c) H1
theorem pw_and1 (ha:PT X a tA):PW X (.BoolOp .And [a] pos) tA:=by
 intro wh pins s σ H Q I h
 refine isTrue_and (thn (ha pins s σ H Q I h) fun c s1 e => ?_)
 cases c with
 | true => exact isTrue_and_nil e
 | false => exact e
theorem pw_or1 (ha:PT X a tA):PW X (.BoolOp .Or [a] pos) tA:=by
 intro wh pins s σ H Q I h
 refine isTrue_or (thn (ha pins s σ H Q I h) fun c s1 e => ?_)
 cases c with
 | false => exact isTrue_or_nil e
 | true => exact e
theorem pw_and (ha:PT X a tA) (hb:PW X (.BoolOp .And (b :: rest) pos) tB'):PW X (.BoolOp .And (a :: b :: rest) pos) (tAnd tA tB'):=by
 intro wh pins s σ H Q I h
 refine isTrue_and (thn (ha pins s σ H _ I h) fun c s1 ⟨H1,I1,q1⟩ => ?_)
 cases c with
 | true => exact hb wh pins s1 σ H1 Q I1 q1
 | false => exact ⟨H1,I1,q1⟩
theorem pw_or (ha:PT X a tA) (hb:PW X (.BoolOp .Or (b :: rest) pos) tB'):PW X (.BoolOp .Or (a :: b :: rest) pos) (tOr tA tB'):=by
 intro wh pins s σ H Q I h
 refine isTrue_or (thn (ha pins s σ H _ I h) fun c s1 ⟨H1,I1,q1⟩ => ?_)
 cases c with
 | true => exact ⟨H1,I1,q1⟩
 | false => exact hb wh pins s1 σ H1 Q I1 q1
theorem pt_not (ha:PT X a tA):PT X (.UnaryOp .Not a pos) (tNot tA):=by
 intro pins s σ H Q I h
 exact isTrue_not (ha pins s σ H (fun c H1 => Q (!c) H1) I h)
noncomputable def tAndV (ta tb:TE):TE:=fun σ H Q => ta σ H fun x H1 => ∃ c,x = .bl c /\ if c = true then tb σ H1 Q else Q (.bl false) H1
noncomputable def tNotV (ta:TE):TE:=fun σ H Q => ta σ H fun x H1 => ∃ c,x = .bl c /\ Q (.bl (!c)) H1
theorem pe_one {op} {t:TE} (h:PE X a t):PE X (.BoolOp op [a] pos) t:=fun pins s σ H Q I hw => BoolOp_one (h pins s σ H Q I hw)
theorem pe_and (ha:PE X a ta) (hb:PE X (.BoolOp .And (b :: rest) pos) tb):PE X (.BoolOp .And (a :: b :: rest) pos) (tAndV ta tb):=by
 intro pins s σ H Q I h
 refine BoolOp_and (thn (ha pins s σ H _ I h) fun v s1 hw' => ?_)
 obtain ⟨x,H1,I1,r1,q1⟩:=hw'
 obtain ⟨c,rfl,q1⟩:=q1
 cases r1
 refine wpAny_truthy_bool ?_
 cases c with
 | true => exact hb pins s1 σ H1 Q I1 q1
 | false => exact ⟨.bl false,H1,I1,rfl,q1⟩
theorem pe_not (ha:PE X a ta):PE X (.UnaryOp .Not a pos) (tNotV ta):=by
 intro pins s σ H Q I h
 refine UnaryOp_ (thn (ha pins s σ H _ I h) fun v s1 hw' => ?_)
 obtain ⟨x,H1,I1,r1,q1⟩:=hw'
 obtain ⟨c,rfl,q1⟩:=q1
 cases r1
 exact not_of (wpAny_truthy_bool ⟨.bl (!c),H1,I1,rfl,q1⟩)
noncomputable def tIf (t:TT) (ta tb:TE):TE:=fun σ H Q => t σ H fun c H1 => if c = true then ta σ H1 Q else tb σ H1 Q
theorem pe_ifExp {c:Expr} (hc:PT X c tA) (ha:PE X a ta) (hb:PE X b tb):PE X (.IfExp c a b pos) (tIf tA ta tb):=by
 intro pins s σ H Q I h
 refine wpAny_IfExp (thn (hc pins s σ H _ I h) fun d s1 ⟨H1,I1,q1⟩ => ?_)
 cases d with
 | true => exact ha pins s1 σ H1 Q I1 q1
 | false => exact hb pins s1 σ H1 Q I1 q1
end
end L2
namespace L2
open PySem PySem.Spec PyProof.Rows
noncomputable def SqL (K:PySem.W.Frag) (H:Hp) (a:Addr) (xs:List V):Prop :=
 Rd H a (.lst xs) \/
  ∃ (o:Obj) (its:Array Value) (n:Nat),K.lookup a = some o /\ o.cls = .type "list" /\ o.dict = none /\ o.data = .seq its n /\ its.size <= sizeLine /\ Vals xs its.toList
noncomputable def SqT (K:PySem.W.Frag) (H:Hp) (a:Addr) (xs:List V):Prop :=
 Rd H a (.tup xs) \/
  ∃ (o:Obj) (its:Array Value) (n:Nat),K.lookup a = some o /\ o.cls = .type "tuple" /\ o.data = .seq its n /\ its.size <= sizeLine /\ Vals xs its.toList
noncomputable def absV:Value -> Option V
 | .none => some .non
 | .bool b => some (.bl b)
 | .int i _ => some (.int i)
 | .str x _ => some (.str x)
 | .bytes b _ => some (.byt b)
 | .float b _ => some (.flt b)
 | .ref a => some (.ref a)
 | .type n => some (.ty n)
 | _ => none
theorem RelV.abs {x:V} {u:Value} (r:RelV x u):absV u = some x:=by
 cases x with
 | non => cases r; rfl
 | bl _ => cases r; rfl
 | int _ => obtain ⟨t,rfl⟩:=r; rfl
 | str _ => obtain ⟨t,rfl⟩:=r; rfl
 | byt _ => obtain ⟨t,rfl⟩:=r; rfl
 | flt _ => obtain ⟨t,rfl⟩:=r; rfl
 | ref _ => cases r; rfl
 | ty _ => cases r; rfl
theorem RelV.inj {x y:V} {u:Value} (r:RelV x u) (q:RelV y u):x = y:=Option.some.inj (r.abs.symm.trans q.abs)
theorem Vals.inj {xs ys:List V} {us:List Value} (h:Vals xs us) (h':Vals ys us):xs = ys:=by
 induction h generalizing ys with
 | nil => cases h'; rfl
 | cons r t ih =>
  cases h' with
  | cons r' t' => rw [r.inj r',ih t']
section
variable {X:Cx} {pins:List (Addr × Obj)} {σ:St} {H:Hp} {s:Shared} {a:Addr} {xs ys:List V}
theorem SqL.of {K:PySem.W.Frag} (h:H a = some (.lst xs)):SqL K H a xs:=.inl (.inl h)
theorem SqT.of {K:PySem.W.Frag} (h:H a = some (.tup xs)):SqT K H a xs:=.inl (.inl h)
theorem Inv.list (I:Inv X pins σ H s) (h:SqL X.K H a xs):∃ its:List Value,Vals xs its /\ PlainL s.heap a its.toArray /\ xs.length <= sizeLine:=by
 rcases h with h | ⟨o,its,n,hk,hc,hd,hs,hz,r⟩
 ·obtain ⟨z,its,n,r,e⟩:=h.ok I.hok
  exact ⟨its,r,⟨_,n,e,rfl,rfl,rfl⟩,z⟩
 ·refine ⟨its.toList,r,⟨o,n,I.kIn a o hk,hc,hd,by simpa using hs⟩,?_⟩
  have e:=r.length
  simp only [Array.length_toList] at e
  omega
theorem Inv.tuple (I:Inv X pins σ H s) (h:SqT X.K H a xs):∃ its:List Value,Vals xs its /\ IsTup s.heap a its.toArray /\ xs.length <= sizeLine:=by
 rcases h with h | ⟨o,its,n,hk,hc,hs,hz,r⟩
 ·obtain ⟨z,its,r,p⟩:=h.ok I.hok
  exact ⟨its,r,p,z⟩
 ·refine ⟨its.toList,r,⟨o,I.kIn a o hk,hc,n,by simpa using hs⟩,?_⟩
  have e:=r.length
  simp only [Array.length_toList] at e
  omega
theorem Inv.list_inj (I:Inv X pins σ H s) (h:SqL X.K H a xs) (h':SqL X.K H a ys):xs = ys:=by
 obtain ⟨its,r,⟨o,n,e,_,_,d⟩,_⟩:=I.list h
 obtain ⟨its',r',⟨o',n',e',_,_,d'⟩,_⟩:=I.list h'
 rw [e] at e'; cases e'
 rw [d] at d'
 injection d' with d1 _
 have:its = its':=by simpa using congrArg Array.toList d1
 subst this
 exact r.inj r'
theorem Inv.tuple_inj (I:Inv X pins σ H s) (h:SqT X.K H a xs) (h':SqT X.K H a ys):xs = ys:=by
 obtain ⟨its,r,⟨o,e,_,n,d⟩,_⟩:=I.tuple h
 obtain ⟨its',r',⟨o',e',_,n',d'⟩,_⟩:=I.tuple h'
 rw [e] at e'; cases e'
 rw [d] at d'
 injection d' with d1 _
 have:its = its':=by simpa using congrArg Array.toList d1
 subst this
 exact r.inj r'
end
noncomputable abbrev Cx.wish (X:Cx) (E:Value -> Shared -> Prop):Cx:={ X with xe:=E }
noncomputable abbrev Cx.nox (X:Cx):Cx:=X.wish fun _ _ => False
theorem Cx.Ok.wish {X:Cx} (ok:X.Ok) (E:Value -> Shared -> Prop):(X.wish E).Ok :=
 ⟨ok.mod,ok.kind,ok.glob,ok.blt,ok.above,ok.inj,ok.has,ok.cab,ok.hd,ok.frames,ok.stk,ok.exf,ok.bs,ok.bsz,ok.noex,ok.exfs,ok.funs,ok.frf⟩
theorem Cx.Ok.unwish {X:Cx} {E:Value -> Shared -> Prop} (ok:(X.wish E).Ok):X.Ok :=
 ⟨ok.mod,ok.kind,ok.glob,ok.blt,ok.above,ok.inj,ok.has,ok.cab,ok.hd,ok.frames,ok.stk,ok.exf,ok.bs,ok.bsz,ok.noex,ok.exfs,ok.funs,ok.frf⟩
section
variable {X:Cx} {pins:List (Addr × Obj)} {σ:St} {H:Hp} {s:Shared} {E:Value -> Shared -> Prop}
theorem Inv.wish (I:Inv X pins σ H s) (E:Value -> Shared -> Prop):Inv (X.wish E) pins σ H s:=⟨I.ok.wish E,I.os,I.bare,I.base,I.loc,I.cell,I.free,I.freeC,I.pin,I.hok,I.len⟩
theorem Inv.unwish (I:Inv (X.wish E) pins σ H s):Inv X pins σ H s:=⟨I.ok.unwish,I.os,I.bare,I.base,I.loc,I.cell,I.free,I.freeC,I.pin,I.hok,I.len⟩
theorem SP.unwish {D:Ends} {f:Flow} {s':Shared} (h:SP (X.wish E) pins D f s'):SP X pins D f s':=by
 cases f with
 | next => obtain ⟨σ',H',I,q⟩:=h; exact ⟨σ',H',I.unwish,q⟩
 | brk => obtain ⟨σ',H',I,q⟩:=h; exact ⟨σ',H',I.unwish,q⟩
 | cont => obtain ⟨σ',H',I,q⟩:=h; exact ⟨σ',H',I.unwish,q⟩
 | ret u => obtain ⟨v,σ',H',I,r,q⟩:=h; exact ⟨v,σ',H',I.unwish,r,q⟩
theorem PSs.nox {st:List Stmt} {t:TS} (h:PSs X.nox st t):PSs X st t:=fun pins s σ H D I hw =>
 wpAny_mono (h pins s σ H D (I.wish _) hw) (fun _ _ q => q.unwish) fun _ _ z => False.elim z
end
section
variable {X:Cx} {st:Stmt} {rest:List Stmt} {t u:TS} {e:Expr} {te:TE} {pos:Pos}
noncomputable def tNext:TS:=fun D σ H => D.nx σ H
noncomputable def tSeq (t u:TS):TS:=fun D σ H => t { D with nx:=u D } σ H
theorem pss_nil:PSs X [] tNext:=fun _ _ σ H _ I h => wpAny_execs_nil ⟨σ,H,I,h⟩
theorem pss_cons (h1:PS X st t) (h2:PSs X rest u):PSs X (st :: rest) (tSeq t u):=by
 intro pins s σ H D I h
 refine wpAny_execs_cons (thn (h1 pins s σ H { D with nx:=u D } I h) fun f s1 q => ?_)
 cases f with
 | next =>
  obtain ⟨σ',H',I',q⟩:=q
  exact h2 pins s1 σ' H' D I' q
 | ret v => exact q
 | brk => exact q
 | cont => exact q
theorem pss_one (h1:PS X st t):PSs X [st] t:=by
 intro pins s σ H D I h
 refine wpAny_execs_cons (thn (h1 pins s σ H D I h) fun f s1 q => ?_)
 cases f with
 | next => exact wpAny_execs_nil q
 | ret v => exact q
 | brk => exact q
 | cont => exact q
theorem Inv.quiet {pins:List (Addr × Obj)} {σ:St} {H:Hp} {s:Shared} (I:Inv X pins σ H s):interactive X.env = false:=by simp [interactive,I.ok.kind]
noncomputable def tDrop (te:TE):TS:=fun D σ H => te σ H fun _ H1 => D.nx σ H1
theorem ps_expr (he:PE X e te) (hs:swapsWith e none pos.line X.env = pure false:=by rfl):PS X (.Expr e pos) (tDrop te):=by
 intro pins s σ H D I h
 exact wpAny_Expr_any (thn (he pins s σ H _ I h) fun v s1 ⟨x,H1,I1,r1,q1⟩ => ⟨σ,H1,I1,q1⟩) I.quiet hs
noncomputable def tRet (te:TE):TS:=fun D σ H => te σ H D.rt
theorem ps_ret (he:PE X e te):PS X (.Return (some e) pos) (tRet te):=by
 intro pins s σ H D I h
 exact wpAny_Return_some (thn (he pins s σ H _ I h) fun v s1 ⟨x,H1,I1,r1,q1⟩ => ⟨x,σ,H1,I1,r1,q1⟩)
noncomputable def tIfS (c:TT) (t u:TS):TS:=fun D σ H => c σ H fun b H1 => if b = true then t D σ H1 else u D σ H1
theorem ps_if {c:Expr} {a b:List Stmt} {tc:TT} (hc:PT X c tc) (ha:PSs X a t) (hb:PSs X b u):PS X (.If c a b pos) (tIfS tc t u):=by
 intro pins s σ H D I h
 refine wpAny_If (thn (hc pins s σ H _ I h) fun d s1 ⟨H1,I1,q1⟩ => ?_)
 cases d with
 | true => exact ha pins s1 σ H1 D I1 q1
 | false => exact hb pins s1 σ H1 D I1 q1
noncomputable def tNever:TS:=fun _ _ _ => False
theorem ps_never:PS X st tNever:=fun _ _ _ _ _ _ h => h.elim
theorem pss_never {sts:List Stmt}:PSs X sts tNever:=fun _ _ _ _ _ _ h => h.elim
end
noncomputable abbrev TG:=V -> St -> Hp -> (St -> Hp -> Prop) -> Prop
noncomputable abbrev TGs:=List V -> St -> Hp -> (St -> Hp -> Prop) -> Prop
noncomputable def PG (X:Cx) (target:Expr) (t:TG):Prop :=
 ∀ (pins:List (Addr × Obj)) (s:Shared) (σ:St) (H:Hp) (v:V) (u:Value) (Q:St -> Hp -> Prop),Inv X pins σ H s -> RelV v u -> t v σ H Q ->
  wpAny (model X.prog X.w) X.A (assign target X.env u) (fun _ s' => ∃ σ' H',Inv X pins σ' H' s' /\ Q σ' H') X.xe s
noncomputable def PGs (X:Cx) (ts:List Expr) (t:TGs):Prop :=
 ∀ (pins:List (Addr × Obj)) (s:Shared) (σ:St) (H:Hp) (vs:List V) (us:List Value) (Q:St -> Hp -> Prop),Inv X pins σ H s -> Vals vs us -> t vs σ H Q ->
  wpAny (model X.prog X.w) X.A (assignInOrder ((assignEach ts X.env).map (·.2)) us) (fun _ s' => ∃ σ' H',Inv X pins σ' H' s' /\ Q σ' H') X.xe s
section
variable {X:Cx} {pos:Pos}
noncomputable def gName (i:Nat):TG:=fun v σ H Q => Q (σ.set i (some v)) H
theorem pg_name {i:Nat} {x:Str} (hN:X.N.Nodup) (hi:X.N[i]? = some x) (hx:Loc X.env.scope x) (hf:X.fn x = true \/ X.env.scope.names.lookup x = some .local:=by first | exact .inl rfl | exact .inr rfl | assumption):PG X (.Name x pos) (gName i):=by
 intro pins s σ H v u Q I r h
 exact wpAny_assign_Name (store_ok I hN hi hx r (fun s' I' => ⟨_,H,I',h⟩) hf)
noncomputable def gNil:TGs:=fun vs σ H Q => vs = [] /\ Q σ H
noncomputable def gCons (t:TG) (u:TGs):TGs:=fun vs σ H Q => ∃ v r,vs = v :: r /\ t v σ H fun σ' H' => u r σ' H' Q
theorem pgs_nil:PGs X [] gNil:=by
 intro pins s σ H vs us Q I r h
 obtain ⟨e,h⟩:=h
 subst e
 cases r
 exact assignInOrder_nil ⟨σ,H,I,h⟩
theorem pgs_cons {e:Expr} {es:List Expr} {t:TG} {u:TGs} (h1:PG X e t) (h2:PGs X es u)
  (hs:(assignEach (e :: es) X.env).map (·.2) = assign e X.env :: (assignEach es X.env).map (·.2):=by rfl):PGs X (e :: es) (gCons t u):=by
 intro pins s σ H vs us Q I r h
 obtain ⟨v,vr,e1,h⟩:=h
 subst e1
 cases r with
 | cons r rr =>
  rw [hs]
  refine assignInOrder_cons (thn (h1 pins s σ H _ _ _ I r h) fun _ s1 hw' => ?_)
  obtain ⟨σ1,H1,I1,q1⟩:=hw'
  exact h2 pins s1 σ1 H1 _ _ Q I1 rr q1
noncomputable def gTup (K:PySem.W.Frag) (n:Nat) (t:TGs):TG:=fun v σ H Q => ∃ a xs,v = .ref a /\ SqT K H a xs /\ xs.length = n /\ t xs σ H Q
theorem pg_tup {es:List Expr} {k:Nat} {t:TGs} {n:Nat} (hc:X.calm = true) (h:PGs X es t)
  (hn:(assignEach es X.env).length = n:=by rfl) (hst:(assignEach es X.env).findIdx? (·.1) = none:=by rfl):PG X (.Tuple es k pos) (gTup X.K n t):=by
 intro pins s σ H v u Q I r hw
 obtain ⟨a,xs,e1,hq,hl,hw⟩:=hw
 subst e1
 cases r
 obtain ⟨its,rv,ht,hz⟩:=I.tuple hq
 refine assign_Tuple_tuple (I.ok.hd hc) ht (by simp [hn,<- hl,rv.length]) hst fun h' hx => ?_
 have I1:Inv X pins σ H { s with heap:=h' }:=I.kept (t':=s.toks) fun b o e => hx b o (Nat.ne_of_lt (Heap.lt_size e)) e
 exact h pins _ σ H xs _ Q I1 (by simpa using rv) hw
noncomputable def tAsg (te:TE) (g:TG):TS:=fun D σ H => te σ H fun x H1 => g x σ H1 D.nx
theorem ps_asg {tg e:Expr} {te:TE} {g:TG} (he:PE X e te) (hg:PG X tg g) (hs:swapsWithSole [tg] e pos.line X.env = pure false:=by rfl) (hw:swappedStores [tg] e X.env = pure none:=by rfl)
  (h1:(assignEach [tg] X.env).map (·.2) = [assign tg X.env]:=by rfl):PS X (.Assign [tg] e pos) (tAsg te g):=by
 intro pins s σ H D I h
 refine wpAny_Assign_stores (thn (he pins s σ H _ I h) fun v s1 hw' => ?_) hs hw
 obtain ⟨x,H1,I1,r1,q1⟩:=hw'
 rw [h1]
 exact thn (hg pins s1 σ H1 x v _ I1 r1 q1) fun _ s2 q => q
theorem ps_set {i:Nat} {x:Str} {e:Expr} {te:TE} {pos':Pos} (hN:X.N.Nodup) (hi:X.N[i]? = some x) (hx:Loc X.env.scope x) (he:PE X e te) (hs:swapsWith e (some (.Name x pos')) pos.line X.env = pure false:=by rfl) (hf:X.fn x = true \/ X.env.scope.names.lookup x = some .local:=by first | exact .inl rfl | exact .inr rfl | assumption) :
  PS X (.Assign [.Name x pos'] e pos) (tAsg te (gName i)):=by
 intro pins s σ H D I h
 refine wpAny_Assign_Name (thn (he pins s σ H _ I h) fun v s1 hw' => ?_) hs
 obtain ⟨y,H1,I1,r1,q1⟩:=hw'
 exact store_ok I1 hN hi hx r1 (fun s2 I2 => ⟨_,H1,I2,q1⟩) hf
end
structure It where
 go:Nat -> Hp -> Prop
 yld:Nat -> Hp -> V -> Hp -> Prop
 stop:Nat -> Hp -> Prop
noncomputable def FpOk (X:Cx) (pins:List (Addr × Obj)) (H:Hp) (b:Addr):Prop :=
 H b = none /\ b ≠ X.env.locals /\ b ∉ X.fs /\ (b ∈ X.ex \/ X.s₀.heap.objs.size <= b) /\ (∀ x c,X.env.cells.lookup x = some c -> c ≠ b) /\ ∀ p ∈ X.pn ++ pins,p.1 ≠ b
theorem Inv.fpOk {X:Cx} {pins:List (Addr × Obj)} {σ:St} {H H':Hp} {s:Shared} {b:Addr} (I:Inv X pins σ H s) (hb:s.heap.objs.size <= b) (hn:H' b = none):FpOk X pins H' b:=by
 refine ⟨hn,Nat.ne_of_gt (Nat.lt_of_lt_of_le I.lt hb),I.nofs hb,.inr (Nat.le_trans I.sz hb),fun x c e z => ?_,fun p hp z => ?_⟩
 ·obtain ⟨v,q⟩:=I.cell x c e
  exact absurd (Nat.lt_of_lt_of_le q.lt (by rw [z]; exact hb)) (Nat.lt_irrefl _)
 ·exact absurd (Nat.lt_of_lt_of_le (Heap.lt_size (I.pin p hp).1) (by rw [z]; exact hb)) (Nat.lt_irrefl _)
structure Turn (P:Program) (w:World) (K:PySem.W.Frag) (tg:Expr) (J:It) (fp:List Addr) (it:Addr) (tn:Nat -> Heap -> Prop):Prop where
 mem:it ∈ fp
 obj:∀ i h,tn i h -> ∀ b ∈ fp,∃ o,h.get? b = some o /\ ∀ v,o.data ≠ .cell v
 keep:∀ i h h',tn i h -> (∀ b ∈ fp,∀ o,h.get? b = some o -> h'.get? b = some o) -> tn i h'
 item:∀ (X:Cx),X.prog = P -> X.w = w -> X.K = K -> X.calm = true -> ∀ (i:Nat) (pins:List (Addr × Obj)) (s:Shared) (σ:St) (H:Hp) (E:Value -> Shared -> Prop),Inv X pins σ H s -> (∀ b ∈ fp,FpOk X pins H b) -> tn i s.heap -> J.go i H ->
  wpAny (model P w) X.A (pyNext (.ref it)) (fun r s1 => ∃ u,r = some u /\
   wpAny (model P w) X.A (letOwnedTupleGo tg (.ref it) u) (fun _ s2 => ∃ x H',Inv X pins σ H' s2 /\ RelV x u /\ J.yld i H x H' /\ tn (i + 1) s2.heap /\ ∀ b ∈ fp,H' b = none) E s1) E s
 done:∀ (X:Cx),X.prog = P -> X.w = w -> X.K = K -> X.calm = true -> ∀ (i:Nat) (pins:List (Addr × Obj)) (s:Shared) (σ:St) (H:Hp) (E:Value -> Shared -> Prop),Inv X pins σ H s -> (∀ b ∈ fp,FpOk X pins H b) -> tn i s.heap -> J.stop i H ->
  wpAny (model P w) X.A (pyNext (.ref it)) (fun r s1 => r = none /\ Inv X pins σ H s1) E s
 self:∀ (A:Around) (i:Nat) (s:Shared) (Q:Value -> Shared -> Prop) (E:Value -> Shared -> Prop),tn i s.heap -> Q (.ref it) s -> wpAny (model P w) A (pyIter (.ref it)) Q E s
noncomputable abbrev TI:=St -> Hp -> (It -> Hp -> Prop) -> Prop
noncomputable def PIE (X:Cx) (pins:List (Addr × Obj)) (σ:St) (tg:Expr) (R:It -> Hp -> Prop) (itv:Value) (s2:Shared):Prop :=
 ∃ (it:Addr) (fp:List Addr) (tn:Nat -> Heap -> Prop) (J:It) (H':Hp),itv = .ref it /\ Inv X pins σ H' s2 /\ Turn X.prog X.w X.K tg J fp it tn /\ tn 0 s2.heap /\ (∀ b ∈ fp,FpOk X pins H' b) /\ R J H'
noncomputable def PI (X:Cx) (tg iter:Expr) (wi:TI):Prop :=
 ∀ (pins:List (Addr × Obj)) (s:Shared) (σ:St) (H:Hp) (R:It -> Hp -> Prop),Inv X pins σ H s -> wi σ H R ->
  wpAny (model X.prog X.w) X.A (eval iter X.env) (fun v s1 => wpAny (model X.prog X.w) X.A (pyIter v) (PIE X pins σ tg R) X.xe s1) X.xe s
theorem go_of {M : Model} {A : Around} {E : Value → Shared → Prop} {s : Shared} {tg : Expr} {it : Addr} {u : Value} {o : Obj} {n : String} {vs : Array Value} {Q : Unit → Shared → Prop} (ho : s.heap.get? it = some o) (hc : o.cls = .type n) (hd : o.data = .fields vs)
    (hn : ["enumerate", "zip", "dict_itemiterator", "dict_reverseitemiterator", "odict_iterator", "itertools.zip_longest", "itertools.pairwise"].contains n = false) (hQ : Q () s) : wpAny M A (letOwnedTupleGo tg (.ref it) u) Q E s := by
  unfold letOwnedTupleGo
  cases tg <;> first
    | exact wpAny_pure hQ
    | (cases u <;> first
        | exact wpAny_pure hQ
        | (refine wpAny_bind (wpAny_load ho ?_)
           rw [hc, hd]
           show wpAny M A (if (["enumerate", "zip", "dict_itemiterator", "dict_reverseitemiterator", "odict_iterator", "itertools.zip_longest", "itertools.pairwise"].contains n && vs[0]? == some (rawInt _)) = true then _ else _) Q E s
           rw [if_neg (by intro h; rw [hn, Bool.false_and] at h; cases h)]
           exact wpAny_pure hQ))
noncomputable def Itl (K:PySem.W.Frag) (a:Addr):It :=
 ⟨fun i H => ∃ xs x,SqL K H a xs /\ xs[i]? = some x,fun i H x H' => H' = H /\ ∀ xs,SqL K H a xs -> xs[i]? = some x,fun i H => ∃ xs,SqL K H a xs /\ xs.length <= i⟩
noncomputable def Itt (K:PySem.W.Frag) (a:Addr):It :=
 ⟨fun i H => ∃ xs x,SqT K H a xs /\ xs[i]? = some x,fun i H x H' => H' = H /\ ∀ xs,SqT K H a xs -> xs[i]? = some x,fun i H => ∃ xs,SqT K H a xs /\ xs.length <= i⟩
noncomputable def Itr (lo:Int) (n:Nat):It:=⟨fun i _ => i < n,fun i H x H' => H' = H /\ x = .int (lo + i),fun i _ => n <= i⟩
theorem turn_list {P:Program} {w:World} {K:PySem.W.Frag} {tg:Expr} (a it:Addr):Turn P w K tg (Itl K a) [it] it (fun i h => h.IsListIter it a i) where
 mem:=by simp
 obj:=fun i h st b hb => by
  have e:b = it:=by simpa using hb
  subst e
  obtain ⟨o,e,c,d⟩:=st
  exact ⟨o,e,fun v z => by rw [d] at z; cases z⟩
 keep:=fun i h h' st k => st.at fun o e => k it (by simp) o e
 item:=by
  intro X hP hw hK hc i pins s σ H E I hf st hg
  subst hP hw hK
  obtain ⟨xs,x,hq,hx⟩:=hg
  obtain ⟨its,rv,p,hz⟩:=I.list hq
  obtain ⟨u,hu,ru⟩:=rv.get hx
  obtain ⟨f0,f1,f2,f3,f4,f5⟩:=hf it (by simp)
  refine wpAny_pyNext_list_item st p.isList (x:=u) (by simpa using hu) fun h' st' sb => ?_
  have I1:Inv X pins σ H { s with heap:=h' }:=I.turned (t':=s.toks) (fun b o hb e => (sb.2 b hb).trans e) f0 f1 f3 f4 f5
  obtain ⟨o,e,c,d⟩:=id st'
  exact ⟨u,rfl,go_of (s:={ s with heap:=h' }) e c d (by decide) ⟨x,H,I1,ru,⟨rfl,fun ys hy => by rw [I.list_inj hy hq]; exact hx⟩,st',fun b hb => (hf b hb).1⟩⟩
 done:=by
  intro X hP hw hK hc i pins s σ H E I hf st hg
  subst hP hw hK
  obtain ⟨xs,hq,hx⟩:=hg
  obtain ⟨its,rv,p,hz⟩:=I.list hq
  obtain ⟨f0,f1,f2,f3,f4,f5⟩:=hf it (by simp)
  have hl:=rv.length
  exact wpAny_pyNext_list_end (I.ok.hd hc) st p.isList (by simp; omega) fun h' eb => ⟨rfl,I.turned (t':=s.toks) (fun b o hb e => eb b o hb e) f0 f1 f3 f4 f5⟩
 self:=fun _ _ _ _ _ st h => wpAny_pyIter_listiter st h
theorem turn_tuple {P:Program} {w:World} {K:PySem.W.Frag} {tg:Expr} (a it:Addr):Turn P w K tg (Itt K a) [it] it (fun i h => h.IsTupleIter it a i) where
 mem:=by simp
 obj:=fun i h st b hb => by
  have e:b = it:=by simpa using hb
  subst e
  obtain ⟨o,e,c,d⟩:=st
  exact ⟨o,e,fun v z => by rw [d] at z; cases z⟩
 keep:=fun i h h' st k => st.at fun o e => k it (by simp) o e
 item:=by
  intro X hP hw hK hc i pins s σ H E I hf st hg
  subst hP hw hK
  obtain ⟨xs,x,hq,hx⟩:=hg
  obtain ⟨its,rv,p,hz⟩:=I.tuple hq
  obtain ⟨u,hu,ru⟩:=rv.get hx
  obtain ⟨f0,f1,f2,f3,f4,f5⟩:=hf it (by simp)
  refine wpAny_pyNext_tuple_item st (show s.heap.IsTuple a its.toArray from p) (x:=u) (by simpa using hu) fun h' st' sb => ?_
  have I1:Inv X pins σ H { s with heap:=h' }:=I.turned (t':=s.toks) (fun b o hb e => (sb.2 b hb).trans e) f0 f1 f3 f4 f5
  obtain ⟨o,e,c,d⟩:=id st'
  exact ⟨u,rfl,go_of (s:={ s with heap:=h' }) e c d (by decide) ⟨x,H,I1,ru,⟨rfl,fun ys hy => by rw [I.tuple_inj hy hq]; exact hx⟩,st',fun b hb => (hf b hb).1⟩⟩
 done:=by
  intro X hP hw hK hc i pins s σ H E I hf st hg
  subst hP hw hK
  obtain ⟨xs,hq,hx⟩:=hg
  obtain ⟨its,rv,p,hz⟩:=I.tuple hq
  obtain ⟨f0,f1,f2,f3,f4,f5⟩:=hf it (by simp)
  have hl:=rv.length
  exact wpAny_pyNext_tuple_end (I.ok.hd hc) st (show s.heap.IsTuple a its.toArray from p) (by simp; omega) fun h' eb => ⟨rfl,I.turned (t':=s.toks) (fun b o hb e => eb b o hb e) f0 f1 f3 f4 f5⟩
 self:=fun _ _ _ _ _ st h => wpAny_pyIter_tupleiter st h
theorem turn_range {P:Program} {w:World} {K:PySem.W.Frag} {tg:Expr} (it:Addr) (lo:Int) (n:Nat):Turn P w K tg (Itr lo n) [it] it (fun i h => IsRangeIter h it (lo + (i:Nat) * 1) ((n:Int) - (i:Nat)) 1) where
 mem:=by simp
 obj:=fun i h st b hb => by
  have e:b = it:=by simpa using hb
  subst e
  exact ⟨_,st,fun v z => by
   have z':Data.fields _ = Data.cell v:=z
   cases z'⟩
 keep:=fun i h h' st k => k it (by simp) _ st
 item:=by
  intro X hP hw hK hc i pins s σ H E I hf st hg
  subst hP hw hK
  obtain ⟨f0,f1,f2,f3,f4,f5⟩:=hf it (by simp)
  have W:=Walks.range (prog:=X.prog) (w:=X.w) (I.ok.hd hc) it lo 1 n
  refine W.item i s _ _ hg st fun v h' tk hv st' kk => ?_
  obtain ⟨t,rfl⟩:=hv
  have I1:Inv X pins σ H { s with heap:=h',toks:=tk }:=I.turned (fun b o hb e => kk b o (by simpa using hb) e) f0 f1 f3 f4 f5
  refine ⟨_,rfl,go_of (s:={ s with heap:=h',toks:=tk }) (n:="range_iterator") st' rfl rfl (by decide) ⟨.int (lo + i),H,I1,⟨t,?_⟩,⟨rfl,rfl⟩,st',fun b hb => (hf b hb).1⟩⟩
  rw [Int.mul_one]
 done:=by
  intro X hP hw hK hc i pins s σ H E I hf st hg
  subst hP hw hK
  obtain ⟨f0,f1,f2,f3,f4,f5⟩:=hf it (by simp)
  exact wpAny_pyNext_range_end (I.ok.hd hc) st (by have:n <= i:=hg; omega) fun h' eb => ⟨rfl,I.turned (t':=s.toks) (fun b o hb e => eb b o hb e) f0 f1 f3 f4 f5⟩
 self:=fun _ _ _ _ _ st h => wpAny_pyIter_rangeiter st h
end L2
namespace L2
open PySem PySem.Spec PyProof.Rows
section
variable {X:Cx} {tg:Expr}
noncomputable def iList (K:PySem.W.Frag) (tl:TE):TI:=fun σ H R => tl σ H fun x H1 => ∃ a,x = .ref a /\ (∃ xs,SqL K H1 a xs) /\ R (Itl K a) H1
noncomputable def iTup (K:PySem.W.Frag) (tl:TE):TI:=fun σ H R => tl σ H fun x H1 => ∃ a,x = .ref a /\ (∃ xs,SqT K H1 a xs) /\ R (Itt K a) H1
theorem pi_list {l:Expr} {tl:TE} (hl:PE X l tl):PI X tg l (iList X.K tl):=by
 intro pins s σ H R I h
 refine thn (hl pins s σ H _ I h) fun v s1 hw' => ?_
 obtain ⟨x,H1,I1,r1,q1⟩:=hw'
 obtain ⟨a,e,⟨xs,hq⟩,q⟩:=q1
 subst e
 cases r1
 obtain ⟨its,rv,p,hz⟩:=I1.list hq
 refine wpAny_pyIter_list p.isList ?_
 refine ⟨s1.heap.objs.size,[s1.heap.objs.size],_,_,H1,rfl,I1.kept (t':=s1.toks) fun b o e => Heap.get?_push_of_some _ e,turn_list a _,⟨_,Heap.get?_push_size _ rfl,rfl,rfl⟩,fun b hb => ?_,q⟩
 have e:b = s1.heap.objs.size:=by simpa using hb
 subst e
 exact I1.fpOk (Nat.le_refl _) (I1.hok.fresh (Nat.le_refl _))
theorem pi_tup {l:Expr} {tl:TE} (hl:PE X l tl):PI X tg l (iTup X.K tl):=by
 intro pins s σ H R I h
 refine thn (hl pins s σ H _ I h) fun v s1 hw' => ?_
 obtain ⟨x,H1,I1,r1,q1⟩:=hw'
 obtain ⟨a,e,⟨xs,hq⟩,q⟩:=q1
 subst e
 cases r1
 obtain ⟨its,rv,p,hz⟩:=I1.tuple hq
 refine wpAny_pyIter_tuple (show s1.heap.IsTuple a its.toArray from p) ?_
 refine ⟨s1.heap.objs.size,[s1.heap.objs.size],_,_,H1,rfl,I1.kept (t':=s1.toks) fun b o e => Heap.get?_push_of_some _ e,turn_tuple a _,⟨_,Heap.get?_push_size _ rfl,rfl,rfl⟩,fun b hb => ?_,q⟩
 have e:b = s1.heap.objs.size:=by simpa using hb
 subst e
 exact I1.fpOk (Nat.le_refl _) (I1.hok.fresh (Nat.le_refl _))
theorem range_it {pins:List (Addr × Obj)} {σ:St} {H:Hp} {s:Shared} {R:It -> Hp -> Prop} {E:Value -> Shared -> Prop} {lo hi:Int} {t u v:Tok} {tk:Nat} (I:Inv X pins σ H s) (h1:-(2 ^ 62) <= lo) (h2:lo < 2 ^ 62) (h3:-(2 ^ 62) <= hi) (h4:hi < 2 ^ 62)
  (q:R (Itr lo (hi - lo).toNat) H):wpAny (model X.prog X.w) X.A (pyIter (.ref s.heap.objs.size)) (PIE X pins σ tg R) E { s with heap:=s.heap.push { cls:=.type "range",data:=.fields #[.int lo t,.int hi u,.int 1 v] },toks:=tk }:=by
 refine wpAny_pyIter_range (IsRange.new ..) (small_one h1 h2 h3 h4) ?_
 have I1:Inv X pins σ H { s with heap:=s.heap.push { cls:=.type "range",data:=.fields #[.int lo t,.int hi u,.int 1 v] },toks:=tk }:=I.kept fun b o e => Heap.get?_push_of_some _ e
 refine ⟨(s.heap.push { cls:=.type "range",data:=.fields #[.int lo t,.int hi u,.int 1 v] }).objs.size,[(s.heap.push { cls:=.type "range",data:=.fields #[.int lo t,.int hi u,.int 1 v] }).objs.size],_,_,H,rfl,
  I1.kept (t':=tk) fun b o e => Heap.get?_push_of_some _ e,turn_range _ lo (hi - lo).toNat,?_,fun b hb => ?_,q⟩
 ·have e1:lo + ((0:Nat):Int) * 1 = lo:=by simp
  have e2:(((hi - lo).toNat:Nat):Int) - ((0:Nat):Int) = Builtin.Range.rangeSize lo hi 1:=by rw [rangeSize_one]; split <;> omega
  show IsRangeIter _ _ (lo + ((0:Nat):Int) * 1) ((((hi - lo).toNat:Nat):Int) - ((0:Nat):Int)) 1
  rw [e1,e2]
  exact Heap.get?_push_size _ rfl
 ·have e:b = (s.heap.push { cls:=.type "range",data:=.fields #[.int lo t,.int hi u,.int 1 v] }).objs.size:=by simpa using hb
  subst e
  exact I1.fpOk (Nat.le_refl _) (I1.hok.fresh (Nat.le_refl _))
noncomputable def iRng1 (ta:TA):TI:=fun σ H R => ta σ H fun vs H1 => ∃ j:Int,vs = [.int j] /\ -(2 ^ 62) <= j /\ j < 2 ^ 62 /\ R (Itr 0 j.toNat) H1
theorem pi_range1 {a:Expr} {ta:TA} {p pos:Pos} (hg:Gl X "range") (hm:X.mg "range" = none) (ha:PA X [a] ta) (hs:starEach [a] X.env = [(false,eval a X.env)]:=by rfl):PI X tg (.Call (.Name "range" p) [a] [] pos) (iRng1 ta):=by
 intro pins s σ H R I h
 refine Call_ (ld_blt I hg hm boot_range (PyProof.Rows.callWith_type1 (thn (ha pos pins s σ H _ I h) fun us s1 hw' => ?_) hs rfl))
 obtain ⟨vs,H1,I1,r1,q1⟩:=hw'
 obtain ⟨j,e,q1,q2,q⟩:=q1
 subst e
 cases r1 with
 | cons r rr =>
  cases rr
  obtain ⟨t,rfl⟩:=r
  exact call_range_1 (range_it I1 (by omega) (by omega) q1 q2 (by simpa using q))
noncomputable def tFor (wi:TI) (g:TG) (tb:TS):TS:=fun D σ H => wi σ H fun J H1 => ∃ W:Nat -> Nat -> St -> Hp -> Prop,(∃ m,W 0 m σ H1) /\ ∀ i m σ H,W i m σ H ->
 (J.stop i H /\ D.nx σ H) \/ (J.go i H /\ ∃ N:St -> Hp -> Prop,(∀ σ' H',N σ' H' -> ∃ m',m' < m /\ W (i + 1) m' σ' H') /\ ∀ x H',J.yld i H x H' -> g x σ H' fun σ2 H2 => tb { D with nx:=N,ct:=N,bk:=D.nx } σ2 H2)
noncomputable def pinsAt (fp:List Addr) (h:Heap):List (Addr × Obj):=fp.filterMap fun b => (h.get? b).map fun o => (b,o)
theorem mem_pinsAt {fp:List Addr} {h:Heap} {b:Addr} {o:Obj} (hb:b ∈ fp) (e:h.get? b = some o):(b,o) ∈ pinsAt fp h:=List.mem_filterMap.mpr ⟨b,hb,by rw [e]; rfl⟩
theorem of_pinsAt {fp:List Addr} {h:Heap} {p:Addr × Obj} (hp:p ∈ pinsAt fp h):p.1 ∈ fp /\ h.get? p.1 = some p.2:=by
 obtain ⟨b,hb,e⟩:=List.mem_filterMap.mp hp
 cases q:h.get? b with
 | none => rw [q] at e; cases e
 | some o =>
  rw [q] at e
  have e':(b,o) = p:=Option.some.inj e
  subst e'
  exact ⟨hb,q⟩
theorem Inv.pinned {pins:List (Addr × Obj)} {σ:St} {H:Hp} {s:Shared} {fp:List Addr} (I:Inv X pins σ H s) (hf:∀ b ∈ fp,FpOk X pins H b) (ho:∀ b ∈ fp,∃ o,s.heap.get? b = some o /\ ∀ v,o.data ≠ .cell v):Inv X (pins ++ pinsAt fp s.heap) σ H s :=
 I.pins_of fun p hp => (List.mem_append.mp hp).elim (fun z => I.pin p (List.mem_append_right _ z)) fun z => by
  obtain ⟨hb,e⟩:=of_pinsAt z
  obtain ⟨f0,f1,f2,_⟩:=hf p.1 hb
  obtain ⟨o,e',d⟩:=ho p.1 hb
  rw [e] at e'; cases e'
  exact ⟨e,f0,f1,f2,d⟩
theorem Inv.unpinned {pins pl:List (Addr × Obj)} {σ:St} {H:Hp} {s:Shared} (I:Inv X (pins ++ pl) σ H s):Inv X pins σ H s:=I.pins_of fun p hp => I.pin p (List.mem_append_right _ (List.mem_append_left _ hp))
theorem ps_for {iter:Expr} {body:List Stmt} {wi:TI} {g:TG} {tb:TS} {pos:Pos} (hp:PassesOwn (model X.prog X.w) X.A X.env X.xe) (hc:X.calm = true) (hi:PI X tg iter wi) (hg:PG X tg g) (hb:PSs X body tb)
  (hs:∀ x,foldedSetIterable iter X.env x = pure x:=by intro _; rfl):PS X (.For tg iter body [] pos) (tFor wi g tb):=by
 intro pins s σ H D I h
 refine wpAny_For (thn (hi pins s σ H _ I h) fun v s1 h1 => thn h1 fun itv s2 h2 => ?_) hs
 obtain ⟨it,fp,tn,J,H2,e,I2,T,st2,f2,W,⟨m0,w0⟩,turn⟩:=h2
 subst e
 have stat:∀ {H':Hp},(∀ b ∈ fp,H' b = none) -> ∀ b ∈ fp,FpOk X pins H' b:=fun hn b hb => ⟨hn b hb,(f2 b hb).2⟩
 refine codeAny_forLoop_any (fun n s' => ∃ i σ' H',Inv X pins σ' H' s' /\ tn i s'.heap /\ (∀ b ∈ fp,H' b = none) /\ W i n σ' H') ?_ m0 ⟨0,σ,H2,I2,st2,fun b hb => (f2 b hb).1,w0⟩
 rintro n s3 ⟨i,σ3,H3,I3,st3,fr3,w3⟩
 rcases turn i n σ3 H3 w3 with ⟨stop,qn⟩ | ⟨go,N,hN,step⟩
 ·refine wpAny_passesOwn hp (thn (T.done X rfl rfl rfl hc i pins s3 σ3 H3 X.xe I3 (stat fr3) st3 stop) fun r s4 ⟨hr,I4⟩ => ?_)
  subst hr
  exact wpAny_execs_nil ⟨σ3,H3,I4,qn⟩
 ·refine wpAny_passesOwn hp (thn (T.item X rfl rfl rfl hc i pins s3 σ3 H3 X.xe I3 (stat fr3) st3 go) fun r s4 ⟨u,hr,h4⟩ => ?_)
  subst hr
  refine wpAny_passesOwn hp (thn h4 fun _ s5 hw' => ?_)
  obtain ⟨x,H5,I5,r5,y5,st5,fr5⟩:=hw'
  have I5':=I5.pinned (stat fr5) (T.obj _ _ st5)
  refine wpAny_passesOwn hp (thn (hg _ s5 σ3 H5 x u _ I5' r5 (step x H5 y5)) fun _ s6 hw' => ?_)
  obtain ⟨σ6,H6,I6,q6⟩:=hw'
  refine wpAny_passesOwn hp (thn (hb _ s6 σ6 H6 _ I6 q6) fun f s7 q7 => ?_)
  have again:∀ {σ7:St} {H7:Hp},Inv X (pins ++ pinsAt fp s5.heap) σ7 H7 s7 -> N σ7 H7 -> ∃ m,m < n /\ ∃ i σ' H',Inv X pins σ' H' s7 /\ tn i s7.heap /\ (∀ b ∈ fp,H' b = none) /\ W i m σ' H':=fun {σ7 H7} I7 n7 => by
   obtain ⟨m',hm,w7⟩:=hN σ7 H7 n7
   refine ⟨m',hm,i + 1,σ7,H7,I7.unpinned,T.keep _ _ _ st5 fun b hb o e => (I7.pin (b,o) (List.mem_append_right _ (List.mem_append_right _ (mem_pinsAt hb e)))).1,fun b hb => ?_,w7⟩
   obtain ⟨o,e,d⟩:=T.obj _ _ st5 b hb
   exact (I7.pin (b,o) (List.mem_append_right _ (List.mem_append_right _ (mem_pinsAt hb e)))).2.1
  cases f with
  | next => obtain ⟨σ7,H7,I7,n7⟩:=q7; exact again I7 n7
  | cont => obtain ⟨σ7,H7,I7,n7⟩:=q7; exact again I7 n7
  | brk => obtain ⟨σ7,H7,I7,q7⟩:=q7; exact ⟨σ7,H7,I7.unpinned,q7⟩
  | ret v => obtain ⟨x7,σ7,H7,I7,r7,q7⟩:=q7; exact ⟨x7,σ7,H7,I7.unpinned,r7,q7⟩
end
end L2
namespace L2
open PySem PySem.Spec PyProof.Rows
noncomputable abbrev R2:=V -> V -> Hp -> VK -> Prop
noncomputable def OpR (X:Cx) (f:Value -> Value -> Sem Value) (r:R2):Prop :=
 ∀ (pins:List (Addr × Obj)) (s:Shared) (σ:St) (H:Hp) (x y:V) (v u:Value) (Q:VK),Inv X pins σ H s -> RelV x v -> RelV y u -> r x y H Q ->
  wpAny (model X.prog X.w) X.A (f v u) (EP X pins σ Q) X.xe s
noncomputable def UnR (X:Cx) (f:Value -> Sem Value) (r:V -> Hp -> VK -> Prop):Prop :=
 ∀ (pins:List (Addr × Obj)) (s:Shared) (σ:St) (H:Hp) (x:V) (v:Value) (Q:VK),Inv X pins σ H s -> RelV x v -> r x H Q ->
  wpAny (model X.prog X.w) X.A (f v) (EP X pins σ Q) X.xe s
noncomputable def CallR (X:Cx) (f:Value) (r:List V -> Hp -> VK -> Prop):Prop :=
 ∀ (pins:List (Addr × Obj)) (s:Shared) (σ:St) (H:Hp) (xs:List V) (us:List Value) (Q:VK),Inv X pins σ H s -> Vals xs us -> r xs H Q ->
  wpAny (model X.prog X.w) X.A (call f us) (EP X pins σ Q) X.xe s
noncomputable def tOp (r:R2) (ta tb:TE):TE:=fun σ H Q => ta σ H fun x H1 => tb σ H1 fun y H2 => r x y H2 Q
noncomputable def tUn (r:V -> Hp -> VK -> Prop) (ta:TE):TE:=fun σ H Q => ta σ H fun x H1 => r x H1 Q
noncomputable def rI (C:Int -> Int -> Prop) (g:Int -> Int -> V):R2:=fun x y H Q => ∃ i j,x = .int i /\ y = .int j /\ C i j /\ Q (g i j) H
noncomputable def rI0 (g:Int -> Int -> V):R2:=fun x y H Q => ∃ i j,x = .int i /\ y = .int j /\ Q (g i j) H
noncomputable def rU (g:Int -> V):V -> Hp -> VK -> Prop:=fun x H Q => ∃ i,x = .int i /\ Q (g i) H
section
variable {X:Cx} {a b c:Expr} {ta tb tc:TE} {pos:Pos}
theorem binT (ha:PE X a ta) (hb:PE X b tb) {pins:List (Addr × Obj)} {s:Shared} {σ:St} {H:Hp} {R:V -> V -> Hp -> Prop} (I:Inv X pins σ H s)
  (h:ta σ H fun x H1 => tb σ H1 fun y H2 => R x y H2) {Q:Value -> Shared -> Prop} {f:Value -> Value -> Sem Value}
  (hf:∀ v u s2 x y H2,Inv X pins σ H2 s2 -> RelV x v -> RelV y u -> R x y H2 -> wpAny (model X.prog X.w) X.A (f v u) Q X.xe s2) :
  wpAny (model X.prog X.w) X.A (eval a X.env) (fun v s₁ => wpAny (model X.prog X.w) X.A (eval b X.env) (fun u s₂ => wpAny (model X.prog X.w) X.A (f v u) Q X.xe s₂) X.xe s₁) X.xe s:=by
 refine thn (ha pins s σ H _ I h) fun v s1 hw' => ?_
 obtain ⟨x,H1,I1,r1,q1⟩:=hw'
 refine thn (hb pins s1 σ H1 _ I1 q1) fun u s2 hw' => ?_
 obtain ⟨y,H2,I2,r2,q2⟩:=hw'
 exact hf v u s2 x y H2 I2 r1 r2 q2
theorem pe_op {op:Operator} {r:R2} (ho:OpR X (binaryOp op) r) (ha:PE X a ta) (hb:PE X b tb):PE X (.BinOp a op b pos) (tOp r ta tb):=by
 intro pins s σ H Q I h
 exact wpAny_BinOp (binT ha hb I h fun v u s2 x y H2 I2 rx ry q => ho pins s2 σ H2 x y v u Q I2 rx ry q)
theorem pe_un {op:UnaryOp} {r:V -> Hp -> VK -> Prop} (ho:UnR X (unaryOp op) r) (ha:PE X a ta):PE X (.UnaryOp op a pos) (tUn r ta):=by
 intro pins s σ H Q I h
 exact UnaryOp_ (thn (ha pins s σ H _ I h) fun v s1 ⟨x,H1,I1,r1,q1⟩ => ho pins s1 σ H1 x v Q I1 r1 q1)
theorem opI {f:Value -> Value -> Sem Value} {C:Int -> Int -> Prop} {g:Int -> Int -> Int}
  (rule:∀ (i j:Int) (t u:Tok) (s:Shared) (Q:Value -> Shared -> Prop) (E:Value -> Shared -> Prop),C i j -> Q (.int (g i j) s.toks) { s with toks:=s.toks + 1 } -> wpAny (model X.prog X.w) X.A (f (.int i t) (.int j u)) Q E s) :
  OpR X f (rI C fun i j => .int (g i j)):=by
 intro pins s σ H x y v u Q I rx ry h
 obtain ⟨i,j,rfl,rfl,hc,q⟩:=h
 obtain ⟨t,rfl⟩:=rx
 obtain ⟨t',rfl⟩:=ry
 exact rule i j t t' s _ _ hc ⟨.int (g i j),H,I.tok _,⟨_,rfl⟩,q⟩
theorem opI0 {f:Value -> Value -> Sem Value} {g:Int -> Int -> Int}
  (rule:∀ (i j:Int) (t u:Tok) (s:Shared) (Q:Value -> Shared -> Prop) (E:Value -> Shared -> Prop),Q (.int (g i j) s.toks) { s with toks:=s.toks + 1 } -> wpAny (model X.prog X.w) X.A (f (.int i t) (.int j u)) Q E s) :
  OpR X f (rI0 fun i j => .int (g i j)):=by
 intro pins s σ H x y v u Q I rx ry h
 obtain ⟨i,j,rfl,rfl,q⟩:=h
 obtain ⟨t,rfl⟩:=rx
 obtain ⟨t',rfl⟩:=ry
 exact rule i j t t' s _ _ ⟨.int (g i j),H,I.tok _,⟨_,rfl⟩,q⟩
theorem opB0 {f:Value -> Value -> Sem Value} {g:Int -> Int -> Bool}
  (rule:∀ (i j:Int) (t u:Tok) (s:Shared) (Q:Value -> Shared -> Prop) (E:Value -> Shared -> Prop),Q (.bool (g i j)) s -> wpAny (model X.prog X.w) X.A (f (.int i t) (.int j u)) Q E s) :
  OpR X f (rI0 fun i j => .bl (g i j)):=by
 intro pins s σ H x y v u Q I rx ry h
 obtain ⟨i,j,rfl,rfl,q⟩:=h
 obtain ⟨t,rfl⟩:=rx
 obtain ⟨t',rfl⟩:=ry
 exact rule i j t t' s _ _ ⟨.bl (g i j),H,I,rfl,q⟩
noncomputable def CDiv (i j:Int):Prop:=0 < j /\ j < 1073741824
noncomputable def CPow (i j:Int):Prop:=0 <= j /\ j <= 1000000 /\ i.natAbs < 2 ^ 64
noncomputable def CMul (i j:Int):Prop:=(-(2 ^ 64) < i /\ i < 2 ^ 64) \/ (-(2 ^ 64) < j /\ j < 2 ^ 64)
theorem CMul.ok {i j:Int} (h:CMul i j):IntMulOk i j:=by
 rcases h with ⟨h1,h2⟩ | ⟨h1,h2⟩
 ·exact .of_left (intBits_le_64 h1 h2)
 ·exact .of_right (intBits_le_64 h1 h2)
theorem op_add:OpR X (binaryOp .Add) (rI0 fun i j => .int (i + j)):=opI0 fun _ _ _ _ _ _ _ q => add_int q
theorem op_sub:OpR X (binaryOp .Sub) (rI0 fun i j => .int (i - j)):=opI0 fun _ _ _ _ _ _ _ q => sub_int q
theorem op_mul:OpR X (binaryOp .Mult) (rI CMul fun i j => .int (i * j)):=opI fun _ _ _ _ _ _ _ hc q => mul_int q hc.ok
theorem op_fdiv:OpR X (binaryOp .FloorDiv) (rI CDiv fun i j => .int (i / j)):=opI fun i j _ _ _ _ _ hc q => by
 have h1:(0:Int) < j:=hc.1
 have h2:j < 1073741824:=hc.2
 exact floordiv_int (by omega) (by rw [Int.fdiv_eq_ediv_of_nonneg i (by omega)]; exact q) (.inl (PyProof.noPylong_small (by omega)))
theorem op_mod:OpR X (binaryOp .Mod) (rI (fun _ j => 0 < j) fun i j => .int (i % j)):=opI fun i j _ _ _ _ _ hc q => by
 have h1:(0:Int) < j:=hc
 exact mod_int' (by omega) (by rw [Int.fmod_eq_emod_of_nonneg i (by omega)]; exact q)
theorem op_pow:OpR X (binaryOp .Pow) (rI CPow fun i j => .int (i ^ j.toNat)):=opI fun _ _ _ _ _ _ _ hc q => pow_int_small hc.1 hc.2.1 hc.2.2 q
theorem unI {f:Value -> Sem Value} {g:Int -> Int}
  (rule:∀ (i:Int) (t:Tok) (s:Shared) (Q:Value -> Shared -> Prop) (E:Value -> Shared -> Prop),Q (.int (g i) s.toks) { s with toks:=s.toks + 1 } -> wpAny (model X.prog X.w) X.A (f (.int i t)) Q E s) :
  UnR X f (rU fun i => .int (g i)):=by
 intro pins s σ H x v Q I rx h
 obtain ⟨i,rfl,q⟩:=h
 obtain ⟨t,rfl⟩:=rx
 exact rule i t s _ _ ⟨.int (g i),H,I.tok _,⟨_,rfl⟩,q⟩
theorem un_neg:UnR X (unaryOp .USub) (rU fun i => .int (-i)):=unI fun _ _ _ _ _ q => neg_int q
end
section
variable {X:Cx} {a b c:Expr} {ta tb tc:TE} {pos:Pos}
theorem fin_bl {pins:List (Addr × Obj)} {σ:St} {H:Hp} {s:Shared} {Q:VK} {k k':Bool} (I:Inv X pins σ H s) (q:Q (.bl k) H) (e:k = k'):EP X pins σ Q (.bool k') s:=by
 subst e
 exact ⟨.bl k,H,I,rfl,q⟩
theorem op_lt:OpR X (compareOp .Lt) (rI0 fun i j => .bl (decide (i < j))):=opB0 fun _ _ _ _ _ _ _ q => lt_int q
theorem op_le:OpR X (compareOp .LtE) (rI0 fun i j => .bl (decide (i <= j))):=opB0 fun _ _ _ _ _ _ _ q => le_int q
theorem op_gt:OpR X (compareOp .Gt) (rI0 fun i j => .bl (decide (j < i))):=opB0 fun _ _ _ _ _ _ _ q => gt_int q
theorem op_isN:OpR X (compareOp .Is) (fun x y H Q => y = .non /\ Q (.bl (decide (x = .non))) H):=by
 intro pins s σ H x y v u Q I rx ry h
 obtain ⟨rfl,q⟩:=h
 cases ry
 refine is_none_gen (fin_bl I q ?_)
 cases x <;> first
  | (cases rx; rfl)
  | (obtain ⟨t,rfl⟩:=rx; rfl)
theorem op_notN:OpR X (compareOp .IsNot) (fun x y H Q => y = .non /\ Q (.bl (!decide (x = .non))) H):=by
 intro pins s σ H x y v u Q I rx ry h
 obtain ⟨rfl,q⟩:=h
 cases ry
 refine isnot_none_gen (fin_bl I q ?_)
 cases x <;> first
  | (cases rx; rfl)
  | (obtain ⟨t,rfl⟩:=rx; rfl)
theorem nomark (b:Expr) {op:CmpOp} (h:op ≠ .In:=by decide) (h2:op ≠ .NotIn:=by decide):behindInMarks op b = false:=by
 have e1:(op == CmpOp.In) = false:=by cases op <;> first | rfl | exact absurd rfl h
 have e2:(op == CmpOp.NotIn) = false:=by cases op <;> first | rfl | exact absurd rfl h2
 cases b <;> simp [behindInMarks,e1,e2]
theorem pe_cmpR {op:CmpOp} {r:R2} (ho:OpR X (compareOp op) r) (ha:PE X a ta) (hb:PE X b tb) (hm:behindInMarks op b = false):PE X (.Compare a [op] [b] pos) (tOp r ta tb):=by
 intro pins s σ H Q I h
 exact wpAny_Compare1 (binT ha hb I h fun v u s2 x y H2 I2 rx ry q => ho pins s2 σ H2 x y v u Q I2 rx ry q) hm
noncomputable def tTest (t:TE):TT:=fun σ H Q => t σ H fun x H' => ∃ k,x = .bl k /\ Q k H'
theorem pt_cmpR {op:CmpOp} {r:R2} (ho:OpR X (compareOp op) r) (ha:PE X a ta) (hb:PE X b tb) (hm:behindInMarks op b = false):PT X (.Compare a [op] [b] pos) (tTest (tOp r ta tb)):=by
 intro pins s σ H Q I h
 refine wpAny_isTrue_Compare1 (thn (ha pins s σ H _ I h) fun v s1 ⟨x,H1,I1,r1,q1⟩ => thn (hb pins s1 σ H1 _ I1 q1) fun u s2 ⟨y,H2,I2,r2,q2⟩ =>
  thn (ho pins s2 σ H2 x y v u _ I2 r1 r2 q2) fun c s3 hw' => ?_) hm
 obtain ⟨z,H3,I3,r3,k,e,q3⟩:=hw'
 subst e
 cases r3
 exact wpAny_truthy_bool ⟨H3,I3,q3⟩
noncomputable def tChain (r r':R2) (ta tb tc:TE):TE:=fun σ H Q => ta σ H fun x H1 => tb σ H1 fun y H2 => r x y H2 fun z H3 => ∃ k,z = .bl k /\
 (if k = true then tc σ H3 fun w' H4 => r' y w' H4 Q else Q (.bl false) H3)
theorem pt_chain {op op':CmpOp} {r r':R2} (ho:OpR X (compareOp op) r) (ho':OpR X (compareOp op') r') (ha:PE X a ta) (hb:PE X b tb) (hc:PE X c tc)
  (hm:lastMarks [op,op'] [b,c] = false:=by with_unfolding_all rfl):PT X (.Compare a [op,op'] [b,c] pos) (tTest (tChain r r' ta tb tc)):=by
 intro pins s σ H Q I h
 refine isTrue_chain (thn (ha pins s σ H _ I h) fun v s1 ⟨x,H1,I1,r1,q1⟩ => test_link (thn (hb pins s1 σ H1 _ I1 q1) fun u s2 ⟨y,H2,I2,r2,q2⟩ =>
  thn (ho pins s2 σ H2 x y v u _ I2 r1 r2 q2) fun d s3 hw' => ?_)) hm
 obtain ⟨z,H3,I3,r3,k,e,q3⟩:=hw'
 subst e
 cases r3
 refine wpAny_truthy_bool ?_
 cases k with
 | false =>
  obtain ⟨k',e',q'⟩:=q3
  cases e'
  exact ite_ff ⟨H3,I3,q'⟩
 | true =>
  refine ite_tt (test_last (thn (hc pins s3 σ H3 _ I3 q3) fun w' s4 ⟨z',H4,I4,r4,q4⟩ => thn (ho' pins s4 σ H4 y z' u w' _ I4 r2 r4 q4) fun d' s5 hw' => ?_))
  obtain ⟨z2,H5,I5,r5,k2,e2,q5⟩:=hw'
  subst e2
  cases r5
  exact wpAny_truthy_bool ⟨H5,I5,q5⟩
theorem line63:(sizeLine:Nat) < 2 ^ 63:=by rw [sizeLine_eq]; decide
theorem op_add_str:OpR X (binaryOp .Add) (fun x y H Q => ∃ i j,x = .str i /\ y = .str j /\ i.length + j.length <= sizeLine /\ Q (.str (i ++ j)) H):=by
 intro pins s σ H x y v u Q I rx ry h
 obtain ⟨i,j,rfl,rfl,hz,q⟩:=h
 obtain ⟨t,rfl⟩:=rx
 obtain ⟨t',rfl⟩:=ry
 exact add_str (fun t' tk => ⟨.str (i ++ j),H,I.tok _,⟨_,rfl⟩,q⟩) hz
theorem vals1 {x:V} {us:List Value} (r:Vals [x] us):∃ u,us = [u] /\ RelV x u:=by
 cases r with
 | cons r1 r2 => cases r2; exact ⟨_,rfl,r1⟩
theorem vals2 {x y:V} {us:List Value} (r:Vals [x,y] us):∃ u w',us = [u,w'] /\ RelV x u /\ RelV y w':=by
 cases r with
 | cons r1 r2 =>
  cases r2 with
  | cons r3 r4 => cases r4; exact ⟨_,_,rfl,r1,r3⟩
theorem call_min2 (hc:X.calm = true):CallR X (.builtin "min") (fun xs H Q => ∃ i j,xs = [.int i,.int j] /\ Q (.int (if j < i then j else i)) H):=by
 intro pins s σ H xs us Q I r h
 obtain ⟨i,j,rfl,q⟩:=h
 obtain ⟨u,w',rfl,⟨t,rfl⟩,⟨t',rfl⟩⟩:=vals2 r
 refine min_two_ints (I.ok.hd hc) fun h' tk k => ⟨_,H,I.kept k,?_,q⟩
 by_cases hj:j < i
 ·rw [if_pos hj,if_pos hj]; exact ⟨_,rfl⟩
 ·rw [if_neg hj,if_neg hj]; exact ⟨_,rfl⟩
theorem call_int1:CallR X (.type "int") (fun xs H Q => (∃ i,xs = [.int i] /\ Q (.int i) H) \/ ∃ k,xs = [.bl k] /\ Q (.int (if k then 1 else 0)) H):=by
 intro pins s σ H xs us Q I r h
 rcases h with ⟨i,rfl,q⟩ | ⟨k,rfl,q⟩
 ·obtain ⟨u,rfl,t,rfl⟩:=vals1 r
  exact call_int_int ⟨.int i,H,I,⟨_,rfl⟩,q⟩
 ·obtain ⟨u,rfl,r1⟩:=vals1 r
  cases r1
  exact call_int_bool ⟨.int (if k then 1 else 0),H,I.tok _,⟨_,rfl⟩,q⟩
theorem call_str_int:CallR X (.type "str") (fun xs H Q => ∃ i,xs = [.int i] /\ i.natAbs.log2 < 1920 /\ Q (.str (toString i)) H):=by
 intro pins s σ H xs us Q I r h
 obtain ⟨i,rfl,hz,q⟩:=h
 obtain ⟨u,rfl,t,rfl⟩:=vals1 r
 exact PySem.P.str_of_int hz ⟨.str _,H,I.tok _,⟨_,rfl⟩,q⟩
end
end L2
namespace L2
open PySem PySem.Spec PyProof.Rows
structure ObjM (h:Heap) (x dx C:Addr) (mA:Str -> Option Value):Prop where
 obj:h.get? x = some (PySem.W.instObj C dx)
 ns:h.Ns1 dx mA
 ne:dx ≠ x
theorem lookIn_ns {h:Heap} {dx:Addr} {mA:Str -> Option Value} (n:h.Ns1 dx mA):∃ od,h.get? dx = some od /\ ∀ name,PySem.W.lookIn name od = some (mA name):=by
 obtain ⟨o,es,ep,ho,hd,hk,_,hm⟩:=n
 refine ⟨o,ho,fun name => ?_⟩
 have e:=hm name
 unfold nsFind findBy at e
 rw [<- Array.find?_toList] at e
 unfold PySem.W.lookIn
 rw [hd]
 dsimp only
 split
 ·rename_i y q
  rw [q] at e
  exact congrArg some e
 ·rename_i q
  rw [q] at e
  have a:es.toList.any (·.refKey) = false:=by
   rw [List.any_eq_false]
   intro y hy
   obtain ⟨z,t,hkey⟩:=hk y (Array.mem_toList_iff.mp hy)
   simp [DictEntry.refKey,hkey]
  have a':¬ es.toList.any (·.refKey) = true:=by rw [a]; exact Bool.false_ne_true
  rw [if_neg a']
  exact congrArg some e
theorem ObjM.look {h:Heap} {x dx C:Addr} {mA:Str -> Option Value} (I:ObjM h x dx C mA):∃ od,PySem.W.InstAt h x (PySem.W.instObj C dx) C (some od) /\ ∀ name,PySem.W.lookIn name od = some (mA name) :=
 let ⟨od,ho,hl⟩:=lookIn_ns I.ns
 ⟨od,⟨I.obj,rfl,rfl,ho⟩,hl⟩
theorem RelO.some_of {v:V} {o:Option Value} (r:RelO (some v) o):∃ u,o = some u /\ RelV v u:=by
 cases o with
 | none => exact (show False from r).elim
 | some u => exact ⟨u,rfl,r⟩
section
variable {P:Program} {w:World} {H H':Hp} {h h':Heap} {a C dx:Addr} {fs fs':List (Str × V)}
theorem ins_get (hok:HOk P w H h) (e:H a = some (.ins C dx fs)):∃ mA,ObjM h a dx C mA /\ (∀ f,RelO (fs.lookup f) (mA f)) /\ PySem.Within mA (fs.map (·.1)) /\ fs.length <= 1000 /\ H dx = some (.own a):=by
 obtain ⟨d,z,ne,ob,mA,n,r,q⟩:=(show ObjOk P w H h a (.ins C dx fs) from hok a _ e)
 exact ⟨mA,⟨ob,n,ne⟩,r,q,z,d⟩
end
structure Cls (K:PySem.W.Frag) (C:Addr):Prop where
 pg:PySem.W.plainGet K C Str.empty = true
 hd:PySem.W.hasDictIn K C = true
 po:PySem.W.plainOver K C = true
 sa:PySem.W.findIn K (.ref C) "__setattr__" = some (some (.builtin "object.__setattr__"))
theorem Cls.get {K:PySem.W.Frag} {C:Addr} (c:Cls K C) (f:Str):PySem.W.plainGet K C f = true:=c.pg
section
variable {X:Cx} {pins:List (Addr × Obj)} {σ:St} {H:Hp} {s:Shared} {A:Around} {E:Value -> Shared -> Prop} {Q:Value -> Shared -> Prop} {c:Value} {b:Bool}
inductive TyOf (K:PySem.W.Frag) (H:Hp):V -> Value -> Prop where
 | non:TyOf K H .non (.type "NoneType")
 | bl (x:Bool):TyOf K H (.bl x) (.type "bool")
 | int (i:Int):TyOf K H (.int i) (.type "int")
 | str (x:Str):TyOf K H (.str x) (.type "str")
 | flt (x:UInt64):TyOf K H (.flt x) (.type "float")
 | lst {a:Addr} {xs:List V} (e:H a = some (.lst xs)):TyOf K H (.ref a) (.type "list")
 | frz {a:Addr} {o:Obj} {xs:List V} (e:H a = some (.frz o (.lst xs))):TyOf K H (.ref a) (.type "list")
 | tup {a:Addr} {xs:List V} (e:H a = some (.tup xs)):TyOf K H (.ref a) (.type "tuple")
 | dK {a:Addr} {kvs:List (Key × V)} (e:H a = some (.dK kvs)):TyOf K H (.ref a) (.type "dict")
 | dT {a:Addr} {kvs:List (List Key × V)} (e:H a = some (.dT kvs)):TyOf K H (.ref a) (.type "dict")
 | ins {a C dx:Addr} {fs:List (Str × V)} (e:H a = some (.ins C dx fs)) (cl:Cls K C) (ha:PySem.W.findIn K (.ref C) "__class__" = some (some (.builtin "object.__class__")))
   (hn:PySem.W.specialIn K (.builtin "object.__class__") "__get__" = some (some (.builtin "getset_descriptor.__get__"))) (htk:PySem.W.takesIn K (.builtin "object.__class__") = some true)
   (hm:PySem.W.mroIn K C (.type "object") = some true):TyOf K H (.ref a) (.ref C)
theorem isinst_ok {x:V} {u t:Value} (I:Inv X pins σ H s) (rx:RelV x u) (ty:TyOf X.K H x t) (e:PySem.W.kitOne X.K t c = some b) (h:∀ tk,Q (.bool b) { s with toks:=tk }) :
  wpAny (model X.prog X.w) A (call (.builtin "isinstance") [u,c]) Q E s:=by
 cases ty with
 | non => cases (show u = Value.none from rx); exact PySem.W.kia_one PySem.W.kitx_none I.kIn True.intro e (fun z => nomatch z) h
 | bl y => cases (show u = Value.bool y from rx); exact PySem.W.kia_one PySem.W.kitx_bool I.kIn True.intro e (fun z => nomatch z) h
 | int i => obtain ⟨t,q⟩:=(show ∃ t,u = Value.int i t from rx); cases q; exact PySem.W.kia_one PySem.W.kitx_int I.kIn True.intro e (fun z => nomatch z) h
 | str y => obtain ⟨t,q⟩:=(show ∃ t,u = Value.str y t from rx); cases q; exact PySem.W.kia_one PySem.W.kitx_str I.kIn True.intro e (fun z => nomatch z) h
 | flt y => obtain ⟨t,q⟩:=(show ∃ t,u = Value.float y t from rx); cases q; exact PySem.W.kia_one PySem.W.kitx_float I.kIn True.intro e (fun z => nomatch z) h
 | @lst a xs ea =>
  cases (show u = Value.ref a from rx)
  obtain ⟨_,_,n,_,h1⟩:=(show ObjOk X.prog X.w H s.heap a (.lst xs) from I.hok a _ ea)
  exact PySem.W.kia_one PySem.W.kitx_list I.kIn ⟨_,h1,rfl⟩ e (fun z => nomatch z) h
 | @frz a ob xs ea =>
  cases (show u = Value.ref a from rx)
  obtain ⟨_,_,_,n,_,h1⟩:=(show ObjOk X.prog X.w H s.heap a (.frz ob (.lst xs)) from I.hok a _ ea)
  exact PySem.W.kia_one PySem.W.kitx_list I.kIn ⟨_,h1,rfl⟩ e (fun z => nomatch z) h
 | @tup a xs ea =>
  cases (show u = Value.ref a from rx)
  obtain ⟨_,_,_,p⟩:=(show ObjOk X.prog X.w H s.heap a (.tup xs) from I.hok a _ ea)
  obtain ⟨o,h1,h2,_⟩:=p
  exact PySem.W.kia_one PySem.W.kitx_tuple I.kIn ⟨o,h1,h2⟩ e (fun z => nomatch z) h
 | @dK a kvs ea =>
  cases (show u = Value.ref a from rx)
  obtain ⟨_,_,vs,_,p⟩:=(show ObjOk X.prog X.w H s.heap a (.dK kvs) from I.hok a _ ea)
  obtain ⟨o,es,ep,h1,h2,_⟩:=p
  exact PySem.W.kia_one PySem.W.kitx_dict I.kIn ⟨o,h1,h2.1⟩ e (fun z => nomatch z) h
 | @dT a kvs ea =>
  cases (show u = Value.ref a from rx)
  obtain ⟨_,_,xs,_,o,es,ep,h1,h2,_⟩:=(show ObjOk X.prog X.w H s.heap a (.dT kvs) from I.hok a _ ea)
  exact PySem.W.kia_one PySem.W.kitx_dict I.kIn ⟨o,h1,h2.1⟩ e (fun z => nomatch z) h
 | @ins a C dx fs ea cl ha hn htk hm =>
  cases (show u = Value.ref a from rx)
  obtain ⟨mA,O,_⟩:=ins_get I.hok ea
  obtain ⟨od,J,_⟩:=O.look
  exact PySem.W.kia_one (PySem.W.kitx_own (cl.get _) cl.hd ha hn htk hm) I.kIn J e (fun z => nomatch z) h
end
end L2
namespace L2
open PySem PySem.Spec PyProof.Rows
structure Room (k:Nat) (A:Around):Prop where
 hd:A.handled = none
 dp:A.depth + 3 * k + 5 < recursionLimit
 un:A.units + 16 * k + 200 < cLine
 gd:A.guards = some []:=by rfl
theorem Room.mono {j k:Nat} {A:Around} (r:Room k A) (h:j <= k):Room j A:=⟨r.hd,by have:=r.dp; omega,by have:=r.un; omega,r.gd⟩
theorem Room.deeper {k:Nat} {A:Around} (r:Room (k + 1) A) (env:Env):Room k (A.deeper env) :=
 ⟨r.hd,by have:=r.dp; show A.depth + 1 + 3 * k + 5 < _; omega,by have:=r.un; show A.units + 3 + 16 * k + 200 < _; omega,r.gd⟩
theorem Room.depth {k:Nat} {A:Around} (r:Room k A):A.depth < recursionLimit:=by have:=r.dp; omega
theorem Room.units {k:Nat} {A:Around} (r:Room k A):A.units + 64 < cLine:=by have:=r.un; omega
noncomputable def tNil:TA:=fun _ H Q => Q [] H
noncomputable def tCons (ta:TE) (tr:TA):TA:=fun σ H Q => ta σ H fun x H1 => tr σ H1 fun xs H2 => Q (x :: xs) H2
section
variable {X:Cx} {e:Expr} {es:List Expr} {te:TE} {t:TA} {pos:Pos}
theorem pa_nil:PA X [] tNil:=fun _ _ _ _ H Q I h => Calls.spliced_nil ⟨[],H,I,.nil,h⟩
theorem pa_cons (ha:PE X e te) (hr:PA X es t) (hs:starEach (e :: es) X.env = (false,eval e X.env) :: starEach es X.env:=by rfl):PA X (e :: es) (tCons te t):=by
 intro pos pins s σ H Q I h
 rw [hs]
 show wpAny _ _ (spliced ((false,eval e X.env) :: backTo pos (starEach es X.env))) _ _ s
 refine Calls.spliced_cons (thn (ha pins s σ H _ I h) fun u s1 hw' => ?_)
 obtain ⟨x,H1,I1,r1,q1⟩:=hw'
 exact thn (hr pos pins s1 σ H1 _ I1 q1) fun us s2 ⟨xs,H2,I2,r2,q2⟩ => ⟨x :: xs,H2,I2,.cons r1 r2,q2⟩
noncomputable def tTup (t:TA):TE:=fun σ H Q => t σ H fun xs H1 => xs.length <= sizeLine /\ ∀ p,H1 p = none -> Q (.ref p) (upd H1 p (.tup xs))
noncomputable def tLst (t:TA):TE:=fun σ H Q => t σ H fun xs H1 => xs.length <= sizeLine /\ ∀ p,H1 p = none -> Q (.ref p) (upd H1 p (.lst xs))
theorem pe_tup {x1} (h:PA X es t):PE X (.Tuple es x1 pos) (tTup t):=by
 intro pins s σ H Q I hq
 refine wpAny_Tuple_spliced (thn (h pos pins s σ H _ I hq) fun us s1 ⟨xs,H1,I1,r,z,q⟩ => ⟨by rw [<- r.length]; exact z,?_⟩)
 have hf:H1 s1.heap.objs.size = none:=I1.hok.fresh (Nat.le_refl _)
 refine ⟨.ref s1.heap.objs.size,upd H1 s1.heap.objs.size (.tup xs),I1.laid (t':=s1.toks) (fun b u e => Heap.get?_push_of_some _ e) (Nat.le_refl _) ?_,rfl,q _ hf⟩
 exact ⟨z,us,r,⟨_,Heap.get?_push_size _ rfl,rfl,_,rfl⟩⟩
theorem pe_lst (h:PA X es t):PE X (.List es pos) (tLst t):=by
 intro pins s σ H Q I hq
 refine wpAny_List_spliced (thn (h pos pins s σ H _ I hq) fun us s1 ⟨xs,H1,I1,r,z,q⟩ => ⟨by rw [<- r.length]; exact z,?_⟩)
 have hf:H1 s1.heap.objs.size = none:=I1.hok.fresh (Nat.le_refl _)
 refine ⟨.ref s1.heap.objs.size,upd H1 s1.heap.objs.size (.lst xs),I1.laid (t':=s1.toks) (fun b u e => Heap.get?_push_of_some _ e) (Nat.le_refl _) ?_,rfl,q _ hf⟩
 exact ⟨z,us,0,r,Heap.get?_push_size _ rfl⟩
end
noncomputable abbrev Sp:=List V -> Hp -> VK -> XK -> Prop
noncomputable abbrev CXT:=List Env -> Hp -> Shared -> XK -> Value -> Shared -> Prop
structure Env0 (P:Program) (w:World) (K:PySem.W.Frag) (mg:Str -> Option Value) (base:Heap) (A:Around) (outer:List Env) (s:Shared) (H:Hp):Prop where
 frames:A.frames = some outer
 mod:Mod K mg base
 bs:∀ b o,base.get? b = some o -> s.heap.get? b = some o /\ H b = none
 bsz:base.objs.size <= s.heap.objs.size
 funs:s.heap.FunFrames base outer
 frf:∀ b ∈ frs outer,H b = none
 hok:HOk P w H s.heap
 bare:AllBare s.gens
noncomputable def CE (outer:List Env) (P:Program) (w:World) (H:Hp) (s:Shared) (Q:VK) (u:Value) (s':Shared):Prop :=
 ∃ v H',s'.os = s.os /\ AllBare s'.gens /\ Un (frs outer) [] H H' s.heap s'.heap /\ HOk P w H' s'.heap /\ RelV v u /\ Q v H'
noncomputable def CR (CX:CXT) (outer:List Env) (P:Program) (w:World) (H:Hp) (s:Shared) (Q:VK) (E:XK) (r:Result) (s':Shared):Prop :=
 match r with
 | .ok (.ret u) => CE outer P w H s Q u s'
 | .ok _ => False
 | .error e => CX outer H s E e s'
structure FnOk (P:Program) (w:World) (K:PySem.W.Frag) (mg:Str -> Option Value) (base:Heap) (CX:CXT) (k:Nat) (f:Addr) (fd:FuncData) (ps:List Str) (sp:Sp):Prop where
 len:∀ vs H Q E,sp vs H Q E -> vs.length = ps.length
 run:∀ (A:Around) (outer:List Env) (s:Shared) (H:Hp) (args:Args) (us:List Value) (vs:List V) (Q:VK) (E:XK),Room k A -> Env0 P w K mg base A outer s H -> BindsTo s fd args (ps.zip us) -> Vals vs us -> sp vs H Q E ->
  codeAny (model P w) A (.call (.ref f) args) (CR CX outer P w H s Q E) s
theorem FnOk.imp {P:Program} {w:World} {K:PySem.W.Frag} {mg:Str -> Option Value} {base:Heap} {CX:CXT} {k:Nat} {f:Addr} {fd:FuncData} {ps:List Str} {sp sp':Sp} (F:FnOk P w K mg base CX k f fd ps sp)
  (h:∀ vs H Q E,sp' vs H Q E -> sp vs H Q E):FnOk P w K mg base CX k f fd ps sp' :=
 ⟨fun vs H Q E q => F.len vs H Q E (h _ _ _ _ q),fun A outer s H args us vs Q E hr he hb hv hs => F.run A outer s H args us vs Q E hr he hb hv (h _ _ _ _ hs)⟩
section
variable {X:Cx} {pins:List (Addr × Obj)} {σ:St} {H:Hp} {s s':Shared}
theorem Inv.env0 (I:Inv X pins σ H s):Env0 X.prog X.w X.K X.mg X.base X.A X.stack s H :=
 ⟨I.ok.frames,I.ok.mod,I.bs,Nat.le_trans I.ok.bsz I.sz,I.stack,I.stkFree,I.hok,I.bare⟩
theorem Inv.after {Q:VK} {u:Value} (I:Inv X pins σ H s) (h:CE X.stack X.prog X.w H s Q u s'):EP X pins σ Q u s':=by
 obtain ⟨v,H',os,bare,un,hok,r,q⟩:=h
 obtain ⟨hh,g,d,t,os'⟩:=s'
 obtain rfl:os' = s.os:=os
 exact ⟨v,H',I.call (h':=hh) (g':=g) (d':=d) (t':=t) (ch:=[]) un hok bare (fun b z => absurd z (by simp)),r,q⟩
end
noncomputable def tCall (sp:Sp) (dvs:List V) (E:XK) (t:TA):TE:=fun σ H Q => t σ H fun vs H1 => sp (vs ++ dvs) H1 Q E
noncomputable def Binds (K:PySem.W.Frag) (fd:FuncData) (ps:List Str) (ds:List Value):Prop :=
 ∀ (s:Shared) (us:List Value),K.In s.heap -> (us ++ ds).length = ps.length -> BindsTo s fd ⟨us,[]⟩ (ps.zip (us ++ ds))
theorem Binds.all {K:PySem.W.Frag} {fd:FuncData} {ps:List Str} (h:∀ us:List Value,us.length = ps.length -> bindArgs fd ⟨us,[]⟩ = pure (ps.zip us)):Binds K fd ps []:=fun s us _ hl => by
 rw [List.append_nil] at hl ⊢
 exact .of_eq (h us hl)
noncomputable def Passes (CX:CXT) (X:Cx) (E:XK):Prop:=∀ (pins:List (Addr × Obj)) (σ:St) (H:Hp) (s:Shared) (e:Value) (s':Shared),Inv X pins σ H s -> CX X.stack H s E e s' -> X.xe e s'
section
variable {X:Cx} {CX:CXT} {k:Nat} {f C:Addr} {fd:FuncData} {ps:List Str} {sp:Sp} {dvs:List V} {ds:List Value} {E:XK} {x m:Str} {p pos apos:Pos} {e o:Expr} {es:List Expr} {ta:TE} {t:TA}
theorem run_fn {pins:List (Addr × Obj)} {σ:St} {H:Hp} {s:Shared} {Q:VK} {us:List Value} {vs:List V} (F:FnOk X.prog X.w X.K X.mg X.base CX k f fd ps sp) (hr:Room k X.A) (hb:Binds X.K fd ps ds) (hd:Vals dvs ds) (hx:Passes CX X E)
  (I:Inv X pins σ H s) (r:Vals vs us) (h:sp (vs ++ dvs) H Q E):wpAny (model X.prog X.w) X.A (call (.ref f) us) (EP X pins σ Q) X.xe s:=by
 have r2:Vals (vs ++ dvs) (us ++ ds):=r.append hd
 have hl:(us ++ ds).length = ps.length:=by rw [<- r2.length]; exact F.len _ _ _ _ h
 refine wpAny_call (codeAny_mono (F.run X.A X.stack s H ⟨us,[]⟩ (us ++ ds) (vs ++ dvs) Q E hr I.env0 (hb s us I.kIn hl) r2 h) fun r s' hq => ?_)
 cases r with
 | error e => exact hx pins σ H s e s' I hq
 | ok fl =>
  cases fl with
  | ret u => exact I.after hq
  | next => exact False.elim hq
  | brk => exact False.elim hq
  | cont => exact False.elim hq
theorem pe_call (F:FnOk X.prog X.w X.K X.mg X.base CX k f fd ps sp) (hr:Room k X.A) (hg:Gl X x) (hm:X.mg x = some (.ref f)) (hk:PySem.W.keepIn X.K (.ref f) = true) (hb:Binds X.K fd ps ds) (hd:Vals dvs ds) (hx:Passes CX X E)
  (ha:PA X (e :: es) t) (hdb:(x == ("__debug__":Str)) = false:=by decide) (he:starEach (e :: es) X.env = (false,eval e X.env) :: starEach es X.env:=by rfl) (hpl:(backTo pos (starEach es X.env)).any (·.1) = false:=by rfl) :
  PE X (.Call (.Name x p) (e :: es) [] pos) (tCall sp dvs E t):=by
 intro pins s σ H Q I h
 refine wpAny_Call_Name_kw (ld_glob I hg hm ?_ hdb)
 refine PySem.W.callWith_K (h₀:=X.base) I.ok.mod.kin hk (thn (ha pos pins s σ H _ I h) fun us s1 ⟨vs,H1,I1,r,q⟩ => ⟨I1.kIn,?_⟩) he hpl
 exact run_fn F hr hb hd hx I1 r q
end
structure FnScope (N P:List Str) (sc:Scope):Prop where
 kind:sc.kind = .function
 co:sc.isCoroutine = false
 gen:sc.isGenerator = false
 nd:N.Nodup
 pre:N.take P.length = P
 par:∀ x ∈ P,sc.names.lookup x = some .local \/ sc.names.lookup x = some .cell
 nofree:∀ y ∈ sc.names,y.2 ≠ .free
theorem bindL_out {kindOf:Str -> Option NameKind} {x:Str}:∀ {binds:List (Str × Value)} {m:Str -> Option Value},(∀ v,(x,v) ∉ binds) -> bindL kindOf binds m x = m x
 | [],_,_ => rfl
 | (n,v) :: r,m,h => by
  unfold bindL
  rw [bindL_out fun w hw => h w (List.mem_cons_of_mem _ hw)]
  split
  ·have:x ≠ n:=by rintro rfl; exact h v List.mem_cons_self
   simp [this]
  ·rfl
theorem bindC_out {kindOf:Str -> Option NameKind} {x:Str}:∀ {binds:List (Str × Value)} {m:Str -> Option Value},(∀ v,(x,v) ∉ binds) -> bindC kindOf binds m x = m x
 | [],_,_ => rfl
 | (n,v) :: r,m,h => by
  unfold bindC
  rw [bindC_out fun w hw => h w (List.mem_cons_of_mem _ hw)]
  split
  ·rfl
  ·have:x ≠ n:=by rintro rfl; exact h v List.mem_cons_self
   simp [this]
theorem bindL_get {kindOf:Str -> Option NameKind} {x:Str} {v:Value}:∀ {P:List Str} {vs:List Value} {i:Nat} {m:Str -> Option Value},P.Nodup -> P[i]? = some x -> vs[i]? = some v -> kindOf x = some .local ->
  bindL kindOf (P.zip vs) m x = some v
 | [],_,_,_,_,h,_,_ => by simp at h
 | _ :: _,[],_,_,_,_,h,_ => by simp at h
 | p :: P,w :: vs,0,m,nd,h1,h2,hk => by
  simp at h1 h2; subst h1; subst h2
  show bindL kindOf ((p,w) :: P.zip vs) m p = _
  unfold bindL
  rw [bindL_out fun v hv => (List.nodup_cons.mp nd).1 (List.of_mem_zip hv).1,if_pos hk]
  simp
 | p :: P,w :: vs,i + 1,m,nd,h1,h2,hk => by
  show bindL kindOf ((p,w) :: P.zip vs) m x = _
  unfold bindL
  exact bindL_get (i:=i) (List.nodup_cons.mp nd).2 (by simpa using h1) (by simpa using h2) hk
theorem bindC_get {kindOf:Str -> Option NameKind} {x:Str} {v:Value}:∀ {P:List Str} {vs:List Value} {i:Nat} {m:Str -> Option Value},P.Nodup -> P[i]? = some x -> vs[i]? = some v -> kindOf x ≠ some .local ->
  bindC kindOf (P.zip vs) m x = some v
 | [],_,_,_,_,h,_,_ => by simp at h
 | _ :: _,[],_,_,_,_,h,_ => by simp at h
 | p :: P,w :: vs,0,m,nd,h1,h2,hk => by
  simp at h1 h2; subst h1; subst h2
  show bindC kindOf ((p,w) :: P.zip vs) m p = _
  unfold bindC
  rw [bindC_out fun v hv => (List.nodup_cons.mp nd).1 (List.of_mem_zip hv).1,if_neg hk]
  simp
 | p :: P,w :: vs,i + 1,m,nd,h1,h2,hk => by
  show bindC kindOf ((p,w) :: P.zip vs) m x = _
  unfold bindC
  exact bindC_get (i:=i) (List.nodup_cons.mp nd).2 (by simpa using h1) (by simpa using h2) hk
noncomputable def start (N:List Str) (vs:List V):St:=vs.map some ++ List.replicate (N.length - vs.length) none
noncomputable def cxOf (CX:CXT) (P:Program) (w:World) (K:PySem.W.Frag) (mg:Str -> Option Value) (base:Heap) (N:List Str) (qual:Str) (scope:Scope) (f:Addr) (cd:Value) (A:Around) (outer:List Env) (s:Shared) (H:Hp) (E:XK):Cx where
 prog:=P
 w:=w
 K:=K
 mg:=mg
 base:=base
 A:=A.deeper (envOfC qual scope s.heap.objs.size f cd)
 N:=N
 s₀:=s
 H₀:=H
 env:=envOfC qual scope s.heap.objs.size f cd
 outer:=outer
 stack:=envOfC qual scope s.heap.objs.size f cd :: outer
 ex:=[]
 calm:=true
 fn:=fun _ => true
 pn:=[]
 xe:=fun e s' => wpAny (model P w) (A.deeper (envOfC qual scope s.heap.objs.size f cd)) (leaving (envOfC qual scope s.heap.objs.size f cd) e) (fun _ s'' => CX outer H s E e s'') (fun e' s'' => CX outer H s E e' s'') s'
theorem cell_has {sc:Scope} {n:Nat} {x:Str} (h:sc.names.lookup x = some .cell):∃ c,(cellsFrom n sc.names []).lookup x = some c:=by
 have q:=PySem.W.cellsFrom_some sc.names n [] (.inl h)
 exact Option.isSome_iff_exists.mp q
theorem inv_start {CX:CXT} {P:Program} {w:World} {K:PySem.W.Frag} {mg:Str -> Option Value} {base:Heap} {N ps:List Str} {qual:Str} {scope:Scope} {f:Addr} {cd:Value} {A:Around} {outer:List Env} {s s1:Shared} {H:Hp} {E:XK} {us:List Value} {vs:List V}
  (S:FnScope N ps scope) (hd:A.handled = none) (e0:Env0 P w K mg base A outer s H) (hl:vs.length = ps.length) (r:Vals vs us)
  (x:InCallC s s.heap.objs.size (bindL (envOfC qual scope s.heap.objs.size f cd).kindOf (ps.zip us) fun _ => none) (cellsFrom (s.heap.objs.size + 1) scope.names []) (bindC (envOfC qual scope s.heap.objs.size f cd).kindOf (ps.zip us) fun _ => none) s1) :
  Inv (cxOf CX P w K mg base N qual scope f cd A outer s H E) [] (start N vs) H s1:=by
 have hpl:ps.length <= N.length:=by have:=congrArg List.length S.pre; rw [List.length_take] at this; omega
 obtain ⟨h1,tk,rfl,hk⟩:=x.done
 have noA:∀ b:Addr,b ∉ (cxOf CX P w K mg base N qual scope f cd A outer s H E).ex:=fun b z => absurd (show b ∈ ([]:List Addr) from z) (by simp)
 refine ⟨⟨e0.mod,S.kind,rfl,rfl,Nat.le_refl _,fun y z c h1 h2 => ?_,fun y hy => ?_,fun y c _ h => ?_,fun _ => hd,Around.frames_deeper e0.frames,.inr ⟨rfl,rfl⟩,fun b z => absurd z (noA b),e0.bs,e0.bsz,fun b _ _ => noA b,fun b z => absurd z (noA b),e0.funs,e0.frf⟩,
  rfl,e0.bare,Un.kept hk,⟨_,x.toInCall.ns,fun i y v h1 h2 h3 => ?_⟩,fun y c h => ⟨_,x.cell y c h⟩,e0.hok.fresh (Nat.le_refl _),fun y c h => ?_,fun p hp => absurd (show p ∈ ([]:List (Addr × Obj)) from hp) (by simp),e0.hok.kept hk,?_⟩
 ·exact name_of_addr x.apart (PySem.mem_of_lookup h1) (PySem.mem_of_lookup h2)
 ·have hy:scope.names.lookup y = some .cell \/ scope.names.lookup y = some .free:=hy
  rcases hy with hy | hy
  ·exact cell_has hy
  ·exact absurd rfl (S.nofree _ (PySem.mem_of_lookup hy))
 ·exact Nat.le_of_lt (x.above y c (PySem.mem_of_lookup h))
 ·have hi:i < vs.length:=by
   unfold start at h2
   by_cases hi:i < vs.length
   ·exact hi
   ·rw [List.getElem?_append_right (by simpa using hi)] at h2
    rw [List.getElem?_replicate] at h2
    split at h2 <;> cases h2
  have ha:vs[i]? = some v:=by
   unfold start at h2
   rw [List.getElem?_append_left (by simpa using hi),List.getElem?_map] at h2
   cases e:vs[i]? with
   | none => rw [e] at h2; cases h2
   | some a => rw [e] at h2; cases h2; rfl
  obtain ⟨u,hu,rv⟩:=r.get ha
  have hp:ps[i]? = some y:=by
   rw [<- S.pre,List.getElem?_take_of_lt (by omega)]; exact h1
  have ndP:ps.Nodup:=by rw [<- S.pre]; exact S.nd.sublist (List.take_sublist _ _)
  refine ⟨u,rv,?_⟩
  rcases S.par y (List.mem_of_getElem? hp) with k | k
  ·exact .inl ⟨k,bindL_get ndP hp hu k⟩
  ·obtain ⟨c,e⟩:=cell_has (n:=s.heap.objs.size + 1) k
   refine .inr ⟨.inl k,c,e,?_⟩
   have q:=x.cell y c e
   rw [bindC_get ndP hp hu (by show scope.names.lookup y ≠ _; rw [k]; decide)] at q
   exact q
 ·exact .inl (e0.hok.fresh (Nat.le_of_lt (x.above y c (PySem.mem_of_lookup h))))
 ·unfold start
  show _ = N.length
  rw [List.length_append,List.length_map,List.length_replicate]
  omega
theorem fn_of {CX:CXT} {P:Program} {w:World} {K:PySem.W.Frag} {mg:Str -> Option Value} {base:Heap} {k:Nat} {f:Addr} {name qual:Str} {params:Arguments} {body:List Stmt} {scope:Scope} {dV kV doc pm cdv ct oc:Value} {an od:Option Addr}
  {osl:Array (Option Value)} {N ps:List Str} {sp:Sp} (lk:K.lookup f = some ⟨oc,od,.func (PySem.W.fnOf name qual params body scope dV kV doc pm an cdv ct),osl⟩) (hcd:PySem.W.codeIn K cdv qual = true) (S:FnScope N ps scope)
  (len:∀ vs H Q E,sp vs H Q E -> vs.length = ps.length)
  (hbody:∀ (A:Around) (outer:List Env) (s:Shared) (H:Hp) (vs:List V) (Q:VK) (E:XK),Room k (A.deeper (envOfC qual scope s.heap.objs.size f cdv)) -> sp vs H Q E ->
   ∃ t,PSs (cxOf CX P w K mg base N qual scope f cdv A outer s H E) body t /\ t { nx:=fun _ H' => Q .non H',rt:=Q } (start N vs) H) :
  FnOk P w K mg base CX (k + 1) f (PySem.W.fnOf name qual params body scope dV kV doc pm an cdv ct) ps sp:=by
 refine ⟨len,fun A outer s H args us vs Q E hr e0 hb r hsp => ?_⟩
 have hl:=len _ _ _ _ hsp
 have KX:K.In s.heap:=e0.mod.kin.keeps fun b o e => (e0.bs b o e).1
 have lim:s.heap.NoLimit:=e0.mod.nolimit.keeps fun b o e => (e0.bs b o e).1
 have hkind:∀ y ∈ ps.zip us,scope.names.lookup y.1 = some .local \/ (scope.names.lookup y.1 = some .cell /\ ((cellsFrom (s.heap.objs.size + 1) scope.names []).lookup y.1).isSome = true):=fun hw' hy => by
  obtain ⟨n,v⟩:=hw'
  rcases S.par n (List.of_mem_zip hy).1 with q | q
  ·exact .inl q
  ·exact .inr ⟨q,PySem.W.cellsFrom_some _ _ _ (.inl q)⟩
 refine codeAny_call_function hr.depth (KX _ _ lk) rfl S.co S.gen rfl (PySem.W.codeRec_of KX hcd) (hb _ _ _ _ ?_)
 refine wpAny_newFunctionEnv_cells S.kind hkind fun env he s1 x => ?_
 subst he
 refine ⟨lim.keeps x.toInCall.keep,codeAny_func ?_⟩
 obtain ⟨t,ht,hq⟩:=hbody A outer s H vs Q E (hr.deeper _) hsp
 have I:Inv (cxOf CX P w K mg base N qual scope f cdv A outer s H E) [] (start N vs) H s1:=inv_start S hr.hd e0 hl r x
 refine wpAny_mono (ht [] s1 (start N vs) H _ I hq) (fun fl s' hs => ?_) fun e s' hs => hs
 have fin:∀ {σ':St} {H':Hp} {v:V} {u:Value},Inv (cxOf CX P w K mg base N qual scope f cdv A outer s H E) [] σ' H' s' -> RelV v u -> Q v H' -> CE outer P w H s Q u s' :=
  fun {σ' H' v u} J rv q => ⟨v,H',J.os,J.bare,J.base,J.hok,rv,q⟩
 cases fl with
 | ret u =>
  obtain ⟨v,σ',H',J,rv,q⟩:=hs
  exact fin J rv q
 | next =>
  obtain ⟨σ',H',J,q⟩:=hs
  exact fin (v:=V.non) (u:=Value.none) J rfl q
 | brk =>
  obtain ⟨_,_,_,q⟩:=hs
  exact False.elim q
 | cont =>
  obtain ⟨_,_,_,q⟩:=hs
  exact False.elim q
end L2
namespace L2
open PySem PySem.Spec PyProof.Rows
section
variable {X:Cx} {x:Str} {p pos:Pos} {e:Expr} {es:List Expr} {t:TA} {id T:String} {r:List V -> Hp -> VK -> Prop}
noncomputable def tCB (r:List V -> Hp -> VK -> Prop) (t:TA):TE:=fun σ H Q => t σ H fun vs H1 => r vs H1 Q
theorem pe_callB (hc:CallR X (.builtin id) r) (hg:Gl X x) (hm:X.mg x = none) (hv:bootBuiltins x = some (.builtin id)) (ha:PA X (e :: es) t) (hn:x ≠ "__name__":=by decide) (hdb:(x == ("__debug__":Str)) = false:=by decide)
  (he:starEach (e :: es) X.env = (false,eval e X.env) :: starEach es X.env:=by rfl) (hpl:(backTo pos (starEach es X.env)).any (·.1) = false:=by rfl):PE X (.Call (.Name x p) (e :: es) [] pos) (tCB r t):=by
 intro pins s σ H Q I h
 refine wpAny_Call_Name_kw (ld_blt I hg hm hv ?_ hn hdb)
 exact PyProof.Rows.callWith_builtin1 (thn (ha pos pins s σ H _ I h) fun us s1 ⟨vs,H1,I1,r1,q1⟩ => hc pins s1 σ H1 vs us Q I1 r1 q1) he hpl
theorem pe_callTy (hc:CallR X (.type T) r) (hg:Gl X x) (hm:X.mg x = none) (hv:bootBuiltins x = some (.type T)) (ha:PA X (e :: es) t) (hn:x ≠ "__name__":=by decide) (hdb:(x == ("__debug__":Str)) = false:=by decide)
  (he:starEach (e :: es) X.env = (false,eval e X.env) :: starEach es X.env:=by rfl) (hpl:(backTo pos (starEach es X.env)).any (·.1) = false:=by rfl):PE X (.Call (.Name x p) (e :: es) [] pos) (tCB r t):=by
 intro pins s σ H Q I h
 refine wpAny_Call_Name_kw (ld_blt I hg hm hv ?_ hn hdb)
 exact PyProof.Rows.callWith_type1 (thn (ha pos pins s σ H _ I h) fun us s1 ⟨vs,H1,I1,r1,q1⟩ => hc pins s1 σ H1 vs us Q I1 r1 q1) he hpl
end
end L2
namespace HT
open PySem PyProof.Rows
section
variable {prog:Program} {w:World} {A:Around} {E:Value -> Shared -> Prop} {s:Shared}
theorem cat_tup {t b:Addr} {vs ws:List Value} {Q:Value -> Shared -> Prop} (ht:IsTup s.heap t vs.toArray) (hb:IsTup s.heap b ws.toArray) (hv:vs ≠ [])
  (h1:ws = [] -> Q (.ref t) s) (h2:ws ≠ [] -> Q (.ref s.heap.objs.size) { s with heap:=s.heap.push { cls:=.type "tuple",data:=.seq (vs ++ ws).toArray } })
  (hsz:vs.length + ws.length <= sizeLine):wpAny (model prog w) A (binaryOp .Add (.ref t) (.ref b)) Q E s:=by
 obtain ⟨⟨cls,dd,data,sl⟩,ho,hc,n,hd⟩:=id ht
 obtain ⟨⟨cls2,dd2,data2,sl2⟩,ho2,hc2,n2,hd2⟩:=id hb
 simp only at hc hd hc2 hd2
 subst hc hd hc2 hd2
 have e:vs.toArray ++ ws.toArray = (vs ++ ws).toArray:=by simp
 by_cases hw:ws = []
 ·exact concat_meets ⟨_,ho,rfl⟩ ⟨_,ho2,rfl⟩ noFill_tuple_add seq_tuple_add PySem.F.slot_tuple_add PySem.F.entry_tuple_add (PySem.F.args_tuple_add_2 _ _)
   (tuple_addW1 t b vs.toArray ws.toArray n n2 dd dd2 sl sl2 (by simpa using hv) (by simp [hw])) ⟨ho,ho2,h1 hw⟩
 ·refine concat_meets ⟨_,ho,rfl⟩ ⟨_,ho2,rfl⟩ noFill_tuple_add seq_tuple_add PySem.F.slot_tuple_add PySem.F.entry_tuple_add (PySem.F.args_tuple_add_2 _ _)
   (tuple_addW2 t b vs.toArray ws.toArray n n2 dd dd2 sl sl2 (by simpa using hv) (by simpa using hw) (by rw [List.size_toArray,List.size_toArray]; exact hsz)) ⟨ho,ho2,?_⟩
  rw [e]
  exact h2 hw
noncomputable def sIx (n d:Nat):Option Int -> Nat
 | none => d
 | some v => if v < 0 then (v + (n:Int)).toNat else min v.toNat n
theorem sIx_none (n d:Nat):sIx n d none = d:=rfl
theorem sIx_nat (n d k:Nat):sIx n d (some (k:Int)) = min k n:=by
 show (if (k:Int) < 0 then ((k:Int) + (n:Int)).toNat else min (k:Int).toNat n) = min k n
 rw [if_neg (by omega),Int.toNat_natCast]
theorem sIx_le (n d:Nat) (hd:d <= n) (o:Option Int):sIx n d o <= n:=by
 cases o with
 | none => exact hd
 | some v =>
  show (if v < 0 then (v + (n:Int)).toNat else min v.toNat n) <= n
  by_cases hv:v < 0
  ·rw [if_pos hv]; omega
  ·rw [if_neg hv]; exact Nat.min_le_right _ _
theorem clip_eq (v:Int) (n d:Nat):(if v < 0 then max (v + (n:Int)) 0 else min v (n:Int)) = ((sIx n d (some v):Nat):Int):=by
 show (if v < 0 then max (v + (n:Int)) 0 else min v (n:Int)) = (((if v < 0 then (v + (n:Int)).toNat else min v.toNat n):Nat):Int)
 by_cases hv:v < 0
 ·simp only [if_pos hv]; omega
 ·simp only [if_neg hv]; omega
theorem adjust_gen (lo hi:Option Int) (n:Nat):Builtin.Slice.sliceAdjust lo hi 1 (n:Int) = (((sIx n 0 lo:Nat):Int),((sIx n n hi:Nat):Int)):=by
 have h1:¬ ((1:Int) < 0):=by omega
 unfold Builtin.Slice.sliceAdjust
 simp only [h1,if_false]
 refine Prod.ext ?_ ?_
 ·cases lo with
  | none => rfl
  | some v => exact clip_eq v n 0
 ·cases hi with
  | none => rfl
  | some v => exact clip_eq v n n
theorem places_gen (i j:Nat):Builtin.Slice.slicePlaces (i:Int) (j:Int) 1 = j - i:=by
 unfold Builtin.Slice.slicePlaces
 have h1:(1:Int) > 0:=by omega
 simp only [h1,if_true,Int.ediv_one]
 split <;> omega
theorem slicePart_ {v:Value} {o:Option Int} {Q:Option Int -> Shared -> Prop} (p:IsPart v o) (h:Q o s):wpAny (model prog w) A (Builtin.Slice.slicePartIndex v) Q E s:=by
 cases p with
 | none => exact slicePart_none h
 | int i t => exact slicePart_int h
theorem sliceApplied_gen {sl:Addr} {vl vu:Value} {lo hi:Option Int} {n:Nat} {Q:Int × Int × Nat -> Shared -> Prop} (hs:s.heap.IsSliceOf sl vl vu .none) (pl:IsPart vl lo) (pu:IsPart vu hi)
  (h:Q (((sIx n 0 lo:Nat):Int),1,sIx n n hi - sIx n 0 lo) s):wpAny (model prog w) A (Builtin.Slice.sliceApplied (.ref sl) (pure (n:Int))) Q E s:=by
 obtain ⟨os,hos,hcs,hds⟩:=id hs
 unfold Builtin.Slice.sliceApplied Builtin.Slice.sliceFields
 refine wpAny_bind (wpAny_bind (wpAny_field hos hds (x:=vl) rfl (wpAny_bind (wpAny_field hos hds (x:=vu) rfl (wpAny_bind (wpAny_field hos hds (x:=.none) rfl (wpAny_pure ?_)))))))
 refine wpAny_bind (slicePart_none ?_)
 show wpAny _ _ (if ((1:Int) == 0) = true then _ else _) _ _ s
 rw [if_neg (by decide)]
 refine wpAny_bind (slicePart_ pl (wpAny_bind (slicePart_ pu (wpAny_bind (wpAny_pure ?_)))))
 show wpAny _ _ (match Builtin.Slice.sliceAdjust lo hi 1 (n:Int) with | (lo,hi) => pure (lo,(1:Int),Builtin.Slice.slicePlaces lo hi 1)) _ _ s
 rw [adjust_gen lo hi n]
 show wpAny _ _ (pure (((sIx n 0 lo:Nat):Int),(1:Int),Builtin.Slice.slicePlaces ((sIx n 0 lo:Nat):Int) ((sIx n n hi:Nat):Int) 1)) _ _ s
 rw [places_gen]
 exact wpAny_pure h
theorem pick_gen (xs:Array Value) (i k:Nat):((List.range k).filterMap fun (m:Nat) => xs[((i:Int) + (m:Int) * 1).toNat]?).toArray = ((xs.toList.drop i).take k).toArray:=by
 have e:(fun (m:Nat) => xs[((i:Int) + (m:Int) * 1).toNat]?) = fun m => xs[i + m]?:=by
  funext m
  have:((i:Int) + (m:Int) * 1).toNat = i + m:=by omega
  rw [this]
 rw [e]
 have:=pick_run xs i k
 rw [List.filterMap_map] at this
 have e2:((fun x => xs[x]?) ∘ fun x => i + x) = fun m => xs[i + m]?:=rfl
 rw [e2] at this
 rw [this]
theorem getItem_tuple_cut {t sl:Addr} {items:Array Value} {vl vu:Value} {lo hi:Option Int} {Q:Value -> Shared -> Prop} (ht:IsTup s.heap t items) (hs:s.heap.IsSliceOf sl vl vu .none) (pl:IsPart vl lo) (pu:IsPart vu hi)
  (hw:¬ (sIx items.size 0 lo = 0 /\ sIx items.size items.size hi = items.size))
  (h:Q (.ref s.heap.objs.size) { s with heap:=s.heap.push { cls:=.type "tuple",data:=.seq ((items.toList.drop (sIx items.size 0 lo)).take (sIx items.size items.size hi - sIx items.size 0 lo)).toArray } })
  (hsz:items.size <= sizeLine):wpAny (model prog w) A (getItem (.ref t) (.ref sl)) Q E s:=by
 have htake:sizeOk (.seq ((items.toList.drop (sIx items.size 0 lo)).take (sIx items.size items.size hi - sIx items.size 0 lo)).toArray):=by
  show ((items.toList.drop (sIx items.size 0 lo)).take (sIx items.size items.size hi - sIx items.size 0 lo)).toArray.size <= sizeLine
  rw [List.size_toArray,List.length_take,List.length_drop,Array.length_toList]
  omega
 have hj:sIx items.size items.size hi <= items.size:=sIx_le _ _ (Nat.le_refl _) hi
 obtain ⟨os,hos,hcs,hds⟩:=id hs
 have hTs:s.TypeIs (.ref sl) "slice":=⟨os,hos,hcs⟩
 unfold getItem
 try with_reducible refine wpAny_holding ?_
 first | refine wpAny_bind (wpAny_pure ?_) | skip
 refine wpAny_bind (wpAny_sequenceKey ht.typeIs (by decide) ?_)
 refine wpAny_bind (wpAny_callSpecial?_slot (name:=Str.ofString "__getitem__") ht.typeIs PyProof.Rows.slot_tuple_getitem
  (wpAny_call_entry PyProof.Rows.slot_tuple_getitem ht.typeIs entry_tuple_getitem ?_ (args_tuple_getitem _ _)))
 show wpAny _ _ (Builtin.Tuple.tupleItemsOf (.ref t) >>= _) _ _ s
 refine wpAny_bind (tupleItemsOf_ ht ?_)
 refine wpAny_bind (wpAny_typeOf hTs ?_)
 rw [if_pos (by decide)]
 refine wpAny_bind (sliceApplied_gen hs pl pu ?_)
 have hno:¬ ((((sIx items.size 0 lo:Nat):Int) == 0 && (1:Int) == 1 && (sIx items.size items.size hi - sIx items.size 0 lo) == items.size) = true):=by
  intro q
  rw [Bool.and_eq_true,Bool.and_eq_true] at q
  have q1:((sIx items.size 0 lo:Nat):Int) = 0:=eq_of_beq q.1.1
  have q2:sIx items.size items.size hi - sIx items.size 0 lo = items.size:=eq_of_beq q.2
  exact hw ⟨by omega,by omega⟩
 show wpAny _ _ (if (((sIx items.size 0 lo:Nat):Int) == 0 && (1:Int) == 1 && (sIx items.size items.size hi - sIx items.size 0 lo) == items.size) = true then _ else _) _ _ s
 rw [if_neg hno,pick_gen]
 first
  | exact wpAny_bind (m:=Builtin.Tuple.tupleExact _) (wpAny_newObj_type (wpAny_pure ⟨_,rfl,wpAny_pure h⟩) htake)
  | exact wpAny_bind (m:=Builtin.Tuple.tupleExact _) (wpAny_newObj_type (wpAny_bind (wpAny_pure (wpAny_pure ⟨_,rfl,wpAny_pure h⟩))) htake)
  | exact wpAny_bind (wpAny_bind (m:=Builtin.Tuple.tupleExact _) (wpAny_newObj_type (wpAny_pure (wpAny_pure ⟨_,rfl,wpAny_pure h⟩)) htake))
  | exact wpAny_bind (wpAny_bind (m:=Builtin.Tuple.tupleExact _) (wpAny_newObj_type (wpAny_pure ⟨_,rfl,wpAny_pure h⟩) htake))
end
end HT
namespace L2
open PySem PySem.Spec PyProof.Rows
noncomputable abbrev TO:=St -> Hp -> (Option Int -> Hp -> Prop) -> Prop
noncomputable def PO (X:Cx) (e:Option Expr) (t:TO):Prop :=
 ∀ (pins:List (Addr × Obj)) (s:Shared) (σ:St) (H:Hp) (Q:Option Int -> Hp -> Prop),Inv X pins σ H s -> t σ H Q ->
  wpAny (model X.prog X.w) X.A (evalPart e X.env) (fun u s' => ∃ o H',Inv X pins σ H' s' /\ IsPart u o /\ Q o H') X.xe s
noncomputable def tNoPart:TO:=fun _ H Q => Q none H
noncomputable def tPart (t:TE):TO:=fun σ H Q => t σ H fun x H1 => ∃ i,x = .int i /\ Q (some i) H1
theorem intsAre_of {ns:List Int}:∀ {us:List Value},Vals (ns.map V.int) us -> IntsAre us ns:=by
 induction ns with
 | nil => intro us r; rw [List.map_nil] at r; cases r; exact .nil
 | cons n ns ih =>
  intro us r
  rw [List.map_cons] at r
  cases r with
  | cons r1 r2 =>
   obtain ⟨t,e⟩:=r1
   subst e
   exact .cons n t (ih r2)
section
variable {X:Cx} {e:Expr} {te:TE} {lo hi:Option Expr} {tl th:TO} {pos p2:Pos}
theorem po_none:PO X none tNoPart:=by
 intro pins s σ H Q I h
 rw [evalPart_none]
 exact wpAny_pure ⟨none,H,I,.none,h⟩
theorem po_some (h:PE X e te):PO X (some e) (tPart te):=by
 intro pins s σ H Q I hw
 rw [evalPart_some]
 refine thn (h pins s σ H _ I hw) fun u s1 hw' => ?_
 obtain ⟨x,H1,I1,r1,q1⟩:=hw'
 obtain ⟨i,rfl,q⟩:=q1
 obtain ⟨t,rfl⟩:=r1
 exact ⟨some i,H1,I1,.int i t,q⟩
noncomputable def SlR (X:Cx) (r:V -> Option Int -> Option Int -> Hp -> VK -> Prop):Prop :=
 ∀ (pins:List (Addr × Obj)) (s:Shared) (σ:St) (H:Hp) (x:V) (v vl vu:Value) (lo hi:Option Int) (sl:Addr) (Q:VK),Inv X pins σ H s -> RelV x v -> s.heap.IsSliceOf sl vl vu .none -> IsPart vl lo -> IsPart vu hi -> r x lo hi H Q ->
  ∃ T id,typeLookup (.type T) "__getitem__" = pure (some (.builtin id)) /\ s.TypeIs v T /\ wpAny (model X.prog X.w) X.A (getItem v (.ref sl)) (EP X pins σ Q) X.xe s
noncomputable def tSl (r:V -> Option Int -> Option Int -> Hp -> VK -> Prop) (te:TE) (tl th:TO):TE:=fun σ H Q => te σ H fun x H1 => tl σ H1 fun l H2 => th σ H2 fun u H3 => r x l u H3 Q
theorem pe_slice {r:V -> Option Int -> Option Int -> Hp -> VK -> Prop} (hr:SlR X r) (he:PE X e te) (hl:PO X lo tl) (hu:PO X hi th):PE X (.Subscript e (.Slice lo hi none p2) pos) (tSl r te tl th):=by
 intro pins s σ H Q I h
 refine Subscript_ (thn (he pins s σ H _ I h) fun v s1 hw' => ?_)
 obtain ⟨x,H1,I1,r1,q1⟩:=hw'
 refine wpAny_Slice (thn (hl pins s1 σ H1 _ I1 q1) fun vl s2 ⟨l,H2,I2,pl,q2⟩ => thn (hu pins s2 σ H2 _ I2 q2) fun vu s3 hw' => ?_)
 obtain ⟨u,H3,I3,pu,q3⟩:=hw'
 rw [evalPart_none]
 refine wpAny_pure ?_
 have I4:Inv X pins σ H3 { s3 with heap:=s3.heap.push { cls:=.type "slice",data:=.fields #[vl,vu,.none] } }:=I3.kept (t':=s3.toks) fun b ob q => Heap.get?_push_of_some _ q
 obtain ⟨T,id,hT,ht,hg⟩:=hr pins { s3 with heap:=s3.heap.push { cls:=.type "slice",data:=.fields #[vl,vu,.none] } } σ H3 x v vl vu l u s3.heap.objs.size Q I4 r1 (Heap.IsSliceOf.new ..) pl pu q3
 show wpAny (model X.prog X.w) X.A (subscriptTail e (.Slice lo hi none p2) v (.ref s3.heap.objs.size)) (EP X pins σ Q) X.xe { s3 with heap:=s3.heap.push { cls:=.type "slice",data:=.fields #[vl,vu,.none] } }
 exact tail_any (ops:=[.ref s3.heap.objs.size,v]) ht hT hg (by with_unfolding_all rfl)
noncomputable def cutV (xs:List V) (lo hi:Option Int):List V:=(xs.drop (HT.sIx xs.length 0 lo)).take (HT.sIx xs.length xs.length hi - HT.sIx xs.length 0 lo)
theorem cutV_length (xs:List V) (lo hi:Option Int):(cutV xs lo hi).length <= xs.length:=by
 unfold cutV
 rw [List.length_take,List.length_drop]
 omega
noncomputable def rSlT (K:PySem.W.Frag):V -> Option Int -> Option Int -> Hp -> VK -> Prop:=fun x lo hi H Q => ∃ a xs,x = .ref a /\ SqT K H a xs /\
 ¬ (HT.sIx xs.length 0 lo = 0 /\ HT.sIx xs.length xs.length hi = xs.length) /\ ∀ p,H p = none -> Q (.ref p) (upd H p (.tup (cutV xs lo hi)))
theorem sl_tup:SlR X (rSlT X.K):=by
 intro pins s σ H x v vl vu lo hi sl Q I rx hs pl pu h
 obtain ⟨a,xs,rfl,hx,hw,q⟩:=h
 cases rx
 obtain ⟨its,r,ht,hz⟩:=I.tuple hx
 have hlen:its.toArray.size = xs.length:=by rw [List.size_toArray]; exact r.length.symm
 refine ⟨"tuple",_,PyProof.Rows.slot_tuple_getitem.lookup,ht.typeIs,?_⟩
 refine HT.getItem_tuple_cut ht hs pl pu (by rw [hlen]; exact hw) ?_ (by rw [hlen]; exact hz)
 rw [hlen]
 refine ⟨.ref s.heap.objs.size,_,I.laid (t':=s.toks) (o:=.tup (cutV xs lo hi)) (fun b ob q => Heap.get?_push_of_some _ q) (Nat.le_refl _) ?_,rfl,q _ (I.hok.fresh (Nat.le_refl _))⟩
 exact ⟨Nat.le_trans (cutV_length xs lo hi) hz,_,(r.drop (HT.sIx xs.length 0 lo)).take (HT.sIx xs.length xs.length hi - HT.sIx xs.length 0 lo),IsTup.new _ _⟩
noncomputable def rCatT (K:PySem.W.Frag):R2:=fun x y H Q => ∃ a b xs ys,x = .ref a /\ y = .ref b /\ SqT K H a xs /\ SqT K H b ys /\ xs ≠ [] /\ xs.length + ys.length <= sizeLine /\
 (ys = [] -> Q (.ref a) H) /\ (ys ≠ [] -> ∀ p,H p = none -> Q (.ref p) (upd H p (.tup (xs ++ ys))))
theorem Vals.nil_iff {xs:List V} {us:List Value} (r:Vals xs us):us = [] ↔ xs = []:=by
 cases r with
 | nil => simp
 | cons _ _ => simp
theorem op_catT:OpR X (binaryOp .Add) (rCatT X.K):=by
 intro pins s σ H x y v u Q I rx ry h
 obtain ⟨a,b,xs,ys,rfl,rfl,ha,hb,hx,hz,q1,q2⟩:=h
 cases rx
 cases ry
 obtain ⟨its,r1,p1,_⟩:=I.tuple ha
 obtain ⟨its2,r2,p2,_⟩:=I.tuple hb
 refine HT.cat_tup p1 p2 (fun z => hx (r1.nil_iff.mp z)) (fun z => ⟨.ref a,H,I,rfl,q1 (r2.nil_iff.mp z)⟩) (fun z => ?_) (by rw [<- r1.length,<- r2.length]; exact hz)
 refine ⟨.ref s.heap.objs.size,_,I.laid (t':=s.toks) (o:=.tup (xs ++ ys)) (fun b ob q => Heap.get?_push_of_some _ q) (Nat.le_refl _) ?_,rfl,q2 (fun w => z (r2.nil_iff.mpr w)) _ (I.hok.fresh (Nat.le_refl _))⟩
 exact ⟨by rw [List.length_append]; exact hz,_,r1.append r2,IsTup.new _ _⟩
end
end L2
namespace L2
open PySem PySem.Spec PyProof.Rows
noncomputable def ixN (n:Nat) (i:Int):Option Nat:=if 0 <= i then (if i < n then some i.toNat else none) else if -(n:Int) <= i then some (i + n).toNat else none
noncomputable def atI {α:Type} (xs:List α) (i:Int):Option α:=(ixN xs.length i).bind fun j => xs[j]?
theorem ixN_seq {n:Nat} {i:Int} {j:Nat} (h:ixN n i = some j):seqIndex? i n = some j /\ j < n /\ -(n:Int) <= i /\ i < n:=by
 unfold ixN at h
 by_cases h0:0 <= i
 ·rw [if_pos h0] at h
  by_cases h1:i < n
  ·rw [if_pos h1] at h
   have e:i.toNat = j:=Option.some.inj h
   exact ⟨by rw [seqIndex_of h0 h1,e],by omega,by omega,h1⟩
  ·rw [if_neg h1] at h; cases h
 ·rw [if_neg h0] at h
  by_cases h1:-(n:Int) <= i
  ·rw [if_pos h1] at h
   have e:(i + n).toNat = j:=Option.some.inj h
   exact ⟨by rw [seqIndex_neg (by omega) h1,e],by omega,h1,by omega⟩
  ·rw [if_neg h1] at h; cases h
theorem atI_get {α:Type} {xs:List α} {i:Int} {v:α} (h:atI xs i = some v):∃ j,seqIndex? i xs.length = some j /\ xs[j]? = some v /\ j < xs.length /\ -(xs.length:Int) <= i /\ i < xs.length:=by
 unfold atI at h
 cases e:ixN xs.length i with
 | none => rw [e] at h; cases h
 | some j =>
  rw [e] at h
  obtain ⟨h1,h2,h3,h4⟩:=ixN_seq e
  exact ⟨j,h1,h,h2,h3,h4⟩
theorem atI_nat {α:Type} {xs:List α} {j:Nat} {v:α} (h:xs[j]? = some v):atI xs (j:Int) = some v:=by
 have hj:j < xs.length:=(List.getElem?_eq_some_iff.mp h).1
 have e:ixN xs.length (j:Int) = some j:=by
  unfold ixN
  rw [if_pos (by omega),if_pos (by omega)]; simp
 unfold atI; rw [e]; exact h
noncomputable def PlainIx (b:Expr):Prop:=∀ o i,subscripted b false o i = operate [o,i] (getItem o i)
noncomputable def IxR (X:Cx) (r:R2):Prop :=
 ∀ (value slice:Expr) (pins:List (Addr × Obj)) (s:Shared) (σ:St) (H:Hp) (x y:V) (v u:Value) (Q:VK),Inv X pins σ H s -> RelV x v -> RelV y u -> r x y H Q ->
  subscripted slice false v u = operate [v,u] (getItem v u) -> wpAny (model X.prog X.w) X.A (subscriptTail value slice v u) (EP X pins σ Q) X.xe s
noncomputable def MtR (X:Cx) (id:String) (r:V -> List V -> Hp -> VK -> Prop):Prop :=
 ∀ (pins:List (Addr × Obj)) (s:Shared) (σ:St) (H:Hp) (x:V) (xs:List V) (v:Value) (us:List Value) (Q:VK),Inv X pins σ H s -> RelV x v -> Vals xs us -> r x xs H Q ->
  wpAny (model X.prog X.w) X.A (call (.builtin id) (v :: us)) (EP X pins σ Q) X.xe s
section
variable {X:Cx} {a b:Expr} {ta tb:TE} {pos:Pos}
theorem IxR.or {r r':R2} (h:IxR X r) (h':IxR X r'):IxR X (fun x y H Q => r x y H Q \/ r' x y H Q):=by
 intro value slice pins s σ H x y v u Q I rx ry q hs
 rcases q with q | q
 ·exact h value slice pins s σ H x y v u Q I rx ry q hs
 ·exact h' value slice pins s σ H x y v u Q I rx ry q hs
theorem pe_ix {r:R2} (hr:IxR X r) (ha:PE X a ta) (hb:PE X b tb) (hs:PlainIx b):PE X (.Subscript a b pos) (tOp r ta tb):=by
 intro pins s σ H Q I h
 exact Subscript_ (binT ha hb I h fun v u s2 x y H2 I2 rx ry q => hr a b pins s2 σ H2 x y v u Q I2 rx ry q (hs _ _))
noncomputable def rIxL (K:PySem.W.Frag):R2:=fun x y H Q => ∃ p xs i v,x = .ref p /\ y = .int i /\ SqL K H p xs /\ atI xs i = some v /\ Q v H
noncomputable def rIxT (K:PySem.W.Frag):R2:=fun x y H Q => ∃ p xs i v,x = .ref p /\ y = .int i /\ SqT K H p xs /\ atI xs i = some v /\ Q v H
noncomputable def rIxS:R2:=fun x y H Q => ∃ z i c,x = .str z /\ y = .int i /\ z.length <= sizeLine /\ atI z.cps.toList i = some c /\ Q (.str ⟨#[c]⟩) H
theorem ix_list:IxR X (rIxL X.K):=by
 intro value slice pins s σ H x y v u Q I rx ry h hs
 obtain ⟨p,xs,i,z,rfl,rfl,hq,he,q⟩:=h
 cases rx
 obtain ⟨t,rfl⟩:=ry
 obtain ⟨its,r,pl,hz⟩:=I.list hq
 obtain ⟨j,h1,h2,h3,h4,h5⟩:=atI_get he
 obtain ⟨w,ew,rw'⟩:=r.get h2
 have hl:=r.length
 have hn:=line63
 have fin:EP X pins σ Q w s:=⟨z,H,I,rw',q⟩
 by_cases h0:0 <= i
 ·have hj:i.toNat = j:=by
   rw [seqIndex_of h0 h5] at h1
   exact Option.some.inj h1
  exact item_listR pl.isList h0 (by omega) (by rw [hj]; simpa using ew) fin hs
 ·have hj:(i + (its.toArray.size:Int)).toNat = j:=by
   rw [seqIndex_neg (by omega) h4] at h1
   rw [List.size_toArray,<- hl]
   exact Option.some.inj h1
  exact subscriptTail_builtinR (x:=w) pl.isList.typeIs slot_list_getitem.lookup
   (wpAny_getItem_list_neg (Q:=fun r s' => r = w /\ EP X pins σ Q r s') pl.isList (by omega) (by rw [List.size_toArray] <;> omega) (by omega) (by rw [hj]; simpa using ew) ⟨rfl,fin⟩) hs
theorem ix_tup:IxR X (rIxT X.K):=by
 intro value slice pins s σ H x y v u Q I rx ry h hs
 obtain ⟨p,xs,i,z,rfl,rfl,hq,he,q⟩:=h
 cases rx
 obtain ⟨t,rfl⟩:=ry
 obtain ⟨its,r,pl,hz⟩:=I.tuple hq
 obtain ⟨j,h1,h2,h3,h4,h5⟩:=atI_get he
 obtain ⟨w,ew,rw'⟩:=r.get h2
 have hl:=r.length
 have hn:=line63
 have fin:EP X pins σ Q w s:=⟨z,H,I,rw',q⟩
 exact subscriptTail_builtinR (x:=w) pl.typeIs slot_tuple_getitem.lookup
  (getItem_tuple (j:=j) (Q:=fun r s' => r = w /\ EP X pins σ Q r s') pl (by omega) (by omega) (by rw [List.size_toArray,<- hl]; exact h1) (by simpa using ew) ⟨rfl,fin⟩) hs
theorem ix_str:IxR X rIxS:=by
 intro value slice pins s σ H x y v u Q I rx ry h hs
 obtain ⟨z,i,c,rfl,rfl,hz,he,q⟩:=h
 obtain ⟨t,rfl⟩:=rx
 obtain ⟨t',rfl⟩:=ry
 obtain ⟨j,h1,h2,h3,h4,h5⟩:=atI_get he
 have hl:z.cps.toList.length = z.length:=by simp [Str.length]
 rw [hl] at h1 h4 h5
 have hn:=line63
 exact tail_any (typeIs_str s z t) slot_str_getitem.lookup (getItem_str (c:=c) (by
  have e1:decide (i < -(2 ^ 63:Int)) = false:=decide_eq_false (by omega)
  have e2:decide (i ≥ 2 ^ 63) = false:=decide_eq_false (by omega)
  rw [e1,e2,Bool.or_false]) (by rw [h1]; simpa using h2) ⟨.str ⟨#[c]⟩,H,I.tok _,⟨_,rfl⟩,q⟩) hs
noncomputable def rIx (K:PySem.W.Frag):R2:=fun x y H Q => rIxL K x y H Q \/ rIxT K x y H Q \/ rIxS x y H Q
theorem ix_seq:IxR X (rIx X.K):=ix_list.or (ix_tup.or ix_str)
theorem slice_bounds (lo hi:Option Int) (n:Nat):(sliceBounds lo hi none n).1 = ((HT.sIx n 0 lo:Nat):Int) /\ (sliceBounds lo hi none n).2.1 = ((HT.sIx n n hi:Nat):Int) /\ (sliceBounds lo hi none n).2.2 = 1:=by
 refine ⟨?_,?_,rfl⟩
 ·cases lo with
  | none => simp [sliceBounds,HT.sIx]
  | some i =>
   simp only [sliceBounds,HT.sIx,Option.getD_none,show (1:Int) > 0 by decide,if_true]
   by_cases h:i < 0
   ·simp only [h,if_true] <;> omega
   ·simp only [h,if_false] <;> omega
 ·cases hi with
  | none => simp [sliceBounds,HT.sIx]
  | some i =>
   simp only [sliceBounds,HT.sIx,Option.getD_none,show (1:Int) > 0 by decide,if_true]
   by_cases h:i < 0
   ·simp only [h,if_true] <;> omega
   ·simp only [h,if_false] <;> omega
theorem slicePick_cut (its:List Value) (lo hi:Option Int):slicePick its.toArray lo hi none = ((its.drop (HT.sIx its.length 0 lo)).take (HT.sIx its.length its.length hi - HT.sIx its.length 0 lo)).toArray:=by
 obtain ⟨h1,h2,h3⟩:=slice_bounds lo hi its.toArray.size
 unfold slicePick
 rw [h1,h2,h3]
 simp only [sliceRange_one,pick_run,List.size_toArray] <;> rfl
noncomputable def rSlL (K:PySem.W.Frag):V -> Option Int -> Option Int -> Hp -> VK -> Prop:=fun x lo hi H Q => ∃ a xs,x = .ref a /\ SqL K H a xs /\ ∀ p,H p = none -> Q (.ref p) (upd H p (.lst (cutV xs lo hi)))
theorem sl_list:SlR X (rSlL X.K):=by
 intro pins s σ H x v vl vu lo hi sl Q I rx hs pl pu h
 obtain ⟨a,xs,rfl,hx,q⟩:=h
 cases rx
 obtain ⟨its,r,ht,hz⟩:=I.list hx
 have hlen:=r.length
 refine ⟨"list",_,slot_list_getitem.lookup,ht.isList.typeIs,?_⟩
 refine wpAny_getItem_list_slice ht.isList hs pl pu .none (by simp) ?_ (by rw [List.size_toArray] <;> omega)
 rw [slicePick_cut,<- hlen]
 refine ⟨.ref s.heap.objs.size,_,I.laid (t':=s.toks) (o:=.lst (cutV xs lo hi)) (fun b ob q => Heap.get?_push_of_some _ q) (Nat.le_refl _) ?_,rfl,q _ (I.hok.fresh (Nat.le_refl _))⟩
 exact ⟨Nat.le_trans (cutV_length xs lo hi) hz,_,0,(r.drop (HT.sIx xs.length 0 lo)).take (HT.sIx xs.length xs.length hi - HT.sIx xs.length 0 lo),Heap.get?_push_size _ rfl⟩
theorem call_len_seq:CallR X (.builtin "len") (fun xs H Q => ∃ p ys,xs = [.ref p] /\ (SqL X.K H p ys \/ SqT X.K H p ys) /\ Q (.int ys.length) H):=by
 intro pins s σ H xs us Q I r h
 obtain ⟨p,ys,rfl,hq,q⟩:=h
 obtain ⟨u,rfl,rx⟩:=vals1 r
 cases rx
 have hn:=line63
 rcases hq with hq | hq
 ·obtain ⟨its,r',pl,hz⟩:=I.list hq
  have hlen:=r'.length
  exact Calls.call_len_list pl.isList (by simp only [List.size_toArray] <;> omega) ⟨.int ys.length,H,I.tok _,⟨s.toks + 1,by rw [List.size_toArray,hlen]⟩,q⟩
 ·obtain ⟨its,r',pl,hz⟩:=I.tuple hq
  have hlen:=r'.length
  exact len_tuple pl (by simp only [List.size_toArray] <;> omega) ⟨.int ys.length,H,I.tok _,⟨s.toks + 1,by rw [List.size_toArray,hlen]⟩,q⟩
theorem call_len_str:CallR X (.builtin "len") (fun xs H Q => ∃ z,xs = [.str z] /\ z.length <= sizeLine /\ Q (.int z.length) H):=by
 intro pins s σ H xs us Q I r h
 obtain ⟨z,rfl,hz,q⟩:=h
 obtain ⟨u,rfl,t,rfl⟩:=vals1 r
 have hn:=line63
 exact len_str (by omega) ⟨.int z.length,H,I.tok _,⟨_,rfl⟩,q⟩
theorem call_list_of:CallR X (.type "list") (fun xs H Q => ∃ p ys,xs = [.ref p] /\ (SqL X.K H p ys \/ SqT X.K H p ys) /\ ∀ l,H l = none -> Q (.ref l) (upd H l (.lst ys))):=by
 intro pins s σ H xs us Q I r h
 obtain ⟨p,ys,rfl,hq,q⟩:=h
 obtain ⟨u,rfl,rx⟩:=vals1 r
 cases rx
 have fin:∀ (its:List Value),Vals ys its -> ys.length <= sizeLine -> ∀ (h':Heap) (c':Nat),(∀ b o',s.heap.get? b = some o' -> h'.get? b = some o') ->
   h'.get? s.heap.objs.size = some { cls:=.type "list",dict:=none,data:=.seq its.toArray c',slots:=#[] } -> EP X pins σ Q (.ref s.heap.objs.size) { s with heap:=h' }:=fun its r' hz h' c' kp e =>
  ⟨.ref s.heap.objs.size,_,I.laid (t':=s.toks) kp (Nat.le_refl _) (show ObjOk X.prog X.w _ h' _ (.lst ys) from ⟨hz,its,c',r',e⟩),rfl,q _ (I.hok.fresh (Nat.le_refl _))⟩
 rcases hq with hq | hq
 ·obtain ⟨its,r',pl,hz⟩:=I.list hq
  have hlen:=r'.length
  obtain ⟨o,ho,hc,n,hd⟩:=pl.isList
  exact call_list_seq p (.inl rfl) ho hc hd (fun h' c' kp e => fin its r' hz h' c' kp e) (by simp only [List.size_toArray] <;> omega)
 ·obtain ⟨its,r',pl,hz⟩:=I.tuple hq
  have hlen:=r'.length
  obtain ⟨o,ho,hc,n,hd⟩:=pl
  exact call_list_seq p (.inr rfl) ho hc hd (fun h' c' kp e => fin its r' hz h' c' kp e) (by simp only [List.size_toArray] <;> omega)
theorem call_tuple_of:CallR X (.type "tuple") (fun xs H Q => ∃ p ys,xs = [.ref p] /\ ((SqL X.K H p ys /\ ∀ l,H l = none -> Q (.ref l) (upd H l (.tup ys))) \/ (SqT X.K H p ys /\ Q (.ref p) H))):=by
 intro pins s σ H xs us Q I r h
 obtain ⟨p,ys,rfl,h⟩:=h
 obtain ⟨u,rfl,rx⟩:=vals1 r
 cases rx
 rcases h with ⟨hq,q⟩ | ⟨hq,q⟩
 ·obtain ⟨its,r',pl,hz⟩:=I.list hq
  have hlen:=r'.length
  refine call_tuple_list pl.isList (fun h' kp => ?_) (by simp only [List.size_toArray] <;> omega)
  have I1:Inv X pins σ H { s with heap:=h' }:=I.kept (t':=s.toks) kp
  have I2:Inv X pins σ (upd H h'.objs.size (.tup ys)) { s with heap:=h'.push { cls:=.type "tuple",data:=.seq its.toArray } } :=
   I1.laid (t':=s.toks) (fun b o e => Heap.get?_push_of_some _ e) (Nat.le_refl _) (show ObjOk X.prog X.w _ _ _ (.tup ys) from ⟨hz,its,r',IsTup.new _ _⟩)
  exact ⟨.ref h'.objs.size,_,I2,rfl,q _ (I1.hok.fresh (Nat.le_refl _))⟩
 ·obtain ⟨its,r',pl,hz⟩:=I.tuple hq
  exact call_tuple_same pl ⟨.ref p,H,I,rfl,q⟩
noncomputable def tyV (K:PySem.W.Frag) (T:String) (x:V) (H:Hp):Prop:=match x with
 | .str _ => T = "str"
 | .int _ => T = "int"
 | .ref p => (T = "list" /\ ∃ xs,SqL K H p xs) \/ (T = "tuple" /\ ∃ o,K.lookup p = some o /\ o.cls = .type "tuple" /\ o.dict = none) \/
   (T = "dict" /\ ((∃ kvs,H p = some (.dK kvs)) \/ ∃ kvs,H p = some (.dT kvs))) \/ (T = "set" /\ ∃ S n,H p = some (.set S n))
 | _ => False
theorem tyV_is {pins:List (Addr × Obj)} {σ:St} {H:Hp} {s:Shared} {T:String} {x:V} {v:Value} (I:Inv X pins σ H s) (r:RelV x v) (ty:tyV X.K T x H) :
  s.TypeIs v T /\ ∀ a,v = .ref a -> ∃ ob,s.heap.get? a = some ob /\ ob.dict = none:=by
 cases x with
 | str z =>
  obtain ⟨t,rfl⟩:=r
  cases (show T = "str" from ty)
  exact ⟨typeIs_str s z t,fun _ e => nomatch e⟩
 | int i =>
  obtain ⟨t,rfl⟩:=r
  cases (show T = "int" from ty)
  exact ⟨typeIs_int s i t,fun _ e => nomatch e⟩
 | ref p =>
  cases r
  rcases ty with ⟨rfl,xs,hq⟩ | ⟨rfl,o,hk,hc,hd⟩ | ⟨rfl,hk⟩ | ⟨rfl,S,n,hk⟩
  ·obtain ⟨its,_,pl,_⟩:=I.list hq
   refine ⟨pl.isList.typeIs,fun a e => ?_⟩
   cases e
   obtain ⟨o,n,e,c,hd,_⟩:=pl
   exact ⟨o,e,hd⟩
  ·refine ⟨⟨o,I.kIn p o hk,hc⟩,fun a e => ?_⟩
   cases e
   exact ⟨o,I.kIn _ o hk,hd⟩
  ·have z:∃ o,s.heap.get? p = some o /\ o.ExactDict:=by
    rcases hk with ⟨kvs,hk⟩ | ⟨kvs,hk⟩
    ·obtain ⟨_,_,_,_,o,_,_,e,ex,_⟩:=I.hok p _ hk
     exact ⟨o,e,ex⟩
    ·obtain ⟨_,_,_,_,o,_,_,e,ex,_⟩:=I.hok p _ hk
     exact ⟨o,e,ex⟩
   obtain ⟨o,e,ex⟩:=z
   refine ⟨⟨o,e,ex.1⟩,fun a e2 => ?_⟩
   cases e2
   exact ⟨o,e,ex.2.1⟩
  ·obtain ⟨o,_,_,_,e,ex,_⟩:=I.hok p _ hk
   refine ⟨⟨o,e,ex.1⟩,fun a e2 => ?_⟩
   cases e2
   exact ⟨o,e,ex.2.1⟩
 | _ => exact False.elim ty
noncomputable def tBM (K:PySem.W.Frag) (T:String) (r:V -> List V -> Hp -> VK -> Prop) (to:TE) (t:TA):TE:=fun σ H Q => to σ H fun x H1 => tyV K T x H1 /\ t σ H1 fun xs H2 => r x xs H2 Q
variable {o e:Expr} {es:List Expr} {to:TE} {t:TA} {name:Str} {apos cpos:Pos} {T id:String} {r:V -> List V -> Hp -> VK -> Prop}
theorem pe_bm (pa:PlainAttrs T) (slot:Slot T name id) (hty:typeOf (.builtin id) = pure (.type "method_descriptor")) (hm:MtR X id r) (ho:PE X o to) (ha:PA X (e :: es) t)
  (hbase:attributeBase o name X.env (eval o X.env) = eval o X.env:=by rfl)
  (hfew:((backTo cpos (starEach (e :: es) X.env)).all (fun x => !x.1) && (backToKw cpos (keywordEach [] X.env)).all (fun x => x.1.isSome)
   && decide ((e :: es).length + ([]:List Keyword).length + (if ([]:List Keyword).isEmpty then 0 else 1) < 30)) = true:=by rfl)
  (hline:(apos.endLine == cpos.line) = true:=by rfl) (hs:starEach (e :: es) X.env = (false,eval e X.env) :: starEach es X.env:=by rfl) (hplain:(backTo cpos (starEach es X.env)).any (·.1) = false:=by rfl) :
  PE X (.Call (.Attribute o name apos) (e :: es) [] cpos) (tBM X.K T r to t):=by
 intro pins s σ H Q I h
 refine wpAny_Call_method_late hbase hfew hline rfl (thn (ho pins s σ H _ I h) fun v s1 hw' => ?_)
 obtain ⟨x,H1,I1,r1,ty,q1⟩:=hw'
 obtain ⟨h1,h2⟩:=tyV_is I1 r1 ty
 refine ⟨T,id,pa,slot,hty,h1,h2,?_⟩
 have hA:=ha cpos pins s1 σ H1 _ I1 q1
 rw [hs] at hA ⊢
 refine Calls.callWith_builtin (by show (false || (backTo cpos (starEach es X.env)).any (·.1)) = false; rw [hplain] <;> rfl) (Calls.evalArgs_plain ?_)
 exact thn hA fun us s2 ⟨vs,H2,I2,r2,q2⟩ => hm pins s2 σ H2 x vs v us Q I2 r1 r2 q2
/- xs.append(e),list.index on a module's tuple .. are MtR facts of 06m -/
end
end L2
namespace L2
open PySem PySem.Spec PyProof.Rows
noncomputable def MtM (X:Cx) (id:String) (r:V -> List V -> Hp -> VK -> Prop):Prop :=
 ∀ (pins:List (Addr × Obj)) (s:Shared) (σ:St) (H:Hp) (x:V) (xs:List V) (v:Value) (us:List Value) (Q:VK),Inv X pins σ H s -> RelV x v -> Vals xs us -> r x xs H Q ->
  wpAny (model X.prog X.w) X.A (call (.builtin id) (v :: us)) (EP X pins σ Q) X.xe s
theorem Vals.one {x:V} {us:List Value} (h:Vals [x] us):∃ u,us = [u] /\ RelV x u:=vals1 h
theorem Vals.rep {xs:List V} {us:List Value} (h:Vals xs us):∀ k:Nat,Vals (List.replicate k xs).flatten (List.replicate k us).flatten
 | 0 => .nil
 | k + 1 => by
  rw [List.replicate_succ,List.replicate_succ,List.flatten_cons,List.flatten_cons]
  exact Vals.append h (Vals.rep h k)
theorem foldl_rep (its:List Value):∀ (k:Nat) (acc:List Value),
  List.foldl (fun x1 x2 => x1 ++ x2) acc.toArray (List.replicate k its.toArray) = (acc ++ (List.replicate k its).flatten).toArray
 | 0,acc => by simp
 | k + 1,acc => by
  have e:acc.toArray ++ its.toArray = (acc ++ its).toArray:=by simp
  have e2:(acc ++ its) ++ (List.replicate k its).flatten = acc ++ (List.replicate (k + 1) its).flatten:=by
   rw [List.replicate_succ,List.flatten_cons,List.append_assoc]
  rw [<- e2,<- foldl_rep its k (acc ++ its),<- e,List.replicate_succ,List.foldl_cons]
section
variable {X:Cx} {pins:List (Addr × Obj)} {σ:St} {H:Hp} {s:Shared} {l b:Addr} {xs ys zs:List V}
theorem Inv.lset {its its':List Value} {n:Nat} {f:Array Value -> Array Value} {t':Nat} (I:Inv X pins σ H s) (hH:H l = some (.lst xs))
  (e:s.heap.get? l = some { cls:=.type "list",data:=.seq its.toArray n }) (hf:f its.toArray = its'.toArray) (hv:Vals ys its') (hz:ys.length <= sizeLine) :
  Inv X pins σ (upd H l (.lst ys)) { s with heap:=s.heap.update l (Obj.mapSeq f),toks:=t' }:=by
 have q:=PySem.IsL.update e f
 rw [hf] at q
 refine I.write (x:=l) (e:=l) (by rw [hH]; exact trivial) (.inl rfl) (fun b' u hb hu => (Heap.get?_update_other s.heap (Obj.mapSeq f) (Ne.symm hb)).trans hu) ⟨_,q⟩ ?_
 exact ⟨hz,its',_,hv,q⟩
theorem Inv.lnew {its:List Value} {t':Nat} (I:Inv X pins σ H s) (hv:Vals ys its) (hz:ys.length <= sizeLine) :
  Inv X pins σ (upd H s.heap.objs.size (.lst ys)) { s with heap:=s.heap.push { cls:=.type "list",data:=.seq its.toArray },toks:=t' } :=
 I.laid (fun _ _ q => Heap.get?_push_of_some _ q) (Nat.le_refl _) ⟨hz,its,0,hv,Heap.get?_push_size _ rfl⟩
theorem Inv.fresh (I:Inv X pins σ H s):H s.heap.objs.size = none:=I.hok.fresh (Nat.le_refl _)
theorem Inv.lstM (I:Inv X pins σ H s) (hH:H l = some (.lst xs)):xs.length <= sizeLine /\ ∃ (its:List Value) (n:Nat),Vals xs its /\ xs.length = its.length /\ s.heap.get? l = some { cls:=.type "list",data:=.seq its.toArray n }:=by
 obtain ⟨z,its,n,r,e⟩:=I.hok l _ hH
 exact ⟨z,its,n,r,r.length,e⟩
theorem notLongL {n:Nat} (h:n <= sizeLine):Builtin.List.listTooLong n = false:=by
 unfold Builtin.List.listTooLong
 exact decide_eq_false (by omega)
end
section
variable {X:Cx}
noncomputable def rAppend:V -> List V -> Hp -> VK -> Prop:=fun x vs H Q => ∃ l xs y,x = .ref l /\ vs = [y] /\ H l = some (.lst xs) /\ xs.length < sizeLine /\ Q .non (upd H l (.lst (xs ++ [y])))
theorem mt_append:MtM X "list.append" rAppend:=by
 intro pins s σ H x vs v us Q I rx rv h
 obtain ⟨l,xs,y,rfl,rfl,hH,hz,q⟩:=h
 cases rx
 obtain ⟨u,rfl,ru⟩:=rv.one
 obtain ⟨z,its,n,r,hl,e⟩:=I.lstM hH
 refine call_meets F.slot_list_append ⟨_,e,rfl⟩ F.entry_list_append (F.args_list_append_2 _ _) (PySem.list_append l its.toArray n u (by rw [List.size_toArray]; omega)) ⟨e,?_⟩
 refine ⟨.non,_,I.lset (its':=its ++ [u]) hH e (by simp) (r.append (.cons ru .nil)) ?_,rfl,q⟩
 rw [List.length_append,List.length_singleton]
 omega
noncomputable def rCat:R2:=fun x y H Q => ∃ l b xs zs,x = .ref l /\ y = .ref b /\ H l = some (.lst xs) /\ H b = some (.lst zs) /\ xs.length + zs.length <= sizeLine /\ ∀ p,H p = none -> Q (.ref p) (upd H p (.lst (xs ++ zs)))
theorem op_cat:OpR X (binaryOp .Add) rCat:=by
 intro pins s σ H x y v u Q I rx ry h
 obtain ⟨l,b,xs,zs,rfl,rfl,hH,hB,hz,q⟩:=h
 cases rx
 cases ry
 obtain ⟨z,its,n,r,hl,e⟩:=I.lstM hH
 obtain ⟨z2,its2,n2,r2,hl2,e2⟩:=I.lstM hB
 refine PySem.P.add_list e e2 ?_ (by rw [List.size_toArray,List.size_toArray]; omega)
 have ea:its.toArray ++ its2.toArray = (its ++ its2).toArray:=by simp
 rw [ea]
 exact ⟨.ref _,_,I.lnew (t':=s.toks) (r.append r2) (by rw [List.length_append]; omega),rfl,q _ I.fresh⟩
noncomputable def rRep:R2:=fun x y H Q => ∃ l k xs,x = .ref l /\ y = .int k /\ H l = some (.lst xs) /\ -(2 ^ 63) <= k /\ k < 2 ^ 63 /\ xs.length * k.toNat <= sizeLine /\
 ∀ p,H p = none -> Q (.ref p) (upd H p (.lst (List.replicate k.toNat xs).flatten))
theorem len_rep {α:Type} (xs:List α) (k:Nat):(List.replicate k xs).flatten.length = k * xs.length:=by
 induction k with
 | zero => simp
 | succ k ih => rw [List.replicate_succ,List.flatten_cons,List.length_append,ih,Nat.succ_mul,Nat.add_comm]
theorem op_rep:OpR X (binaryOp .Mult) rRep:=by
 intro pins s σ H x y v u Q I rx ry h
 obtain ⟨l,k,xs,rfl,rfl,hH,h1,h2,hz,q⟩:=h
 cases rx
 obtain ⟨t,rfl⟩:=ry
 obtain ⟨z,its,n,r,hl,e⟩:=I.lstM hH
 have hlen:its.toArray.size * k.toNat <= sizeLine:=by rw [List.size_toArray,<- hl]; exact hz
 have hcap:¬ its.toArray.size * k.toNat > (2 ^ 63 - 1) / 8:=by
  have:(sizeLine:Nat) <= (2 ^ 63 - 1) / 8:=by decide
  omega
 have hfit:¬ (!Builtin.List.listFitsIndex k) = true:=by
  rw [fitsIndex_both h1 h2]
  exact Bool.false_ne_true
 have hlong:¬ Builtin.List.listTooLong (its.toArray.size * k.toNat) = true:=by
  rw [notLongL hlen]
  exact Bool.false_ne_true
 have hnew:List.foldl (fun x1 x2 => x1 ++ x2) #[] (List.replicate (if its.toArray.isEmpty = true then 0 else k.toNat) its.toArray) = (List.replicate k.toNat its).flatten.toArray:=by
  have f0:∀ m:Nat,List.foldl (fun x1 x2 => x1 ++ x2) #[] (List.replicate m its.toArray) = (List.replicate m its).flatten.toArray:=fun m => by
   have:=foldl_rep its m []
   rw [List.nil_append] at this
   exact this
  rw [f0]
  cases its with
  | nil => simp
  | cons a r' => rw [if_neg (by simp)]
 refine wpAny_binaryOp_repeat_ref (T:="list") (U:="int") (by decide) ⟨_,e,rfl⟩ (fun s' => typeIs_int s' k t) noFill_list_mul F.fills_int_mul F.slot_int_rmul repeat_list F.slot_int_index.lookup
  (call_meets F.slot_int_rmul (typeIs_int s k t) F.entry_int_rmul (F.args_int_rmul_2 _ _) (int___rmul___int_list k t l its.toArray n)
   ⟨e,rfl,⟨_,e,rfl⟩,call_meets F.slot_list_mul ⟨_,e,rfl⟩ F.entry_list_mul (F.args_list_mul_2 _ _) (AutoListH.list___mul___list_int_3 l its.toArray n k t hfit hcap hlong) ⟨e,?_⟩⟩)
 rw [hnew]
 exact ⟨.ref _,_,I.lnew (t':=s.toks) (r.rep k.toNat) (by rw [len_rep,Nat.mul_comm]; exact hz),rfl,q _ I.fresh⟩
end
section
variable {prog:Program} {w:World} {A:Around} {E:Value -> Shared -> Prop} {s:Shared}
set_option maxRecDepth 100000 in
end
end L2
namespace L2
open PySem PySem.Spec PyProof.Rows
section
variable {κ:Type} [DecidableEq κ]
noncomputable def valV (kvs:List (κ × V)) (k:κ):Option V:=(kvs.find? fun kv => decide (kv.1 = k)).map (·.2)
noncomputable def putK (kvs:List (κ × V)) (k:κ) (v:V):List (κ × V) :=
 if (kvs.any fun kv => decide (kv.1 = k)) = true then kvs.map (fun kv => if kv.1 = k then (kv.1,v) else kv) else kvs ++ [(k,v)]
theorem valV_pos {p:κ × V} {r:List (κ × V)} {k:κ} (e:p.1 = k):valV (p :: r) k = some p.2:=by simp [valV,List.find?_cons,e]
theorem valV_neg {p:κ × V} {r:List (κ × V)} {k:κ} (e:¬ p.1 = k):valV (p :: r) k = valV r k:=by simp [valV,List.find?_cons,e]
theorem length_putK (kvs:List (κ × V)) (k:κ) (v:V):(putK kvs k v).length <= kvs.length + 1:=by
 unfold putK
 split
 ·rw [List.length_map]; omega
 ·rw [List.length_append,List.length_cons,List.length_nil]; omega
theorem KV.val {kvs:List (κ × V)} {vs:List (κ × Value)} (r:KV kvs vs) (k:κ):RelO (valV kvs k) (valueAt vs k):=by
 unfold KV at r
 induction r with
 | nil => exact True.intro
 | @cons p q ps qs h t ih =>
  obtain ⟨h1,h2⟩:=h
  by_cases e:p.1 = k
  ·have e':q.1 = k:=h1.symm.trans e
   have b:valueAt (q :: qs) k = some q.2:=by simp [valueAt,List.find?_cons,e']
   rw [valV_pos e,b]; exact h2
  ·have e':¬ q.1 = k:=fun z => e (h1.trans z)
   have b:valueAt (q :: qs) k = valueAt qs k:=by simp [valueAt,List.find?_cons,e']
   rw [valV_neg e,b]; exact ih
theorem KV.any {kvs:List (κ × V)} {vs:List (κ × Value)} (r:KV kvs vs) (k:κ):(kvs.any fun kv => decide (kv.1 = k)) = vs.any fun kv => decide (kv.1 = k):=by
 unfold KV at r
 induction r with
 | nil => rfl
 | cons h t ih => rw [List.any_cons,List.any_cons,ih,h.1]
theorem KV.repl {kvs:List (κ × V)} {vs:List (κ × Value)} (r:KV kvs vs) (k:κ) {y:V} {u:Value} (ry:RelV y u) :
  KV (kvs.map fun kv => if kv.1 = k then (kv.1,y) else kv) (vs.map fun kv => if kv.1 = k then (kv.1,u) else kv):=by
 unfold KV at r ⊢
 induction r with
 | nil => exact .nil
 | @cons p q ps qs h t ih =>
  rw [List.map_cons,List.map_cons]
  refine .cons ?_ ih
  obtain ⟨h1,h2⟩:=h
  by_cases e:p.1 = k
  ·rw [if_pos e,if_pos (h1.symm.trans e)]; exact ⟨h1,ry⟩
  ·rw [if_neg e,if_neg (fun z => e (h1.trans z))]; exact ⟨h1,h2⟩
theorem KV.put {kvs:List (κ × V)} {vs:List (κ × Value)} (r:KV kvs vs) (k:κ) {y:V} {u:Value} (ry:RelV y u):KV (putK kvs k y) (stored vs k u):=by
 unfold putK stored
 rw [r.any k]
 by_cases e:(vs.any fun kv => decide (kv.1 = k)) = true
 ·rw [if_pos e,if_pos e]; exact r.repl k ry
 ·rw [if_neg e,if_neg e]; exact Paired.snoc r ⟨rfl,ry⟩
end
theorem kV_is {P:Program} {w:World} {k:Key} {u:Value} (r:RelV (kV k) u):(mixKind P w).is k u = true:=by
 cases k with
 | inl i => obtain ⟨t,e⟩:=(show ∃ t,u = Value.int i t from r); subst e; exact mixKind_int P w i t
 | inr x => obtain ⟨t,e⟩:=(show ∃ t,u = Value.str x t from r); subst e; exact mixKind_str P w x t
theorem items_are {P:Program} {w:World}:∀ {ks:List Key} {us:List Value},Vals (ks.map kV) us -> ItemsAre (mixKind P w) ks us
 | [],_,r => by rw [List.map_nil] at r; cases r; exact .nil
 | k :: ks,_,r => by
  rw [List.map_cons] at r
  cases r with
  | cons h t => exact .cons (kV_is h) (items_are t)
noncomputable abbrev KT (H:Hp):List (List Key × V) -> List (List Key × Addr × Value) -> Prop:=Paired fun p q => p.1 = q.1 /\ H q.2.1 = some (.tup (p.1.map kV)) /\ RelV p.2 q.2.2
theorem KT.val {H:Hp} {kvs:List (List Key × V)} {xs:List (List Key × Addr × Value)} (r:KT H kvs xs) (k:List Key):RelO (valV kvs k) ((atKey xs k).map (·.2)):=by
 induction r with
 | nil => exact True.intro
 | @cons p q ps qs h t ih =>
  obtain ⟨h1,_,h2⟩:=h
  by_cases e:p.1 = k
  ·have e':q.1 = k:=h1.symm.trans e
   have b:atKey (q :: qs) k = some q.2:=by simp [atKey,List.find?_cons,e']
   rw [valV_pos e,b]; exact h2
  ·have e':¬ q.1 = k:=fun z => e (h1.trans z)
   have b:atKey (q :: qs) k = atKey qs k:=by simp [atKey,List.find?_cons,e']
   rw [valV_neg e,b]; exact ih
section
variable {P:Program} {w:World} {H:Hp} {h:Heap} {a:Addr}
theorem rd_of {u:HO} (ok:HOk P w H h) (e:Rd H a u):ObjOk P w H h a u:=e.ok ok
theorem dk_rd {kvs:List (Key × V)} (ok:HOk P w H h) (e:Rd H a (.dK kvs)):kvs.length <= sizeLine /\ (a == sysModules) = false /\ ∃ vs,KV kvs vs /\ h.DictOf (mixKind P w) a vs :=
 show ObjOk P w H h a (.dK kvs) from rd_of ok e
theorem dk_of {kvs:List (Key × V)} (ok:HOk P w H h) (e:H a = some (.dK kvs)):kvs.length <= sizeLine /\ (a == sysModules) = false /\ ∃ vs,KV kvs vs /\ h.DictOf (mixKind P w) a vs:=dk_rd ok (.inl e)
theorem key_of {ks:List Key} (ok:HOk P w H h) (e:H a = some (.tup (ks.map kV))):(tupleKind (mixKind P w)).is h ks a:=by
 obtain ⟨_,its,r,o,h1,h2,n,h3⟩:=(show ObjOk P w H h a (.tup (ks.map kV)) from ok a _ e)
 exact ⟨o,its.toArray,n,h1,h2,h3,by simpa using items_are r⟩
theorem dt_rd {kvs:List (List Key × V)} (ok:HOk P w H h) (e:Rd H a (.dT kvs)):kvs.length <= sizeLine /\ (a == sysModules) = false /\
  ∃ xs,KT H kvs xs /\ h.DictOfH (tupleKind (mixKind P w)) a xs:=by
 obtain ⟨z,y,xs,r,o,es,ep,h1,h2,h3,h4,h5⟩:=(show ObjOk P w H h a (.dT kvs) from rd_of ok e)
 refine ⟨z,y,xs,r,o,es,ep,h1,h2,h3,h4,fun x hx => ?_,h5⟩
 have all:∀ {l:List (List Key × V)} {m:List (List Key × Addr × Value)},KT H l m -> ∀ x ∈ m,(tupleKind (mixKind P w)).is h x.1 x.2.1:=by
  intro l m q
  induction q with
  | nil => intro x hx; exact nomatch hx
  | @cons p q ps qs hq t ih =>
   intro x hx
   rcases List.mem_cons.mp hx with e | hx
   ·subst e
    exact key_of ok (by rw [<- hq.1]; exact hq.2.1)
   ·exact ih x hx
 exact all r x hx
end
noncomputable def DGet (H:Hp) (a:Addr) (y:V) (r:Option V):Prop :=
 (∃ kvs k,Rd H a (.dK kvs) /\ y = kV k /\ r = valV kvs k) \/ ∃ kvs k b,Rd H a (.dT kvs) /\ y = .ref b /\ H b = some (.tup (k.map kV)) /\ r = valV kvs k
theorem DGet.k {H:Hp} {a:Addr} {kvs:List (Key × V)} {k:Key} (e:H a = some (.dK kvs)):DGet H a (kV k) (valV kvs k):=.inl ⟨kvs,k,.inl e,rfl,rfl⟩
theorem DGet.t {H:Hp} {a b:Addr} {kvs:List (List Key × V)} {k:List Key} (e:H a = some (.dT kvs)) (eb:H b = some (.tup (k.map kV))):DGet H a (.ref b) (valV kvs k):=.inr ⟨kvs,k,b,.inl e,rfl,eb,rfl⟩
section
variable {X:Cx} {pins:List (Addr × Obj)} {σ:St} {H:Hp} {s:Shared} {a:Addr} {y v:V} {u r:Value} {o:Option V} {A:Around} {E:Value -> Shared -> Prop}
theorem Inv.big (I:Inv X pins σ H s):sysModules < s.heap.objs.size:=by
 have h:mainGlobals < s.heap.objs.size:=(I.mod.glob.keeps I.bk).lt
 exact Nat.lt_trans (by decide) h
theorem d_getItem {Q:Value -> Shared -> Prop} (hu:A.units + 1 < cLine) (I:Inv X pins σ H s) (g:DGet H a y (some v)) (ry:RelV y u) (h:∀ w' s',Inv X pins σ H s' -> RelV v w' -> Q w' s') :
  wpAny (model X.prog X.w) A (getItem (.ref a) u) Q E s:=by
 rcases g with ⟨kvs,k,e,ey,l⟩ | ⟨kvs,k,b,e,ey,eb,l⟩
 ·subst ey
  obtain ⟨z,hd,vs,rel,dd⟩:=dk_rd I.hok e
  obtain ⟨w',hw,rw'⟩:=RelO.some_of (v:=v) (o:=valueAt vs k) (by rw [l]; exact rel.val k)
  exact wpAny_getItem_of (kV_is ry) dd.mapOf hw (h w' _ (I.tok _) rw')
 ·subst ey
  cases (show u = Value.ref b from ry)
  obtain ⟨z,hd,xs,rel,dd⟩:=dt_rd I.hok e
  obtain ⟨w',hw,rw'⟩:=RelO.some_of (v:=v) (o:=(atKey xs k).map (·.2)) (by rw [l]; exact rel.val k)
  obtain ⟨p,hp,hp2⟩:=Option.map_eq_some_iff.mp hw
  refine wpAny_getItem_heap (tupleKind_room_in1 hu) (key_of I.hok eb) dd hp ?_
  rw [hp2]
  exact h w' _ (I.tok _) rw'
theorem d_write {h':Heap} {t':Nat} {ob:HO} (I:Inv X pins σ H s) (mu:Mut (H a)) (hs:Heap.SameBut a s.heap h') (he:∃ q,h'.get? a = some q) (new:ObjOk X.prog X.w (upd H a ob) h' a ob) :
  Inv X pins σ (upd H a ob) { s with heap:=h',toks:=t' } :=
 I.write (x:=a) (e:=a) mu (.inl rfl) (fun b q hb z => (hs.2 b hb).trans z) he new
theorem dk_new {P:Program} {w:World} {H':Hp} {h':Heap} {kvs:List (Key × V)} {vs:List (Key × Value)} (z:kvs.length <= sizeLine) (hd:(a == sysModules) = false) (rel:KV kvs vs) (dd:h'.DictOf (mixKind P w) a vs) :
  ObjOk P w H' h' a (.dK kvs):=⟨z,hd,vs,rel,dd⟩
end
noncomputable def NoSl (i:Expr):Prop:=∀ ov iv,subscripted i false ov iv = operate [ov,iv] (getItem ov iv)
theorem subD_of {prog:Program} {w:World} {A:Around} {E:Value -> Shared -> Prop} {s:Shared} {env:Env} {value slice:Expr} {pos:Pos} {T id:String} {Q:Value -> Shared -> Prop}
  (hl:typeLookup (.type T) "__getitem__" = pure (some (.builtin id))) (hs:NoSl slice)
  (h:wpAny (model prog w) A (eval value env) (fun o s₁ => wpAny (model prog w) A (eval slice env) (fun i s₂ => s₂.TypeIs o T /\ wpAny (model prog w) A (getItem o i) Q E s₂) E s₁) E s) :
  wpAny (model prog w) A (eval (.Subscript value slice pos) env) Q E s:=by
 refine Subscript_ (wpAny_mono h (fun o s₁ h₁ => wpAny_mono h₁ (fun i s₂ h₂ => ?_) fun _ _ x => x) fun _ _ x => x)
 obtain ⟨hT,h₂⟩:=h₂
 unfold subscriptTail
 refine wpAny_bind ?_
 rw [getitemInPython_of_ne hT.not_modules]
 refine wpAny_bind (wpAny_specialOf hT hl ?_)
 have fin:wpAny (model prog w) A (subscripted slice false o i) (fun r s₃ => wpAny (model prog w) A (letTemporaryGo value o r >>= fun _ => pure r) Q E s₃) E s₂:=by
  rw [hs o i]
  exact wpAny_operating (wpAny_mono h₂ (fun r s₃ h₃ => wpAny_bind (wpAny_letTemporaryGo (wpAny_pure h₃))) fun _ _ x => x)
 first
  | exact wpAny_pure (wpAny_bind fin)
  | exact wpAny_bind (wpAny_pure (wpAny_bind fin))
  | exact wpAny_bind fin
theorem dict_typeIs {X:Cx} {pins:List (Addr × Obj)} {σ:St} {H:Hp} {s:Shared} {a:Addr} {y:V} {o:Option V} (I:Inv X pins σ H s) (g:DGet H a y o):s.TypeIs (.ref a) "dict":=by
 rcases g with ⟨kvs,k,e,_,_⟩ | ⟨kvs,k,b,e,_,_,_⟩
 ·obtain ⟨_,_,vs,_,dd⟩:=dk_rd I.hok e
  exact dd.typeIs
 ·obtain ⟨_,_,xs,_,dd⟩:=dt_rd I.hok e
  exact dd.typeIs
noncomputable def tDGet (td ty:TE):TE:=fun σ H Q => td σ H fun x H1 => ty σ H1 fun y H2 => ∃ a v,x = .ref a /\ DGet H2 a y (some v) /\ Q v H2
section
variable {X:Cx} {o i e value:Expr} {pos pos' tpos:Pos} {td ty tv:TE}
theorem pe_dget (hu:X.A.units + 1 < cLine) (ho:PE X o td) (hi:PE X i ty) (hs:NoSl i):PE X (.Subscript o i pos) (tDGet td ty):=by
 intro pins s σ H Q I h
 refine subD_of PySem.F.slot_dict_getitem.lookup hs (thn (ho pins s σ H _ I h) fun u s1 ⟨x,H1,I1,rx,q1⟩ => thn (hi pins s1 σ H1 _ I1 q1) fun iv s2 hw' => ?_)
 obtain ⟨y,H2,I2,ry,a,v,ex,g,q2⟩:=hw'
 subst ex
 obtain rfl:u = Value.ref a:=rx
 exact ⟨dict_typeIs I2 g,d_getItem hu I2 g ry fun w' s3 I3 rw' => ⟨v,H2,I3,rw',q2⟩⟩
end
theorem dk_empty {P:Program} {w:World} {H:Hp} (h:Heap) (hb:sysModules < h.objs.size):ObjOk P w H (h.push { cls:=.type "dict",data:=.dict #[] }) h.objs.size (.dK []) :=
 ⟨Nat.zero_le _,beq_eq_false_iff_ne.mpr (Ne.symm (Nat.ne_of_lt hb)),[],.nil,Heap.DictOf.new h⟩
noncomputable def tPairs:List (TE × TE) -> St -> Hp -> (List (V × V) -> Hp -> Prop) -> Prop
 | [],_,H,Q => Q [] H
 | (tk,tv) :: r,σ,H,Q => tk σ H fun x H1 => tv σ H1 fun y H2 => tPairs r σ H2 fun ps H3 => Q ((x,y) :: ps) H3
noncomputable abbrev VV:List (V × V) -> List (Value × Value) -> Prop:=Paired fun p q => RelV p.1 q.1 /\ RelV p.2 q.2
noncomputable def PPs (X:Cx) (pos:Pos) (keys:List (Option Expr)) (values:List Expr) (trs:List (TE × TE)):Prop :=
 ∀ (pins:List (Addr × Obj)) (s:Shared) (σ:St) (H:Hp) (Q:List (V × V) -> Hp -> Prop),Inv X pins σ H s -> tPairs trs σ H Q ->
  wpAny (model X.prog X.w) X.A (evalPairs (pairTrees keys values X.env pos)) (fun vs s' => ∃ ps H',Inv X pins σ H' s' /\ VV ps vs /\ Q ps H') X.xe s
theorem pps_nil {X:Cx} {pos:Pos}:PPs X pos [] [] []:=fun pins s σ H Q I h => pairTrees_nil_walk ⟨[],H,I,.nil,h⟩
theorem pps_cons {X:Cx} {pos:Pos} {k v:Expr} {ks:List (Option Expr)} {vs:List Expr} {tk tv:TE} {trs:List (TE × TE)} (hk:PE X k tk) (hv:PE X v tv) (hr:PPs X pos ks vs trs) :
  PPs X pos (some k :: ks) (v :: vs) ((tk,tv) :: trs):=fun pins s σ H Q I h =>
 pairTrees_cons_walk (thn (hk pins s σ H _ I h) fun u s1 ⟨x,H1,I1,rx,q1⟩ => thn (hv pins s1 σ H1 _ I1 q1) fun w2 s2 ⟨y,H2,I2,ry,q2⟩ =>
  thn (hr pins s2 σ H2 _ I2 q2) fun ws s3 ⟨ps,H3,I3,rel,q3⟩ => ⟨(x,y) :: ps,H3,I3,.cons ⟨rx,ry⟩ rel,q3⟩)
noncomputable def mergeK (kvs more:List (Key × V)):List (Key × V):=more.foldl (fun acc kv => putK acc kv.1 kv.2) kvs
theorem KV.merge:∀ {more:List (Key × V)} {rs:List (Key × Value)} {kvs:List (Key × V)} {vs:List (Key × Value)},KV more rs -> KV kvs vs -> KV (mergeK kvs more) (merged vs rs):=by
 intro more rs kvs vs r
 unfold KV at r
 induction r generalizing kvs vs with
 | nil => intro q; exact q
 | @cons p q ps qs h t ih =>
  intro r0
  have e:KV (putK kvs p.1 p.2) (stored vs q.1 q.2):=by
   have:=r0.put p.1 h.2
   rw [<- h.1]; exact this
  exact ih e
theorem length_mergeK:∀ (more kvs:List (Key × V)),(mergeK kvs more).length <= kvs.length + more.length
 | [],kvs => by show kvs.length <= kvs.length + 0; omega
 | p :: r,kvs => by
  have h1:=length_mergeK r (putK kvs p.1 p.2)
  have h2:=length_putK kvs p.1 p.2
  show (mergeK (putK kvs p.1 p.2) r).length <= _
  rw [List.length_cons]; omega
theorem carries_of {P:Program} {w:World}:∀ {kvs:List (Key × V)} {ws:List (Value × Value)},VV (kvs.map fun kv => (kV kv.1,kv.2)) ws -> ∃ rs,Carries (mixKind P w) ws rs /\ KV kvs rs
 | [],_,r => by rw [List.map_nil] at r; cases r; exact ⟨[],True.intro,.nil⟩
 | p :: kvs,_,r => by
  rw [List.map_cons] at r
  cases r with
  | @cons a b as bs h t =>
   obtain ⟨rs,c,q⟩:=carries_of (P:=P) (w:=w) t
   obtain ⟨b1,b2⟩:=b
   exact ⟨(p.1,b2) :: rs,⟨kV_is h.1,rfl,c⟩,.cons ⟨rfl,h.2⟩ q⟩
noncomputable def tDisp (trs:List (TE × TE)):TE:=fun σ H Q => ∀ p,H p = none -> tPairs trs σ (upd H p (.dK [])) fun ps H2 => H2 p = some (.dK []) /\ ∃ kvs:List (Key × V),ps = kvs.map (fun kv => (kV kv.1,kv.2)) /\ kvs.length <= 15 /\ Q (.ref p) (upd H2 p (.dK (mergeK [] kvs)))
theorem pe_disp {X:Cx} {pos:Pos} {keys:List (Option Expr)} {values:List Expr} {trs:List (TE × TE)} (h:PPs X pos keys values trs) (hall:keys.all (·.isSome) = true) (hl:keys.length = values.length) (h0:keys ≠ [])
  (h15:keys.length <= 15):PE X (.Dict keys values pos) (tDisp trs):=by
 intro pins s σ H Q I q
 have hn:=I.hok.fresh (Nat.le_refl s.heap.objs.size)
 have I1:=I.laid (a:=s.heap.objs.size) (o:=.dK []) (h':=s.heap.push { cls:=.type "dict",data:=.dict #[] }) (t':=s.toks) (fun _ _ q => Heap.get?_push_of_some _ q) (Nat.le_refl _) (dk_empty s.heap I.big)
 refine wpAny_Dict_walk (knd:=mixKind X.prog X.w) hall hl h0 h15 (thn (h pins _ σ _ _ I1 (q _ hn)) fun ws s2 hw' => ?_)
 obtain ⟨ps,H2,I2,rel,e,kvs,ep,lk,q2⟩:=hw'
 subst ep
 obtain ⟨rs,c,rk⟩:=carries_of (P:=X.prog) (w:=X.w) rel
 obtain ⟨z,hd,vs0,r0,dd⟩:=dk_of I2.hok e
 cases r0
 refine ⟨rs,c,dd,fun h' dd' hs => ⟨.ref s.heap.objs.size,_,?_,rfl,q2⟩⟩
 have hz:(mergeK [] kvs).length <= sizeLine:=by
  have h1:=length_mergeK kvs []
  rw [List.length_nil] at h1
  rw [sizeLine_eq]; omega
 have he:∃ q,h'.get? s.heap.objs.size = some q:=let ⟨q,_,_,hq,_⟩:=dd'; ⟨q,hq⟩
 exact d_write I2 (by rw [e]; exact True.intro) hs he (dk_new hz hd (rk.merge .nil) dd')
end L2
namespace Att
open PySem PySem.W PySem.Calls PyProof.Rows
theorem ints_of_wellAll {P:Params} {h:Heap}:∀ (ns:List Int) (vs:List Value),WellAll P h vs (ns.map WData.int) -> IntsAre vs ns:=by
 intro ns
 induction ns with
 | nil =>
  intro vs w
  rw [List.map_nil] at w
  cases w
  exact .nil
 | cons n ns ih =>
  intro vs w
  rw [List.map_cons] at w
  cases w with
  | cons a b =>
   cases a
   exact .cons _ _ (ih _ b)
theorem script_of {l:OpenLaw} {n:Nat} (hn:l.most = some n) {P:Params} {h:Heap} {args:List WData} {vals:List Value}
  (hpre:l.row.toRowW.claim.pre args = true) (hwl:WellAll P h vals args) :
  ∃ a vs ns,vals = [Value.ref a] /\ args = [WData.list (ns.map WData.int)] /\ h.get? a = some { cls:=.type "list",data:=.seq vs.toArray } /\ IntsAre vs ns /\ ns.length <= n:=by
 have hsh:WShape.hasAll [] args [.list .int] = true:=(pre_splitW hpre).1
 have hc:l.pre.holds [] { args:=args } = true:=(pre_splitW hpre).2
 obtain ⟨d,r,rfl,h1,h2⟩:=hasAllW_cons hsh
 obtain rfl:=hasAllW_nil h2
 obtain ⟨xs,rfl,h3⟩:=hasW_list h1
 obtain ⟨ns,rfl⟩:=items_int h3
 have hlen:ns.length <= n:=by
  unfold OpenLaw.pre at hc
  have h4:(WTm.not (.lt (.lit (.int (n:Int))) (.len (.arg 0)))).holds [] { args:=[.list (ns.map .int)] } = true:=by
   have h4:=(holds_andW hc).1
   rw [hn] at h4
   exact h4
  have h5:=condW_of h4 (w_not (w_lt w_lit (w_len_list (w_arg rfl))))
  rw [List.length_map] at h5
  refine Nat.le_of_not_lt fun q => ?_
  have q':(n:Int) < ((ns.length:Nat):Int):=by omega
  first
   | (rw [decide_eq_true q'] at h5; exact absurd h5 (by decide))
   | (simp at h5; omega)
 cases hwl with
 | cons w1 w2 =>
  cases w2
  cases w1 with
  | list ho hall => exact ⟨_,_,ns,rfl,rfl,ho,ints_of_wellAll ns _ hall,hlen⟩
theorem post_true (l:OpenLaw) (args:List WData):l.row.toRowW.claim.post args (.bool true) args = true :=
 postW_of (r:=l.row.toRowW) (X:=(true == true))
  (show WShape.has [] (.bool true) .bool = true by first | rfl | decide | simp [WShape.has,WShape.arms,WShape.armsAll])
  (show (WTm.eq .res (.lit (.bool true))).value [] { args:=args,res:=some (.bool true),after:=args } = some (.bool (true == true)) from w_eq_bool (w_res rfl) w_lit) rfl
theorem attach_call {l:OpenLaw} {n:Nat} {q:Program} {loose:List Str} {XP:(Str -> Option Value) -> Heap -> Prop} {YP:World -> Heap -> Prop} {d:DefRec}
  (hn:l.most = some n) (hdf:d.params.defaults = [])
  (call:∀ (w:World) (s₀ s₁:Shared) (mg mb:Str -> Option Value) (fa:Addr) (o:Obj) (pm cd doc:Value) (a:Addr) (vs:List Value) (ns:List Int),
   Ground q loose [] XP w s₀ mg mb s₁.heap -> YP w s₁.heap ->
   s₁.heap.get? fa = some o -> o.data = .func (docDef d.name d.params d.body d.scope pm cd doc) -> s₁.heap.CodeRec cd d.name -> mg d.name = some (.ref fa) ->
   s₁.heap.get? a = some { cls:=.type "list",data:=.seq vs.toArray } -> IntsAre vs ns -> ns.length <= n -> s₁.gens = #[] ->
   codeAny (model l.prog w) callerA (.call (.ref fa) ⟨[.ref a],[]⟩) (fun r s' => r = .ok (.ret (.bool true)) /\ OldK s₁.heap s'.heap /\ s'.os = s₁.os /\ AllBare s'.gens) s₁) :
  WalkO q loose XP YP l.row.toRowW d [] (fun f vs => PySem.call f vs):=by
 intro w s₀ s₁ mg mb G Y fa o pm cd doc dV kV ho hd hcd hD hmg hg args vals as hpre hlay hrd hwl hlo
 obtain rfl:dV = .none:=Dflts.none hD hdf
 obtain rfl:kV = .none:=Dflts.noKw hD
 obtain ⟨a,vs,ns,rfl,rfl,hobj,hints,hlen⟩:=script_of hn hpre hwl
 refine enter_call (codeAny_mono (call w s₀ s₁ mg mb fa o pm cd doc a vs ns G Y ho (fd_plain hd) hcd hmg hobj hints hlen hg) fun r s' hq => ?_)
 obtain ⟨rfl,h2,h3,h4⟩:=hq
 exact ⟨.inl ⟨.bool true,.bool true,[],rfl,fun _ => rfl,.bool true,post_true l _,fun _ => ⟨List.Pairwise.nil,fun _ hm => (nomatch hm)⟩⟩,h2,h3,h4⟩
section
variable {prog:Program} {w:World} {A:Around} {E:Value -> Shared -> Prop} {s:Shared} {K:Frag}
noncomputable def ledger (h:Heap) (L d:Addr):List (Addr × Obj):=(List.range h.objs.size).filterMap fun a => if a = L \/ a = d then none else (h.get? a).map fun o => (a,o)
end
end Att
namespace L2
open PySem PySem.Spec PyProof.Rows
theorem vals_ints:∀ {vs:List Value} {ns:List Int},IntsAre vs ns -> Vals (ns.map V.int) vs
 | _,_,.nil => .nil
 | _,_,.cons n t h => .cons ⟨t,rfl⟩ (vals_ints h)
noncomputable def Only (H:Hp):Prop:=∀ b,H b = none \/ ∃ o xs,H b = some (.frz o (.lst xs))
theorem law_call {P:Program} {w:World} {K:PySem.W.Frag} {mg mb:Str -> Option Value} {CX:CXT} {k:Nat} {fa a:Addr} {fd:FuncData} {x:Str} {sp:Sp} {s₁:Shared} {vs:List Value} {ns:List Int}
  (KX:K.In s₁.heap) (hns:s₁.heap.Ns mainGlobals mg) (hb:s₁.heap.Ns builtinsNs mb) (hbb:∀ x:Str,x ≠ "__name__" -> mb x = bootBuiltins x) (hlim:s₁.heap.NoLimit) (hg:s₁.gens = #[])
  (ha:s₁.heap.get? a = some { cls:=.type "list",data:=.seq vs.toArray }) (hi:IntsAre vs ns) (hl:ns.length <= sizeLine) (hr:Room k callerA)
  (F:∀ base:Heap,K.In base -> base.Ns mainGlobals mg -> FnOk P w K mg base CX k fa fd [x] sp) (hbind:∀ (s:Shared) (u:Value),BindsTo s fd ⟨[u],[]⟩ [(x,u)])
  (hsp:∀ H:Hp,Only H -> SqL K H a (ns.map V.int) -> sp [.ref a] H (fun v _ => v = .bl true) fun _ _ _ => False)
  (hCX:∀ H e s',CX [] H s₁ (fun _ _ _ => False) e s' -> False) :
  codeAny (model P w) callerA (.call (.ref fa) ⟨[.ref a],[]⟩) (fun r s' => r = .ok (.ret (.bool true)) /\ OldK s₁.heap s'.heap /\ s'.os = s₁.os /\ AllBare s'.gens) s₁:=by
 have rv:=vals_ints hi
 have lenV:=hi.length
 have core:∀ H:Hp,Only H -> SqL K H a (ns.map V.int) -> HOk P w H s₁.heap -> (∀ b,H b ≠ none -> b = a) -> (H a ≠ none -> K.lookup a = none) ->
   codeAny (model P w) callerA (.call (.ref fa) ⟨[.ref a],[]⟩) (fun r s' => r = .ok (.ret (.bool true)) /\ OldK s₁.heap s'.heap /\ s'.os = s₁.os /\ AllBare s'.gens) s₁:=by
  intro H hO hS hok hA hK
  have base_of:∀ {b:Addr} {o:Obj},s₁.heap.get? b = some o -> H b = none -> (hidT s₁.heap H).get? b = some o:=fun e n => hidT_get e n
  have noA:∀ {b:Addr} {o:Obj} {es:Array DictEntry} {ep:Nat},s₁.heap.get? b = some o -> o.data = .dict es ep -> H b = none:=fun {b o es ep} e d => by
   cases q:H b with
   | none => rfl
   | some u =>
    have e':b = a:=hA b (by rw [q]; simp)
    subst e'
    rw [ha] at e; cases e
    have d':Data.seq vs.toArray _ = Data.dict es ep:=d
    cases d'
  have nsK:∀ {b:Addr} {m:Str -> Option Value},s₁.heap.Ns b m -> (hidT s₁.heap H).Ns b m:=fun {b m} ⟨o,es,ep,e,d,r⟩ => ⟨o,es,ep,base_of e (noA e d),d,r⟩
  have hKb:K.In (hidT s₁.heap H):=fun b o e => base_of (KX b o e) (by
   cases q:H b with
   | none => rfl
   | some u =>
    have e':b = a:=hA b (by rw [q]; simp)
    subst e'
    rw [hK (by rw [q]; simp)] at e; cases e)
  have hM:Mod K mg (hidT s₁.heap H):=⟨hKb,nsK hns,⟨mb,nsK hb,hbb⟩,let ⟨mc,h1,h2⟩:=hlim; ⟨mc,nsK h1,h2⟩⟩
  have e0:Env0 P w K mg (hidT s₁.heap H) callerA [] s₁ H:=⟨rfl,hM,fun b o e => of_hidT e,Nat.le_of_eq (hidT_size _ _),trivial,fun b hb => absurd (show b ∈ ([]:List Addr) from hb) (by simp),hok,.of_eq hg⟩
  refine codeAny_mono ((F _ hKb (nsK hns)).run callerA [] s₁ H ⟨[.ref a],[]⟩ [.ref a] [.ref a] _ _ hr e0 (hbind s₁ (.ref a)) (.cons rfl .nil) (hsp H hO hS)) fun r s' h => ?_
  cases r with
  | error e => exact (hCX H e s' h).elim
  | ok fl =>
   cases fl with
   | next => exact False.elim h
   | brk => exact False.elim h
   | cont => exact False.elim h
   | ret u =>
    obtain ⟨v,H',os,bare,un,hok',r',q⟩:=h
    have q':v = .bl true:=q
    subst q'
    obtain rfl:u = Value.bool true:=r'
    refine ⟨rfl,OldK.of_keep fun b o e => ?_,os,bare⟩
    cases q:H b with
    | none => exact un.keep b o e q (by intro z; exact absurd (show b ∈ ([]:List Addr) from z) (by simp)) (by simp)
    | some u =>
     rcases hO b with z | ⟨ob,xs,z⟩
     ·rw [q] at z; cases z
     ·have z2:=un.frzs b ob _ z
      obtain ⟨e1,_⟩:=hok b _ z
      obtain ⟨e2,_⟩:=hok' b _ z2
      rw [e] at e1; cases e1
      exact e2
 cases hk:K.lookup a with
 | some o =>
  have e:=KX a o hk
  rw [ha] at e
  cases e
  refine core (fun _ => none) (fun _ => .inl rfl) (.inr ⟨_,vs.toArray,_,hk,rfl,rfl,rfl,by rw [List.size_toArray,lenV]; exact hl,by simpa using rv⟩) (fun b u z => by have z':(none:Option HO) = some u:=z; cases z') (fun b z => absurd rfl z) fun z => absurd rfl z
 | none =>
  refine core (fun b => if b = a then some (.frz { cls:=.type "list",data:=.seq vs.toArray } (.lst (ns.map V.int))) else none) (fun b => ?_) (.inl (.inr ⟨{ cls:=.type "list",data:=.seq vs.toArray },if_pos rfl⟩)) (fun b u z => ?_) (fun b z => ?_) fun _ => hk
  ·by_cases hb:b = a
   ·exact .inr ⟨_,_,if_pos hb⟩
   ·exact .inl (if_neg hb)
  ·by_cases hb:b = a
   ·have z':=(if_pos hb).symm.trans z
    cases z'
    subst hb
    exact ⟨ha,by rw [List.length_map]; exact hl,vs,_,rv,ha⟩
   ·have z':=(if_neg hb).symm.trans z
    cases z'
  ·by_cases hb:b = a
   ·exact hb
   ·exact absurd (if_neg hb) z
end L2
namespace L2
open PySem PySem.Spec PyProof.Rows
noncomputable abbrev KOf {K:PySem.W.Frag} {h:Heap} (_:K.In h):PySem.W.Frag:=K
theorem walk_of {l:PySem.W.OpenLaw} {n k:Nat} {q:Program} {loose:List Str} {XP:(Str -> Option Value) -> Heap -> Prop} {YP:World -> Heap -> Prop} {d:DefRec} {K:Params -> PySem.W.Frag} {CX:World -> CXT} {sp:World -> Sp} {x:Str}
  (hn:l.most = some n) (hn2:n <= sizeLine) (hdf:d.params.defaults = []) (hr:Room k callerA)
  (hY:∀ (w:World) (h:Heap),YP w h -> (K w.params).In h)
  (F:∀ (w:World) (mg:Str -> Option Value) (fa:Addr) (h:Heap),(K w.params).In h -> h.Ns mainGlobals mg -> mg d.name = some (.ref fa) ->
   ∃ fd:FuncData,(∀ (s:Shared) (u:Value),BindsTo s fd ⟨[u],[]⟩ [(x,u)]) /\
    ∀ base:Heap,(K w.params).In base -> base.Ns mainGlobals mg -> FnOk l.prog w (K w.params) mg base (CX w) k fa fd [x] (sp w))
  (hsp:∀ (w:World) (H:Hp) (a:Addr) (ns:List Int),ns.length <= n -> Only H -> SqL (K w.params) H a (ns.map V.int) -> sp w [.ref a] H (fun v _ => v = .bl true) fun _ _ _ => False)
  (hCX:∀ (w:World) (H:Hp) (s:Shared) (e:Value) (s':Shared),CX w [] H s (fun _ _ _ => False) e s' -> False) :
  PySem.W.WalkO q loose XP YP l.row.toRowW d [] (fun f vs => PySem.call f vs):=by
 refine Att.attach_call hn hdf fun w s₀ s₁ mg mb fa o pm cd doc a vs ns G Y ho hd hcd hmg hobj hints hlen hg => ?_
 have KX:=hY w _ Y
 obtain ⟨fd,hb,hF⟩:=F w mg fa _ KX G.T.g hmg
 exact law_call KX G.T.g G.T.b G.T.builtins G.T.nolimit hg hobj hints (Nat.le_trans hlen hn2) hr hF hb (fun H hO hS => hsp w H a ns hlen hO hS) fun H e s' => hCX w H s₁ e s'
end L2
/- THE LAST THEOREM (shape; LID,My.* are yours):
  My.Adr: a structure of the addresses that your layer names (classes,functions); My.Txt K t: a structure (Prop) of the equations over K;
  My.txt_mk:{K} {implicit addresses ..} (e1:nsIn K mainGlobals "law" = some (some (.ref f))) (e2:K.lookup f = some ⟨oc,od,.func (fnOf "law" "law" params body scope dV kV doc pm an cdv ct),sl⟩) (e3:codeIn K cdv "law" = true) ..:∃ t,My.Txt K t
set_option maxRecDepth 100000 in
set_option maxHeartbeats 0 in
theorem PySem.Challenge.cw_LID_holds : PySem.Challenge.rw_LID.Holds := by
 w_on; o_law; k_head; (case hw => w_witness2)
 k_fill
 refine L2.walk_of (l:=PySem.Challenge.rw_LID) (n:=63) (k:=40) (x:="script") (CX:=fun w => ..) (sp:=fun _ => My.sp_law) rfl (by decide) rfl ⟨rfl,by decide,by decide⟩ (fun w h Y => PySem.W.kIn_of Y) ?F ?S ?C
 case F =>
  intro w mg fa h KX G hmg
  have T:∃ t,My.Txt (L2.KOf KX) t:=by
   dsimp only [L2.KOf]                          -- K must stand as «<heap const> w.params» for k_is
   refine' My.txt_mk ?e1 ?e2 ?e3 ..
   (case e1 => PySem.W.k_is)                    -- in the order: a name -> its address -> its object -> its parts
   (case e2 => PySem.W.k_is)
   ..
  obtain ⟨t,T⟩:=T
  have e0:=hmg.symm.trans (PySem.W.mg_of KX G T.law)
  cases e0                                       -- fa is the law's own address
  exact ⟨_,fun s u => .of_eq rfl,fun base kb nb => My.law_fn T kb nb⟩     -- if «.of_eq rfl» comes too early: refine' ⟨_,?b,fun base kb nb => My.law_fn T kb nb⟩; exact fun s u => .of_eq rfl
 case S => exact fun w H a ns hl hO hS => ..
 case C => exact ..
(the tactic k_is has no namespace: write k_is) -/
namespace L2
open PySem PySem.Spec PyProof.Rows
noncomputable def defArgs (s:Stmt):Arguments:=match s with
 | .FunctionDef _ a _ _ _ _ _ _ _ _ => a
 | _ => { posonlyargs:=[],args:=[],vararg:=none,kwonlyargs:=[],kw_defaults:=[],kwarg:=none,defaults:=[] }
noncomputable def defBody (s:Stmt):List Stmt:=match s with
 | .FunctionDef _ _ b _ _ _ _ _ _ _ => b
 | _ => []
noncomputable def defScope (s:Stmt):Scope:=match s with
 | .FunctionDef _ _ _ _ _ _ sc _ _ _ => sc
 | _ => { kind:=.function,names:=[],isGenerator:=false,isCoroutine:=false }
noncomputable abbrev CX0:CXT:=fun _ _ _ _ _ _ => False
noncomputable abbrev E0:XK:=fun _ _ _ => False
theorem pass0 {X:Cx}:Passes CX0 X E0:=fun _ _ _ _ _ _ _ h => h.elim
structure Fun (K:PySem.W.Frag) (x qual:Str) (st:Stmt) (f:Addr) (fd:FuncData):Prop where
 ex:∃ (oc:Value) (od:Option Addr) (kV doc pm:Value) (an:Option Addr) (cdv ct:Value) (osl:Array (Option Value)),
  fd = PySem.W.fnOf x qual (defArgs st) (defBody st) (defScope st) .none kV doc pm an cdv ct /\ K.lookup f = some ⟨oc,od,.func fd,osl⟩ /\ PySem.W.codeIn K cdv qual = true
 kp:PySem.W.keepIn K (.ref f) = true
section
variable {P:Program} {w:World} {K:PySem.W.Frag} {mg:Str -> Option Value} {base:Heap}
theorem Fun.ok {x qual:Str} {st:Stmt} {f:Addr} {fd:FuncData} {N ps:List Str} {k:Nat} {sp:Sp} (F:Fun K x qual st f fd) (S:FnScope N ps (defScope st)) (len:∀ vs H Q E,sp vs H Q E -> vs.length = ps.length)
  (hbody:∀ (cdv:Value) (A:Around) (outer:List Env) (s:Shared) (H:Hp) (vs:List V) (Q:VK) (E:XK),Room k (A.deeper (envOfC qual (defScope st) s.heap.objs.size f cdv)) -> sp vs H Q E ->
   ∃ t,PSs (cxOf CX0 P w K mg base N qual (defScope st) f cdv A outer s H E).nox (defBody st) t /\ t { nx:=fun _ H' => Q .non H',rt:=Q } (start N vs) H):FnOk P w K mg base CX0 (k + 1) f fd ps sp:=by
 obtain ⟨oc,od,kV,doc,pm,an,cdv,ct,osl,rfl,lk,hcd⟩:=F.ex
 refine fn_of lk hcd S len fun A outer s H vs Q E hr hsp => ?_
 obtain ⟨t,h,q⟩:=hbody cdv A outer s H vs Q E hr hsp
 exact ⟨t,h.nox,q⟩
theorem Fun.binds {x qual:Str} {st:Stmt} {f:Addr} {fd:FuncData} {ps:List Str} (F:Fun K x qual st f fd)
  (h:∀ (kV doc pm:Value) (an:Option Addr) (cdv ct:Value) (us:List Value),us.length = ps.length -> bindArgs (PySem.W.fnOf x qual (defArgs st) (defBody st) (defScope st) .none kV doc pm an cdv ct) ⟨us,[]⟩ = pure (ps.zip us)):Binds K fd ps []:=by
 obtain ⟨oc,od,kV,doc,pm,an,cdv,ct,osl,rfl,lk,hcd⟩:=F.ex
 exact .all (h kV doc pm an cdv ct)
theorem fun_mk {x qual:Str} {st:Stmt} {f:Addr} {oc:Value} {od an:Option Addr} {osl:Array (Option Value)} {kV doc pm cdv ct:Value} (l:K.lookup f = some ⟨oc,od,.func (PySem.W.fnOf x qual (defArgs st) (defBody st) (defScope st) .none kV doc pm an cdv ct),osl⟩)
  (c:PySem.W.codeIn K cdv qual = true) (k:PySem.W.keepIn K (.ref f) = true):Fun K x qual st f (PySem.W.fnOf x qual (defArgs st) (defBody st) (defScope st) .none kV doc pm an cdv ct):=⟨⟨oc,od,kV,doc,pm,an,cdv,ct,osl,rfl,l,c⟩,k⟩
end
theorem hu_of {A:Around} {k:Nat} (hr:Room k A):A.units + 1 < cLine:=Nat.lt_of_le_of_lt (Nat.add_le_add_left (by decide:1 <= 64) _) hr.units
section
variable {X:Cx}
theorem pv (i:Nat) {x:Str} {pos:Pos} (hN:X.N[i]? = some x:=by rfl) (hv:Vis X.env.scope x:=by first | exact Or.inl rfl | exact Or.inr (Or.inl rfl) | exact Or.inr (Or.inr rfl)) (hd:(x == ("__debug__":Str)) = false:=by decide)
  (hcd:(x == ("__classdict__":Str)) = false:=by decide):PE X (.Name x pos) (tVar i):=pe_var hN hv hd hcd
end
theorem iteF {A B:Prop} (h:B):if false = true then A else B:=by
 rw [if_neg Bool.false_ne_true]
 exact h
theorem iteT {A B:Prop} (h:A):if true = true then A else B:=by
 rw [if_pos rfl]
 exact h
noncomputable def Same (H H':Hp):Prop:=∀ b o,H b = some o -> H' b = some o
theorem Same.refl (H:Hp):Same H H:=fun _ _ h => h
theorem Same.trans {H H1 H2:Hp} (a:Same H H1) (b:Same H1 H2):Same H H2:=fun c o h => b c o (a c o h)
theorem Same.seq {K:PySem.W.Frag} {H H':Hp} {a:Addr} {xs:List V} (e:Same H H') (h:SqL K H a xs):SqL K H' a xs:=by
 rcases h with (h | ⟨o,h⟩) | h
 ·exact .inl (.inl (e _ _ h))
 ·exact .inl (.inr ⟨o,e _ _ h⟩)
 ·exact .inr h
end L2
namespace L2
open PySem PySem.Spec PyProof.Rows
noncomputable def clos (cells:List (Str × Addr)):List (Str × NameKind) -> List (Str × Addr) -> List (Str × Addr)
 | [],acc => acc
 | (n,k) :: r,acc => clos cells r (if k == .free then (n,(cells.lookup n).getD 0) :: acc else acc)
theorem clos_run {env:Env}:∀ (names:List (Str × NameKind)) (acc:List (Str × Addr)),(∀ y ∈ names,y.2 = .free -> ∃ c,env.cells.lookup y.1 = some c) ->
  (forIn names acc (fun (x:Str × NameKind) (r:List (Str × Addr)) => if (x.2 == NameKind.free) = true then (do let a <- cellOf env x.1; pure (ForInStep.yield ((x.1,a) :: r))) else pure (ForInStep.yield r)):Sem (List (Str × Addr))) = pure (clos env.cells names acc)
 | [],acc,_ => rfl
 | (n,k) :: r,acc,h => by
  rw [List.forIn_cons]
  have ih:=fun a => clos_run r a fun y hy => h y (List.mem_cons_of_mem _ hy)
  cases hk:(k == NameKind.free) with
  | true =>
   have hk':k = .free:=by cases k <;> first | rfl | exact absurd hk (by decide)
   obtain ⟨c,hc⟩:=h (n,k) List.mem_cons_self hk'
   have hc':env.cells.lookup n = some c:=hc
   have e:cellOf env n = pure c:=by unfold cellOf; rw [hc']
   dsimp only
   rw [if_pos rfl,e]
   show (forIn r ((n,c) :: acc) _:Sem _) = _
   rw [ih]
   conv => rhs; unfold clos
   rw [if_pos hk,hc']
   rfl
  | false =>
   dsimp only
   rw [if_neg (by decide)]
   show (forIn r acc _:Sem _) = _
   rw [ih]
   conv => rhs; unfold clos
   rw [if_neg (by rw [hk]; decide)]
theorem closure_of {scope:Scope} {env:Env} (h:∀ y ∈ scope.names,y.2 = .free -> ∃ c,env.cells.lookup y.1 = some c):closureFor scope env = pure (clos env.cells scope.names []):=by
 have e:=clos_run scope.names [] h
 simp only [closureFor]
 rw [e]
 rfl
theorem clos_in {cells:List (Str × Addr)}:∀ {names:List (Str × NameKind)} {acc:List (Str × Addr)} {x:Str} {c:Addr},(∀ y ∈ names,y.2 = .free -> ∃ c,cells.lookup y.1 = some c) -> (∀ x c,acc.lookup x = some c -> cells.lookup x = some c) ->
  (clos cells names acc).lookup x = some c -> cells.lookup x = some c
 | [],acc,x,c,_,ha,h => ha x c h
 | (n,k) :: r,acc,x,c,hn,ha,h => by
  unfold clos at h
  refine clos_in (fun y hy => hn y (List.mem_cons_of_mem _ hy)) (fun y d hy => ?_) h
  split at hy
  ·rename_i hk
   have hk':k = .free:=by cases k <;> first | rfl | exact absurd hk (by decide)
   obtain ⟨c',hc⟩:=hn (n,k) List.mem_cons_self hk'
   have hc':cells.lookup n = some c':=hc
   rw [List.lookup_cons] at hy
   cases e:(y == n) with
   | true =>
    rw [e] at hy
    have ey:y = n:=by simpa using e
    subst ey
    rw [hc'] at hy ⊢
    exact hy
   | false =>
    rw [e] at hy
    exact ha y d hy
  ·exact ha y d hy
theorem clos_acc {cells:List (Str × Addr)}:∀ {names:List (Str × NameKind)} {acc:List (Str × Addr)} {x:Str},(∃ c,acc.lookup x = some c) -> ∃ c,(clos cells names acc).lookup x = some c
 | [],_,_,h => h
 | (n,k) :: r,acc,x,h => by
  unfold clos
  refine clos_acc ?_
  split
  ·rw [List.lookup_cons]
   cases (x == n) with
   | true => exact ⟨_,rfl⟩
   | false => exact h
  ·exact h
theorem clos_has {cells:List (Str × Addr)}:∀ {names:List (Str × NameKind)} {acc:List (Str × Addr)} {x:Str},(x,NameKind.free) ∈ names -> ∃ c,(clos cells names acc).lookup x = some c
 | [],_,_,h => by cases h
 | (n,k) :: r,acc,x,h => by
  unfold clos
  rcases List.mem_cons.mp h with e | e
  ·cases e
   refine clos_acc ?_
   rw [if_pos (by decide),List.lookup_cons]
   simp
  ·exact clos_has e
noncomputable def cxComp (X:Cx) (N:List Str) (scope:Scope) (cl:List (Str × Addr)) (C:Addr) (fp:List Addr) (s:Shared) (H:Hp):Cx :=
 { X with N:=N,s₀:=s,H₀:=H,env:=compEnvC scope cl C X.env,outer:=X.stack,stack:=X.stack,ex:=fp,fn:=fun _ => false,pn:=[],xe:=fun _ _ => False }
noncomputable def inner (μ:List (Option Nat)) (σ:St):St:=μ.map fun o => o.bind fun j => (σ[j]?).join
noncomputable def muOk (oN:List Str) (osc:Scope) (N:List Str) (isc:Scope) (μ:List (Option Nat)):Bool :=
 decide (μ.length = N.length) && (μ.zip N).all fun (o,x) => match o with
  | none => true
  | some j => decide (oN[j]? = some x) && decide (osc.names.lookup x = some .cell) && (decide (isc.names.lookup x = some .cell) || decide (isc.names.lookup x = some .free))
theorem muOk.get {oN N:List Str} {osc isc:Scope} {μ:List (Option Nat)} (h:muOk oN osc N isc μ = true) {i j:Nat} {x:Str} (h1:μ[i]? = some (some j)) (h2:N[i]? = some x) :
  oN[j]? = some x /\ osc.names.lookup x = some .cell /\ (isc.names.lookup x = some .cell \/ isc.names.lookup x = some .free):=by
 unfold muOk at h
 rw [Bool.and_eq_true] at h
 have hz:(μ.zip N)[i]? = some (some j,x):=by rw [List.getElem?_zip_eq_some]; exact ⟨h1,h2⟩
 have q:=List.all_eq_true.mp h.2 _ (List.mem_of_getElem? hz)
 simp only [Bool.and_eq_true,Bool.or_eq_true,decide_eq_true_eq] at q
 exact ⟨q.1.1,q.1.2,q.2⟩
section
variable {prog:Program} {w:World} {A:Around} {R:Result -> Shared -> Prop} {s:Shared}
theorem compLoop_go {elt target iter:Expr} {ifs:List Expr} {scope:Scope} {pos:Pos} {it acc:Value} {env:Env} (I:Nat -> Shared -> Prop)
  (turn:∀ n s,I n s -> wpAny (model prog w) A (pyNext it) (fun r s₁ => match r with
   | none => R (.ok .next) s₁
   | some v => wpAny (model prog w) A (letOwnedTupleGo target it v) (fun _ s₂ => wpAny (model prog w) A (assign target env v) (fun _ s₂ =>
     wpAny (model prog w) A (forIn ifs true fun c r => if r = true then do let ok <- isTrue c env (eval c env); pure (ForInStep.yield ok) else pure (ForInStep.yield r)) (fun ok s₃ =>
      if ok = true then wpAny (model prog w) A (eval elt env) (fun x s₄ =>
       wpAny (model prog w) A (call (.builtin "list.append") [acc,x]) (fun _ s₅ => ∃ m,m < n /\ I m s₅) (fun _ _ => False) s₄) (fun _ _ => False) s₃
      else ∃ m,m < n /\ I m s₃) (fun _ _ => False) s₂) (fun _ _ => False) s₂) (fun _ _ => False) s₁) (fun _ _ => False) s)
  (n:Nat) (h:I n s) :
  codeAny (model prog w) A (.compLoop (.ListComp elt [⟨target,iter,ifs,0⟩] scope pos) 0 it acc env) R s:=by
 refine codeAny_loop rfl I (fun n s hI => ?_) n h
 show wpAny _ A ((compTurn (.ListComp elt [⟨target,iter,ifs,0⟩] scope pos) 0 it acc env).onRaise (fun x => do noteFrame x env; theTreesLotGoes x)) _ _ s
 refine wpAny_noted ?_
 rw [compTurn_list]
 refine wpAny_bind (wpAny_standAt (wpAny_bind (wpAny_mono (turn n s hI) (fun r s₁ h₁ => ?_) fun _ _ h' => h'.elim)))
 cases r with
 | none => exact wpAny_pure h₁
 | some v =>
  refine wpAny_bind (wpAny_mono h₁ (fun _ s₂ h₂ => wpAny_bind (wpAny_mono h₂ (fun _ s₃ h₃ => wpAny_bind (wpAny_mono h₃ (fun ok s₄ h₄ => ?_) fun _ _ h' => h'.elim)) fun _ _ h' => h'.elim)) fun _ _ h' => h'.elim)
  cases ok with
  | false => exact wpAny_pure ⟨rfl,h₄⟩
  | true =>
   exact wpAny_bind (wpAny_bind (wpAny_mono h₄ (fun x s₅ h₅ => wpAny_bind (wpAny_mono h₅ (fun _ s₆ h₆ => wpAny_pure (wpAny_pure ⟨rfl,h₆⟩)) fun _ _ h' => h'.elim)) fun _ _ h' => h'.elim))
end
noncomputable def PTs (X:Cx) (ifs:List Expr) (t:TT):Prop :=
 ∀ (pins:List (Addr × Obj)) (s:Shared) (σ:St) (H:Hp) (Q:Bool -> Hp -> Prop),Inv X pins σ H s -> t σ H Q ->
  wpAny (model X.prog X.w) X.A (forIn ifs true fun c r => if r = true then do let ok <- isTrue c X.env (eval c X.env); pure (ForInStep.yield ok) else pure (ForInStep.yield r)) (TP X pins σ Q) X.xe s
theorem pts_nil {X:Cx}:PTs X [] (fun _ H Q => Q true H):=fun pins s σ H Q I h => wpAny_tests_nil ⟨H,I,h⟩
theorem pts_one {X:Cx} {c:Expr} {t:TT} (h:PT X c t):PTs X [c] t:=fun pins s σ H Q I hw => wpAny_tests_one (h pins s σ H Q I hw)
noncomputable def compW (μ:List (Option Nat)) (g:TG) (tt:TT) (te:TE) (σ:St) (Q:VK) (J:It) (H1:Hp):Prop :=
 ∀ p,H1 p = none -> ∃ W:Nat -> Nat -> St -> Hp -> Prop,(∃ m,W 0 m (inner μ σ) (upd H1 p (.lst []))) /\ ∀ i m σ' H',W i m σ' H' ->
  (J.stop i H' /\ Q (.ref p) H') \/ (J.go i H' /\ ∃ Nn:St -> Hp -> Prop,(∀ σ2 H2,Nn σ2 H2 -> ∃ m',m' < m /\ W (i + 1) m' σ2 H2) /\
   ∀ x H2,J.yld i H' x H2 -> g x σ' H2 fun σ3 H3 => tt σ3 H3 fun b H4 => if b = true then te σ3 H4 fun y H5 => ∃ ys,H5 p = some (.lst ys) /\ ys.length < sizeLine /\ Nn σ3 (upd H5 p (.lst (ys ++ [y]))) else Nn σ3 H4)
noncomputable def tComp (μ:List (Option Nat)) (wi:TI) (g:TG) (tt:TT) (te:TE):TE:=fun σ H Q => wi σ H (compW μ g tt te σ Q)
section
variable {X:Cx} {pins:List (Addr × Obj)} {σ:St} {H2:Hp} {s2:Shared} {tg iter elt:Expr} {ifs:List Expr} {scope:Scope} {pos:Pos} {it:Addr} {fp:List Addr} {tn:Nat -> Heap -> Prop} {J:It} {N:List Str} {μ:List (Option Nat)} {g:TG} {tt:TT} {te:TE} {Q:VK}
theorem comp_core {RR:Value -> Addr -> Result -> Shared -> Prop} (I2:Inv X pins σ H2 s2) (T:Turn X.prog X.w X.K tg J fp it tn) (st2:tn 0 s2.heap) (f2:∀ b ∈ fp,FpOk X pins H2 b) (hc:X.calm = true)
  (hcell:∀ y ∈ scope.names,y.2 ≠ .cell) (hkind:scope.kind = .function) (hfr:∀ y ∈ scope.names,y.2 = .free -> ∃ c,X.env.cells.lookup y.1 = some c)
  (hhas:∀ x,((relabel scope X.env).names.lookup x = some .cell \/ (relabel scope X.env).names.lookup x = some .free) -> (x,NameKind.free) ∈ scope.names)
  (hμ:muOk X.N X.env.scope N (relabel scope X.env) μ = true)
  (hg:∀ C s H,PG (cxComp X N scope (clos X.env.cells scope.names []) C fp s H) tg g) (ht:∀ C s H,PTs (cxComp X N scope (clos X.env.cells scope.names []) C fp s H) ifs tt) (he:∀ C s H,PE (cxComp X N scope (clos X.env.cells scope.names []) C fp s H) elt te)
  (hW:compW μ g tt te σ Q J H2)
  (hRR:∀ p C s' H' m,Inv X pins σ H' s' -> s'.heap.Ns C m -> FpOk X pins H' C -> Q (.ref p) H' -> RR (.ref p) C (.ok .next) s') :
  wpAny (model X.prog X.w) X.A (newList []) (fun acc s₃ => wpAny (model X.prog X.w) X.A (newFunctionEnv scope X.env.globals (clos X.env.cells scope.names []) [] X.env.qual none .none (some X.env)) (fun cenv s₄ =>
   codeAny (model X.prog X.w) X.A (.compStart (.ListComp elt [⟨tg,iter,ifs,0⟩] scope pos) 0 (.ref it) acc { cenv with scope:=relabel scope X.env }) (RR acc cenv.locals) s₄) X.xe s₃) X.xe s2:=by
 refine wpAny_newObj_type (wpAny_newFunctionEnv hcell (by intro y hy; simp at hy) (fun h₁ hns₁ hsb₁ => ?_) hkind)
 dsimp only at hns₁ hsb₁ ⊢
 generalize hH2:s2.heap.push { cls:=.type "list",dict:=none,data:=.seq ([]:List Value).toArray } = G at hns₁ hsb₁ ⊢
 have hC:G.objs.size = s2.heap.objs.size + 1:=by rw [<- hH2,Heap.size_push]
 have hDC:s2.heap.objs.size ≠ G.objs.size:=by rw [hC]; exact Nat.ne_of_lt (Nat.lt_succ_self _)
 have hCle:s2.heap.objs.size <= G.objs.size:=by rw [hC]; exact Nat.le_succ _
 have below:∀ b,b < s2.heap.objs.size -> b ≠ G.objs.size /\ b ≠ s2.heap.objs.size:=fun b hb => ⟨by rw [hC]; exact Nat.ne_of_lt (Nat.lt_succ_of_lt hb),Nat.ne_of_lt hb⟩
 have old:∀ b o,s2.heap.get? b = some o -> h₁.get? b = some o:=fun b o e => hsb₁.extBut b o (below b (Heap.lt_size e)).1 (Heap.get?_push_of_some _ (hH2 ▸ Heap.get?_push_of_some _ e))
 have hobj:h₁.get? s2.heap.objs.size = some { cls:=.type "list",dict:=none,data:=.seq ([]:List Value).toArray }:=hsb₁.extBut _ _ hDC (Heap.get?_push_of_some _ (hH2 ▸ Heap.get?_push_size _ rfl))
 have hclin:∀ x c,(clos X.env.cells scope.names []).lookup x = some c -> X.env.cells.lookup x = some c:=fun x c h => clos_in hfr (fun _ _ z => by simp at z) h
 have cellt:∀ x c,(clos X.env.cells scope.names []).lookup x = some c -> c < s2.heap.objs.size:=fun x c h => by
  obtain ⟨v,o,ho,_⟩:=I2.cell x c (hclin x c h)
  exact Heap.lt_size ho
 have fplt:∀ b ∈ fp,b < s2.heap.objs.size:=fun b hb => by
  obtain ⟨o,ho,_⟩:=T.obj 0 _ st2 b hb
  exact Heap.lt_size ho
 have Hn:∀ a,s2.heap.objs.size <= a -> H2 a = none:=fun a ha => I2.hok.fresh ha
 obtain ⟨W,⟨m0,w0⟩,turn⟩:=hW s2.heap.objs.size (Hn _ (Nat.le_refl _))
 have okc:(cxComp X N scope (clos X.env.cells scope.names []) G.objs.size fp s2 H2).Ok:=by
  refine ⟨I2.ok.mod,by show (relabel scope X.env).kind = _; exact hkind,I2.ok.glob,I2.ok.blt,hCle,fun x y c h1 h2 => ?_,fun x hx => ?_,fun _ _ z => (by cases z),I2.ok.hd,I2.ok.frames,.inl rfl,fun b hb => ⟨?_,fun x c h z => ?_⟩,I2.bs,Nat.le_trans I2.ok.bsz I2.sz,fun b o e hb => ?_,fun b hb z => ?_,I2.stack,I2.stkFree⟩
  ·exact I2.ok.inj x y c (hclin x c h1) (hclin y c h2)
  ·exact clos_has (hhas x hx)
  ·exact (below b (fplt b hb)).1
  ·exact (f2 b hb).2.2.2.2.1 x c (hclin x c h) z
  ·rcases (f2 b hb).2.2.2.1 with z | z
   ·exact I2.ok.noex b o e z
   ·exact absurd (Nat.lt_of_lt_of_le (Heap.lt_size e) (Nat.le_trans I2.ok.bsz z)) (Nat.lt_irrefl _)
  ·rcases List.mem_cons.mp (I2.stkSub b z) with e | e
   ·exact (f2 b hb).2.1 e
   ·exact (f2 b hb).2.2.1 e
 have Hfree:∀ b,b ≠ s2.heap.objs.size -> H2 b = none -> (upd H2 s2.heap.objs.size (.lst [])) b = none:=fun b h1 h2 => by rw [upd_ne h1]; exact h2
 have I3:Inv (cxComp X N scope (clos X.env.cells scope.names []) G.objs.size fp s2 H2) [] (inner μ σ) (upd H2 s2.heap.objs.size (.lst [])) { s2 with heap:=h₁,toks:=s2.toks + ([]:List (Str × Value)).length }:=by
  refine ⟨okc,rfl,I2.bare,Un.laid old (Nat.le_refl _) (Hn _ (Nat.le_refl _)),⟨_,hns₁,fun i x v e1 e2 e3 => ?_⟩,fun x c h => ?_,Hfree _ hDC.symm (Hn _ hCle),fun x c h => (I2.freeC x c (hclin x c h)).elim (fun z => .inl (Hfree _ (below c (cellt x c h)).2 z)) (fun ⟨_,o1,b1,z⟩ => .inr ⟨rfl,o1,b1,by rw [upd_ne (below c (cellt x c h)).2]; exact z⟩),fun p hp => absurd (show p ∈ ([]:List (Addr × Obj)) from hp) (by simp),I2.hok.laid old (Nat.le_refl _) ⟨by decide,[],0,.nil,hobj⟩,?_⟩
  ·have e1':N[i]? = some x:=e1
   have e2':(μ.map fun o => o.bind fun j => (σ[j]?).join)[i]? = some (some v):=e2
   rw [List.getElem?_map] at e2'
   cases q:μ[i]? with
   | none => rw [q] at e2'; cases e2'
   | some o =>
    rw [q] at e2'
    cases o with
    | none => cases e2'
    | some j =>
     have e4:(σ[j]?).join = some v:=Option.some.inj e2'
     have e5:σ[j]? = some (some v):=by
      cases z:σ[j]? with
      | none => rw [z] at e4; cases e4
      | some y => rw [z] at e4; cases y with
       | none => cases e4
       | some y => rw [show y = v from Option.some.inj e4]
     obtain ⟨a1,a2,a3⟩:=muOk.get hμ q e1'
     obtain ⟨m,hn,hl⟩:=I2.loc
     obtain ⟨u,r,l⟩:=hl j x v a1 e5 (.inr (.inl a2))
     refine ⟨u,r,?_⟩
     rcases l with ⟨k,_⟩ | ⟨_,c,hcc,hce⟩
     ·exact absurd ((show X.env.scope.names.lookup x = some .local from k).symm.trans a2) (by intro z; cases z)
     ·obtain ⟨c',hc'⟩:∃ c,(clos X.env.cells scope.names []).lookup x = some c:=clos_has (hhas x a3)
      have ec:c' = c:=Option.some.inj ((hclin x c' hc').symm.trans hcc)
      subst ec
      exact .inr ⟨a3,c',hc',hce.keeps old⟩
  ·obtain ⟨v,z⟩:=I2.cell x c (hclin x c h)
   exact ⟨v,z.keeps old⟩
  ·show (μ.map _).length = N.length
   rw [List.length_map]
   have q:=hμ
   unfold muOk at q
   rw [Bool.and_eq_true] at q
   exact of_decide_eq_true q.1
 have fin:∀ {σ':St} {H':Hp} {s':Shared},Inv (cxComp X N scope (clos X.env.cells scope.names []) G.objs.size fp s2 H2) [] σ' H' s' -> Q (.ref s2.heap.objs.size) H' -> RR (.ref s2.heap.objs.size) G.objs.size (.ok .next) s':=fun {σ' H' s'} I4 q => by
  have I5:Inv X pins σ H' s':=I2.call' (ch:=fp) I4.os I4.base I4.hok I4.bare fun b hb => ⟨(f2 b hb).2.2.2.1,(f2 b hb).2.1,(f2 b hb).2.2.2.2.1,(f2 b hb).2.2.2.2.2⟩
  obtain ⟨m,hn,_⟩:=I4.loc
  have hn':s'.heap.Ns G.objs.size m:=hn
  refine hRR _ _ s' H' m I5 hn' ⟨I4.free,Nat.ne_of_gt (Nat.lt_of_lt_of_le I2.lt hCle),I2.nofs hCle,.inr (Nat.le_trans I2.sz hCle),fun x c h z => ?_,fun p hp z => ?_⟩ q
  ·obtain ⟨v,o,ho,_⟩:=I2.cell x c h
   exact (below c (Heap.lt_size ho)).1 z
  ·exact (below p.1 (Heap.lt_size (I2.pin p hp).1)).1 z
 have stat:∀ {H':Hp},(∀ b ∈ fp,H' b = none) -> ∀ b ∈ fp,FpOk (cxComp X N scope (clos X.env.cells scope.names []) G.objs.size fp s2 H2) [] H' b:=fun {H'} hn b hb => by
  refine ⟨hn b hb,(below b (fplt b hb)).1,fun z => ?_,.inl hb,fun x c h z => (f2 b hb).2.2.2.2.1 x c (hclin x c h) z,fun p hp => absurd (show p ∈ ([]:List (Addr × Obj)) from hp) (by simp)⟩
  exact okc.exfs b hb z
 have loop:codeAny (model X.prog X.w) X.A (.compLoop (.ListComp elt [⟨tg,iter,ifs,0⟩] scope pos) 0 (.ref it) (.ref s2.heap.objs.size) (compEnvC scope (clos X.env.cells scope.names []) G.objs.size X.env))
   (RR (.ref s2.heap.objs.size) G.objs.size) { s2 with heap:=h₁,toks:=s2.toks + ([]:List (Str × Value)).length }:=by
  refine compLoop_go (fun n s' => ∃ i σ' H',Inv (cxComp X N scope (clos X.env.cells scope.names []) G.objs.size fp s2 H2) [] σ' H' s' /\ tn i s'.heap /\ (∀ b ∈ fp,H' b = none) /\ W i n σ' H') ?_ m0
   ⟨0,inner μ σ,_,I3,T.keep _ _ _ st2 (fun b hb o e => old b o e),fun b hb => Hfree b (below b (fplt b hb)).2 (f2 b hb).1,w0⟩
  rintro n s3 ⟨i,σ3,H3,I3,st3,fr3,w3⟩
  rcases turn i n σ3 H3 w3 with ⟨stop,qn⟩ | ⟨go,Nn,hN,step⟩
  ·refine thn (T.done (cxComp X N scope (clos X.env.cells scope.names []) G.objs.size fp s2 H2) rfl rfl rfl hc i [] s3 σ3 H3 _ I3 (stat fr3) st3 stop) fun r s4 ⟨hr,I4⟩ => ?_
   subst hr
   exact fin I4 qn
  ·refine thn (T.item (cxComp X N scope (clos X.env.cells scope.names []) G.objs.size fp s2 H2) rfl rfl rfl hc i [] s3 σ3 H3 _ I3 (stat fr3) st3 go) fun r s4 ⟨u,hr,h4⟩ => ?_
   subst hr
   refine thn h4 fun _ s5 hw' => ?_
   obtain ⟨x,H5,I5,r5,y5,st5,fr5⟩:=hw'
   have I5':=I5.pinned (stat fr5) (T.obj _ _ st5)
   have again:∀ {σ7:St} {H7:Hp} {s7:Shared},Inv (cxComp X N scope (clos X.env.cells scope.names []) G.objs.size fp s2 H2) ([] ++ pinsAt fp s5.heap) σ7 H7 s7 -> Nn σ7 H7 ->
     ∃ m,m < n /\ ∃ i σ' H',Inv (cxComp X N scope (clos X.env.cells scope.names []) G.objs.size fp s2 H2) [] σ' H' s7 /\ tn i s7.heap /\ (∀ b ∈ fp,H' b = none) /\ W i m σ' H':=fun {σ7 H7 s7} I7 n7 => by
    obtain ⟨m',hm,w7⟩:=hN σ7 H7 n7
    refine ⟨m',hm,i + 1,σ7,H7,I7.unpinned,T.keep _ _ _ st5 fun b hb o e => (I7.pin (b,o) (List.mem_append_right _ (List.mem_append_right _ (mem_pinsAt hb e)))).1,fun b hb => ?_,w7⟩
    obtain ⟨o,e,d⟩:=T.obj _ _ st5 b hb
    exact (I7.pin (b,o) (List.mem_append_right _ (List.mem_append_right _ (mem_pinsAt hb e)))).2.1
   refine thn (hg G.objs.size s2 H2 _ s5 σ3 H5 x u _ I5' r5 (step x H5 y5)) fun _ s6 hw' => ?_
   obtain ⟨σ6,H6,I6,q6⟩:=hw'
   refine thn (ht G.objs.size s2 H2 _ s6 σ6 H6 _ I6 q6) fun ok s7 ⟨H7,I7,q7⟩ => ?_
   cases ok with
   | false =>
    rw [if_neg (by decide)] at q7 ⊢
    exact again I7 q7
   | true =>
    rw [if_pos rfl] at q7 ⊢
    refine thn (he G.objs.size s2 H2 _ s7 σ6 H7 _ I7 q7) fun u8 s8 hw' => ?_
    obtain ⟨y,H8,I8,r8,ys,e8,l8,q8⟩:=hw'
    have ma:=mt_append (X:=cxComp X N scope (clos X.env.cells scope.names []) G.objs.size fp s2 H2) _ s8 σ6 H8 (.ref s2.heap.objs.size) [y] (.ref s2.heap.objs.size) [u8]
     (fun _ H9 => Nn σ6 H9) I8 rfl (.cons r8 .nil) ⟨_,ys,y,rfl,rfl,e8,l8,q8⟩
    exact thn ma fun _ s9 ⟨_,H9,I9,_,q9⟩ => again I9 q9
 exact codeAny_compStart_list loop (T.self _ 0 _ _ _ (T.keep _ _ _ st2 (fun b hb o e => old b o e)) loop)
theorem pe_comp {wi:TI} (hc:X.calm = true) (hcell:∀ y ∈ scope.names,y.2 ≠ .cell) (hkind:scope.kind = .function) (hnames:∀ y ∈ scope.names,y.2 = .local -> scope.names.lookup y.1 = some .local)
  (hfree:∀ y ∈ scope.names,y.2 = .free -> X.env.kindOf y.1 = some .cell \/ X.env.kindOf y.1 = some .free)
  (hhas:∀ x,((relabel scope X.env).names.lookup x = some .cell \/ (relabel scope X.env).names.lookup x = some .free) -> (x,NameKind.free) ∈ scope.names)
  (hμ:muOk X.N X.env.scope N (relabel scope X.env) μ = true) (hi:PI X tg iter wi)
  (hg:∀ fp C s H,PG (cxComp X N scope (clos X.env.cells scope.names []) C fp s H) tg g) (ht:∀ fp C s H,PTs (cxComp X N scope (clos X.env.cells scope.names []) C fp s H) ifs tt) (he:∀ fp C s H,PE (cxComp X N scope (clos X.env.cells scope.names []) C fp s H) elt te)
  (hs:∀ x,foldedSetIterable iter X.env x = pure x:=by intro _; rfl):PE X (.ListComp elt [⟨tg,iter,ifs,0⟩] scope pos) (tComp μ wi g tt te):=by
 intro pins s σ H Q I h
 have hfr:∀ y ∈ scope.names,y.2 = .free -> ∃ c,X.env.cells.lookup y.1 = some c:=fun y hy hk => I.ok.has y.1 (hfree y hy hk)
 rw [eval_ListComp]
 refine wpAny_comprehension_free (use:=none) rfl hs (closure_of hfr) hkind hnames (thn (hi pins s σ H _ I h) fun v s1 h1 => thn h1 fun itv s2 h2 => ?_)
 obtain ⟨it,fp,tn,J,H2,rfl,I2,T,st2,f2,W⟩:=h2
 refine comp_core (RR:=fun acc C => compPost (model X.prog X.w) X.A X.xe none (EP X pins σ Q) acc C) I2 T st2 f2 hc hcell hkind hfr hhas hμ (hg fp) (ht fp) (he fp) W ?_
 intro p C s' H' m I' hn fc q
 exact ⟨m,hn,fun h' hsb => ⟨.ref p,H',I'.turned (t':=s'.toks) (fun b o ne e => (hsb.2 b ne).trans e) fc.1 (Ne.symm fc.2.1).symm fc.2.2.2.1 fc.2.2.2.2.1 fc.2.2.2.2.2,rfl,q⟩⟩
theorem ps_comp {wi:TI} {i:Nat} {y:Str} {py spos:Pos} (hN:X.N.Nodup) (hiN:X.N[i]? = some y) (hx:Loc X.env.scope y) (hc:X.calm = true) (hcell:∀ y ∈ scope.names,y.2 ≠ .cell) (hkind:scope.kind = .function) (hnames:∀ y ∈ scope.names,y.2 = .local -> scope.names.lookup y.1 = some .local)
  (hfree:∀ y ∈ scope.names,y.2 = .free -> X.env.kindOf y.1 = some .cell \/ X.env.kindOf y.1 = some .free)
  (hhas:∀ x,((relabel scope X.env).names.lookup x = some .cell \/ (relabel scope X.env).names.lookup x = some .free) -> (x,NameKind.free) ∈ scope.names)
  (hμ:muOk X.N X.env.scope N (relabel scope X.env) μ = true) (hi:PI X tg iter wi)
  (hg:∀ fp C s H,PG (cxComp X N scope (clos X.env.cells scope.names []) C fp s H) tg g) (ht:∀ fp C s H,PTs (cxComp X N scope (clos X.env.cells scope.names []) C fp s H) ifs tt) (he:∀ fp C s H,PE (cxComp X N scope (clos X.env.cells scope.names []) C fp s H) elt te)
  (hsw:swapsWith (.ListComp elt [⟨tg,iter,ifs,0⟩] scope pos) (some (.Name y py)) spos.line X.env = pure true:=by rfl)
  (hf:X.fn y = true \/ X.env.scope.names.lookup y = some .local:=by first | exact .inl rfl | exact .inr rfl | assumption)
  (hs:∀ x,foldedSetIterable iter X.env x = pure x:=by intro _; rfl):PS X (.Assign [.Name y py] (.ListComp elt [⟨tg,iter,ifs,0⟩] scope pos) spos) (tAsg (tComp μ wi g tt te) (gName i)):=by
 intro pins s σ H D I h
 have hfr:∀ y ∈ scope.names,y.2 = .free -> ∃ c,X.env.cells.lookup y.1 = some c:=fun y hy hk => I.ok.has y.1 (hfree y hy hk)
 rw [exec_Assign_Name_used _ _ _ _ hsw]
 refine wpAny_bind (wpAny_standAt (wpAny_bind ?_))
 show wpAny _ _ (do let _ <- comprehension (.ListComp elt [⟨tg,iter,ifs,0⟩] scope pos) scope X.env _ (newList []) false (eval iter X.env) (some (assign (.Name y py) X.env))) _ _ s
 refine wpAny_bind (wpAny_mono (wpAny_comprehension_free (use:=some (assign (.Name y py) X.env)) (Q:=fun _ s' => SP X pins D .next s') rfl hs (closure_of hfr) hkind hnames
  (thn (hi pins s σ H _ I h) fun v s1 h1 => thn h1 fun itv s2 h2 => ?_)) (fun _ s' hq => wpAny_pure (wpAny_pure hq)) fun _ _ e => e)
 obtain ⟨it,fp,tn,J,H2,rfl,I2,T,st2,f2,W⟩:=h2
 refine comp_core (RR:=fun acc C => compPost (model X.prog X.w) X.A X.xe (some (assign (.Name y py) X.env)) (fun _ s' => SP X pins D .next s') acc C) I2 T st2 f2 hc hcell hkind hfr hhas hμ (hg fp) (ht fp) (he fp) W ?_
 intro p C s' H' m I' hn fc q
 show wpAny _ _ (assign (.Name y py) X.env (.ref p)) _ _ s'
 refine wpAny_assign_Name (store_ok2 (v:=.ref p) I' hN hiN hx rfl (fun s'' I'' hsm => ?_) hf)
 obtain ⟨a,sb,ha⟩:=hsm
 have ne:C ≠ a:=by
  rcases ha with ha | ha
  ·rw [ha]; exact fc.2.1
  ·exact (fc.2.2.2.2.1 y a ha).symm
 exact ⟨m,hn.sameBut sb ne,fun h' hsb => ⟨_,H',I''.turned (t':=s''.toks) (fun b o ne e => (hsb.2 b ne).trans e) fc.1 fc.2.1 fc.2.2.2.1 fc.2.2.2.2.1 fc.2.2.2.2.2,q⟩⟩
end
end L2
namespace DL
open PySem PySem.Spec PyProof.Rows L2
noncomputable abbrev St:=L2.St
inductive D where
 | non | bl (b:Bool) | int (i:Int) | str (x:Str) | tup (xs:List D) | lst (xs:List D) | scr (ns:List Int) | obj (n:Nat) | mt (xs:List D)
mutual
noncomputable def Is (K:PySem.W.Frag) (α:List Addr) (F:Hp):D -> V -> Prop
 | .non,v => v = .non
 | .bl b,v => v = .bl b
 | .int i,v => v = .int i
 | .str x,v => v = .str x
 | .tup xs,v => ∃ a vs,v = .ref a /\ F a = some (.tup vs) /\ IsL K α F xs vs
 | .lst xs,v => ∃ a vs,v = .ref a /\ F a = some (.lst vs) /\ IsL K α F xs vs
 | .scr ns,v => ∃ a,v = .ref a /\ SqL K F a (ns.map V.int)
 | .obj n,v => ∃ a,α[n]? = some a /\ v = .ref a
 | .mt xs,v => ∃ a vs,v = .ref a /\ (∃ o its n,K.lookup a = some o /\ o.cls = .type "tuple" /\ o.data = .seq its n /\ its.size <= sizeLine /\ Vals vs its.toList) /\ IsL K α F xs vs
noncomputable def IsL (K:PySem.W.Frag) (α:List Addr) (F:Hp):List D -> List V -> Prop
 | [],vs => vs = []
 | d :: ds,vs => ∃ v r,vs = v :: r /\ Is K α F d v /\ IsL K α F ds r
end
section
variable {K:PySem.W.Frag} {α α':List Addr} {F F':Hp}
mutual
theorem Is.mono (ff:Same F F') (al:∃ more,α' = α ++ more):∀ (d:D) {v:V},Is K α F d v -> Is K α' F' d v
 | .non,_,h => by rw [Is] at h ⊢; exact h
 | .bl _,_,h => by rw [Is] at h ⊢; exact h
 | .int _,_,h => by rw [Is] at h ⊢; exact h
 | .str _,_,h => by rw [Is] at h ⊢; exact h
 | .tup xs,_,h => by
  rw [Is] at h ⊢
  obtain ⟨a,vs,e,q,r⟩:=h
  exact ⟨a,vs,e,ff _ _ q,IsL.mono ff al xs r⟩
 | .lst xs,_,h => by
  rw [Is] at h ⊢
  obtain ⟨a,vs,e,q,r⟩:=h
  exact ⟨a,vs,e,ff _ _ q,IsL.mono ff al xs r⟩
 | .scr ns,_,h => by
  rw [Is] at h ⊢
  obtain ⟨a,e,q⟩:=h
  exact ⟨a,e,ff.seq q⟩
 | .obj n,_,h => by
  rw [Is] at h ⊢
  obtain ⟨a,e,q⟩:=h
  obtain ⟨more,rfl⟩:=al
  refine ⟨a,?_,q⟩
  rw [List.getElem?_append_left (List.getElem?_eq_some_iff.mp e).1]
  exact e
 | .mt xs,_,h => by
  rw [Is] at h ⊢
  obtain ⟨a,vs,e,q,r⟩:=h
  exact ⟨a,vs,e,q,IsL.mono ff al xs r⟩
theorem IsL.mono (ff:Same F F') (al:∃ more,α' = α ++ more):∀ (ds:List D) {vs:List V},IsL K α F ds vs -> IsL K α' F' ds vs
 | [],_,h => by rw [IsL] at h ⊢; exact h
 | d :: ds,_,h => by
  rw [IsL] at h ⊢
  obtain ⟨v,r,e,h1,h2⟩:=h
  exact ⟨v,r,e,Is.mono ff al d h1,IsL.mono ff al ds h2⟩
end
theorem IsL.nil:IsL K α F [] []:=by rw [IsL]
theorem IsL.cons {d:D} {v:V} {ds:List D} {vs:List V} (h:Is K α F d v) (r:IsL K α F ds vs):IsL K α F (d :: ds) (v :: vs):=by rw [IsL]; exact ⟨v,vs,rfl,h,r⟩
theorem IsL.of_nil {vs:List V} (h:IsL K α F [] vs):vs = []:=by rw [IsL] at h; exact h
theorem IsL.of_cons {d:D} {ds:List D} {vs:List V} (h:IsL K α F (d :: ds) vs):∃ v r,vs = v :: r /\ Is K α F d v /\ IsL K α F ds r:=by rw [IsL] at h; exact h
theorem IsL.length:∀ {ds:List D} {vs:List V},IsL K α F ds vs -> ds.length = vs.length
 | [],vs,h => by rw [h.of_nil]; rfl
 | d :: ds,vs,h => by
  obtain ⟨v,r,rfl,_,t⟩:=h.of_cons
  rw [List.length_cons,List.length_cons,t.length]
theorem IsL.append:∀ {ds es:List D} {vs us:List V},IsL K α F ds vs -> IsL K α F es us -> IsL K α F (ds ++ es) (vs ++ us)
 | [],_,_,_,h,q => by rw [h.of_nil]; exact q
 | d :: ds,es,vs,us,h,q => by
  obtain ⟨v,r,rfl,h1,t⟩:=h.of_cons
  exact .cons h1 (t.append q)
theorem IsL.take:∀ {ds:List D} {vs:List V} (n:Nat),IsL K α F ds vs -> IsL K α F (ds.take n) (vs.take n)
 | [],_,n,h => by rw [h.of_nil,List.take_nil,List.take_nil]; exact .nil
 | d :: ds,vs,0,h => by rw [List.take_zero,List.take_zero]; exact .nil
 | d :: ds,vs,n + 1,h => by
  obtain ⟨v,r,rfl,h1,t⟩:=h.of_cons
  exact .cons h1 (t.take n)
theorem IsL.drop:∀ {ds:List D} {vs:List V} (n:Nat),IsL K α F ds vs -> IsL K α F (ds.drop n) (vs.drop n)
 | [],_,n,h => by rw [h.of_nil,List.drop_nil,List.drop_nil]; exact .nil
 | d :: ds,vs,0,h => h
 | d :: ds,vs,n + 1,h => by
  obtain ⟨v,r,rfl,h1,t⟩:=h.of_cons
  exact t.drop n
theorem IsL.get:∀ {ds:List D} {vs:List V} {i:Nat} {d:D},IsL K α F ds vs -> ds[i]? = some d -> ∃ v,vs[i]? = some v /\ Is K α F d v
 | [],_,_,_,_,e => by simp at e
 | d :: ds,vs,0,x,h,e => by
  obtain ⟨v,r,rfl,h1,t⟩:=h.of_cons
  rw [List.getElem?_cons_zero] at e
  cases e
  exact ⟨v,rfl,h1⟩
 | d :: ds,vs,i + 1,x,h,e => by
  obtain ⟨v,r,rfl,h1,t⟩:=h.of_cons
  rw [List.getElem?_cons_succ] at e
  obtain ⟨u,e1,q⟩:=t.get e
  exact ⟨u,by rw [List.getElem?_cons_succ]; exact e1,q⟩
theorem IsL.rep {ds:List D} {vs:List V} (h:IsL K α F ds vs):∀ n:Nat,IsL K α F (List.replicate n ds).flatten (List.replicate n vs).flatten
 | 0 => .nil
 | n + 1 => by
  rw [List.replicate_succ,List.replicate_succ,List.flatten_cons,List.flatten_cons]
  exact h.append (h.rep n)
theorem IsL.ints:∀ (ns:List Int),IsL K α F (ns.map D.int) (ns.map V.int)
 | [] => .nil
 | n :: ns => .cons (by rw [Is]) (IsL.ints ns)
end
structure E4 where
 α:List Addr
 F:Hp
 A:Addr -> Prop
 H:Hp
structure Ext (e e':E4):Prop where
 fz:∀ b o u,e.H b = some (.frz o u) -> e'.H b = some (.frz o u)
 hk:∀ b o,e.H b = some o -> ¬ e.A b -> e'.H b = some o
 dm:∀ b o,e.H b = some o -> ∃ o',e'.H b = some o'
 ff:Same e.F e'.F
 fn:∀ b o,e'.F b = some o -> e.F b = some o \/ e.H b = none \/ ((∃ xs,o = .tup xs) /\ e.H b = some o /\ ¬ e.A b)
 an:∀ b,e'.A b -> e.A b \/ e.H b = none
 aa:∀ b,e.A b -> e'.A b
 al:∃ more,e'.α = e.α ++ more
theorem Ext.refl (e:E4):Ext e e:=⟨fun _ _ _ h => h,fun _ _ h _ => h,fun _ o h => ⟨o,h⟩,Same.refl _,fun _ _ h => .inl h,fun _ h => .inl h,fun _ h => h,[],by simp⟩
theorem Ext.back {e e':E4} (x:Ext e e') {b:Addr} (h:e'.H b = none):e.H b = none:=by
 cases q:e.H b with
 | none => rfl
 | some o => obtain ⟨o',z⟩:=x.dm b o q; rw [h] at z; cases z
theorem Ext.trans {a b c:E4} (x:Ext a b) (y:Ext b c):Ext a c:=by
 refine ⟨fun p o u h => y.fz p o u (x.fz p o u h),fun p o h hn => y.hk p o (x.hk p o h hn) fun z => ?_,fun p o h => ?_,x.ff.trans y.ff,fun p o h => ?_,fun p h => ?_,fun p h => y.aa p (x.aa p h),?_⟩
 ·rcases x.an p z with q | q
  ·exact hn q
  ·rw [q] at h; cases h
 ·obtain ⟨o',h'⟩:=x.dm p o h
  exact y.dm p o' h'
 ·rcases y.fn p o h with q | q | ⟨q1,q2,q3⟩
  ·exact x.fn p o q
  ·exact .inr (.inl (x.back q))
  ·have n:¬ a.A p:=fun z => q3 (x.aa p z)
   cases z:a.H p with
   | none => exact .inr (.inl rfl)
   | some o' =>
    have z':=x.hk p o' z n
    rw [q2] at z'
    cases z'
    exact .inr (.inr ⟨q1,rfl,n⟩)
 ·rcases y.an p h with q | q
  ·exact x.an p q
  ·exact .inr (x.back q)
 ·obtain ⟨m,e1⟩:=x.al
  obtain ⟨n,e2⟩:=y.al
  exact ⟨m ++ n,by rw [e2,e1,List.append_assoc]⟩
theorem Ext.keepOwn {e e':E4} (x:Ext e e') {a:Addr} {vs:List V} (h:e.H a = some (.lst vs)) (hF:e.F a = none) (hA:¬ e.A a):e'.H a = some (.lst vs) /\ e'.F a = none /\ ¬ e'.A a:=by
 refine ⟨x.hk a _ h hA,?_,fun z => ?_⟩
 ·cases z:e'.F a with
  | none => rfl
  | some o =>
   rcases x.fn a o z with y | y | ⟨⟨xs,rfl⟩,y,_⟩
   ·rw [hF] at y; cases y
   ·rw [h] at y; cases y
   ·rw [h] at y; cases y
 ·rcases x.an a z with y | y
  ·exact hA y
  ·rw [h] at y; cases y
inductive OS where
 | mls (xs:List D) | dead | exc (c:Str) | ins (c:Str) (fs:List (Str × D)) | fzK (kvs:List (Key × D)) | dK (kvs:List (Key × D)) | dT (kvs:List (List Key × D)) | fzT (kvs:List (List Key × D))
 | tab (l:Str) (pos:Pos) (q:Str) | clo (l q x:Str) (m:Nat)
noncomputable def PsIs (K:PySem.W.Frag) (α:List Addr) (F:Hp) {κ:Type}:List (κ × D) -> List (κ × V) -> Prop
 | [],vs => vs = []
 | p :: r,vs => ∃ v t,vs = (p.1,v) :: t /\ Is K α F p.2 v /\ PsIs K α F r t
theorem PsIs.mono {K:PySem.W.Frag} {α α':List Addr} {F F':Hp} {κ:Type} (ff:Same F F') (al:∃ more,α' = α ++ more):∀ {ps:List (κ × D)} {vs:List (κ × V)},PsIs K α F ps vs -> PsIs K α' F' ps vs
 | [],_,h => h
 | p :: r,_,⟨v,t,e,i,q⟩ => ⟨v,t,e,Is.mono ff al _ i,PsIs.mono ff al q⟩
noncomputable abbrev Cl:=Str -> Option Addr
noncomputable def isDef:Stmt -> Bool
 | .FunctionDef .. => true
 | _ => false
noncomputable def nestIn (K:PySem.W.Frag) (x:Str):Option Stmt:=match PySem.W.nsIn K mainGlobals x with
 | some (some (.ref f)) => (match K.lookup f with
  | some ⟨_,_,.func fd,_⟩ => (match fd.body with
   | .stmts b => b.find? isDef
   | _ => none)
  | _ => none)
 | _ => none
noncomputable def OSIs (K:PySem.W.Frag) (C:Cl) (e:E4) (a:Addr):OS -> Prop
 | .mls xs => ∃ vs,e.H a = some (.lst vs) /\ IsL K e.α e.F xs vs
 | .dead => True
 | .exc c => ∃ Ca ob u,C c = some Ca /\ e.H a = some (.frz ob u) /\ ob.cls = .ref Ca
 | .ins c fs => ∃ Ca dx fvs,C c = some Ca /\ e.H a = some (.ins Ca dx fvs) /\ PsIs K e.α e.F fs fvs
 | .fzK kvs => ∃ vs o,e.H a = some (.frz o (.dK vs)) /\ PsIs K e.α e.F kvs vs
 | .dK kvs => ∃ vs,e.H a = some (.dK vs) /\ PsIs K e.α e.F kvs vs
 | .dT kvs => ∃ vs,e.H a = some (.dT vs) /\ PsIs K e.α e.F kvs vs
 | .fzT kvs => ∃ vs o,e.H a = some (.frz o (.dT vs)) /\ PsIs K e.α e.F kvs vs
 | .tab l pos q => ∃ cd,PySem.W.tabIn K l = some (cd,a) /\ (e.H a = some (.tbl #[]) \/ ∃ c' ob,e.H a = some (.tbl #[rawInt pos.line,rawInt pos.col,.ref c']) /\ e.F c' = some (.frz ob (.own 0)) /\ ∃ vs t,ob.data = .fields vs /\ vs[1]? = some (.str q t))
 | .clo l q x m => ∃ st c am c' nm doc pm ctv cob ob,nestIn K l = some st /\ e.H a = some (.frz { cls:=.type "function",data:=.func (PySem.W.fnX nm q (defArgs st) (defBody st) (defScope st) [(x,c)] .none .none doc pm none (.ref c') ctv) } (.own 0)) /\
   e.F c = some (.frz cob (.own a)) /\ cob.data = .cell (some (.ref am)) /\ e.α[m]? = some am /\ e.F c' = some (.frz ob (.own 0)) /\ ∃ vs t,ob.data = .fields vs /\ vs[1]? = some (.str q t)
structure Wf (K:PySem.W.Frag) (C:Cl) (e:E4) (Ω:List OS):Prop where
 fh:Same e.F e.H
 fa:∀ b,e.A b -> e.F b = none
 ah:∀ b,e.A b -> e.H b ≠ none /\ ∀ xs,e.H b ≠ some (.tup xs)
 ol:e.α.length = Ω.length
 nd:e.α.Nodup
 ob:∀ (n:Nat) (a:Addr) (o:OS),e.α[n]? = some a -> Ω[n]? = some o -> e.A a /\ OSIs K C e a o
section
variable {K:PySem.W.Frag} {C:Cl} {e e':E4} {Ω Ω':List OS}
theorem Is.ext (x:Ext e e') {d:D} {v:V} (h:Is K e.α e.F d v):Is K e'.α e'.F d v:=Is.mono x.ff x.al d h
theorem IsL.ext (x:Ext e e') {d:List D} {v:List V} (h:IsL K e.α e.F d v):IsL K e'.α e'.F d v:=IsL.mono x.ff x.al d h
noncomputable def E4.new (e:E4) (p:Addr) (o:HO):E4:=⟨e.α,upd e.F p o,e.A,upd e.H p o⟩
theorem Wf.nF (w:Wf K C e Ω) {p:Addr} (hp:e.H p = none):e.F p = none:=by
 cases q:e.F p with
 | none => rfl
 | some o => rw [w.fh p o q] at hp; cases hp
theorem Wf.new_ext (w:Wf K C e Ω) {p:Addr} {o:HO} (hp:e.H p = none):Ext e (e.new p o):=by
 refine ⟨fun b o' u h => ?_,fun b u h _ => ?_,fun b u h => ⟨u,?_⟩,fun b u h => ?_,fun b u h => ?_,fun b h => .inl h,fun b h => h,[],by simp [E4.new]⟩
 ·show upd e.H p o b = some (.frz o' u); rw [upd_ne (ne_of_none h hp)]; exact h
 ·show upd e.H p o b = some u; rw [upd_ne (ne_of_none h hp)]; exact h
 ·show upd e.H p o b = some u; rw [upd_ne (ne_of_none h hp)]; exact h
 ·show upd e.F p o b = some u; rw [upd_ne (ne_of_none h (w.nF hp))]; exact h
 ·have h:upd e.F p o b = some u:=h
  by_cases hb:b = p
  ·subst hb; exact .inr (.inl hp)
  ·rw [upd_ne hb] at h; exact .inl h
theorem OSIs.keep {a:Addr} {o:OS} (h:OSIs K C e a o) (hH:∀ u,e.H a = some u -> e'.H a = some u) (ff:Same e.F e'.F) (al:∃ more,e'.α = e.α ++ more):OSIs K C e' a o:=by
 cases o with
 | mls xs => obtain ⟨vs,h1,h2⟩:=h; exact ⟨vs,hH _ h1,IsL.mono ff al xs h2⟩
 | dead => trivial
 | exc c => obtain ⟨Ca,ob,u,h1,h2,h3⟩:=h; exact ⟨Ca,ob,u,h1,hH _ h2,h3⟩
 | ins c fs => obtain ⟨Ca,dx,fvs,h1,h2,h3⟩:=h; exact ⟨Ca,dx,fvs,h1,hH _ h2,h3.mono ff al⟩
 | fzK kvs => obtain ⟨vs,ob,h1,h2⟩:=h; exact ⟨vs,ob,hH _ h1,h2.mono ff al⟩
 | dK kvs => obtain ⟨vs,h1,h2⟩:=h; exact ⟨vs,hH _ h1,h2.mono ff al⟩
 | dT kvs => obtain ⟨vs,h1,h2⟩:=h; exact ⟨vs,hH _ h1,h2.mono ff al⟩
 | fzT kvs => obtain ⟨vs,ob,h1,h2⟩:=h; exact ⟨vs,ob,hH _ h1,h2.mono ff al⟩
 | tab l pos q =>
  obtain ⟨cd,h0,h1 | ⟨c',ob,h1,h2,h3⟩⟩:=h
  ·exact ⟨cd,h0,.inl (hH _ h1)⟩
  ·exact ⟨cd,h0,.inr ⟨c',ob,hH _ h1,ff _ _ h2,h3⟩⟩
 | clo l q x m =>
  obtain ⟨st,c,am,c',nm,doc,pm,ctv,cob,ob,h0,h1,h2,h3,h4,h5,h6⟩:=h
  refine ⟨st,c,am,c',nm,doc,pm,ctv,cob,ob,h0,hH _ h1,ff _ _ h2,h3,?_,ff _ _ h5,h6⟩
  obtain ⟨more,z⟩:=al
  rw [z,List.getElem?_append_left (List.getElem?_eq_some_iff.mp h4).1]
  exact h4
theorem Wf.new (w:Wf K C e Ω) {p:Addr} {o:HO} (hp:e.H p = none):Wf K C (e.new p o) Ω:=by
 have x:Ext e (e.new p o):=w.new_ext hp
 have ne:∀ b,e.A b -> b ≠ p:=fun b h z => by subst z; exact (w.ah b h).1 hp
 refine ⟨fun b u h => ?_,fun b h => ?_,fun b h => ?_,w.ol,w.nd,fun n a u h1 h2 => ⟨(w.ob n a u h1 h2).1,(w.ob n a u h1 h2).2.keep (fun v hv => ?_) x.ff x.al⟩⟩
 ·have h:upd e.F p o b = some u:=h
  show upd e.H p o b = some u
  by_cases hb:b = p
  ·subst hb; rw [upd_same] at h ⊢; exact h
  ·rw [upd_ne hb] at h ⊢; exact w.fh b u h
 ·show upd e.F p o b = none
  rw [upd_ne (ne b h)]; exact w.fa b h
 ·show upd e.H p o b ≠ none /\ ∀ xs,upd e.H p o b ≠ some (.tup xs)
  rw [upd_ne (ne b h)]; exact w.ah b h
 ·show upd e.H p o a = some v
  rw [upd_ne (ne a (w.ob n a u h1 h2).1)]; exact hv
end
inductive Sl where
 | und | dat (d:D) | own (xs:List D)
structure RelE (K:PySem.W.Frag) (e:E4) (σ:St) (ρ:List Sl):Prop where
 len:σ.length = ρ.length
 dat:∀ (i:Nat) (d:D),ρ[i]? = some (.dat d) -> ∃ v,σ[i]? = some (some v) /\ Is K e.α e.F d v
 own:∀ (i:Nat) (ds:List D),ρ[i]? = some (.own ds) -> ∃ a vs,σ[i]? = some (some (.ref a)) /\ e.H a = some (.lst vs) /\ IsL K e.α e.F ds vs /\ e.F a = none /\ ¬ e.A a
 sep:∀ (i j:Nat) (ds es:List D) (a:Addr),ρ[i]? = some (.own ds) -> ρ[j]? = some (.own es) -> σ[i]? = some (some (.ref a)) -> σ[j]? = some (some (.ref a)) -> i = j
section
variable {K:PySem.W.Frag} {C:Cl} {e e' e₀:E4} {Ω Ω':List OS} {σ:St} {ρ:List Sl}
theorem RelE.ext (r:RelE K e σ ρ) (x:Ext e e'):RelE K e' σ ρ:=by
 refine ⟨r.len,fun i d h => ?_,fun i ds h => ?_,r.sep⟩
 ·obtain ⟨v,e1,q⟩:=r.dat i d h
  exact ⟨v,e1,q.ext x⟩
 ·obtain ⟨a,vs,e1,e2,q,n1,n2⟩:=r.own i ds h
  obtain ⟨z1,z2,z3⟩:=x.keepOwn e2 n1 n2
  exact ⟨a,vs,e1,z1,q.ext x,z2,z3⟩
theorem RelE.set (r:RelE K e σ ρ) (i:Nat) {d:D} {v:V} (h:Is K e.α e.F d v):RelE K e (σ.set i (some v)) (ρ.set i (.dat d)):=by
 refine ⟨by simp [r.len],fun j d' hj => ?_,fun j ds hj => ?_,fun j k ds es a hj hk h1 h2 => ?_⟩
 ·by_cases e1:i = j
  ·subst e1
   have hl:i < ρ.length:=by
    have:=(List.getElem?_eq_some_iff.mp hj).1
    simpa using this
   rw [List.getElem?_set_self hl] at hj
   cases hj
   exact ⟨v,List.getElem?_set_self (by rw [r.len]; exact hl),h⟩
  ·rw [List.getElem?_set_ne e1] at hj ⊢
   exact r.dat j d' hj
 ·by_cases e1:i = j
  ·subst e1
   have hl:i < ρ.length:=by
    have:=(List.getElem?_eq_some_iff.mp hj).1
    simpa using this
   rw [List.getElem?_set_self hl] at hj
   cases hj
  ·rw [List.getElem?_set_ne e1] at hj ⊢
   exact r.own j ds hj
 ·have ne:∀ (j:Nat) (ds:List D),(ρ.set i (.dat d))[j]? = some (.own ds) -> i ≠ j:=fun j ds hj e1 => by
   subst e1
   have hl:i < ρ.length:=by
    have:=(List.getElem?_eq_some_iff.mp hj).1
    simpa using this
   rw [List.getElem?_set_self hl] at hj
   cases hj
  have n1:=ne j ds hj
  have n2:=ne k es hk
  rw [List.getElem?_set_ne n1] at hj h1
  rw [List.getElem?_set_ne n2] at hk h2
  exact r.sep j k ds es a hj hk h1 h2
end
noncomputable abbrev Den:=List Sl -> List OS -> Option (D × List OS)
noncomputable abbrev TDen:=List Sl -> List OS -> Option (Bool × List OS)
noncomputable abbrev ADen:=List Sl -> List OS -> Option (List D × List OS)
noncomputable def tD (K:PySem.W.Frag) (C:Cl) (g:Den):TE:=fun σ H Q => ∃ e Ω ρ d Ω',e.H = H /\ Wf K C e Ω /\ RelE K e σ ρ /\ g ρ Ω = some (d,Ω') /\ ∀ v e',Ext e e' -> Wf K C e' Ω' -> Is K e'.α e'.F d v -> Q v e'.H
noncomputable def tDT (K:PySem.W.Frag) (C:Cl) (g:TDen):TT:=fun σ H Q => ∃ e Ω ρ b Ω',e.H = H /\ Wf K C e Ω /\ RelE K e σ ρ /\ g ρ Ω = some (b,Ω') /\ ∀ e',Ext e e' -> Wf K C e' Ω' -> Q b e'.H
noncomputable def tDA (K:PySem.W.Frag) (C:Cl) (g:ADen):TA:=fun σ H Q => ∃ e Ω ρ ds Ω',e.H = H /\ Wf K C e Ω /\ RelE K e σ ρ /\ g ρ Ω = some (ds,Ω') /\ ∀ vs e',Ext e e' -> Wf K C e' Ω' -> IsL K e'.α e'.F ds vs -> Q vs e'.H
noncomputable def PD (X:Cx) (C:Cl) (x:Expr) (g:Den):Prop:=PE X x (tD X.K C g)
noncomputable def PDT (X:Cx) (C:Cl) (x:Expr) (g:TDen):Prop:=PT X x (tDT X.K C g)
noncomputable def PDW (X:Cx) (C:Cl) (x:Expr) (g:TDen):Prop:=PW X x (tDT X.K C g)
noncomputable def PDA (X:Cx) (C:Cl) (xs:List Expr) (g:ADen):Prop:=PA X xs (tDA X.K C g)
section
variable {X:Cx} {C:Cl} {x:Expr}
theorem pe_imp {t t':TE} (h:PE X x t) (i:∀ σ H Q,t' σ H Q -> t σ H Q):PE X x t':=fun pins s σ H Q I hw => h pins s σ H Q I (i σ H Q hw)
theorem pt_imp {t t':TT} (h:PT X x t) (i:∀ σ H Q,t' σ H Q -> t σ H Q):PT X x t':=fun pins s σ H Q I hw => h pins s σ H Q I (i σ H Q hw)
theorem pw_imp {t t':TT} (h:PW X x t) (i:∀ σ H Q,t' σ H Q -> t σ H Q):PW X x t':=fun whole pins s σ H Q I hw => h whole pins s σ H Q I (i σ H Q hw)
theorem pa_imp {xs:List Expr} {t t':TA} (h:PA X xs t) (i:∀ σ H Q,t' σ H Q -> t σ H Q):PA X xs t':=fun pos pins s σ H Q I hw => h pos pins s σ H Q I (i σ H Q hw)
theorem ps_imp {st:Stmt} {t t':TS} (h:PS X st t) (i:∀ D σ H,t' D σ H -> t D σ H):PS X st t':=fun pins s σ H D I hw => h pins s σ H D I (i D σ H hw)
theorem pss_imp {st:List Stmt} {t t':TS} (h:PSs X st t) (i:∀ D σ H,t' D σ H -> t D σ H):PSs X st t':=fun pins s σ H D I hw => h pins s σ H D I (i D σ H hw)
noncomputable def gVar (i:Nat):Den:=fun ρ Ω => match ρ[i]? with | some (.dat d) => some (d,Ω) | _ => none
theorem pd_var {i:Nat} (h:PE X x (tVar i)):PD X C x (gVar i):=pe_imp h fun σ H Q hw' => by
 obtain ⟨e,Ω,ρ,d,Ω',eH,w,r,g,k⟩:=hw'
 subst eH
 unfold gVar at g
 cases q:ρ[i]? with
 | none => rw [q] at g; cases g
 | some s =>
  rw [q] at g
  cases s with
  | dat d' =>
   cases g
   obtain ⟨v,e1,i1⟩:=r.dat _ _ q
   exact ⟨v,e1,k v e (Ext.refl e) w i1⟩
  | und => cases g
  | own _ => cases g
noncomputable def gC (d:D):Den:=fun _ Ω => some (d,Ω)
theorem pd_c {v:V} {d:D} (h:PE X x (tC v)) (hd:∀ α F,Is X.K α F d v):PD X C x (gC d):=pe_imp h fun σ H Q hw' => by
 obtain ⟨e,Ω,ρ,d',Ω',eH,w,r,g,k⟩:=hw'
 subst eH
 cases g
 exact k v e (Ext.refl e) w (hd _ _)
theorem pd_int {i:Int} {j pos}:PD X C (.Constant (.int i) j pos) (gC (.int i)):=pd_c pe_int fun _ _ => by rw [Is]
theorem pd_bl {b:Bool} {j pos}:PD X C (.Constant (.bool b) j pos) (gC (.bl b)):=pd_c pe_bl fun _ _ => by rw [Is]
theorem pd_non {j pos}:PD X C (.Constant .none j pos) (gC .non):=pd_c pe_non fun _ _ => by rw [Is]
theorem pd_str {z:Str} {j pos}:PD X C (.Constant (.str z) j pos) (gC (.str z)):=pd_c pe_str fun _ _ => by rw [Is]
theorem pd_globI {n:Str} {i:Int} {t:Tok} {pos:Pos} (hg:Gl X n) (hm:X.mg n = some (.int i t)) (hd:(n == ("__debug__":Str)) = false:=by decide):PD X C (.Name n pos) (gC (.int i)) :=
 pd_c (pe_glob (v:=.int i) hg hm ⟨t,rfl⟩ hd) fun _ _ => by rw [Is]
theorem pd_globS {n z:Str} {t:Tok} {pos:Pos} (hg:Gl X n) (hm:X.mg n = some (.str z t)) (hd:(n == ("__debug__":Str)) = false:=by decide):PD X C (.Name n pos) (gC (.str z)) :=
 pd_c (pe_glob (v:=.str z) hg hm ⟨t,rfl⟩ hd) fun _ _ => by rw [Is]
end
noncomputable def OpD (X:Cx) (C:Cl) (f:Value -> Value -> Sem Value) (r:D -> D -> Option D):Prop :=
 OpR X f fun x y H Q => ∃ e Ω d₁ d₂ z,e.H = H /\ Wf X.K C e Ω /\ Is X.K e.α e.F d₁ x /\ Is X.K e.α e.F d₂ y /\ r d₁ d₂ = some z /\ ∀ v e',Ext e e' -> Wf X.K C e' Ω -> Is X.K e'.α e'.F z v -> Q v e'.H
noncomputable def gOp (r:D -> D -> Option D) (f g:Den):Den:=fun ρ Ω => match f ρ Ω with
 | some (x,Ω₁) => match g ρ Ω₁ with
  | some (y,Ω₂) => match r x y with
   | some z => some (z,Ω₂)
   | none => none
  | none => none
 | none => none
section
variable {X:Cx} {C:Cl} {a b:Expr} {f g:Den} {r:D -> D -> Option D} {pos:Pos}
theorem op_read {K:PySem.W.Frag} {r':R2} (hr:∀ x y H Q,(∃ e Ω d₁ d₂ z,e.H = H /\ Wf K C e Ω /\ Is K e.α e.F d₁ x /\ Is K e.α e.F d₂ y /\ r d₁ d₂ = some z /\ ∀ v e',Ext e e' -> Wf K C e' Ω -> Is K e'.α e'.F z v -> Q v e'.H) -> r' x y H Q)
  {σ:St} {H:Hp} {Q:VK} (h:tD K C (gOp r f g) σ H Q):tOp r' (tD K C f) (tD K C g) σ H Q:=by
 obtain ⟨e,Ω,ρ,d,Ω',eH,w,rl,q,k⟩:=h
 unfold gOp at q
 cases q1:f ρ Ω with
 | none => rw [q1] at q; cases q
 | some p1 =>
  obtain ⟨x,Ω₁⟩:=p1
  rw [q1] at q
  dsimp only at q
  cases q2:g ρ Ω₁ with
  | none => rw [q2] at q; cases q
  | some p2 =>
   obtain ⟨y,Ω₂⟩:=p2
   rw [q2] at q
   dsimp only at q
   cases q3:r x y with
   | none => rw [q3] at q; cases q
   | some z =>
    rw [q3] at q
    cases q
    refine ⟨e,Ω,ρ,x,Ω₁,eH,w,rl,q1,fun v e1 x1 w1 i1 => ?_⟩
    refine ⟨e1,Ω₁,ρ,y,_,rfl,w1,rl.ext x1,q2,fun u e2 x2 w2 i2 => ?_⟩
    exact hr v u e2.H Q ⟨e2,_,x,y,d,rfl,w2,i1.ext x2,i2,q3,fun v' e3 x3 w3 i3 => k v' e3 ((x1.trans x2).trans x3) w3 i3⟩
theorem pd_op {op:Operator} (ho:OpD X C (binaryOp op) r) (ha:PD X C a f) (hb:PD X C b g):PD X C (.BinOp a op b pos) (gOp r f g) :=
 pe_imp (pe_op ho ha hb) fun σ H Q h => op_read (fun _ _ _ _ h => h) h
theorem pd_cmp {op:CmpOp} (ho:OpD X C (compareOp op) r) (ha:PD X C a f) (hb:PD X C b g) (hm:behindInMarks op b = false):PD X C (.Compare a [op] [b] pos) (gOp r f g) :=
 pe_imp (pe_cmpR ho ha hb hm) fun σ H Q h => op_read (fun _ _ _ _ h => h) h
noncomputable def gT (g:Den):TDen:=fun ρ Ω => match g ρ Ω with
 | some (.bl b,Ω') => some (b,Ω')
 | _ => none
theorem gT_read {K:PySem.W.Frag} {σ:St} {H:Hp} {Q:Bool -> Hp -> Prop} (h:tDT K C (gT g) σ H Q):tD K C g σ H fun x H' => ∃ c,x = V.bl c /\ Q c H':=by
 obtain ⟨e,Ω,ρ,b,Ω',eH,w,rl,q,k⟩:=h
 unfold gT at q
 cases q1:g ρ Ω with
 | none => rw [q1] at q; cases q
 | some p1 =>
  obtain ⟨x,Ω₁⟩:=p1
  rw [q1] at q
  cases x with
  | bl c =>
   cases q
   refine ⟨e,Ω,ρ,_,_,eH,w,rl,q1,fun v e1 x1 w1 i1 => ?_⟩
   rw [Is] at i1
   exact ⟨b,i1,k e1 x1 w1⟩
  | _ => cases q
theorem pdt_cmp {op:CmpOp} (ho:OpD X C (compareOp op) r) (ha:PD X C a f) (hb:PD X C b g) (hm:behindInMarks op b = false):PDT X C (.Compare a [op] [b] pos) (gT (gOp r f g)) :=
 pt_imp (pt_cmpR ho ha hb hm) fun σ H Q h => op_read (fun _ _ _ _ h => h) (gT_read h)
theorem pdt_val {x:Expr} (h:PD X C x g) (he:∀ whole,isTrue x X.env whole = (do let v <- whole; standAt x.pos; holding [v] (truthy v)):=by intro _; rfl):PDT X C x (gT g) :=
 pt_imp (pt_val h he) fun σ H Q h => gT_read h
noncomputable def dI (c:Int -> Int -> Bool) (f:Int -> Int -> Int):D -> D -> Option D
 | .int i,.int j => if c i j = true then some (.int (f i j)) else none
 | _,_ => none
noncomputable def dB (f:Int -> Int -> Bool):D -> D -> Option D
 | .int i,.int j => some (.bl (f i j))
 | _,_ => none
theorem dI_inv {c:Int -> Int -> Bool} {f:Int -> Int -> Int} {d₁ d₂ z:D} (h:dI c f d₁ d₂ = some z):∃ i j,d₁ = .int i /\ d₂ = .int j /\ c i j = true /\ z = .int (f i j):=by
 unfold dI at h
 split at h
 ·split at h
  ·cases h; exact ⟨_,_,rfl,rfl,‹_›,rfl⟩
  ·cases h
 ·cases h
theorem dB_inv {f:Int -> Int -> Bool} {d₁ d₂ z:D} (h:dB f d₁ d₂ = some z):∃ i j,d₁ = .int i /\ d₂ = .int j /\ z = .bl (f i j):=by
 unfold dB at h
 split at h
 ·cases h; exact ⟨_,_,rfl,rfl,rfl⟩
 ·cases h
theorem is_i {K:PySem.W.Frag} {α:List Addr} {F:Hp} {i:Int} {v:V} (h:Is K α F (.int i) v):v = .int i:=by rw [Is] at h; exact h
theorem opD_I {h:Value -> Value -> Sem Value} {P:Int -> Int -> Prop} {c:Int -> Int -> Bool} {k:Int -> Int -> Int} (ho:OpR X h (rI P fun i j => .int (k i j))) (hc:∀ i j,c i j = true -> P i j):OpD X C h (dI c k):=by
 rintro pins s σ H x y v u Q I rx ry ⟨e,Ω,d₁,d₂,z,eH,w,i1,i2,q,kk⟩
 obtain ⟨i,j,e1,e2,hcc,e3⟩:=dI_inv q
 rw [e1] at i1
 rw [e2] at i2
 refine ho pins s σ _ x y v u Q I rx ry ⟨i,j,is_i i1,is_i i2,hc i j hcc,?_⟩
 rw [<- eH]
 exact kk _ e (Ext.refl e) w (by rw [e3,Is])
theorem opD_I0 {h:Value -> Value -> Sem Value} {k:Int -> Int -> Int} (ho:OpR X h (rI0 fun i j => .int (k i j))):OpD X C h (dI (fun _ _ => true) k):=by
 rintro pins s σ H x y v u Q I rx ry ⟨e,Ω,d₁,d₂,z,eH,w,i1,i2,q,kk⟩
 obtain ⟨i,j,e1,e2,hcc,e3⟩:=dI_inv q
 rw [e1] at i1
 rw [e2] at i2
 refine ho pins s σ _ x y v u Q I rx ry ⟨i,j,is_i i1,is_i i2,?_⟩
 rw [<- eH]
 exact kk _ e (Ext.refl e) w (by rw [e3,Is])
theorem opD_B {h:Value -> Value -> Sem Value} {k:Int -> Int -> Bool} (ho:OpR X h (rI0 fun i j => .bl (k i j))):OpD X C h (dB k):=by
 rintro pins s σ H x y v u Q I rx ry ⟨e,Ω,d₁,d₂,z,eH,w,i1,i2,q,kk⟩
 obtain ⟨i,j,e1,e2,e3⟩:=dB_inv q
 rw [e1] at i1
 rw [e2] at i2
 refine ho pins s σ _ x y v u Q I rx ry ⟨i,j,is_i i1,is_i i2,?_⟩
 rw [<- eH]
 exact kk _ e (Ext.refl e) w (by rw [e3,Is])
end
end DL
namespace DL
open PySem PySem.Spec PyProof.Rows L2
noncomputable abbrev big:Nat:=100000
theorem big_line {n:Nat} (h:n <= big):n <= sizeLine:=Nat.le_trans h (by decide)
theorem big_lt {n:Nat} (h:n < big):n < sizeLine:=Nat.lt_of_lt_of_le h (by decide)
open Classical in
noncomputable def grd {β:Type} (P:Prop) (x:Option β):Option β:=if P then x else none
theorem grd_pos {β:Type} {P:Prop} {x:Option β} (h:P):grd P x = x:=if_pos h
theorem grd_some {β:Type} {P:Prop} {x:Option β} {z:β} (h:grd P x = some z):P /\ x = some z:=by
 by_cases q:P
 ·rw [grd_pos q] at h; exact ⟨q,h⟩
 ·have e:grd P x = none:=if_neg q
  rw [e] at h; cases h
section
variable {X:Cx} {C:Cl} {a b c x:Expr} {f g h:Den} {r:D -> D -> Option D} {pos:Pos}
noncomputable def addD:D -> D -> Option D
 | .int i,.int j => some (.int (i + j))
 | .lst xs,.lst ys => if xs.length + ys.length <= big then some (.lst (xs ++ ys)) else none
 | .str p,.str q => if p.length + q.length <= big then some (.str (p ++ q)) else none
 | _,_ => none
theorem add_inv {d₁ d₂ z:D} (q:addD d₁ d₂ = some z):(∃ i j,d₁ = .int i /\ d₂ = .int j /\ z = .int (i + j)) \/ (∃ xs ys,d₁ = .lst xs /\ d₂ = .lst ys /\ xs.length + ys.length <= big /\ z = .lst (xs ++ ys)) \/
  ∃ xs ys,d₁ = .str xs /\ d₂ = .str ys /\ xs.length + ys.length <= big /\ z = .str (xs ++ ys):=by
 unfold addD at q
 split at q
 ·cases q; exact .inl ⟨_,_,rfl,rfl,rfl⟩
 ·split at q
  ·cases q; exact .inr (.inl ⟨_,_,rfl,rfl,‹_›,rfl⟩)
  ·cases q
 ·split at q
  ·cases q; exact .inr (.inr ⟨_,_,rfl,rfl,‹_›,rfl⟩)
  ·cases q
 ·cases q
theorem opD_add:OpD X C (binaryOp .Add) addD:=by
 intro pins s σ H x y v u Q I rx ry hw
 obtain ⟨e,Ω,d₁,d₂,z,eH,w,i1,i2,q,kk⟩:=hw
 subst eH
 rcases add_inv q with ⟨i,j,rfl,rfl,rfl⟩ | ⟨xs,ys,rfl,rfl,hl,rfl⟩ | ⟨i,j,rfl,rfl,hl,rfl⟩
 ·rw [Is] at i1 i2
  subst i1 i2
  exact op_add pins s σ _ _ _ v u Q I rx ry ⟨i,j,rfl,rfl,kk _ e (Ext.refl e) w (by rw [Is])⟩
 ·rw [Is] at i1 i2
  obtain ⟨l,vs,rfl,h1,r1⟩:=i1
  obtain ⟨m,us,rfl,h2,r2⟩:=i2
  refine op_cat pins s σ _ _ _ v u Q I rx ry ⟨l,m,vs,us,rfl,rfl,w.fh _ _ h1,w.fh _ _ h2,by rw [<- r1.length,<- r2.length]; exact big_line hl,fun p hp => ?_⟩
  refine kk _ (e.new p _) (w.new_ext hp) (w.new hp) ?_
  rw [Is]
  exact ⟨p,_,rfl,upd_same,(r1.append r2).ext (w.new_ext hp)⟩
 ·rw [Is] at i1 i2
  subst i1 i2
  exact op_add_str pins s σ _ _ _ v u Q I rx ry ⟨i,j,rfl,rfl,big_line hl,kk _ e (Ext.refl e) w (by rw [Is])⟩
noncomputable def mulD:D -> D -> Option D
 | .int i,.int j => grd ((-(2 ^ 64) < i /\ i < 2 ^ 64) \/ (-(2 ^ 64) < j /\ j < 2 ^ 64)) (some (.int (i * j)))
 | .lst xs,.int k => grd (-(2 ^ 62) <= k /\ k < 2 ^ 62 /\ xs.length * k.toNat <= big) (some (.lst (List.replicate k.toNat xs).flatten))
 | _,_ => none
theorem mul_inv {d₁ d₂ z:D} (q:mulD d₁ d₂ = some z):(∃ i j,d₁ = .int i /\ d₂ = .int j /\ ((-(2 ^ 64) < i /\ i < 2 ^ 64) \/ (-(2 ^ 64) < j /\ j < 2 ^ 64)) /\ z = .int (i * j)) \/
  ∃ xs k,d₁ = .lst xs /\ d₂ = .int k /\ (-(2 ^ 62) <= k /\ k < 2 ^ 62 /\ xs.length * k.toNat <= big) /\ z = .lst (List.replicate k.toNat xs).flatten:=by
 unfold mulD at q
 split at q
 ·obtain ⟨hl,q⟩:=grd_some q; cases q; exact .inl ⟨_,_,rfl,rfl,hl,rfl⟩
 ·obtain ⟨hl,q⟩:=grd_some q; cases q; exact .inr ⟨_,_,rfl,rfl,hl,rfl⟩
 ·cases q
theorem opD_mul:OpD X C (binaryOp .Mult) mulD:=by
 intro pins s σ H x y v u Q I rx ry hw
 obtain ⟨e,Ω,d₁,d₂,z,eH,w,i1,i2,q,kk⟩:=hw
 subst eH
 rcases mul_inv q with ⟨i,j,rfl,rfl,hl,rfl⟩ | ⟨xs,k,rfl,rfl,hl,rfl⟩
 ·rw [Is] at i1 i2
  subst i1 i2
  exact op_mul pins s σ _ _ _ v u Q I rx ry ⟨i,j,rfl,rfl,hl,kk _ e (Ext.refl e) w (by rw [Is])⟩
 ·rw [Is] at i1
  rw [Is] at i2
  obtain ⟨l,vs,rfl,h1,r1⟩:=i1
  subst i2
  refine op_rep pins s σ _ _ _ v u Q I rx ry ⟨l,k,vs,rfl,rfl,w.fh _ _ h1,by omega,by omega,by rw [<- r1.length]; exact big_line hl.2.2,fun p hp => ?_⟩
  refine kk _ (e.new p _) (w.new_ext hp) (w.new hp) ?_
  rw [Is]
  exact ⟨p,_,rfl,upd_same,(r1.rep _).ext (w.new_ext hp)⟩
noncomputable abbrev subD:D -> D -> Option D:=dI (fun _ _ => true) fun i j => i - j
theorem opD_sub:OpD X C (binaryOp .Sub) subD:=opD_I0 op_sub
noncomputable abbrev modD:D -> D -> Option D:=dI (fun _ j => decide (0 < j)) fun i j => i % j
theorem opD_mod:OpD X C (binaryOp .Mod) modD:=opD_I op_mod fun _ _ h => of_decide_eq_true h
noncomputable abbrev divD:D -> D -> Option D:=dI (fun _ j => decide (0 < j) && decide (j < 1073741824)) fun i j => i / j
theorem opD_div:OpD X C (binaryOp .FloorDiv) divD:=opD_I op_fdiv fun _ _ h => by
 rw [Bool.and_eq_true,decide_eq_true_eq,decide_eq_true_eq] at h
 exact h
noncomputable abbrev powD:D -> D -> Option D:=dI (fun i j => decide (0 <= j) && decide (j <= 1000000) && decide (i.natAbs < 2 ^ 64)) fun i j => i ^ j.toNat
theorem opD_pow:OpD X C (binaryOp .Pow) powD:=opD_I op_pow fun _ _ h => by
 rw [Bool.and_eq_true,Bool.and_eq_true,decide_eq_true_eq,decide_eq_true_eq,decide_eq_true_eq] at h
 exact ⟨h.1.1,h.1.2,h.2⟩
noncomputable abbrev ltD:D -> D -> Option D:=dB fun i j => decide (i < j)
theorem opD_lt:OpD X C (compareOp .Lt) ltD:=opD_B op_lt
noncomputable abbrev leD:D -> D -> Option D:=dB fun i j => decide (i <= j)
theorem opD_le:OpD X C (compareOp .LtE) leD:=opD_B op_le
noncomputable abbrev gtD:D -> D -> Option D:=dB fun i j => decide (j < i)
theorem opD_gt:OpD X C (compareOp .Gt) gtD:=opD_B op_gt
mutual
noncomputable def toP:D -> PyData
 | .non => .none
 | .bl b => .bool b
 | .int i => .int i
 | .str x => .str x
 | .tup xs => .tuple (toPs xs)
 | .lst xs => .list (toPs xs)
 | .scr ns => .list (ns.map PyData.int)
 | .obj _ => .dict []
 | .mt _ => .dict []
noncomputable def toPs:List D -> List PyData
 | [] => []
 | d :: ds => toP d :: toPs ds
end
end
section
variable {X:Cx} {pins:List (Addr × Obj)} {σ:St} {H:Hp} {s:Shared} {K:PySem.W.Frag} {α:List Addr} {F:Hp}
mutual
theorem reads_of (I:Inv X pins σ H s) (hK:K = X.K) (ff:Same F H):∀ (d:D) {v:V} {u:Value},(toP d).canLay0 = true -> Is K α F d v -> RelV v u -> ∃ as,Reads s.heap u (toP d) as
 | .non,v,u,_,h,r => by
  rw [Is] at h; subst h; cases (show u = Value.none from r); rw [toP]; exact ⟨_,.none⟩
 | .bl b,v,u,_,h,r => by
  rw [Is] at h; subst h; cases (show u = Value.bool b from r); rw [toP]; exact ⟨_,.bool b⟩
 | .int i,v,u,_,h,r => by
  rw [Is] at h; subst h; obtain ⟨t,q⟩:=(show ∃ t,u = Value.int i t from r); subst q; rw [toP]; exact ⟨_,.int i t⟩
 | .str x,v,u,_,h,r => by
  rw [Is] at h; subst h; obtain ⟨t,q⟩:=(show ∃ t,u = Value.str x t from r); subst q; rw [toP]; exact ⟨_,.str x t⟩
 | .tup xs,v,u,hc,h,r => by
  rw [Is] at h
  obtain ⟨a,vs,rfl,e,q⟩:=h
  cases (show u = Value.ref a from r)
  obtain ⟨_,its,rv,o,e1,e2,n,e3⟩:=(show ObjOk X.prog X.w H s.heap a (.tup vs) from I.hok a _ (ff _ _ e))
  rw [toP] at hc ⊢
  obtain ⟨as,z⟩:=readsL_of I hK ff xs (by simpa [PyData.canLay0] using hc) q rv
  exact ⟨as,.tuple e1 e2 e3 (by simpa using z)⟩
 | .lst xs,v,u,hc,h,r => by
  rw [Is] at h
  obtain ⟨a,vs,rfl,e,q⟩:=h
  cases (show u = Value.ref a from r)
  obtain ⟨_,its,n,rv,e1⟩:=(show ObjOk X.prog X.w H s.heap a (.lst vs) from I.hok a _ (ff _ _ e))
  rw [toP] at hc ⊢
  obtain ⟨as,z⟩:=readsL_of I hK ff xs (by simpa [PyData.canLay0] using hc) q rv
  exact ⟨_,.list e1 rfl rfl (by simpa using z)⟩
 | .scr ns,v,u,hc,h,r => by
  rw [Is] at h
  obtain ⟨a,rfl,q⟩:=h
  cases (show u = Value.ref a from r)
  subst hK
  obtain ⟨its,rv,pl,_⟩:=I.list (ff.seq q)
  rw [toP]
  exact ⟨_,reads_newData pl.isList (PySem.W.ke_carried (intsAre_of rv))⟩
 | .obj n,v,u,hc,h,r => by rw [toP] at hc; simp [PyData.canLay0] at hc
 | .mt n,v,u,hc,h,r => by rw [toP] at hc; simp [PyData.canLay0] at hc
theorem readsL_of (I:Inv X pins σ H s) (hK:K = X.K) (ff:Same F H):∀ (ds:List D) {vs:List V} {us:List Value},PyData.canLayAll0 (toPs ds) = true -> IsL K α F ds vs -> Vals vs us -> ∃ as,ReadsAll s.heap us (toPs ds) as
 | [],vs,us,_,h,r => by
  rw [h.of_nil] at r; cases r; rw [toPs]; exact ⟨_,.nil⟩
 | d :: ds,vs,us,hc,h,r => by
  obtain ⟨v,t,rfl,h1,h2⟩:=h.of_cons
  cases r with
  | cons r1 r2 =>
   rw [toPs] at hc ⊢
   have hc':(toP d).canLay0 = true /\ PyData.canLayAll0 (toPs ds) = true:=by simpa [PyData.canLayAll0] using hc
   obtain ⟨as,z1⟩:=reads_of I hK ff d hc'.1 h1 r1
   obtain ⟨bs,z2⟩:=readsL_of I hK ff ds hc'.2 h2 r2
   exact ⟨_,.cons z1 z2⟩
end
end
end DL
namespace DL
open PySem PySem.Spec PyProof.Rows L2
section
variable {X:Cx} {C:Cl} {a b c x:Expr} {f g h:Den} {r:D -> D -> Option D} {pos:Pos}
noncomputable def eqD (neg:Bool) (p q:D):Option D:=if SeqAt.shaped (toP p) && SeqAt.shaped (toP q) then some (.bl (if neg then !PyData.eqv (toP p) (toP q) else PyData.eqv (toP p) (toP q))) else none
theorem opD_eq (hu:X.A.units + 64 < cLine):OpD X C (compareOp .Eq) (eqD false):=by
 intro pins s σ H x y v u Q I rx ry hw
 obtain ⟨e,Ω,d₁,d₂,z,eH,w,i1,i2,q,kk⟩:=hw
 subst eH
 unfold eqD at q
 split at q
 ·rename_i hs
  rw [Bool.and_eq_true] at hs
  cases q
  obtain ⟨as,r1⟩:=reads_of I rfl w.fh d₁ (SeqAt.canLay_of_shaped hs.1) i1 rx
  obtain ⟨bs,r2⟩:=reads_of I rfl w.fh d₂ (SeqAt.canLay_of_shaped hs.2) i2 ry
  exact eq_dataH r1 r2 hs.1 hs.2 hu ⟨.bl _,e.H,I,rfl,kk _ e (Ext.refl e) w (by rw [Is]; rfl)⟩
 ·cases q
theorem opD_ne (hu:X.A.units + 64 < cLine):OpD X C (compareOp .NotEq) (eqD true):=by
 intro pins s σ H x y v u Q I rx ry hw
 obtain ⟨e,Ω,d₁,d₂,z,eH,w,i1,i2,q,kk⟩:=hw
 subst eH
 unfold eqD at q
 split at q
 ·rename_i hs
  rw [Bool.and_eq_true] at hs
  cases q
  obtain ⟨as,r1⟩:=reads_of I rfl w.fh d₁ (SeqAt.canLay_of_shaped hs.1) i1 rx
  obtain ⟨bs,r2⟩:=reads_of I rfl w.fh d₂ (SeqAt.canLay_of_shaped hs.2) i2 ry
  exact ne_dataH r1 r2 hs.1 hs.2 hu ⟨.bl _,e.H,I,rfl,kk _ e (Ext.refl e) w (by rw [Is]; rfl)⟩
 ·cases q
noncomputable def isNone:D -> Bool
 | .non => true
 | _ => false
noncomputable def othB:D -> Bool
 | .non => true
 | .int _ => true
 | .tup _ => true
 | .lst _ => true
 | _ => false
noncomputable def isB (neg p:Bool):D -> Option D
 | .bl q => some (.bl (if neg then !(q == p) else q == p))
 | d => if othB d then some (.bl neg) else none
noncomputable def isD (neg:Bool) (d:D):D -> Option D
 | .non => some (.bl (if neg then !isNone d else isNone d))
 | .bl p => isB neg p d
 | _ => none
theorem none_iff {K:PySem.W.Frag} {α:List Addr} {F:Hp} {d:D} {v:V} (h:Is K α F d v):decide (v = .non) = isNone d:=by
 cases d <;> rw [Is] at h
 ·subst h; rfl
 ·subst h; rfl
 ·subst h; rfl
 ·subst h; rfl
 ·obtain ⟨a,vs,rfl,_⟩:=h; rfl
 ·obtain ⟨a,vs,rfl,_⟩:=h; rfl
 ·obtain ⟨a,rfl,_⟩:=h; rfl
 ·obtain ⟨a,_,rfl⟩:=h; rfl
 ·obtain ⟨a,vs,rfl,_⟩:=h; rfl
theorem oth_val {K:PySem.W.Frag} {α:List Addr} {F:Hp} {d:D} {v:V} {u:Value} {p:Bool} (h:othB d = true) (i:Is K α F d v) (r:RelV v u):plainIs u (.bool p) = true /\ u ≠ .bool p:=by
 cases d with
 | non => rw [Is] at i; subst i; cases (show u = Value.none from r); exact ⟨rfl,fun z => by cases z⟩
 | int i' => rw [Is] at i; subst i; obtain ⟨t,rfl⟩:=(show ∃ t,u = Value.int i' t from r); exact ⟨rfl,fun z => by cases z⟩
 | tup _ => rw [Is] at i; obtain ⟨l,vs,rfl,_⟩:=i; cases (show u = Value.ref l from r); exact ⟨rfl,fun z => by cases z⟩
 | lst _ => rw [Is] at i; obtain ⟨l,vs,rfl,_⟩:=i; cases (show u = Value.ref l from r); exact ⟨rfl,fun z => by cases z⟩
 | _ => cases h
theorem isB_inv {neg p:Bool} {d z:D} (q:isB neg p d = some z):(∃ r,d = .bl r /\ z = .bl (if neg then !(r == p) else r == p)) \/ (othB d = true /\ z = .bl neg):=by
 unfold isB at q
 split at q
 ·cases q; exact .inl ⟨_,rfl,rfl⟩
 ·split at q
  ·cases q; exact .inr ⟨‹_›,rfl⟩
  ·cases q
theorem isD_inv {neg:Bool} {d₁ d₂ z:D} (q:isD neg d₁ d₂ = some z):(d₂ = .non /\ z = .bl (if neg then !isNone d₁ else isNone d₁)) \/ ∃ p,d₂ = .bl p /\ isB neg p d₁ = some z:=by
 unfold isD at q
 split at q
 ·cases q; exact .inl ⟨rfl,rfl⟩
 ·exact .inr ⟨_,rfl,q⟩
 ·cases q
theorem beq_bools (p r:Bool):(Value.bool p == Value.bool r) = (p == r):=by cases p <;> cases r <;> rfl
theorem opD_is:OpD X C (compareOp .Is) (isD false):=by
 intro pins s σ H x y v u Q I rx ry hw
 obtain ⟨e,Ω,d₁,d₂,z,eH,w,i1,i2,q,kk⟩:=hw
 subst eH
 rcases isD_inv q with ⟨rfl,rfl⟩ | ⟨p,rfl,q⟩
 ·rw [Is] at i2
  subst i2
  refine op_isN pins s σ _ _ _ v u Q I rx ry ⟨rfl,?_⟩
  rw [none_iff i1]
  exact kk _ e (Ext.refl e) w (by rw [Is]; rfl)
 ·rw [Is] at i2
  subst i2
  cases (show u = Value.bool p from ry)
  rcases isB_inv q with ⟨r,rfl,rfl⟩ | ⟨ho,rfl⟩
  ·rw [Is] at i1
   subst i1
   cases (show v = Value.bool r from rx)
   refine wpAny_is_plain rfl ?_
   rw [beq_bools]
   exact ⟨.bl _,e.H,I,rfl,kk _ e (Ext.refl e) w (by rw [Is]; rfl)⟩
  ·obtain ⟨h1,h2⟩:=oth_val (p:=p) ho i1 rx
   exact wpAny_is_other h1 h2 ⟨.bl _,e.H,I,rfl,kk _ e (Ext.refl e) w (by rw [Is])⟩
theorem opD_isnot:OpD X C (compareOp .IsNot) (isD true):=by
 intro pins s σ H x y v u Q I rx ry hw
 obtain ⟨e,Ω,d₁,d₂,z,eH,w,i1,i2,q,kk⟩:=hw
 subst eH
 rcases isD_inv q with ⟨rfl,rfl⟩ | ⟨p,rfl,q⟩
 ·rw [Is] at i2
  subst i2
  refine op_notN pins s σ _ _ _ v u Q I rx ry ⟨rfl,?_⟩
  rw [none_iff i1]
  exact kk _ e (Ext.refl e) w (by rw [Is]; rfl)
 ·rw [Is] at i2
  subst i2
  cases (show u = Value.bool p from ry)
  rcases isB_inv q with ⟨r,rfl,rfl⟩ | ⟨ho,rfl⟩
  ·rw [Is] at i1
   subst i1
   cases (show v = Value.bool r from rx)
   refine wpAny_isNot_plain rfl ?_
   rw [beq_bools]
   exact ⟨.bl _,e.H,I,rfl,kk _ e (Ext.refl e) w (by rw [Is]; rfl)⟩
  ·obtain ⟨h1,h2⟩:=oth_val (p:=p) ho i1 rx
   exact wpAny_isNot_other h1 h2 ⟨.bl _,e.H,I,rfl,kk _ e (Ext.refl e) w (by rw [Is])⟩
noncomputable def gAndT (p q:TDen):TDen:=fun ρ Ω => match p ρ Ω with
 | some (true,Ω') => q ρ Ω'
 | some (false,Ω') => some (false,Ω')
 | none => none
noncomputable def gOrT (p q:TDen):TDen:=fun ρ Ω => match p ρ Ω with
 | some (true,Ω') => some (true,Ω')
 | some (false,Ω') => q ρ Ω'
 | none => none
noncomputable def gNotT (p:TDen):TDen:=fun ρ Ω => match p ρ Ω with
 | some (k,Ω') => some (!k,Ω')
 | none => none
variable {p q:TDen} {rest:List Expr}
theorem and_read {K:PySem.W.Frag} {σ:St} {H:Hp} {Q:Bool -> Hp -> Prop} (hw:tDT K C (gAndT p q) σ H Q):tAnd (tDT K C p) (tDT K C q) σ H Q:=by
 obtain ⟨e,Ω,ρ,k,Ω',eH,w,rl,e1,kk⟩:=hw
 unfold gAndT at e1
 cases e2:p ρ Ω with
 | none => rw [e2] at e1; cases e1
 | some z =>
  obtain ⟨k1,Ω1⟩:=z
  rw [e2] at e1
  refine ⟨e,Ω,ρ,k1,Ω1,eH,w,rl,e2,fun e' x' w' => ?_⟩
  cases k1 with
  | true =>
   rw [if_pos rfl]
   exact ⟨e',Ω1,ρ,k,Ω',rfl,w',rl.ext x',e1,fun e'' x'' w'' => kk e'' (x'.trans x'') w''⟩
  | false =>
   rw [if_neg (by decide)]
   cases e1
   exact kk e' x' w'
theorem or_read {K:PySem.W.Frag} {σ:St} {H:Hp} {Q:Bool -> Hp -> Prop} (hw:tDT K C (gOrT p q) σ H Q):tOr (tDT K C p) (tDT K C q) σ H Q:=by
 obtain ⟨e,Ω,ρ,k,Ω',eH,w,rl,e1,kk⟩:=hw
 unfold gOrT at e1
 cases e2:p ρ Ω with
 | none => rw [e2] at e1; cases e1
 | some z =>
  obtain ⟨k1,Ω1⟩:=z
  rw [e2] at e1
  refine ⟨e,Ω,ρ,k1,Ω1,eH,w,rl,e2,fun e' x' w' => ?_⟩
  cases k1 with
  | true =>
   rw [if_pos rfl]
   cases e1
   exact kk e' x' w'
  | false =>
   rw [if_neg (by decide)]
   exact ⟨e',Ω1,ρ,k,Ω',rfl,w',rl.ext x',e1,fun e'' x'' w'' => kk e'' (x'.trans x'') w''⟩
theorem pdw_and1 (ha:PDT X C a p):PDW X C (.BoolOp .And [a] pos) p:=pw_and1 ha
theorem pdw_or1 (ha:PDT X C a p):PDW X C (.BoolOp .Or [a] pos) p:=pw_or1 ha
theorem pdw_and (ha:PDT X C a p) (hb:PDW X C (.BoolOp .And (b :: rest) pos) q):PDW X C (.BoolOp .And (a :: b :: rest) pos) (gAndT p q):=pw_imp (pw_and ha hb) fun _ _ _ h => and_read h
theorem pdw_or (ha:PDT X C a p) (hb:PDW X C (.BoolOp .Or (b :: rest) pos) q):PDW X C (.BoolOp .Or (a :: b :: rest) pos) (gOrT p q):=pw_imp (pw_or ha hb) fun _ _ _ h => or_read h
theorem PDW.pt (h:PDW X C x p):PDT X C x p:=PW.pt h
theorem pdt_not (ha:PDT X C a p):PDT X C (.UnaryOp .Not a pos) (gNotT p):=pt_imp (pt_not ha) fun σ H Q hw' => by
 obtain ⟨e,Ω,ρ,k,Ω',eH,w,rl,e1,kk⟩:=hw'
 unfold gNotT at e1
 cases e2:p ρ Ω with
 | none => rw [e2] at e1; cases e1
 | some z =>
  obtain ⟨k1,Ω1⟩:=z
  rw [e2] at e1
  cases e1
  exact ⟨e,Ω,ρ,k1,_,eH,w,rl,e2,kk⟩
noncomputable def gAndV (f g:Den):Den:=fun ρ Ω => match f ρ Ω with
 | some (.bl true,Ω') => g ρ Ω'
 | some (.bl false,Ω') => some (.bl false,Ω')
 | _ => none
noncomputable def gNotV (f:Den):Den:=fun ρ Ω => match f ρ Ω with
 | some (.bl k,Ω') => some (.bl (!k),Ω')
 | _ => none
theorem pd_one {op} (h:PD X C a f):PD X C (.BoolOp op [a] pos) f:=pe_one h
theorem pd_and (ha:PD X C a f) (hb:PD X C (.BoolOp .And (b :: rest) pos) g):PD X C (.BoolOp .And (a :: b :: rest) pos) (gAndV f g):=pe_imp (pe_and ha hb) fun σ H Q hw' => by
 obtain ⟨e,Ω,ρ,d,Ω',eH,w,rl,e1,kk⟩:=hw'
 unfold gAndV at e1
 cases e2:f ρ Ω with
 | none => rw [e2] at e1; cases e1
 | some z =>
  obtain ⟨d1,Ω1⟩:=z
  rw [e2] at e1
  refine ⟨e,Ω,ρ,d1,Ω1,eH,w,rl,e2,fun v e' x' w' i' => ?_⟩
  cases d1 with
  | bl k1 =>
   rw [Is] at i'
   refine ⟨k1,i',?_⟩
   cases k1 with
   | true =>
    rw [if_pos rfl]
    exact ⟨e',Ω1,ρ,d,Ω',rfl,w',rl.ext x',e1,fun v e'' x'' w'' => kk v e'' (x'.trans x'') w''⟩
   | false =>
    rw [if_neg (by decide)]
    cases e1
    exact kk _ e' x' w' (by rw [Is])
  | _ => cases e1
theorem pd_not (ha:PD X C a f):PD X C (.UnaryOp .Not a pos) (gNotV f):=pe_imp (pe_not ha) fun σ H Q hw' => by
 obtain ⟨e,Ω,ρ,d,Ω',eH,w,rl,e1,kk⟩:=hw'
 unfold gNotV at e1
 cases e2:f ρ Ω with
 | none => rw [e2] at e1; cases e1
 | some z =>
  obtain ⟨d1,Ω1⟩:=z
  rw [e2] at e1
  refine ⟨e,Ω,ρ,d1,Ω1,eH,w,rl,e2,fun v e' x' w' i' => ?_⟩
  cases d1 with
  | bl k1 =>
   rw [Is] at i'
   cases e1
   exact ⟨k1,i',kk _ e' x' w' (by rw [Is])⟩
  | _ => cases e1
noncomputable def gIf (p:TDen) (f g:Den):Den:=fun ρ Ω => match p ρ Ω with
 | some (true,Ω') => f ρ Ω'
 | some (false,Ω') => g ρ Ω'
 | none => none
theorem pd_if (hc:PDT X C c p) (ha:PD X C a f) (hb:PD X C b g):PD X C (.IfExp c a b pos) (gIf p f g):=pe_imp (pe_ifExp hc ha hb) fun σ H Q hw' => by
 obtain ⟨e,Ω,ρ,d,Ω',eH,w,rl,e1,kk⟩:=hw'
 unfold gIf at e1
 cases e2:p ρ Ω with
 | none => rw [e2] at e1; cases e1
 | some z =>
  obtain ⟨k1,Ω1⟩:=z
  rw [e2] at e1
  refine ⟨e,Ω,ρ,k1,Ω1,eH,w,rl,e2,fun e' x' w' => ?_⟩
  cases k1 with
  | true =>
   rw [if_pos rfl]
   exact ⟨e',Ω1,ρ,d,Ω',rfl,w',rl.ext x',e1,fun v e'' x'' w'' => kk v e'' (x'.trans x'') w''⟩
  | false =>
   rw [if_neg (by decide)]
   exact ⟨e',Ω1,ρ,d,Ω',rfl,w',rl.ext x',e1,fun v e'' x'' w'' => kk v e'' (x'.trans x'') w''⟩
noncomputable def gChain (r r':D -> D -> Option D) (f g h:Den):Den:=fun ρ Ω => match f ρ Ω with
 | some (x,Ω1) => match g ρ Ω1 with
  | some (y,Ω2) => match r x y with
   | some (.bl true) => match h ρ Ω2 with
    | some (z,Ω3) => match r' y z with
     | some d => some (d,Ω3)
     | none => none
    | none => none
   | some (.bl false) => some (.bl false,Ω2)
   | _ => none
  | none => none
 | none => none
theorem chain_read {K:PySem.W.Frag} {r r':D -> D -> Option D} {R R':R2}
  (hr:∀ x y H Q,(∃ e Ω d₁ d₂ z,e.H = H /\ Wf K C e Ω /\ Is K e.α e.F d₁ x /\ Is K e.α e.F d₂ y /\ r d₁ d₂ = some z /\ ∀ v e',Ext e e' -> Wf K C e' Ω -> Is K e'.α e'.F z v -> Q v e'.H) -> R x y H Q)
  (hr':∀ x y H Q,(∃ e Ω d₁ d₂ z,e.H = H /\ Wf K C e Ω /\ Is K e.α e.F d₁ x /\ Is K e.α e.F d₂ y /\ r' d₁ d₂ = some z /\ ∀ v e',Ext e e' -> Wf K C e' Ω -> Is K e'.α e'.F z v -> Q v e'.H) -> R' x y H Q)
  {σ:St} {H:Hp} {Q:VK} (hw:tD K C (gChain r r' f g h) σ H Q):tChain R R' (tD K C f) (tD K C g) (tD K C h) σ H Q:=by
 obtain ⟨e,Ω,ρ,d,Ω',eH,w,rl,q,k⟩:=hw
 unfold gChain at q
 cases q1:f ρ Ω with
 | none => rw [q1] at q; cases q
 | some p1 =>
  obtain ⟨x,Ω₁⟩:=p1
  rw [q1] at q
  dsimp only at q
  cases q2:g ρ Ω₁ with
  | none => rw [q2] at q; cases q
  | some p2 =>
   obtain ⟨y,Ω₂⟩:=p2
   rw [q2] at q
   dsimp only at q
   refine ⟨e,Ω,ρ,x,Ω₁,eH,w,rl,q1,fun v e1 x1 w1 i1 => ?_⟩
   refine ⟨e1,Ω₁,ρ,y,Ω₂,rfl,w1,rl.ext x1,q2,fun u e2 x2 w2 i2 => ?_⟩
   cases q3:r x y with
   | none => rw [q3] at q; cases q
   | some z =>
    rw [q3] at q
    refine hr _ _ _ _ ⟨e2,Ω₂,x,y,z,rfl,w2,i1.ext x2,i2,q3,fun v' e3 x3 w3 i3 => ?_⟩
    cases z with
    | bl k1 =>
     rw [Is] at i3
     refine ⟨k1,i3,?_⟩
     cases k1 with
     | true =>
      dsimp only at q
      rw [if_pos rfl]
      cases q4:h ρ Ω₂ with
      | none => rw [q4] at q; cases q
      | some p4 =>
       obtain ⟨z4,Ω₃⟩:=p4
       rw [q4] at q
       dsimp only at q
       cases q5:r' y z4 with
       | none => rw [q5] at q; cases q
       | some d5 =>
        rw [q5] at q
        cases q
        refine ⟨e3,Ω₂,ρ,z4,_,rfl,w3,(rl.ext x1).ext (x2.trans x3),q4,fun v4 e4 x4 w4 i4 => ?_⟩
        exact hr' _ _ _ _ ⟨e4,_,y,z4,_,rfl,w4,(i2.ext x3).ext x4,i4,q5,fun v5 e5 x5 w5 i5 => k v5 e5 ((((x1.trans x2).trans x3).trans x4).trans x5) w5 i5⟩
     | false =>
      rw [if_neg (by decide)]
      cases q
      exact k _ e3 ((x1.trans x2).trans x3) w3 (by rw [Is])
    | _ => cases q
theorem pdt_chain {op op':CmpOp} {r r':D -> D -> Option D} (ho:OpD X C (compareOp op) r) (ho':OpD X C (compareOp op') r') (ha:PD X C a f) (hb:PD X C b g) (hc:PD X C c h)
  (hm:lastMarks [op,op'] [b,c] = false:=by with_unfolding_all rfl):PDT X C (.Compare a [op,op'] [b,c] pos) (gT (gChain r r' f g h)) :=
 pt_imp (pt_chain ho ho' ha hb hc hm) fun _ _ _ hw => chain_read (fun _ _ _ _ z => z) (fun _ _ _ _ z => z) (gT_read hw)
end
end DL
namespace DL
open PySem PySem.Spec PyProof.Rows L2
section
variable {X:Cx} {C:Cl} {a b c x:Expr} {es:List Expr} {f g h:Den} {ga:ADen} {pos:Pos}
noncomputable def gNil:ADen:=fun _ Ω => some ([],Ω)
noncomputable def gCons (f:Den) (g:ADen):ADen:=fun ρ Ω => match f ρ Ω with
 | some (d,Ω1) => match g ρ Ω1 with
  | some (ds,Ω2) => some (d :: ds,Ω2)
  | none => none
 | none => none
theorem pda_nil:PDA X C [] gNil:=pa_imp pa_nil fun σ H Q hw' => by
 obtain ⟨e,Ω,ρ,ds,Ω',eH,w,rl,e1,kk⟩:=hw'
 subst eH
 cases e1
 exact kk [] e (Ext.refl e) w .nil
theorem pda_cons (ha:PD X C x f) (hr:PDA X C es ga) (hs:starEach (x :: es) X.env = (false,eval x X.env) :: starEach es X.env:=by rfl):PDA X C (x :: es) (gCons f ga) :=
 pa_imp (pa_cons ha hr hs) fun σ H Q hw' => by
  obtain ⟨e,Ω,ρ,ds,Ω',eH,w,rl,e1,kk⟩:=hw'
  unfold gCons at e1
  cases q1:f ρ Ω with
  | none => rw [q1] at e1; cases e1
  | some p1 =>
   obtain ⟨d,Ω1⟩:=p1
   rw [q1] at e1
   dsimp only at e1
   cases q2:ga ρ Ω1 with
   | none => rw [q2] at e1; cases e1
   | some p2 =>
    obtain ⟨ds',Ω2⟩:=p2
    rw [q2] at e1
    cases e1
    refine ⟨e,Ω,ρ,d,Ω1,eH,w,rl,q1,fun v e' x' w' i' => ?_⟩
    exact ⟨e',Ω1,ρ,ds',_,rfl,w',rl.ext x',q2,fun vs e'' x'' w'' i'' => kk _ e'' (x'.trans x'') w'' (.cons (i'.ext x'') i'')⟩
noncomputable def gTup (g:ADen):Den:=fun ρ Ω => match g ρ Ω with
 | some (ds,Ω') => if ds.length <= big then some (.tup ds,Ω') else none
 | none => none
noncomputable def gLst (g:ADen):Den:=fun ρ Ω => match g ρ Ω with
 | some (ds,Ω') => if ds.length <= big then some (.lst ds,Ω') else none
 | none => none
theorem pd_tup {x1} (ha:PDA X C es ga):PD X C (.Tuple es x1 pos) (gTup ga):=pe_imp (pe_tup ha) fun σ H Q hw' => by
 obtain ⟨e,Ω,ρ,d,Ω',eH,w,rl,e1,kk⟩:=hw'
 unfold gTup at e1
 cases q1:ga ρ Ω with
 | none => rw [q1] at e1; cases e1
 | some p1 =>
  obtain ⟨ds,Ω1⟩:=p1
  rw [q1] at e1
  dsimp only at e1
  split at e1
  ·rename_i hl
   cases e1
   refine ⟨e,Ω,ρ,ds,_,eH,w,rl,q1,fun vs e' x' w' i' => ⟨by rw [<- i'.length]; exact big_line hl,fun p hp => ?_⟩⟩
   refine kk _ (e'.new p (.tup vs)) (x'.trans (w'.new_ext hp)) (w'.new hp) ?_
   rw [Is]
   exact ⟨p,vs,rfl,upd_same,i'.ext (w'.new_ext hp)⟩
  ·cases e1
theorem pd_lst (ha:PDA X C es ga):PD X C (.List es pos) (gLst ga):=pe_imp (pe_lst ha) fun σ H Q hw' => by
 obtain ⟨e,Ω,ρ,d,Ω',eH,w,rl,e1,kk⟩:=hw'
 unfold gLst at e1
 cases q1:ga ρ Ω with
 | none => rw [q1] at e1; cases e1
 | some p1 =>
  obtain ⟨ds,Ω1⟩:=p1
  rw [q1] at e1
  dsimp only at e1
  split at e1
  ·rename_i hl
   cases e1
   refine ⟨e,Ω,ρ,ds,_,eH,w,rl,q1,fun vs e' x' w' i' => ⟨by rw [<- i'.length]; exact big_line hl,fun p hp => ?_⟩⟩
   refine kk _ (e'.new p (.lst vs)) (x'.trans (w'.new_ext hp)) (w'.new hp) ?_
   rw [Is]
   exact ⟨p,vs,rfl,upd_same,i'.ext (w'.new_ext hp)⟩
  ·cases e1
noncomputable def ixD:D -> D -> Option D
 | .lst xs,.int i => atI xs i
 | .tup xs,.int i => atI xs i
 | .scr ns,.int i => (atI ns i).map D.int
 | .str z,.int i => if z.length <= big then (atI z.cps.toList i).map fun c => D.str ⟨#[c]⟩ else none
 | _,_ => none
theorem atI_is {K:PySem.W.Frag} {α:List Addr} {F:Hp} {ds:List D} {vs:List V} {i:Int} {d:D} (r:IsL K α F ds vs) (h:atI ds i = some d):∃ v,atI vs i = some v /\ Is K α F d v:=by
 unfold atI at h ⊢
 rw [<- r.length]
 cases q:ixN ds.length i with
 | none => rw [q] at h; cases h
 | some j =>
  rw [q] at h
  exact r.get h
theorem ixD_read {K:PySem.W.Frag}:∀ x y H Q,(∃ e Ω d₁ d₂ z,e.H = H /\ Wf K C e Ω /\ Is K e.α e.F d₁ x /\ Is K e.α e.F d₂ y /\ ixD d₁ d₂ = some z /\ ∀ v e',Ext e e' -> Wf K C e' Ω -> Is K e'.α e'.F z v -> Q v e'.H) -> rIx K x y H Q:=by
 rintro x y H Q ⟨e,Ω,d₁,d₂,z,eH,w,i1,i2,q,kk⟩
 subst eH
 unfold ixD at q
 cases d₁ <;> cases d₂ <;> first | cases q | skip
 ·rename_i zz i
  dsimp only at q
  simp only [Is] at i1 i2
  subst i1 i2
  split at q
  ·rename_i hl
   cases e2:atI zz.cps.toList i with
   | none => rw [e2] at q; cases q
   | some c =>
    rw [e2] at q
    cases q
    exact .inr (.inr ⟨zz,i,c,rfl,rfl,big_line hl,e2,kk _ e (Ext.refl e) w (by rw [Is])⟩)
  ·cases q
 ·rename_i xs i
  simp only [Is] at i1 i2
  obtain ⟨p,vs,rfl,h1,r1⟩:=i1
  subst i2
  obtain ⟨v,e1,i3⟩:=atI_is r1 q
  exact .inr (.inl ⟨p,vs,i,v,rfl,rfl,SqT.of (w.fh _ _ h1),e1,kk v e (Ext.refl e) w i3⟩)
 ·rename_i xs i
  simp only [Is] at i1 i2
  obtain ⟨p,vs,rfl,h1,r1⟩:=i1
  subst i2
  obtain ⟨v,e1,i3⟩:=atI_is r1 q
  exact .inl ⟨p,vs,i,v,rfl,rfl,SqL.of (w.fh _ _ h1),e1,kk v e (Ext.refl e) w i3⟩
 ·rename_i ns i
  simp only [Is] at i1 i2
  obtain ⟨p,rfl,h1⟩:=i1
  subst i2
  dsimp only at q
  cases e2:atI ns i with
  | none => rw [e2] at q; cases q
  | some n =>
   rw [e2] at q
   cases q
   refine .inl ⟨p,ns.map V.int,i,.int n,rfl,rfl,w.fh.seq h1,?_,kk _ e (Ext.refl e) w (by rw [Is])⟩
   unfold atI at e2 ⊢
   rw [List.length_map]
   cases e3:ixN ns.length i with
   | none => rw [e3] at e2; cases e2
   | some j =>
    rw [e3] at e2
    show (ns.map V.int)[j]? = _
    rw [List.getElem?_map,show ns[j]? = some n from e2]
    rfl
theorem pd_ix (ha:PD X C a f) (hb:PD X C b g) (hs:PlainIx b:=by intro _ _; rfl):PD X C (.Subscript a b pos) (gOp ixD f g) :=
 pe_imp (pe_ix ix_seq ha hb hs) fun σ H Q hw => op_read ixD_read hw
noncomputable abbrev PDen:=List Sl -> List OS -> Option (Option Int × List OS)
noncomputable def gNoPart:PDen:=fun _ Ω => some (none,Ω)
noncomputable def gPart (g:Den):PDen:=fun ρ Ω => match g ρ Ω with
 | some (.int i,Ω') => some (some i,Ω')
 | _ => none
noncomputable def tDO (K:PySem.W.Frag) (C:Cl) (g:PDen):TO:=fun σ H Q => ∃ e Ω ρ o Ω',e.H = H /\ Wf K C e Ω /\ RelE K e σ ρ /\ g ρ Ω = some (o,Ω') /\ ∀ e',Ext e e' -> Wf K C e' Ω' -> Q o e'.H
noncomputable def PDO (X:Cx) (C:Cl) (e:Option Expr) (g:PDen):Prop:=PO X e (tDO X.K C g)
theorem po_imp {o:Option Expr} {t t':TO} (h:PO X o t) (i:∀ σ H Q,t' σ H Q -> t σ H Q):PO X o t':=fun pins s σ H Q I hw => h pins s σ H Q I (i σ H Q hw)
theorem pdo_none:PDO X C none gNoPart:=po_imp po_none fun σ H Q hw' => by
 obtain ⟨e,Ω,ρ,o,Ω',eH,w,rl,e1,kk⟩:=hw'
 subst eH
 cases e1
 exact kk e (Ext.refl e) w
theorem pdo_some (h:PD X C x g):PDO X C (some x) (gPart g):=po_imp (po_some h) fun σ H Q hw' => by
 obtain ⟨e,Ω,ρ,o,Ω',eH,w,rl,e1,kk⟩:=hw'
 unfold gPart at e1
 cases q1:g ρ Ω with
 | none => rw [q1] at e1; cases e1
 | some p1 =>
  obtain ⟨d,Ω1⟩:=p1
  rw [q1] at e1
  cases d with
  | int i =>
   cases e1
   refine ⟨e,Ω,ρ,_,_,eH,w,rl,q1,fun v e' x' w' i' => ?_⟩
   rw [Is] at i'
   exact ⟨i,i',kk e' x' w'⟩
  | _ => cases e1
noncomputable def cutL {β:Type} (xs:List β) (lo hi:Option Int):List β:=(xs.drop (HT.sIx xs.length 0 lo)).take (HT.sIx xs.length xs.length hi - HT.sIx xs.length 0 lo)
noncomputable def slD:D -> Option Int -> Option Int -> Option D
 | .lst xs,lo,hi => some (.lst (cutL xs lo hi))
 | .scr ns,lo,hi => some (.lst ((cutL ns lo hi).map D.int))
 | _,_,_ => none
noncomputable def gSl (f:Den) (lo hi:PDen):Den:=fun ρ Ω => match f ρ Ω with
 | some (d,Ω1) => match lo ρ Ω1 with
  | some (l,Ω2) => match hi ρ Ω2 with
   | some (u,Ω3) => match slD d l u with
    | some z => some (z,Ω3)
    | none => none
   | none => none
  | none => none
 | none => none
theorem pd_sl {lo hi:Option Expr} {gl gh:PDen} {p2:Pos} (ha:PD X C a f) (hl:PDO X C lo gl) (hh:PDO X C hi gh):PD X C (.Subscript a (.Slice lo hi none p2) pos) (gSl f gl gh) :=
 pe_imp (pe_slice sl_list ha hl hh) fun σ H Q hw' => by
  obtain ⟨e,Ω,ρ,d,Ω',eH,w,rl,e1,kk⟩:=hw'
  unfold gSl at e1
  cases q1:f ρ Ω with
  | none => rw [q1] at e1; cases e1
  | some p1 =>
   obtain ⟨d1,Ω1⟩:=p1
   rw [q1] at e1
   dsimp only at e1
   cases q2:gl ρ Ω1 with
   | none => rw [q2] at e1; cases e1
   | some p2 =>
    obtain ⟨l,Ω2⟩:=p2
    rw [q2] at e1
    dsimp only at e1
    cases q3:gh ρ Ω2 with
    | none => rw [q3] at e1; cases e1
    | some p3 =>
     obtain ⟨u,Ω3⟩:=p3
     rw [q3] at e1
     dsimp only at e1
     cases q4:slD d1 l u with
     | none => rw [q4] at e1; cases e1
     | some z =>
      rw [q4] at e1
      cases e1
      refine ⟨e,Ω,ρ,d1,Ω1,eH,w,rl,q1,fun v e' x' w' i' => ?_⟩
      refine ⟨e',Ω1,ρ,l,Ω2,rfl,w',rl.ext x',q2,fun e2 x2 w2 => ?_⟩
      refine ⟨e2,Ω2,ρ,u,_,rfl,w2,(rl.ext x').ext x2,q3,fun e3 x3 w3 => ?_⟩
      have i3:=i'.ext (x2.trans x3)
      unfold slD at q4
      cases d1 with
      | lst xs =>
       cases q4
       rw [Is] at i3
       obtain ⟨p,vs,rfl,h1,r1⟩:=i3
       refine ⟨p,vs,rfl,SqL.of (w3.fh _ _ h1),fun p' hp => ?_⟩
       refine kk _ (e3.new p' _) (((x'.trans x2).trans x3).trans (w3.new_ext hp)) (w3.new hp) ?_
       rw [Is]
       refine ⟨p',_,rfl,upd_same,?_⟩
       unfold cutL cutV
       rw [<- r1.length]
       exact ((r1.drop _).take _).ext (w3.new_ext hp)
      | scr ns =>
       cases q4
       rw [Is] at i3
       obtain ⟨p,rfl,h1⟩:=i3
       refine ⟨p,_,rfl,w3.fh.seq h1,fun p' hp => ?_⟩
       refine kk _ (e3.new p' _) (((x'.trans x2).trans x3).trans (w3.new_ext hp)) (w3.new hp) ?_
       rw [Is]
       refine ⟨p',_,rfl,upd_same,?_⟩
       unfold cutL cutV
       rw [List.length_map,List.map_take,List.map_drop]
       exact (((IsL.ints ns).drop _).take _)
      | _ => cases q4
noncomputable def CallD (X:Cx) (C:Cl) (f:Value) (r:List D -> Option D):Prop :=
 CallR X f fun xs H Q => ∃ e Ω ds z,e.H = H /\ Wf X.K C e Ω /\ IsL X.K e.α e.F ds xs /\ r ds = some z /\ ∀ v e',Ext e e' -> Wf X.K C e' Ω -> Is X.K e'.α e'.F z v -> Q v e'.H
noncomputable def gCB (r:List D -> Option D) (g:ADen):Den:=fun ρ Ω => match g ρ Ω with
 | some (ds,Ω1) => match r ds with
  | some z => some (z,Ω1)
  | none => none
 | none => none
theorem cb_read {K:PySem.W.Frag} {r:List D -> Option D} {σ:St} {H:Hp} {Q:VK} (hw:tD K C (gCB r ga) σ H Q) :
  tCB (fun xs H Q => ∃ e Ω ds z,e.H = H /\ Wf K C e Ω /\ IsL K e.α e.F ds xs /\ r ds = some z /\ ∀ v e',Ext e e' -> Wf K C e' Ω -> Is K e'.α e'.F z v -> Q v e'.H) (tDA K C ga) σ H Q:=by
 obtain ⟨e,Ω,ρ,d,Ω',eH,w,rl,e1,kk⟩:=hw
 unfold gCB at e1
 cases q1:ga ρ Ω with
 | none => rw [q1] at e1; cases e1
 | some p1 =>
  obtain ⟨ds,Ω1⟩:=p1
  rw [q1] at e1
  dsimp only at e1
  cases q2:r ds with
  | none => rw [q2] at e1; cases e1
  | some z =>
   rw [q2] at e1
   cases e1
   exact ⟨e,Ω,ρ,ds,_,eH,w,rl,q1,fun vs e' x' w' i' => ⟨e',_,ds,_,rfl,w',i',q2,fun v e'' x'' w'' => kk v e'' (x'.trans x'') w''⟩⟩
theorem pd_callB {id:String} {n:Str} {p:Pos} {r:List D -> Option D} (hc:CallD X C (.builtin id) r) (hg:Gl X n) (hm:X.mg n = none) (hv:bootBuiltins n = some (.builtin id)) (ha:PDA X C (x :: es) ga) (hn:n ≠ "__name__":=by decide) (hdb:(n == ("__debug__":Str)) = false:=by decide)
  (he:starEach (x :: es) X.env = (false,eval x X.env) :: starEach es X.env:=by rfl) (hpl:(backTo pos (starEach es X.env)).any (·.1) = false:=by rfl):PD X C (.Call (.Name n p) (x :: es) [] pos) (gCB r ga) :=
 pe_imp (pe_callB hc hg hm hv ha hn hdb he hpl) fun _ _ _ hw => cb_read hw
theorem pd_callTy {T:String} {n:Str} {p:Pos} {r:List D -> Option D} (hc:CallD X C (.type T) r) (hg:Gl X n) (hm:X.mg n = none) (hv:bootBuiltins n = some (.type T)) (ha:PDA X C (x :: es) ga) (hn:n ≠ "__name__":=by decide) (hdb:(n == ("__debug__":Str)) = false:=by decide)
  (he:starEach (x :: es) X.env = (false,eval x X.env) :: starEach es X.env:=by rfl) (hpl:(backTo pos (starEach es X.env)).any (·.1) = false:=by rfl):PD X C (.Call (.Name n p) (x :: es) [] pos) (gCB r ga) :=
 pe_imp (pe_callTy hc hg hm hv ha hn hdb he hpl) fun _ _ _ hw => cb_read hw
theorem isL_one {K:PySem.W.Frag} {α:List Addr} {F:Hp} {d:D} {vs:List V} (h:IsL K α F [d] vs):∃ v,vs = [v] /\ Is K α F d v:=by
 obtain ⟨v,r,rfl,i,t⟩:=h.of_cons
 rw [t.of_nil]
 exact ⟨v,rfl,i⟩
theorem isL_two {K:PySem.W.Frag} {α:List Addr} {F:Hp} {d d':D} {vs:List V} (h:IsL K α F [d,d'] vs):∃ v u,vs = [v,u] /\ Is K α F d v /\ Is K α F d' u:=by
 obtain ⟨v,r,rfl,i,t⟩:=h.of_cons
 obtain ⟨u,rfl,i2⟩:=isL_one t
 exact ⟨v,u,rfl,i,i2⟩
noncomputable def lenD:List D -> Option D
 | [.lst xs] => some (.int xs.length)
 | [.tup xs] => some (.int xs.length)
 | [.scr ns] => some (.int ns.length)
 | [.str z] => if z.length <= big then some (.int z.length) else none
 | _ => none
theorem callD_len:CallD X C (.builtin "len") lenD:=by
 intro pins s σ H xs us Q I r hw
 obtain ⟨e,Ω,ds,z,eH,w,i,q,kk⟩:=hw
 subst eH
 match ds,q with
 | [.lst ys],q =>
  obtain ⟨v,rfl,iv⟩:=isL_one i
  rw [Is] at iv
  obtain ⟨p,vs,rfl,h1,r1⟩:=iv
  cases q
  exact call_len_seq pins s σ _ _ us Q I r ⟨p,vs,rfl,.inl (SqL.of (w.fh _ _ h1)),kk _ e (Ext.refl e) w (by rw [Is,r1.length])⟩
 | [.tup ys],q =>
  obtain ⟨v,rfl,iv⟩:=isL_one i
  rw [Is] at iv
  obtain ⟨p,vs,rfl,h1,r1⟩:=iv
  cases q
  exact call_len_seq pins s σ _ _ us Q I r ⟨p,vs,rfl,.inr (SqT.of (w.fh _ _ h1)),kk _ e (Ext.refl e) w (by rw [Is,r1.length])⟩
 | [.scr ns],q =>
  obtain ⟨v,rfl,iv⟩:=isL_one i
  rw [Is] at iv
  obtain ⟨p,rfl,h1⟩:=iv
  cases q
  exact call_len_seq pins s σ _ _ us Q I r ⟨p,_,rfl,.inl (w.fh.seq h1),kk _ e (Ext.refl e) w (by rw [Is,List.length_map])⟩
 | [.str zz],q =>
  obtain ⟨v,rfl,iv⟩:=isL_one i
  rw [Is] at iv
  subst iv
  have q:(if zz.length <= big then some (D.int zz.length) else none) = some z:=q
  split at q
  ·rename_i hl
   cases q
   exact call_len_str pins s σ _ _ us Q I r ⟨zz,rfl,big_line hl,kk _ e (Ext.refl e) w (by rw [Is])⟩
  ·cases q
noncomputable def min2D:List D -> Option D
 | [.int i,.int j] => some (.int (if j < i then j else i))
 | _ => none
theorem callD_min (hc:X.calm = true):CallD X C (.builtin "min") min2D:=by
 intro pins s σ H xs us Q I r hw
 obtain ⟨e,Ω,ds,z,eH,w,i,q,kk⟩:=hw
 subst eH
 obtain ⟨k,j,rfl,rfl⟩:∃ k j,ds = [.int k,.int j] /\ z = .int (if j < k then j else k):=by
  unfold min2D at q
  split at q
  ·cases q; exact ⟨_,_,rfl,rfl⟩
  ·cases q
 ·obtain ⟨v,u,rfl,i1,i2⟩:=isL_two i
  rw [Is] at i1 i2
  subst i1 i2
  exact call_min2 hc pins s σ _ _ us Q I r ⟨k,j,rfl,kk _ e (Ext.refl e) w (by rw [Is])⟩
noncomputable def int1D:List D -> Option D
 | [.int i] => some (.int i)
 | [.bl k] => some (.int (if k then 1 else 0))
 | _ => none
theorem callD_int:CallD X C (.type "int") int1D:=by
 intro pins s σ H xs us Q I r hw
 obtain ⟨e,Ω,ds,z,eH,w,i,q,kk⟩:=hw
 subst eH
 match ds,q with
 | [.int k],q =>
  obtain ⟨v,rfl,iv⟩:=isL_one i
  rw [Is] at iv
  subst iv
  cases q
  exact call_int1 pins s σ _ _ us Q I r (.inl ⟨k,rfl,kk _ e (Ext.refl e) w (by rw [Is])⟩)
 | [.bl k],q =>
  obtain ⟨v,rfl,iv⟩:=isL_one i
  rw [Is] at iv
  subst iv
  cases q
  exact call_int1 pins s σ _ _ us Q I r (.inr ⟨k,rfl,kk _ e (Ext.refl e) w (by rw [Is])⟩)
noncomputable def str1D:List D -> Option D
 | [.int i] => grd (i.natAbs.log2 < 1920) (some (.str (toString i)))
 | _ => none
theorem callD_str:CallD X C (.type "str") str1D:=by
 intro pins s σ H xs us Q I r hw
 obtain ⟨e,Ω,ds,z,eH,w,i,q,kk⟩:=hw
 subst eH
 match ds,q with
 | [.int k],q =>
  obtain ⟨v,rfl,iv⟩:=isL_one i
  rw [Is] at iv
  subst iv
  obtain ⟨hl,q⟩:=grd_some (show grd (k.natAbs.log2 < 1920) (some (D.str (toString k))) = some z from q)
  cases q
  exact call_str_int pins s σ _ _ us Q I r ⟨k,rfl,hl,kk _ e (Ext.refl e) w (by rw [Is])⟩
noncomputable def list1D:List D -> Option D
 | [.lst xs] => some (.lst xs)
 | [.tup xs] => some (.lst xs)
 | [.scr ns] => some (.lst (ns.map D.int))
 | _ => none
theorem callD_list:CallD X C (.type "list") list1D:=by
 intro pins s σ H xs us Q I r hw
 obtain ⟨e,Ω,ds,z,eH,w,i,q,kk⟩:=hw
 subst eH
 match ds,q with
 | [.lst ys],q =>
  obtain ⟨v,rfl,iv⟩:=isL_one i
  rw [Is] at iv
  obtain ⟨p,vs,rfl,h1,r1⟩:=iv
  cases q
  refine call_list_of pins s σ _ _ us Q I r ⟨p,vs,rfl,.inl (SqL.of (w.fh _ _ h1)),fun l hl => kk _ (e.new l _) (w.new_ext hl) (w.new hl) ?_⟩
  rw [Is]
  exact ⟨l,vs,rfl,upd_same,r1.ext (w.new_ext hl)⟩
 | [.tup ys],q =>
  obtain ⟨v,rfl,iv⟩:=isL_one i
  rw [Is] at iv
  obtain ⟨p,vs,rfl,h1,r1⟩:=iv
  cases q
  refine call_list_of pins s σ _ _ us Q I r ⟨p,vs,rfl,.inr (SqT.of (w.fh _ _ h1)),fun l hl => kk _ (e.new l _) (w.new_ext hl) (w.new hl) ?_⟩
  rw [Is]
  exact ⟨l,vs,rfl,upd_same,r1.ext (w.new_ext hl)⟩
 | [.scr ns],q =>
  obtain ⟨v,rfl,iv⟩:=isL_one i
  rw [Is] at iv
  obtain ⟨p,rfl,h1⟩:=iv
  cases q
  refine call_list_of pins s σ _ _ us Q I r ⟨p,_,rfl,.inl (w.fh.seq h1),fun l hl => kk _ (e.new l _) (w.new_ext hl) (w.new hl) ?_⟩
  rw [Is]
  exact ⟨l,_,rfl,upd_same,IsL.ints ns⟩
noncomputable def tuple1D:List D -> Option D
 | [.lst xs] => some (.tup xs)
 | [.tup xs] => some (.tup xs)
 | _ => none
theorem callD_tuple:CallD X C (.type "tuple") tuple1D:=by
 intro pins s σ H xs us Q I r hw
 obtain ⟨e,Ω,ds,z,eH,w,i,q,kk⟩:=hw
 subst eH
 match ds,q with
 | [.lst ys],q =>
  obtain ⟨v,rfl,iv⟩:=isL_one i
  rw [Is] at iv
  obtain ⟨p,vs,rfl,h1,r1⟩:=iv
  cases q
  refine call_tuple_of pins s σ _ _ us Q I r ⟨p,vs,rfl,.inl ⟨SqL.of (w.fh _ _ h1),fun l hl => kk _ (e.new l _) (w.new_ext hl) (w.new hl) ?_⟩⟩
  rw [Is]
  exact ⟨l,vs,rfl,upd_same,r1.ext (w.new_ext hl)⟩
 | [.tup ys],q =>
  obtain ⟨v,rfl,iv⟩:=isL_one i
  have iv':=iv
  rw [Is] at iv
  obtain ⟨p,vs,rfl,h1,r1⟩:=iv
  cases q
  exact call_tuple_of pins s σ _ _ us Q I r ⟨p,vs,rfl,.inr ⟨SqT.of (w.fh _ _ h1),kk _ e (Ext.refl e) w iv'⟩⟩
noncomputable def tyD:D -> Option String
 | .non => some "NoneType"
 | .bl _ => some "bool"
 | .int _ => some "int"
 | .str _ => some "str"
 | .tup _ => some "tuple"
 | .lst _ => some "list"
 | _ => none
noncomputable def instD (T:String) (d:D):Option D:=match tyD d with
 | some t => some (.bl (decide (t = T) || (decide (t = "bool") && decide (T = "int"))))
 | none => none
noncomputable def gUn (r:D -> Option D) (g:Den):Den:=fun ρ Ω => match g ρ Ω with
 | some (d,Ω1) => match r d with
  | some z => some (z,Ω1)
  | none => none
 | none => none
theorem tyOf_of {K:PySem.W.Frag} {α:List Addr} {F H:Hp} (ff:Same F H) {d:D} {v:V} {t:String} (i:Is K α F d v) (h:tyD d = some t):TyOf K H v (.type t):=by
 cases d <;> rw [Is] at i <;> (try cases h)
 ·subst i; exact .non
 ·subst i; exact .bl _
 ·subst i; exact .int _
 ·subst i; exact .str _
 ·obtain ⟨a,vs,rfl,e,_⟩:=i; exact .tup (ff _ _ e)
 ·obtain ⟨a,vs,rfl,e,_⟩:=i; exact .lst (ff _ _ e)
theorem pd_isinst {T:String} {n:Str} {p:Pos} {y:Expr} (ha:PD X C x g) (hy:PE X y (tC (.ty T))) (hg:Gl X n) (hm:X.mg n = none) (hv:bootBuiltins n = some (.builtin "isinstance"))
  (hk:∀ t ∈ ["NoneType","bool","int","str","tuple","list"],PySem.W.kitOne X.K (.type t) (.type T) = some (decide (t = T) || (decide (t = "bool") && decide (T = "int"))))
  (hn:n ≠ "__name__":=by decide) (hdb:(n == ("__debug__":Str)) = false:=by decide)
  (he:starEach [x,y] X.env = (false,eval x X.env) :: starEach [y] X.env:=by rfl) (he2:starEach [y] X.env = (false,eval y X.env) :: starEach [] X.env:=by rfl) (hpl:(backTo pos (starEach [y] X.env)).any (·.1) = false:=by rfl) :
  PD X C (.Call (.Name n p) [x,y] [] pos) (gUn (instD T) g):=by
 have hc:CallR X (.builtin "isinstance") (fun xs H Q => ∃ v t k,xs = [v,.ty T] /\ TyOf X.K H v (.type t) /\ PySem.W.kitOne X.K (.type t) (.type T) = some k /\ Q (.bl k) H):=by
  intro pins s σ H xs us Q I r hw
  obtain ⟨v,t,k,rfl,ty,e,q⟩:=hw
  obtain ⟨u,w',rfl,r1,r2⟩:=vals2 r
  cases (show w' = Value.type T from r2)
  exact isinst_ok I r1 ty e fun tk => ⟨.bl k,H,I.tok tk,rfl,q⟩
 refine pe_imp (pe_callB hc hg hm hv (pa_cons ha (pa_cons hy pa_nil he2) he) hn hdb he hpl) fun σ H Q hw' => ?_
 obtain ⟨e,Ω,ρ,d,Ω',eH,w,rl,e1,kk⟩:=hw'
 unfold gUn at e1
 cases q1:g ρ Ω with
 | none => rw [q1] at e1; cases e1
 | some p1 =>
  obtain ⟨d1,Ω1⟩:=p1
  rw [q1] at e1
  dsimp only at e1
  unfold instD at e1
  cases q2:tyD d1 with
  | none => rw [q2] at e1; cases e1
  | some t =>
   rw [q2] at e1
   cases e1
   refine ⟨e,Ω,ρ,d1,_,eH,w,rl,q1,fun v e' x' w' i' => ?_⟩
   refine ⟨v,t,_,rfl,tyOf_of w'.fh i' q2,hk t ?_,kk _ e' x' w' (by rw [Is])⟩
   cases d1 <;> cases q2 <;> simp
end
end DL
namespace DL
open PySem PySem.Spec PyProof.Rows L2
inductive Out where
 | nx (ρ:List Sl) (Ω:List OS) | rt (d:D) (Ω:List OS) | bk (ρ:List Sl) (Ω:List OS) | ct (ρ:List Sl) (Ω:List OS)
noncomputable abbrev SDen:=List Sl -> List OS -> Option Out
structure RelS (K:PySem.W.Frag) (C:Cl) (e₀ e:E4) (Ω:List OS) (σ:St) (ρ:List Sl):Prop where
 wf:Wf K C e Ω
 rel:RelE K e σ ρ
 ext:Ext e₀ e
 fresh:∀ (i:Nat) (ds:List D) (a:Addr),ρ[i]? = some (.own ds) -> σ[i]? = some (some (.ref a)) -> e₀.H a = none
noncomputable def OutOk (K:PySem.W.Frag) (C:Cl) (e₀:E4) (Dn:Ends):Out -> Prop
 | .nx ρ Ω => ∀ e σ,RelS K C e₀ e Ω σ ρ -> Dn.nx σ e.H
 | .bk ρ Ω => ∀ e σ,RelS K C e₀ e Ω σ ρ -> Dn.bk σ e.H
 | .ct ρ Ω => ∀ e σ,RelS K C e₀ e Ω σ ρ -> Dn.ct σ e.H
 | .rt d Ω => ∀ e v,Ext e₀ e -> Wf K C e Ω -> Is K e.α e.F d v -> Dn.rt v e.H
noncomputable def tDS (K:PySem.W.Frag) (C:Cl) (e₀:E4) (g:SDen):TS:=fun Dn σ H => ∃ e Ω ρ o,e.H = H /\ RelS K C e₀ e Ω σ ρ /\ g ρ Ω = some o /\ OutOk K C e₀ Dn o
noncomputable def PDS (X:Cx) (C:Cl) (st:Stmt) (g:SDen):Prop:=∀ e₀,PS X st (tDS X.K C e₀ g)
noncomputable def PDB (X:Cx) (C:Cl) (st:List Stmt) (g:SDen):Prop:=∀ e₀,PSs X st (tDS X.K C e₀ g)
section
variable {K:PySem.W.Frag} {C:Cl} {e₀ e e':E4} {Ω Ω':List OS} {σ:St} {ρ:List Sl}
theorem RelS.to (r:RelS K C e₀ e Ω σ ρ) (x:Ext e e') (w:Wf K C e' Ω'):RelS K C e₀ e' Ω' σ ρ:=⟨w,r.rel.ext x,r.ext.trans x,r.fresh⟩
theorem set_own_ne {i j:Nat} {d:D} {ds:List D} (h:(ρ.set i (.dat d))[j]? = some (.own ds)):i ≠ j:=fun e1 => by
 subst e1
 have hl:i < ρ.length:=by
  have:=(List.getElem?_eq_some_iff.mp h).1
  simpa using this
 rw [List.getElem?_set_self hl] at h
 cases h
theorem RelS.set (r:RelS K C e₀ e Ω σ ρ) (i:Nat) {d:D} {v:V} (h:Is K e.α e.F d v):RelS K C e₀ e Ω (σ.set i (some v)) (ρ.set i (.dat d)) :=
 ⟨r.wf,r.rel.set i h,r.ext,fun j ds a h1 h2 => by
  have n:=set_own_ne h1
  rw [List.getElem?_set_ne n] at h1 h2
  exact r.fresh j ds a h1 h2⟩
end
section
variable {X:Cx} {C:Cl} {a b c x:Expr} {f g:Den} {p:TDen} {st:Stmt} {rest sts sts':List Stmt} {s t:SDen} {pos:Pos}
noncomputable def sNext:SDen:=fun ρ Ω => some (.nx ρ Ω)
noncomputable def sSeq (s t:SDen):SDen:=fun ρ Ω => match s ρ Ω with
 | some (.nx ρ' Ω') => t ρ' Ω'
 | r => r
theorem pdb_nil:PDB X C [] sNext:=fun e₀ => pss_imp pss_nil fun Dn σ H hw' => by
 obtain ⟨e,Ω,ρ,o,eH,r,q,k⟩:=hw'
 subst eH
 cases q
 exact k e σ r
theorem pdb_cons (h1:PDS X C st s) (h2:PDB X C rest t):PDB X C (st :: rest) (sSeq s t):=fun e₀ => pss_imp (pss_cons (h1 e₀) (h2 e₀)) fun Dn σ H hw' => by
 obtain ⟨e,Ω,ρ,o,eH,r,q,k⟩:=hw'
 unfold sSeq at q
 cases q1:s ρ Ω with
 | none => rw [q1] at q; cases q
 | some o1 =>
  rw [q1] at q
  refine ⟨e,Ω,ρ,o1,eH,r,q1,?_⟩
  cases o1 with
  | nx ρ' Ω' => exact fun e' σ' r' => ⟨e',Ω',ρ',o,rfl,r',q,k⟩
  | rt d Ω' => cases q; exact k
  | bk ρ' Ω' => cases q; exact k
  | ct ρ' Ω' => cases q; exact k
theorem pdb_one (h1:PDS X C st s):PDB X C [st] s:=fun e₀ => pss_one (h1 e₀)
noncomputable def sGhost (γ:List Sl -> Option (List Sl)) (s:SDen):SDen:=fun ρ Ω => match γ ρ with
 | some ρ' => s ρ' Ω
 | none => none
noncomputable def Ghost (γ:List Sl -> Option (List Sl)):Prop:=∀ (K:PySem.W.Frag) (C:Cl) (e₀ e:E4) (Ω:List OS) (σ:St) (ρ ρ':List Sl),γ ρ = some ρ' -> RelS K C e₀ e Ω σ ρ -> ∃ e',e'.H = e.H /\ RelS K C e₀ e' Ω σ ρ'
theorem pdb_ghost {γ:List Sl -> Option (List Sl)} (hγ:Ghost γ) (h:PDB X C sts s):PDB X C sts (sGhost γ s):=fun e₀ => pss_imp (h e₀) fun Dn σ H hw' => by
 obtain ⟨e,Ω,ρ,o,eH,r,q,k⟩:=hw'
 unfold sGhost at q
 cases q1:γ ρ with
 | none => rw [q1] at q; cases q
 | some ρ' =>
  rw [q1] at q
  obtain ⟨e',he,r'⟩:=hγ _ _ _ _ _ _ _ _ q1 r
  exact ⟨e',Ω,ρ',o,he.trans eH,r',q,k⟩
noncomputable def frz (i:Nat):List Sl -> Option (List Sl):=fun ρ => match ρ[i]? with
 | some (.own ds) => some (ρ.set i (.dat (.lst ds)))
 | _ => some ρ
theorem ghost_frz (i:Nat):Ghost (frz i):=by
 intro K C e₀ e Ω σ ρ ρ' h r
 unfold frz at h
 cases q:ρ[i]? with
 | none => rw [q] at h; cases h; exact ⟨e,rfl,r⟩
 | some sl =>
  rw [q] at h
  cases sl with
  | und => cases h; exact ⟨e,rfl,r⟩
  | dat d => cases h; exact ⟨e,rfl,r⟩
  | own ds =>
   cases h
   obtain ⟨a,vs,e1,e2,i1,n1,n2⟩:=r.rel.own i ds q
   have h0:=r.fresh i ds a q e1
   have ff:Same e.F (upd e.F a (.lst vs)):=fun b o hb => by rw [upd_ne (ne_of_none hb n1)]; exact hb
   have fh:Same (upd e.F a (.lst vs)) e.H:=fun b o hb => by
    by_cases hba:b = a
    ·subst hba; rw [upd_same] at hb; cases hb; exact e2
    ·rw [upd_ne hba] at hb; exact r.wf.fh b o hb
   have fn:∀ b o,(upd e.F a (.lst vs)) b = some o -> e.F b = some o \/ b = a:=fun b o hb => by
    by_cases hba:b = a
    ·exact .inr hba
    ·rw [upd_ne hba] at hb; exact .inl hb
   refine ⟨⟨e.α,upd e.F a (.lst vs),e.A,e.H⟩,rfl,⟨fh,fun b hb => ?_,r.wf.ah,r.wf.ol,r.wf.nd,fun n b o h1 h2 => ⟨(r.wf.ob n b o h1 h2).1,(r.wf.ob n b o h1 h2).2.keep (fun u hu => hu) ff ⟨[],by simp⟩⟩⟩,⟨by simp [r.rel.len],fun j d hj => ?_,fun j es hj => ?_,fun j k ds' es b hj hk hj' hk' => ?_⟩,⟨r.ext.fz,r.ext.hk,r.ext.dm,r.ext.ff.trans ff,fun b o hb => ?_,r.ext.an,r.ext.aa,r.ext.al⟩,fun j es b hj hj' => ?_⟩
   ·show upd e.F a _ b = none
    rw [upd_ne (fun z => n2 (by rw [<- z]; exact hb))]
    exact r.wf.fa b hb
   ·by_cases e3:i = j
    ·subst e3
     have hl:i < ρ.length:=(List.getElem?_eq_some_iff.mp q).1
     rw [List.getElem?_set_self hl] at hj
     cases hj
     refine ⟨.ref a,e1,?_⟩
     rw [Is]
     exact ⟨a,vs,rfl,upd_same,IsL.mono ff ⟨[],by simp⟩ ds i1⟩
    ·rw [List.getElem?_set_ne e3] at hj
     obtain ⟨v,z1,z2⟩:=r.rel.dat j d hj
     exact ⟨v,z1,Is.mono ff ⟨[],by simp⟩ d z2⟩
   ·have n:=set_own_ne hj
    rw [List.getElem?_set_ne n] at hj
    obtain ⟨a',vs',z1,z2,z3,z4,z5⟩:=r.rel.own j es hj
    have na:a' ≠ a:=fun z => n (r.rel.sep i j ds es a q hj e1 (by rw [<- z]; exact z1))
    exact ⟨a',vs',z1,z2,IsL.mono ff ⟨[],by simp⟩ es z3,by show upd e.F a _ a' = none; rw [upd_ne na]; exact z4,z5⟩
   ·have n:=set_own_ne hj
    have n':=set_own_ne hk
    rw [List.getElem?_set_ne n] at hj
    rw [List.getElem?_set_ne n'] at hk
    exact r.rel.sep j k ds' es b hj hk hj' hk'
   ·rcases fn b o hb with z | z
    ·exact r.ext.fn b o z
    ·subst z; exact .inr (.inl h0)
   ·have n:=set_own_ne hj
    rw [List.getElem?_set_ne n] at hj
    exact r.fresh j es b hj hj'
noncomputable def sSet (i:Nat) (g:Den):SDen:=fun ρ Ω => match g ρ Ω with
 | some (d,Ω') => some (.nx (ρ.set i (.dat d)) Ω')
 | none => none
theorem set_read {K:PySem.W.Frag} {e₀:E4} {i:Nat} {Dn:Ends} {σ:St} {H:Hp} (hw:tDS K C e₀ (sSet i g) Dn σ H):tAsg (tD K C g) (gName i) Dn σ H:=by
 obtain ⟨e,Ω,ρ,o,eH,r,q,k⟩:=hw
 unfold sSet at q
 cases q1:g ρ Ω with
 | none => rw [q1] at q; cases q
 | some p1 =>
  obtain ⟨d,Ω'⟩:=p1
  rw [q1] at q
  cases q
  exact ⟨e,Ω,ρ,d,Ω',eH,r.wf,r.rel,q1,fun v e' x' w' i' => k e' _ ((r.to x' w').set i i')⟩
theorem pds_set {i:Nat} {n:Str} {pos':Pos} (hN:X.N.Nodup) (hi:X.N[i]? = some n) (hx:Loc X.env.scope n) (he:PD X C x g) (hs:swapsWith x (some (.Name n pos')) pos.line X.env = pure false:=by rfl) (hf:X.fn n = true \/ X.env.scope.names.lookup n = some .local:=by first | exact .inl rfl | exact .inr rfl | assumption) :
  PDS X C (.Assign [.Name n pos'] x pos) (sSet i g):=fun e₀ => ps_imp (ps_set hN hi hx he hs hf) fun Dn σ H h => set_read h
noncomputable def sRet (g:Den):SDen:=fun ρ Ω => match g ρ Ω with
 | some (d,Ω') => some (.rt d Ω')
 | none => none
theorem pds_ret (he:PD X C x g):PDS X C (.Return (some x) pos) (sRet g):=fun e₀ => ps_imp (ps_ret he) fun Dn σ H hw' => by
 obtain ⟨e,Ω,ρ,o,eH,r,q,k⟩:=hw'
 unfold sRet at q
 cases q1:g ρ Ω with
 | none => rw [q1] at q; cases q
 | some p1 =>
  obtain ⟨d,Ω'⟩:=p1
  rw [q1] at q
  cases q
  exact ⟨e,Ω,ρ,d,Ω',eH,r.wf,r.rel,q1,fun v e' x' w' i' => k e' v (r.ext.trans x') w' i'⟩
noncomputable def sIf (p:TDen) (s t:SDen):SDen:=fun ρ Ω => match p ρ Ω with
 | some (true,Ω') => s ρ Ω'
 | some (false,Ω') => t ρ Ω'
 | none => none
theorem pds_if (hc:PDT X C c p) (ha:PDB X C sts s) (hb:PDB X C sts' t):PDS X C (.If c sts sts' pos) (sIf p s t):=fun e₀ => ps_imp (ps_if hc (ha e₀) (hb e₀)) fun Dn σ H hw' => by
 obtain ⟨e,Ω,ρ,o,eH,r,q,k⟩:=hw'
 unfold sIf at q
 cases q1:p ρ Ω with
 | none => rw [q1] at q; cases q
 | some p1 =>
  obtain ⟨d,Ω'⟩:=p1
  rw [q1] at q
  refine ⟨e,Ω,ρ,d,Ω',eH,r.wf,r.rel,q1,fun e' x' w' => ?_⟩
  cases d with
  | true => rw [if_pos rfl]; exact ⟨e',Ω',ρ,o,rfl,r.to x' w',q,k⟩
  | false => rw [if_neg (by decide)]; exact ⟨e',Ω',ρ,o,rfl,r.to x' w',q,k⟩
noncomputable def sExpr (g:Den):SDen:=fun ρ Ω => match g ρ Ω with
 | some (_,Ω') => some (.nx ρ Ω')
 | none => none
theorem pds_expr (he:PD X C x g) (hs:swapsWith x none pos.line X.env = pure false:=by rfl):PDS X C (.Expr x pos) (sExpr g):=fun e₀ => ps_imp (ps_expr he hs) fun Dn σ H hw' => by
 obtain ⟨e,Ω,ρ,o,eH,r,q,k⟩:=hw'
 unfold sExpr at q
 cases q1:g ρ Ω with
 | none => rw [q1] at q; cases q
 | some p1 =>
  obtain ⟨d,Ω'⟩:=p1
  rw [q1] at q
  cases q
  exact ⟨e,Ω,ρ,d,Ω',eH,r.wf,r.rel,q1,fun v e' x' w' i' => k e' σ (r.to x' w')⟩
noncomputable def sNever:SDen:=fun _ _ => none
theorem pds_never:PDS X C st sNever:=fun e₀ => ps_imp ps_never fun Dn σ H hw' => by obtain ⟨e,Ω,ρ,o,eH,r,q,k⟩:=hw'; cases q
noncomputable def sOwn (i:Nat) (g:ADen):SDen:=fun ρ Ω => match g ρ Ω with
 | some (ds,Ω') => if ds.length <= big then some (.nx (ρ.set i (.own ds)) Ω') else none
 | none => none
theorem pds_own {i:Nat} {n:Str} {pos' lp:Pos} {es:List Expr} {ga:ADen} (hN:X.N.Nodup) (hi:X.N[i]? = some n) (hx:Loc X.env.scope n) (he:PDA X C es ga) (hs:swapsWith (.List es lp) (some (.Name n pos')) pos.line X.env = pure false:=by rfl) (hf:X.fn n = true \/ X.env.scope.names.lookup n = some .local:=by first | exact .inl rfl | exact .inr rfl | assumption) :
  PDS X C (.Assign [.Name n pos'] (.List es lp) pos) (sOwn i ga):=fun e₀ => ps_imp (ps_set hN hi hx (pe_lst he) hs hf) fun Dn σ H hw' => by
 obtain ⟨e,Ω,ρ,o,eH,r,q,k⟩:=hw'
 unfold sOwn at q
 cases q1:ga ρ Ω with
 | none => rw [q1] at q; cases q
 | some p1 =>
  obtain ⟨ds,Ω'⟩:=p1
  rw [q1] at q
  dsimp only at q
  split at q
  ·rename_i hl
   cases q
   refine ⟨e,Ω,ρ,ds,Ω',eH,r.wf,r.rel,q1,fun vs e' x' w' i' => ⟨by rw [<- i'.length]; exact big_line hl,fun a ha => ?_⟩⟩
   have r':=r.to x' w'
   have hne:∀ b u,e'.H b = some u -> b ≠ a:=fun b u hb => ne_of_none hb ha
   have hF:e'.F a = none:=w'.nF ha
   have hA:¬ e'.A a:=fun z => (w'.ah a z).1 ha
   have own1:∀ (j:Nat) (es:List D),(ρ.set i (.own ds))[j]? = some (.own es) -> (j = i /\ es = ds /\ i < ρ.length) \/ (j ≠ i /\ ρ[j]? = some (.own es)):=fun j es hj => by
    by_cases e1:i = j
    ·subst e1
     have hl:i < ρ.length:=by
      have:=(List.getElem?_eq_some_iff.mp hj).1
      simpa using this
     rw [List.getElem?_set_self hl] at hj
     cases hj
     exact .inl ⟨rfl,rfl,hl⟩
    ·rw [List.getElem?_set_ne e1] at hj
     exact .inr ⟨fun z => e1 z.symm,hj⟩
   refine k ⟨e'.α,e'.F,e'.A,upd e'.H a (.lst vs)⟩ _ ⟨⟨fun b u hb => ?_,w'.fa,fun b hb => ?_,w'.ol,w'.nd,fun n b u h1 h2 => ⟨(w'.ob n b u h1 h2).1,(w'.ob n b u h1 h2).2.keep (fun z hz => ?_) (Same.refl _) ⟨[],by simp⟩⟩⟩,⟨by simp [r'.rel.len],fun j d hj => ?_,fun j es hj => ?_,fun j m es fs b hj hm h1 h2 => ?_⟩,⟨fun b o' u hb => by show upd e'.H a _ b = some (.frz o' u); rw [upd_ne (hne b _ (r'.ext.fz b o' u hb))]; exact r'.ext.fz b o' u hb,fun b u hb hn => ?_,fun b u hb => ?_,r'.ext.ff,r'.ext.fn,r'.ext.an,r'.ext.aa,r'.ext.al⟩,fun j es b hj h1 => ?_⟩
   ·show upd e'.H a _ b = some u
    rw [upd_ne (hne b u (w'.fh b u hb))]; exact w'.fh b u hb
   ·show upd e'.H a _ b ≠ none /\ ∀ xs,upd e'.H a _ b ≠ some (.tup xs)
    rw [upd_ne (fun z => hA (by rw [<- z]; exact hb))]; exact w'.ah b hb
   ·show upd e'.H a _ b = some z
    rw [upd_ne (hne b z hz)]; exact hz
   ·have n:i ≠ j:=fun e1 => by
     subst e1
     have hl:i < ρ.length:=by
      have:=(List.getElem?_eq_some_iff.mp hj).1
      simpa using this
     rw [List.getElem?_set_self hl] at hj
     cases hj
    rw [List.getElem?_set_ne n] at hj ⊢
    exact r'.rel.dat j d hj
   ·rcases own1 j es hj with ⟨rfl,rfl,hq⟩ | ⟨n,hj'⟩
    ·exact ⟨a,vs,List.getElem?_set_self (by rw [r'.rel.len]; exact hq),upd_same,i',hF,hA⟩
    ·obtain ⟨b,us,z1,z2,z3,z4,z5⟩:=r'.rel.own j es hj'
     exact ⟨b,us,by rw [List.getElem?_set_ne n.symm]; exact z1,by show upd e'.H a _ b = _; rw [upd_ne (hne b _ z2)]; exact z2,z3,z4,z5⟩
   ·rcases own1 j es hj with ⟨rfl,rfl,hq⟩ | ⟨n,hj'⟩
    ·rcases own1 m fs hm with ⟨rfl,_,_⟩ | ⟨n',hm'⟩
     ·rfl
     ·rw [List.getElem?_set_self (by rw [r'.rel.len]; exact hq)] at h1
      rw [List.getElem?_set_ne n'.symm] at h2
      obtain ⟨b',us,z1,z2,_⟩:=r'.rel.own m fs hm'
      rw [h2] at z1
      cases h1
      cases z1
      exact absurd rfl (hne _ _ z2)
    ·rcases own1 m fs hm with ⟨rfl,_,hq⟩ | ⟨n',hm'⟩
     ·rw [List.getElem?_set_self (by rw [r'.rel.len]; exact hq)] at h2
      rw [List.getElem?_set_ne n.symm] at h1
      obtain ⟨b',us,z1,z2,_⟩:=r'.rel.own j es hj'
      rw [h1] at z1
      cases h2
      cases z1
      exact absurd rfl (hne _ _ z2)
     ·rw [List.getElem?_set_ne n.symm] at h1
      rw [List.getElem?_set_ne n'.symm] at h2
      exact r'.rel.sep j m es fs b hj' hm' h1 h2
   ·show upd e'.H a _ b = some u
    have z:=r'.ext.hk b u hb hn
    rw [upd_ne (hne b u z)]; exact z
   ·obtain ⟨u',z⟩:=r'.ext.dm b u hb
    exact ⟨u',by show upd e'.H a _ b = some u'; rw [upd_ne (hne b u' z)]; exact z⟩
   ·rcases own1 j es hj with ⟨rfl,rfl,hq⟩ | ⟨n,hj'⟩
    ·rw [List.getElem?_set_self (by rw [r'.rel.len]; exact hq)] at h1
     cases h1
     exact r'.ext.back ha
    ·rw [List.getElem?_set_ne n.symm] at h1
     exact r'.fresh j es b hj' h1
  ·cases q
noncomputable def sApp (i:Nat) (g:Den):SDen:=fun ρ Ω => match g ρ Ω with
 | some (d,Ω') => match ρ[i]? with
  | some (.own ds) => if ds.length < big then some (.nx (ρ.set i (.own (ds ++ [d]))) Ω') else none
  | _ => none
 | none => none
theorem app_read {K:PySem.W.Frag} {e₀:E4} {i:Nat} {Dn:Ends} {σ:St} {H:Hp} (hw:tDS K C e₀ (sApp i g) Dn σ H) :
  tDrop (tBM K "list" rAppend (tVar i) (tCons (tD K C g) tNil)) Dn σ H:=by
 obtain ⟨e,Ω,ρ,o,eH,r,q,k⟩:=hw
 subst eH
 unfold sApp at q
 cases q1:g ρ Ω with
 | none => rw [q1] at q; cases q
 | some p1 =>
  obtain ⟨d,Ω'⟩:=p1
  rw [q1] at q
  dsimp only at q
  cases q2:ρ[i]? with
  | none => rw [q2] at q; cases q
  | some sl =>
   rw [q2] at q
   cases sl with
   | own ds =>
    dsimp only at q
    split at q
    ·rename_i hl
     cases q
     obtain ⟨a,vs,e1,e2,i1,n1,n2⟩:=r.rel.own i ds q2
     refine ⟨.ref a,e1,.inl ⟨rfl,_,SqL.of e2⟩,?_⟩
     refine ⟨e,Ω,ρ,d,Ω',rfl,r.wf,r.rel,q1,fun v e' x' w' i' => ?_⟩
     have r':=r.to x' w'
     obtain ⟨a',vs',e1',e2',i1',n1',n2'⟩:=r'.rel.own i ds q2
     rw [e1] at e1'
     cases e1'
     refine ⟨a,vs',v,rfl,rfl,e2',by rw [<- i1'.length]; exact big_lt hl,?_⟩
     have hil:i < ρ.length:=(List.getElem?_eq_some_iff.mp q2).1
     have neH:∀ (j:Nat) (es:List D) (b:Addr),j ≠ i -> ρ[j]? = some (.own es) -> σ[j]? = some (some (.ref b)) -> b ≠ a:=fun j es b n hj h1 z => by
      subst z
      exact n (r'.rel.sep j i es ds b hj q2 h1 e1)
     have own1:∀ (j:Nat) (es:List D),(ρ.set i (.own (ds ++ [d])))[j]? = some (.own es) -> (j = i /\ es = ds ++ [d]) \/ (j ≠ i /\ ρ[j]? = some (.own es)):=fun j es hj => by
      by_cases e3:i = j
      ·subst e3
       rw [List.getElem?_set_self hil] at hj
       cases hj
       exact .inl ⟨rfl,rfl⟩
      ·rw [List.getElem?_set_ne e3] at hj
       exact .inr ⟨fun z => e3 z.symm,hj⟩
     refine k ⟨e'.α,e'.F,e'.A,upd e'.H a (.lst (vs' ++ [v]))⟩ σ ⟨⟨fun b u hb => ?_,w'.fa,fun b hb => ?_,w'.ol,w'.nd,fun n b u h1 h2 => ⟨(w'.ob n b u h1 h2).1,(w'.ob n b u h1 h2).2.keep (fun z hz => ?_) (Same.refl _) ⟨[],by simp⟩⟩⟩,⟨by simp [r'.rel.len],fun j d' hj => ?_,fun j es hj => ?_,fun j m es fs b hj hm h1 h2 => ?_⟩,⟨fun b o' u hb => by have q:=r'.ext.fz b o' u hb; show upd e'.H a _ b = some (.frz o' u); rw [upd_ne (fun z => by rw [z,e2'] at q; cases q)]; exact q,fun b u hb hn => ?_,fun b u hb => ?_,r'.ext.ff,r'.ext.fn,r'.ext.an,r'.ext.aa,r'.ext.al⟩,fun j es b hj h1 => ?_⟩
     ·show upd e'.H a _ b = some u
      rw [upd_ne (fun z => by subst z; rw [n1'] at hb; cases hb)]
      exact w'.fh b u hb
     ·show upd e'.H a _ b ≠ none /\ ∀ xs,upd e'.H a _ b ≠ some (.tup xs)
      rw [upd_ne (fun z => n2' (by rw [<- z]; exact hb))]
      exact w'.ah b hb
     ·show upd e'.H a _ b = some z
      rw [upd_ne (fun y => n2' (by rw [<- y]; exact (w'.ob n b u h1 h2).1))]
      exact hz
     ·have n:i ≠ j:=fun e3 => by
       subst e3
       rw [List.getElem?_set_self hil] at hj
       cases hj
      rw [List.getElem?_set_ne n] at hj
      exact r'.rel.dat j d' hj
     ·rcases own1 j es hj with ⟨rfl,rfl⟩ | ⟨n,hj'⟩
      ·exact ⟨a,_,e1,upd_same,i1'.append (.cons i' .nil),n1',n2'⟩
      ·obtain ⟨b,us,z1,z2,z3,z4,z5⟩:=r'.rel.own j es hj'
       exact ⟨b,us,z1,by show upd e'.H a _ b = _; rw [upd_ne (neH j es b n hj' z1)]; exact z2,z3,z4,z5⟩
     ·rcases own1 j es hj with ⟨rfl,_⟩ | ⟨n,hj'⟩
      ·rcases own1 m fs hm with ⟨rfl,_⟩ | ⟨n',hm'⟩
       ·rfl
       ·exact r'.rel.sep _ m ds fs b q2 hm' h1 h2
      ·rcases own1 m fs hm with ⟨rfl,_⟩ | ⟨n',hm'⟩
       ·exact r'.rel.sep j _ es ds b hj' q2 h1 h2
       ·exact r'.rel.sep j m es fs b hj' hm' h1 h2
     ·show upd e'.H a _ b = some u
      have h0:=r'.fresh i ds a q2 e1
      rw [upd_ne (ne_of_none hb h0)]
      exact r'.ext.hk b u hb hn
     ·have h0:=r'.fresh i ds a q2 e1
      obtain ⟨u',z⟩:=r'.ext.dm b u hb
      exact ⟨u',by show upd e'.H a _ b = some u'; rw [upd_ne (ne_of_none hb h0)]; exact z⟩
     ·rcases own1 j es hj with ⟨rfl,_⟩ | ⟨n,hj'⟩
      ·exact r'.fresh _ ds b q2 h1
      ·exact r'.fresh j es b hj' h1
    ·cases q
   | und => cases q
   | dat _ => cases q
end
end DL
namespace DL
open PySem PySem.Spec PyProof.Rows L2
open Classical in
noncomputable def hid (P:Addr -> Prop) (H:Hp):Hp:=fun b => if P b then none else H b
theorem hid_pos {P:Addr -> Prop} {H:Hp} {b:Addr} (h:P b):hid P H b = none:=if_pos h
theorem hid_neg {P:Addr -> Prop} {H:Hp} {b:Addr} (h:¬ P b):hid P H b = H b:=if_neg h
theorem hid_some {P:Addr -> Prop} {H:Hp} {b:Addr} {o:HO} (h:hid P H b = some o):H b = some o:=by
 by_cases q:P b
 ·rw [hid_pos q] at h; cases h
 ·rw [hid_neg q] at h; exact h
section
variable {K:PySem.W.Frag} {C:Cl} {e₀ e e':E4} {Ω Ω':List OS} {σ:St} {ρ:List Sl}
theorem RelS.mark (r:RelS K C e₀ e Ω σ ρ):∃ e₁:E4,e₁.F = e.F /\ e₁.α = e.α /\ RelS K C e₁ e Ω σ ρ /\ (∀ e',Ext e₁ e' -> Ext e₀ e') /\ (∀ b,e₁.H b = none -> e₀.H b = none) /\ ∀ b o u,e.H b = some (.frz o u) -> e₁.H b = some (.frz o u):=by
 have ho:∀ b,(∃ (i:Nat) (ds:List D),ρ[i]? = some (Sl.own ds) /\ σ[i]? = some (some (V.ref b))) -> e₀.H b = none:=fun b ⟨i,ds,h1,h2⟩ => r.fresh i ds b h1 h2
 generalize hP:(fun b:Addr => ∃ (i:Nat) (ds:List D),ρ[i]? = some (Sl.own ds) /\ σ[i]? = some (some (V.ref b))) = P
 have ho':∀ b,P b -> e₀.H b = none:=fun b h => ho b (by rw [<- hP] at h; exact h)
 have hno:∀ b,hid P e.H b = none -> e₀.H b = none:=fun b h => by
  by_cases q:P b
  ·exact ho' b q
  ·rw [hid_neg q] at h; exact r.ext.back h
 have hs:∀ b o,e₀.H b = some o -> hid P e.H b = e.H b:=fun b o h => hid_neg (fun q => by rw [ho' b q] at h; cases h)
 refine ⟨⟨e.α,e.F,e.A,hid P e.H⟩,rfl,rfl,⟨r.wf,r.rel,⟨fun b o u h => hid_some h,fun b o h _ => hid_some h,fun b o h => ⟨o,hid_some h⟩,Same.refl _,fun b o h => .inl h,fun b h => .inl h,fun b h => h,[],by simp⟩,fun i ds a h1 h2 => ?_⟩,fun e' x => ⟨fun b o u h => x.fz b o u ((hs b _ h).trans (r.ext.fz b o u h)),fun b o h hn => ?_,fun b o h => ?_,r.ext.ff.trans x.ff,fun b o h => ?_,fun b h => ?_,fun b h => x.aa b (r.ext.aa b h),?_⟩,hno,fun b o u h => (hid_neg (fun q => ?_)).trans h⟩
 ·exact hid_pos (by rw [<- hP]; exact ⟨i,ds,h1,h2⟩)
 ·have z:=r.ext.hk b o h hn
  refine x.hk b o ((hs b o h).trans z) fun hA => ?_
  rcases r.ext.an b hA with q | q
  ·exact hn q
  ·rw [q] at h; cases h
 ·obtain ⟨o',z⟩:=r.ext.dm b o h
  exact x.dm b o' ((hs b o h).trans z)
 ·rcases x.fn b o h with q | q | ⟨q1,q2,q3⟩
  ·exact r.ext.fn b o q
  ·exact .inr (.inl (hno b q))
  ·have n:¬ e₀.A b:=fun z => q3 (r.ext.aa b z)
   cases z:e₀.H b with
   | none => exact .inr (.inl rfl)
   | some o' =>
    have z':=r.ext.hk b o' z n
    rw [hid_some q2] at z'
    cases z'
    exact .inr (.inr ⟨q1,rfl,n⟩)
 ·rcases x.an b h with q | q
  ·exact r.ext.an b q
  ·exact .inr (hno b q)
 ·obtain ⟨m,e1⟩:=r.ext.al
  obtain ⟨n,e2⟩:=x.al
  exact ⟨m ++ n,by rw [e2]; show e.α ++ n = _; rw [e1,List.append_assoc]⟩
 ·rw [<- hP] at q
  obtain ⟨i,ds,h1,h2⟩:=q
  obtain ⟨a',vs,e1,e2,_⟩:=r.rel.own i ds h1
  rw [h2] at e1
  cases e1
  rw [h] at e2
  cases e2
end
noncomputable abbrev BDen:=D -> List Sl -> Option (List Sl)
noncomputable def tDG (K:PySem.W.Frag) (C:Cl) (β:BDen):TG:=fun v σ H Q => ∃ e Ω ρ d ρ',e.H = H /\ Wf K C e Ω /\ RelE K e σ ρ /\ Is K e.α e.F d v /\ β d ρ = some ρ' /\
 ∀ σ',RelE K e σ' ρ' -> (∀ (j:Nat) (ds:List D),ρ'[j]? = some (.own ds) -> ρ[j]? = some (.own ds) /\ σ'[j]? = σ[j]?) -> Q σ' e.H
noncomputable def PDG (X:Cx) (C:Cl) (tg:Expr) (β:BDen):Prop:=PG X tg (tDG X.K C β)
theorem pg_imp {X:Cx} {tg:Expr} {t t':TG} (h:PG X tg t) (i:∀ v σ H Q,t' v σ H Q -> t v σ H Q):PG X tg t':=fun pins s σ H v u Q I r hw => h pins s σ H v u Q I r (i v σ H Q hw)
theorem pgs_imp {X:Cx} {ts:List Expr} {t t':TGs} (h:PGs X ts t) (i:∀ v σ H Q,t' v σ H Q -> t v σ H Q):PGs X ts t':=fun pins s σ H v u Q I r hw => h pins s σ H v u Q I r (i v σ H Q hw)
noncomputable def bName (i:Nat):BDen:=fun d ρ => some (ρ.set i (.dat d))
theorem own_set {ρ:List Sl} {σ:St} {i:Nat} {d:D} {v:V} (j:Nat) (ds:List D) (h:(ρ.set i (.dat d))[j]? = some (.own ds)):ρ[j]? = some (.own ds) /\ (σ.set i (some v))[j]? = σ[j]?:=by
 have n:=set_own_ne h
 rw [List.getElem?_set_ne n] at h
 exact ⟨h,List.getElem?_set_ne n⟩
section
variable {X:Cx} {C:Cl} {pos:Pos}
theorem pdg_name {i:Nat} {x:Str} (hN:X.N.Nodup) (hi:X.N[i]? = some x) (hx:Loc X.env.scope x) (hf:X.fn x = true \/ X.env.scope.names.lookup x = some .local:=by first | exact .inl rfl | exact .inr rfl | assumption):PDG X C (.Name x pos) (bName i) :=
 pg_imp (pg_name hN hi hx hf) fun v σ H Q hw' => by
  obtain ⟨e,Ω,ρ,d,ρ',eH,w,r,is,b,k⟩:=hw'
  subst eH
  cases b
  exact k _ (r.set i is) own_set
noncomputable def bNames:List Nat -> List D -> List Sl -> Option (List Sl)
 | [],[],ρ => some ρ
 | i :: is,d :: ds,ρ => bNames is ds (ρ.set i (.dat d))
 | _,_,_ => none
noncomputable def tDGs (K:PySem.W.Frag) (C:Cl) (is:List Nat):TGs:=fun vs σ H Q => ∃ e Ω ρ ds ρ',e.H = H /\ Wf K C e Ω /\ RelE K e σ ρ /\ IsL K e.α e.F ds vs /\ bNames is ds ρ = some ρ' /\
 ∀ σ',RelE K e σ' ρ' -> (∀ (j:Nat) (ds:List D),ρ'[j]? = some (.own ds) -> ρ[j]? = some (.own ds) /\ σ'[j]? = σ[j]?) -> Q σ' e.H
noncomputable def PDGs (X:Cx) (C:Cl) (ts:List Expr) (is:List Nat):Prop:=PGs X ts (tDGs X.K C is)
theorem pdgs_nil:PDGs X C [] []:=pgs_imp pgs_nil fun vs σ H Q hw' => by
 obtain ⟨e,Ω,ρ,ds,ρ',eH,w,r,is,b,k⟩:=hw'
 subst eH
 cases ds with
 | nil => cases b; exact ⟨is.of_nil,k _ r fun _ _ h => ⟨h,rfl⟩⟩
 | cons => cases b
theorem pdgs_cons {i:Nat} {is:List Nat} {x:Str} {ts:List Expr} {px:Pos} (hN:X.N.Nodup) (hi:X.N[i]? = some x) (hx:Loc X.env.scope x) (h2:PDGs X C ts is) (hf:X.fn x = true \/ X.env.scope.names.lookup x = some .local:=by first | exact .inl rfl | exact .inr rfl | assumption)
  (hs:(assignEach (.Name x px :: ts) X.env).map (·.2) = assign (.Name x px) X.env :: (assignEach ts X.env).map (·.2):=by rfl):PDGs X C (.Name x px :: ts) (i :: is):=by
 refine pgs_imp (pgs_cons (pg_name hN hi hx hf) h2 hs) fun vs σ H Q hw' => ?_
 obtain ⟨e,Ω,ρ,ds,ρ',eH,w,r,il,b,k⟩:=hw'
 subst eH
 cases ds with
 | nil => cases b
 | cons d ds =>
  obtain ⟨v,vr,rfl,i1,i2⟩:=il.of_cons
  refine ⟨v,vr,rfl,?_⟩
  refine ⟨e,Ω,_,ds,ρ',rfl,w,r.set i i1,i2,b,fun σ' r' o' => k σ' r' fun j es hj => ?_⟩
  obtain ⟨z1,z2⟩:=o' j es hj
  obtain ⟨y1,y2⟩:=own_set (σ:=σ) (v:=v) j es z1
  exact ⟨y1,z2.trans y2⟩
noncomputable def bTup (is:List Nat):BDen:=fun d ρ => match d with
 | .tup ds => bNames is ds ρ
 | _ => none
theorem bNames_len:∀ {is:List Nat} {ds:List D} {ρ ρ':List Sl},bNames is ds ρ = some ρ' -> ds.length = is.length
 | [],[],_,_,_ => rfl
 | i :: is,d :: ds,ρ,ρ',h => by
  rw [List.length_cons,List.length_cons,bNames_len (is:=is) (ds:=ds) h]
 | [],_ :: _,_,_,h => by cases h
 | _ :: _,[],_,_,h => by cases h
theorem pdg_tup {es:List Expr} {k:Nat} {is:List Nat} (hc:X.calm = true) (h:PDGs X C es is)
  (hn:(assignEach es X.env).length = is.length:=by rfl) (hst:(assignEach es X.env).findIdx? (·.1) = none:=by rfl):PDG X C (.Tuple es k pos) (bTup is):=by
 refine pg_imp (pg_tup hc h hn hst) fun v σ H Q hw' => ?_
 obtain ⟨e,Ω,ρ,d,ρ',eH,w,r,il,b,k⟩:=hw'
 subst eH
 unfold bTup at b
 cases d with
 | tup ds =>
  rw [Is] at il
  obtain ⟨a,vs,rfl,e1,i1⟩:=il
  exact ⟨a,vs,rfl,SqT.of (w.fh _ _ e1),by rw [<- i1.length]; exact bNames_len b,e,Ω,ρ,ds,ρ',rfl,w,r,i1,b,k⟩
 | _ => cases b
noncomputable def sAsg (β:BDen) (g:Den):SDen:=fun ρ Ω => match g ρ Ω with
 | some (d,Ω') => match β d ρ with
  | some ρ' => some (.nx ρ' Ω')
  | none => none
 | none => none
theorem RelS.by {K:PySem.W.Frag} {e₀ e:E4} {Ω:List OS} {σ σ':St} {ρ ρ':List Sl} (r:RelS K C e₀ e Ω σ ρ) (r':RelE K e σ' ρ') (o:∀ (j:Nat) (ds:List D),ρ'[j]? = some (.own ds) -> ρ[j]? = some (.own ds) /\ σ'[j]? = σ[j]?):RelS K C e₀ e Ω σ' ρ' :=
 ⟨r.wf,r',r.ext,fun i ds a h1 h2 => by
  obtain ⟨z1,z2⟩:=o i ds h1
  rw [z2] at h2
  exact r.fresh i ds a z1 h2⟩
theorem pds_asg {tg x:Expr} {β:BDen} {g:Den} (he:PD X C x g) (hg:PDG X C tg β) (hs:swapsWithSole [tg] x pos.line X.env = pure false:=by rfl) (hw:swappedStores [tg] x X.env = pure none:=by rfl)
  (h1:(assignEach [tg] X.env).map (·.2) = [assign tg X.env]:=by rfl):PDS X C (.Assign [tg] x pos) (sAsg β g):=by
 refine fun e₀ => ps_imp (ps_asg he hg hs hw h1) fun Dn σ H hw' => ?_
 obtain ⟨e,Ω,ρ,o,eH,r,q,k⟩:=hw'
 unfold sAsg at q
 cases q1:g ρ Ω with
 | none => rw [q1] at q; cases q
 | some p1 =>
  obtain ⟨d,Ω'⟩:=p1
  rw [q1] at q
  dsimp only at q
  cases q2:β d ρ with
  | none => rw [q2] at q; cases q
  | some ρ' =>
   rw [q2] at q
   cases q
   refine ⟨e,Ω,ρ,d,Ω',eH,r.wf,r.rel,q1,fun v e' x' w' i' => ?_⟩
   have r':=r.to x' w'
   exact ⟨e',Ω',ρ,d,ρ',rfl,w',r'.rel,i',q2,fun σ' z o' => k e' σ' (r'.by z o')⟩
end
noncomputable def Walk (K:PySem.W.Frag) (e:E4) (J:It) (ds:List D):Prop:=∀ (i:Nat) (e2:E4),Same e.F e2.F -> (∃ more,e2.α = e.α ++ more) -> Same e2.F e2.H ->
 (i = ds.length -> J.stop i e2.H) /\ ∀ d,ds[i]? = some d -> J.go i e2.H /\ ∀ x H',J.yld i e2.H x H' -> ∃ e3:E4,e3.H = H' /\ Is K e3.α e3.F d x /\ ∀ (C:Cl) (Ω:List OS),Wf K C e2 Ω -> Ext e2 e3 /\ Wf K C e3 Ω
theorem Walk.still {K:PySem.W.Frag} {e:E4} {J:It} {ds:List D} (h:∀ (i:Nat) (e2:E4),Same e.F e2.F -> (∃ more,e2.α = e.α ++ more) -> Same e2.F e2.H ->
  (i = ds.length -> J.stop i e2.H) /\ ∀ d,ds[i]? = some d -> J.go i e2.H /\ ∀ x H',J.yld i e2.H x H' -> H' = e2.H /\ Is K e2.α e2.F d x):Walk K e J ds:=fun i e2 h1 h2 h3 => by
 obtain ⟨a,b⟩:=h i e2 h1 h2 h3
 refine ⟨a,fun d hd => ⟨(b d hd).1,fun x H' hy => ?_⟩⟩
 obtain ⟨z,q⟩:=(b d hd).2 x H' hy
 exact ⟨e2,z.symm,q,fun C Ω w => ⟨Ext.refl _,w⟩⟩
noncomputable def tDI (K:PySem.W.Frag) (C:Cl) (γ:ADen):TI:=fun σ H R => ∃ e Ω ρ ds Ω',e.H = H /\ Wf K C e Ω /\ RelE K e σ ρ /\ γ ρ Ω = some (ds,Ω') /\ ∀ e' J,Ext e e' -> Wf K C e' Ω' -> Walk K e' J ds -> R J e'.H
noncomputable def PDI (X:Cx) (C:Cl) (tg iter:Expr) (γ:ADen):Prop:=PI X tg iter (tDI X.K C γ)
theorem pi_imp {X:Cx} {tg iter:Expr} {t t':TI} (h:PI X tg iter t) (i:∀ σ H R,t' σ H R -> t σ H R):PI X tg iter t':=fun pins s σ H R I hw => h pins s σ H R I (i σ H R hw)
section
variable {X:Cx} {C:Cl} {tg iter:Expr} {g:Den} {ga:ADen} {pos p:Pos}
noncomputable def seqD:D -> Option (List D)
 | .lst xs => some xs
 | .scr ns => some (ns.map D.int)
 | _ => none
noncomputable def gSeq (g:Den):ADen:=fun ρ Ω => match g ρ Ω with
 | some (d,Ω') => match seqD d with
  | some ds => some (ds,Ω')
  | none => none
 | none => none
theorem walk_list {K:PySem.W.Frag} {e:E4} {a:Addr} {vs:List V} {ds:List D} (h:SqL K e.F a vs) (r:IsL K e.α e.F ds vs):Walk K e (Itl K a) ds:=by
 refine Walk.still ?_
 intro i e2 ff al fh
 have h2:SqL K e2.H a vs:=fh.seq (ff.seq h)
 refine ⟨fun z => ⟨vs,h2,by rw [<- r.length]; exact Nat.le_of_eq z.symm⟩,fun d hd => ?_⟩
 obtain ⟨v,hv,iv⟩:=(IsL.mono ff al ds r).get hd
 exact ⟨⟨vs,v,h2,hv⟩,fun x H' ⟨z1,z2⟩ => ⟨z1,by
  have:=z2 vs h2
  rw [hv] at this
  cases this
  exact iv⟩⟩
theorem pdi_list (h:PD X C iter g):PDI X C tg iter (gSeq g):=pi_imp (pi_list h) fun σ H R hw' => by
 obtain ⟨e,Ω,ρ,ds,Ω',eH,w,rl,q,k⟩:=hw'
 unfold gSeq at q
 cases q1:g ρ Ω with
 | none => rw [q1] at q; cases q
 | some p1 =>
  obtain ⟨d,Ω1⟩:=p1
  rw [q1] at q
  dsimp only at q
  refine ⟨e,Ω,ρ,d,Ω1,eH,w,rl,q1,fun v e' x' w' i' => ?_⟩
  cases d with
  | lst xs =>
   cases q
   rw [Is] at i'
   obtain ⟨a,vs,rfl,h1,r1⟩:=i'
   exact ⟨a,rfl,⟨vs,SqL.of (w'.fh _ _ h1)⟩,k e' _ x' w' (walk_list (SqL.of h1) r1)⟩
  | scr ns =>
   cases q
   rw [Is] at i'
   obtain ⟨a,rfl,h1⟩:=i'
   exact ⟨a,rfl,⟨_,w'.fh.seq h1⟩,k e' _ x' w' (walk_list h1 (IsL.ints ns))⟩
  | _ => cases q
noncomputable def tupD:D -> Option (List D)
 | .tup xs => some xs
 | _ => none
noncomputable def gTupS (g:Den):ADen:=fun ρ Ω => match g ρ Ω with
 | some (d,Ω') => match tupD d with
  | some ds => some (ds,Ω')
  | none => none
 | none => none
theorem sameT {K:PySem.W.Frag} {H H':Hp} {a:Addr} {xs:List V} (e:Same H H') (h:SqT K H a xs):SqT K H' a xs:=by
 rcases h with (h | ⟨o,h⟩) | h
 ·exact .inl (.inl (e _ _ h))
 ·exact .inl (.inr ⟨o,e _ _ h⟩)
 ·exact .inr h
theorem walk_tup {K:PySem.W.Frag} {e:E4} {a:Addr} {vs:List V} {ds:List D} (h:SqT K e.F a vs) (r:IsL K e.α e.F ds vs):Walk K e (Itt K a) ds:=by
 refine Walk.still ?_
 intro i e2 ff al fh
 have h2:SqT K e2.H a vs:=sameT fh (sameT ff h)
 refine ⟨fun z => ⟨vs,h2,by rw [<- r.length]; exact Nat.le_of_eq z.symm⟩,fun d hd => ?_⟩
 obtain ⟨v,hv,iv⟩:=(IsL.mono ff al ds r).get hd
 exact ⟨⟨vs,v,h2,hv⟩,fun x H' ⟨z1,z2⟩ => ⟨z1,by
  have:=z2 vs h2
  rw [hv] at this
  cases this
  exact iv⟩⟩
theorem pdi_tup (h:PD X C iter g):PDI X C tg iter (gTupS g):=pi_imp (pi_tup h) fun σ H R hw' => by
 obtain ⟨e,Ω,ρ,ds,Ω',eH,w,rl,q,k⟩:=hw'
 unfold gTupS at q
 cases q1:g ρ Ω with
 | none => rw [q1] at q; cases q
 | some p1 =>
  obtain ⟨d,Ω1⟩:=p1
  rw [q1] at q
  dsimp only at q
  refine ⟨e,Ω,ρ,d,Ω1,eH,w,rl,q1,fun v e' x' w' i' => ?_⟩
  cases d with
  | tup xs =>
   cases q
   rw [Is] at i'
   obtain ⟨a,vs,rfl,h1,r1⟩:=i'
   exact ⟨a,rfl,⟨vs,SqT.of (w'.fh _ _ h1)⟩,k e' _ x' w' (walk_tup (SqT.of h1) r1)⟩
  | _ => cases q
noncomputable def upD (lo:Int) (n:Nat):List D:=(List.range n).map fun (k:Nat) => D.int (lo + (k:Int))
theorem walk_range {K:PySem.W.Frag} {e:E4} {lo:Int} {n:Nat}:Walk K e (Itr lo n) (upD lo n):=by
 refine Walk.still ?_
 intro i e2 _ _ _
 refine ⟨fun z => Nat.le_of_eq (by rw [z]; simp [upD]),fun d hd => ?_⟩
 have hi:i < n:=by
  have:=(List.getElem?_eq_some_iff.mp hd).1
  simpa [upD] using this
 refine ⟨hi,fun x H' ⟨z1,z2⟩ => ⟨z1,?_⟩⟩
 have:d = D.int (lo + (i:Int)):=by
  simp [upD,hi] at hd
  exact hd.symm
 subst this z2
 rw [Is]
noncomputable def rng1:List D -> Option (List D)
 | [.int j] => grd (-(2 ^ 62) <= j /\ j < 2 ^ 62) (some (upD 0 j.toNat))
 | _ => none
noncomputable def gRng (r:List D -> Option (List D)) (g:ADen):ADen:=fun ρ Ω => match g ρ Ω with
 | some (ds,Ω') => match r ds with
  | some es => some (es,Ω')
  | none => none
 | none => none
theorem pdi_range1 {a:Expr} (hg:Gl X "range") (hm:X.mg "range" = none) (ha:PDA X C [a] ga) (hs:starEach [a] X.env = [(false,eval a X.env)]:=by rfl):PDI X C tg (.Call (.Name "range" p) [a] [] pos) (gRng rng1 ga) :=
 pi_imp (pi_range1 hg hm ha hs) fun σ H R hw' => by
  obtain ⟨e,Ω,ρ,ds,Ω',eH,w,rl,q,k⟩:=hw'
  unfold gRng at q
  cases q1:ga ρ Ω with
  | none => rw [q1] at q; cases q
  | some p1 =>
   obtain ⟨es,Ω1⟩:=p1
   rw [q1] at q
   dsimp only at q
   refine ⟨e,Ω,ρ,es,Ω1,eH,w,rl,q1,fun v e' x' w' i' => ?_⟩
   match es,q,i' with
   | [.int j],q,i' =>
    obtain ⟨v,rfl,iv⟩:=isL_one i'
    rw [Is] at iv
    subst iv
    have ez:rng1 [D.int j] = grd (-(2 ^ 62) <= j /\ j < 2 ^ 62) (some (upD 0 j.toNat)):=rfl
    rw [ez] at q
    by_cases hb:(-(2 ^ 62) <= j /\ j < 2 ^ 62)
    ·rw [grd_pos hb] at q
     cases q
     exact ⟨j,rfl,hb.1,hb.2,k e' _ x' w' walk_range⟩
    ·have en:grd (-(2 ^ 62) <= j /\ j < 2 ^ 62) (some (upD 0 j.toNat)) = none:=if_neg hb
     rw [en] at q
     cases q
end
noncomputable def forD (β:BDen) (s:SDen):List D -> SDen
 | [],ρ,Ω => some (.nx ρ Ω)
 | d :: ds,ρ,Ω => match β d ρ with
  | some ρ1 => match s ρ1 Ω with
   | some (.nx ρ' Ω') => forD β s ds ρ' Ω'
   | some (.ct ρ' Ω') => forD β s ds ρ' Ω'
   | some (.bk ρ' Ω') => some (.nx ρ' Ω')
   | some (.rt z Ω') => some (.rt z Ω')
   | none => none
  | none => none
noncomputable def sFor (γ:ADen) (β:BDen) (s:SDen):SDen:=fun ρ Ω => match γ ρ Ω with
 | some (ds,Ω') => forD β s ds ρ Ω'
 | none => none
section
variable {X:Cx} {C:Cl} {tg iter c:Expr} {γ:ADen} {β:BDen} {s:SDen} {body:List Stmt} {pos:Pos} {p:TDen}
theorem pdb_ex {sts:List Stmt} (h:PDB X C sts s):PSs X sts (fun Dn σ H => ∃ e₁,tDS X.K C e₁ s Dn σ H):=fun pins sh σ H Dn I ⟨e₁,hw⟩ => h e₁ pins sh σ H Dn I hw
theorem pds_for (hp:PassesOwn (model X.prog X.w) X.A X.env X.xe) (hc:X.calm = true) (hi:PDI X C tg iter γ) (hg:PDG X C tg β) (hb:PDB X C body s)
  (hs:∀ x,foldedSetIterable iter X.env x = pure x:=by intro _; rfl):PDS X C (.For tg iter body [] pos) (sFor γ β s):=by
 refine fun e₀ => ps_imp (ps_for hp hc hi hg (pdb_ex hb) hs) fun Dn σ H hw' => ?_
 obtain ⟨e,Ω,ρ,o,eH,r,q,k⟩:=hw'
 unfold sFor at q
 cases q1:γ ρ Ω with
 | none => rw [q1] at q; cases q
 | some p1 =>
  obtain ⟨ds,Ω'⟩:=p1
  rw [q1] at q
  dsimp only at q
  refine ⟨e,Ω,ρ,ds,Ω',eH,r.wf,r.rel,q1,fun e' J x' w' wk => ?_⟩
  refine ⟨fun i m σ H => m = ds.length - i /\ i <= ds.length /\ ∃ e2 Ω2 ρ2,e2.H = H /\ RelS X.K C e₀ e2 Ω2 σ ρ2 /\ Same e'.F e2.F /\ (∃ more,e2.α = e'.α ++ more) /\ forD β s (ds.drop i) ρ2 Ω2 = some o,⟨ds.length,by simp,Nat.zero_le _,e',Ω',ρ,rfl,r.to x' w',Same.refl _,⟨[],by simp⟩,by simpa using q⟩,?_⟩
  rintro i m σ2 H2 ⟨rfl,hil,e2,Ω2,ρ2,rfl,r2,ff,al,q2⟩
  obtain ⟨stop,go⟩:=wk i e2 ff al r2.wf.fh
  by_cases hlt:i < ds.length
  ·have hd:ds[i]? = some ds[i]:=List.getElem?_eq_getElem hlt
   obtain ⟨g1,y1⟩:=go _ hd
   have edrop:ds.drop i = ds[i] :: ds.drop (i + 1):=List.drop_eq_getElem_cons hlt
   rw [edrop] at q2
   refine .inr ⟨g1,fun σ' H' => ∃ e3 Ω3 ρ3,e3.H = H' /\ RelS X.K C e₀ e3 Ω3 σ' ρ3 /\ Same e'.F e3.F /\ (∃ more,e3.α = e'.α ++ more) /\ forD β s (ds.drop (i + 1)) ρ3 Ω3 = some o,fun σ' H' hN => ⟨ds.length - (i + 1),by omega,rfl,hlt,hN⟩,fun x H' hy => ?_⟩
   obtain ⟨e2',rfl,ix,up⟩:=y1 x H' hy
   obtain ⟨x2',w2'⟩:=up C Ω2 r2.wf
   replace r2:=r2.to x2' w2'
   replace ff:=ff.trans x2'.ff
   replace al:∃ more,e2'.α = e'.α ++ more:=by
    obtain ⟨m1,z1⟩:=al
    obtain ⟨m2,z2⟩:=x2'.al
    exact ⟨m1 ++ m2,by rw [z2,z1,List.append_assoc]⟩
   clear y1 g1 stop go
   revert r2 ff al ix
   generalize e2' = e2
   intro ix r2 ff al
   unfold forD at q2
   cases q3:β ds[i] ρ2 with
   | none => rw [q3] at q2; cases q2
   | some ρ3 =>
    rw [q3] at q2
    dsimp only at q2
    refine ⟨e2,Ω2,ρ2,_,ρ3,rfl,r2.wf,r2.rel,ix,q3,fun σ3 r3 o3 => ?_⟩
    have r3':=r2.by r3 o3
    obtain ⟨e₁,hF,hα,r4,toE,toN,_⟩:=r3'.mark
    cases q4:s ρ3 Ω2 with
    | none => rw [q4] at q2; cases q2
    | some o4 =>
     rw [q4] at q2
     refine ⟨e₁,e2,Ω2,ρ3,o4,rfl,r4,q4,?_⟩
     have back:∀ {e5:E4} {Ω5:List OS} {σ5:St} {ρ5:List Sl},RelS X.K C e₁ e5 Ω5 σ5 ρ5 -> RelS X.K C e₀ e5 Ω5 σ5 ρ5 /\ Same e'.F e5.F /\ ∃ more,e5.α = e'.α ++ more:=fun {e5 Ω5 σ5 ρ5} r5 => by
      refine ⟨⟨r5.wf,r5.rel,toE _ r5.ext,fun i ds a h1 h2 => toN _ (r5.fresh i ds a h1 h2)⟩,ff.trans (hF ▸ r5.ext.ff),?_⟩
      obtain ⟨m1,z1⟩:=al
      obtain ⟨m2,z2⟩:=r5.ext.al
      exact ⟨m1 ++ m2,by rw [z2,hα,z1,List.append_assoc]⟩
     cases o4 with
     | nx ρ5 Ω5 => exact fun e5 σ5 r5 => ⟨e5,Ω5,ρ5,rfl,(back r5).1,(back r5).2.1,(back r5).2.2,q2⟩
     | ct ρ5 Ω5 => exact fun e5 σ5 r5 => ⟨e5,Ω5,ρ5,rfl,(back r5).1,(back r5).2.1,(back r5).2.2,q2⟩
     | bk ρ5 Ω5 => cases q2; exact fun e5 σ5 r5 => k e5 σ5 (back r5).1
     | rt z Ω5 => cases q2; exact fun e5 v5 x5 w5 i5 => k e5 v5 (toE _ x5) w5 i5
  ·have ei:i = ds.length:=by omega
   subst ei
   rw [List.drop_length] at q2
   cases q2
   exact .inl ⟨stop rfl,k e2 σ2 r2⟩
end
end DL
namespace DL
open PySem PySem.Spec PyProof.Rows L2
noncomputable abbrev FDen:=List D -> List OS -> Option (D × List OS)
noncomputable def spD (K:PySem.W.Frag) (C:Cl) (f:FDen):Sp:=fun vs H Q _ => ∃ e Ω ds d Ω',e.H = H /\ Wf K C e Ω /\ IsL K e.α e.F ds vs /\ f ds Ω = some (d,Ω') /\ ∀ v e',Ext e e' -> Wf K C e' Ω' -> Is K e'.α e'.F d v -> Q v e'.H
noncomputable def runD (n m:Nat) (s:SDen):FDen:=fun ds Ω => if ds.length = n then match s (ds.map Sl.dat ++ List.replicate (m - n) Sl.und) Ω with
  | some (.rt d Ω') => some (d,Ω')
  | some (.nx _ Ω') => some (.non,Ω')
  | _ => none
 else none
theorem start_rel {K:PySem.W.Frag} {C:Cl} {e:E4} {Ω:List OS} {N:List Str} {ds:List D} {vs:List V} (w:Wf K C e Ω) (i:IsL K e.α e.F ds vs):RelS K C e e Ω (L2.start N vs) (ds.map Sl.dat ++ List.replicate (N.length - ds.length) Sl.und):=by
 have noown:∀ (j:Nat) (es:List D),(ds.map Sl.dat ++ List.replicate (N.length - ds.length) Sl.und)[j]? ≠ some (.own es):=fun j es h => by
  by_cases hj:j < ds.length
  ·rw [List.getElem?_append_left (by simpa using hj),List.getElem?_map] at h
   cases q:ds[j]? with
   | none => rw [q] at h; cases h
   | some d => rw [q] at h; cases h
  ·rw [List.getElem?_append_right (by simpa using hj),List.getElem?_replicate] at h
   split at h <;> cases h
 refine ⟨w,⟨?_,fun j d h => ?_,fun j es h => absurd h (noown j es),fun j k es fs a h => absurd h (noown j es)⟩,Ext.refl e,fun j es a h => absurd h (noown j es)⟩
 ·unfold L2.start
  simp [i.length]
 ·by_cases hj:j < ds.length
  ·rw [List.getElem?_append_left (by simpa using hj),List.getElem?_map] at h
   cases q:ds[j]? with
   | none => rw [q] at h; cases h
   | some d' =>
    rw [q] at h
    cases h
    obtain ⟨v,hv,iv⟩:=i.get q
    refine ⟨v,?_,iv⟩
    unfold L2.start
    rw [List.getElem?_append_left (by simpa [<- i.length] using hj),List.getElem?_map,hv]
    rfl
  ·rw [List.getElem?_append_right (by simpa using hj),List.getElem?_replicate] at h
   split at h <;> cases h
theorem fn_D {P:Program} {w:World} {K:PySem.W.Frag} {mg:Str -> Option Value} {base:Heap} {C:Cl} {x qual:Str} {st:Stmt} {f:Addr} {fd:FuncData} {N ps:List Str} {k n m:Nat} {s:SDen} (F:Fun K x qual st f fd) (S:FnScope N ps (defScope st)) (hn:ps.length = n) (hm:N.length = m)
  (hbody:∀ (cdv:Value) (A:Around) (outer:List Env) (sh:Shared) (H:Hp) (E:XK),Room k (A.deeper (envOfC qual (defScope st) sh.heap.objs.size f cdv)) ->
   PDB (cxOf CX0 P w K mg base N qual (defScope st) f cdv A outer sh H E).nox C (defBody st) s):FnOk P w K mg base CX0 (k + 1) f fd ps (spD K C (runD n m s)):=by
 refine F.ok S (fun vs H Q E h => ?_) (fun cdv A outer sh H vs Q E hr h => ?_)
 ·obtain ⟨e,Ω,ds,d,Ω',_,_,i,q,_⟩:=h
  unfold runD at q
  by_cases hl:ds.length = n
  ·rw [<- i.length,hl,hn]
  ·rw [if_neg hl] at q; cases q
 ·obtain ⟨e,Ω,ds,d,Ω',eH,wf,i,q,kk⟩:=h
  unfold runD at q
  by_cases hl:ds.length = n
  ·rw [if_pos hl] at q
   cases q1:s (ds.map Sl.dat ++ List.replicate (m - n) Sl.und) Ω with
   | none => rw [q1] at q; cases q
   | some o =>
    rw [q1] at q
    refine ⟨_,hbody cdv A outer sh H E hr e,e,Ω,_,o,eH,start_rel wf i,by rw [hl,hm]; exact q1,?_⟩
    cases o with
    | rt d' Ω2 => cases q; exact fun e' v x' w' i' => kk v e' x' w' i'
    | nx ρ' Ω2 => cases q; exact fun e' σ' r' => kk .non e' r'.ext r'.wf (by rw [Is])
    | bk ρ' Ω2 => cases q
    | ct ρ' Ω2 => cases q
  ·rw [if_neg hl] at q; cases q
noncomputable def gCall (f:FDen) (g:ADen):Den:=fun ρ Ω => match g ρ Ω with
 | some (ds,Ω1) => f ds Ω1
 | none => none
section
variable {X:Cx} {C:Cl} {k:Nat} {f:Addr} {fd:FuncData} {ps:List Str} {F:FDen} {n:Str} {p pos:Pos} {x:Expr} {es:List Expr} {ga:ADen}
theorem call_read {K:PySem.W.Frag} {σ:St} {H:Hp} {Q:VK} {E:XK} (hw:tD K C (gCall F ga) σ H Q):tCall (spD K C F) [] E (tDA K C ga) σ H Q:=by
 obtain ⟨e,Ω,ρ,d,Ω',eH,w,rl,q,kk⟩:=hw
 unfold gCall at q
 cases q1:ga ρ Ω with
 | none => rw [q1] at q; cases q
 | some p1 =>
  obtain ⟨ds,Ω1⟩:=p1
  rw [q1] at q
  refine ⟨e,Ω,ρ,ds,Ω1,eH,w,rl,q1,fun vs e' x' w' i' => ?_⟩
  show spD K C F (vs ++ []) e'.H Q E
  rw [List.append_nil]
  exact ⟨e',Ω1,ds,d,Ω',rfl,w',i',q,fun v e'' x'' w'' i'' => kk v e'' (x'.trans x'') w'' i''⟩
theorem pd_call (G:FnOk X.prog X.w X.K X.mg X.base CX0 k f fd ps (spD X.K C F)) (hr:Room k X.A) (hg:Gl X n) (hm:X.mg n = some (.ref f)) (hk:PySem.W.keepIn X.K (.ref f) = true) (hb:Binds X.K fd ps [])
  (ha:PDA X C (x :: es) ga) (hdb:(n == ("__debug__":Str)) = false:=by decide) (he:starEach (x :: es) X.env = (false,eval x X.env) :: starEach es X.env:=by rfl) (hpl:(backTo pos (starEach es X.env)).any (·.1) = false:=by rfl) :
  PD X C (.Call (.Name n p) (x :: es) [] pos) (gCall F ga) :=
 pe_imp (pe_call G hr hg hm hk hb .nil pass0 ha hdb he hpl) fun _ _ _ hw => call_read hw
end
noncomputable def PDTs (X:Cx) (C:Cl) (ifs:List Expr) (p:TDen):Prop:=PTs X ifs (tDT X.K C p)
noncomputable def gTrue:TDen:=fun _ Ω => some (true,Ω)
theorem pdts_nil {X:Cx} {C:Cl}:PDTs X C [] gTrue:=fun pins s σ H Q I hw' => by
 obtain ⟨e,Ω,ρ,b,Ω',eH,w,rl,q,k⟩:=hw'
 subst eH
 cases q
 exact pts_nil pins s σ _ Q I (k e (Ext.refl e) w)
theorem pdts_one {X:Cx} {C:Cl} {c:Expr} {p:TDen} (h:PDT X C c p):PDTs X C [c] p:=pts_one h
noncomputable def compD (β:BDen) (p:TDen) (g:Den):List D -> List Sl -> List OS -> Option (List D × List OS)
 | [],_,Ω => some ([],Ω)
 | d :: ds,ρ,Ω => match β d ρ with
  | some ρ1 => match p ρ1 Ω with
   | some (true,Ω1) => match g ρ1 Ω1 with
    | some (y,Ω2) => match compD β p g ds ρ1 Ω2 with
     | some (ys,Ω3) => some (y :: ys,Ω3)
     | none => none
    | none => none
   | some (false,Ω1) => compD β p g ds ρ1 Ω1
   | none => none
  | none => none
noncomputable def innerD (μ:List (Option Nat)) (ρ:List Sl):List Sl:=μ.map fun o => match o with
 | none => Sl.und
 | some j => match ρ[j]? with
  | some (.dat d) => .dat d
  | _ => .und
noncomputable def gComp (μ:List (Option Nat)) (γ:ADen) (β:BDen) (p:TDen) (g:Den):Den:=fun ρ Ω => match γ ρ Ω with
 | some (ds,Ω1) => if ds.length <= big then match compD β p g ds (innerD μ ρ) Ω1 with
   | some (ys,Ω2) => some (.lst ys,Ω2)
   | none => none
  else none
 | none => none
section
variable {K:PySem.W.Frag} {C:Cl} {e:E4} {σ:St} {ρ:List Sl} {μ:List (Option Nat)}
theorem inner_dat {j:Nat} {d:D} (h:(innerD μ ρ)[j]? = some (.dat d)):∃ i,μ[j]? = some (some i) /\ ρ[i]? = some (.dat d):=by
 unfold innerD at h
 rw [List.getElem?_map] at h
 cases q:μ[j]? with
 | none => rw [q] at h; cases h
 | some o =>
  rw [q] at h
  cases o with
  | none => cases h
  | some i =>
   cases q2:ρ[i]? with
   | none => simp [q2] at h
   | some sl =>
    cases sl with
    | dat d' => simp [q2] at h; subst h; exact ⟨i,rfl,q2⟩
    | und => simp [q2] at h
    | own _ => simp [q2] at h
theorem inner_own {j:Nat} {ds:List D}:(innerD μ ρ)[j]? ≠ some (.own ds):=fun h => by
 unfold innerD at h
 rw [List.getElem?_map] at h
 cases q:μ[j]? with
 | none => rw [q] at h; cases h
 | some o =>
  rw [q] at h
  cases o with
  | none => cases h
  | some i =>
   cases q2:ρ[i]? with
   | none => simp [q2] at h
   | some sl => cases sl <;> simp [q2] at h
theorem inner_rel (r:RelE K e σ ρ):RelE K e (inner μ σ) (innerD μ ρ):=by
 refine ⟨by simp [inner,innerD],fun j d h => ?_,fun j ds h => absurd h inner_own,fun j k ds es a h => absurd h inner_own⟩
 obtain ⟨i,h1,h2⟩:=inner_dat h
 obtain ⟨v,e1,iv⟩:=r.dat i d h2
 refine ⟨v,?_,iv⟩
 unfold inner
 rw [List.getElem?_map,h1]
 show some ((σ[i]?).join) = _
 rw [e1]
 rfl
end
section
variable {K:PySem.W.Frag} {C:Cl} {γ:ADen} {β:BDen} {p:TDen} {g:Den} {μ:List (Option Nat)}
structure CI (K:PySem.W.Frag) (C:Cl) (β:BDen) (p:TDen) (g:Den) (ds:List D) (a:Addr) (ysAll:List D) (Ωf:List OS) (e':E4) (i:Nat) (σ':St) (e2:E4) (Ω2:List OS) (ρ2:List Sl) (vs:List V) (ys0 ys1:List D):Prop where
 w:Wf K C e2 Ω2
 r:RelE K e2 σ' ρ2
 no:∀ (j:Nat) (es:List D),ρ2[j]? ≠ some (.own es)
 ha:e2.H a = some (.lst vs)
 hF:e2.F a = none
 hA:¬ e2.A a
 iy:IsL K e2.α e2.F ys0 vs
 x:Ext e' e2
 q:compD β p g (ds.drop i) ρ2 Ω2 = some (ys1,Ωf)
 ey:ys0 ++ ys1 = ysAll
 hy:ys0.length <= i
noncomputable def CInv (K:PySem.W.Frag) (C:Cl) (β:BDen) (p:TDen) (g:Den) (ds:List D) (a:Addr) (ysAll:List D) (Ωf:List OS) (e':E4) (i:Nat) (σ':St) (H':Hp):Prop :=
 ∃ e2 Ω2 ρ2 vs ys0 ys1,e2.H = H' /\ CI K C β p g ds a ysAll Ωf e' i σ' e2 Ω2 ρ2 vs ys0 ys1
theorem comp_gen {σ:St} {H:Hp} {Q:VK} {e:E4} {Ω Ω1 Ωf:List OS} {ρ:List Sl} {ds ysAll:List D} (eH:e.H = H) (w:Wf K C e Ω) (rl:RelE K e σ ρ) (q1:γ ρ Ω = some (ds,Ω1)) (hbig:ds.length <= big) (q2:compD β p g ds (innerD μ ρ) Ω1 = some (ysAll,Ωf))
  (fin:∀ a vs e2,Ext e e2 -> Wf K C e2 Ωf -> e2.H a = some (.lst vs) -> e2.F a = none -> ¬ e2.A a -> e.H a = none -> IsL K e2.α e2.F ysAll vs -> Q (.ref a) e2.H):tComp μ (tDI K C γ) (tDG K C β) (tDT K C p) (tD K C g) σ H Q:=by
 refine ⟨e,Ω,ρ,ds,Ω1,eH,w,rl,q1,fun e' J x' w' wk a ha => ?_⟩
 refine ⟨fun i m σ' H' => m = ds.length - i /\ i <= ds.length /\ CInv K C β p g ds a ysAll Ωf e' i σ' H',⟨ds.length,by simp,Nat.zero_le _,⟨e'.α,e'.F,e'.A,upd e'.H a (.lst [])⟩,Ω1,innerD μ ρ,[],[],ysAll,rfl,⟨?_,?_,fun j es => inner_own,upd_same,w'.nF ha,fun z => (w'.ah a z).1 ha,.nil,?_,by simpa using q2,rfl,Nat.zero_le _⟩⟩,?_⟩
 ·refine ⟨fun b u hb => ?_,w'.fa,fun b hb => ?_,w'.ol,w'.nd,fun n b u h1 h2 => ⟨(w'.ob n b u h1 h2).1,(w'.ob n b u h1 h2).2.keep (fun z hz => ?_) (Same.refl _) ⟨[],by simp⟩⟩⟩
  ·show upd e'.H a _ b = some u
   rw [upd_ne (ne_of_none (w'.fh b u hb) ha)]; exact w'.fh b u hb
  ·show upd e'.H a _ b ≠ none /\ ∀ xs,upd e'.H a _ b ≠ some (.tup xs)
   rw [upd_ne (fun z => (w'.ah b hb).1 (by rw [z]; exact ha))]; exact w'.ah b hb
  ·show upd e'.H a _ b = some z
   rw [upd_ne (ne_of_none hz ha)]; exact hz
 ·have r1:=inner_rel (μ:=μ) (rl.ext x')
  exact ⟨r1.len,r1.dat,fun j es h => absurd h inner_own,r1.sep⟩
 ·refine ⟨fun b o' u hb => by show upd e'.H a _ b = some (.frz o' u); rw [upd_ne (ne_of_none hb ha)]; exact hb,fun b u hb _ => ?_,fun b u hb => ⟨u,?_⟩,Same.refl _,fun b u hb => .inl hb,fun b hb => .inl hb,fun b hb => hb,[],by simp⟩
  ·show upd e'.H a _ b = some u
   rw [upd_ne (ne_of_none hb ha)]; exact hb
  ·show upd e'.H a _ b = some u
   rw [upd_ne (ne_of_none hb ha)]; exact hb
 ·rintro i m σ2 H2 ⟨rfl,hil,e2,Ω2,ρ2,vs,ys0,ys1,rfl,⟨w2,r2,no2,ha2,hF2,hA2,iy,x2,q3,ey,hy⟩⟩
  obtain ⟨stop,go⟩:=wk i e2 x2.ff x2.al w2.fh
  by_cases hlt:i < ds.length
  ·have hd:ds[i]? = some ds[i]:=List.getElem?_eq_getElem hlt
   obtain ⟨g1,y1⟩:=go _ hd
   have edrop:ds.drop i = ds[i] :: ds.drop (i + 1):=List.drop_eq_getElem_cons hlt
   rw [edrop] at q3
   refine .inr ⟨g1,fun σ' H' => i + 1 <= ds.length /\ CInv K C β p g ds a ysAll Ωf e' (i + 1) σ' H',fun σ' H' hN => ⟨ds.length - (i + 1),by omega,rfl,hN⟩,fun x H' hyl => ?_⟩
   obtain ⟨e2',rfl,ix,up⟩:=y1 x H' hyl
   obtain ⟨xx,ww⟩:=up C Ω2 w2
   obtain ⟨hh',hf',ha'⟩:=xx.keepOwn ha2 hF2 hA2
   replace r2:=r2.ext xx
   replace iy:=iy.ext xx
   replace x2:=x2.trans xx
   clear y1 g1 stop go w2 ha2 hF2 hA2
   revert r2 iy x2 ww hh' hf' ha' ix
   generalize e2' = e2
   intro ix w2 ha2 hF2 hA2 r2 iy x2
   unfold compD at q3
   cases q4:β ds[i] ρ2 with
   | none => rw [q4] at q3; cases q3
   | some ρ3 =>
    rw [q4] at q3
    dsimp only at q3
    refine ⟨e2,Ω2,ρ2,_,ρ3,rfl,w2,r2,ix,q4,fun σ3 r3 o3 => ?_⟩
    have no3:∀ (j:Nat) (es:List D),ρ3[j]? ≠ some (.own es):=fun j es h => no2 j es (o3 j es h).1
    cases q5:p ρ3 Ω2 with
    | none => rw [q5] at q3; cases q3
    | some p5 =>
     obtain ⟨b,Ω3⟩:=p5
     rw [q5] at q3
     refine ⟨e2,Ω2,ρ3,b,Ω3,rfl,w2,r3,q5,fun e3 x3 w3 => ?_⟩
     cases b with
     | false =>
      refine iteF ?_
      obtain ⟨z1,z2,z3⟩:=x3.keepOwn ha2 hF2 hA2
      exact ⟨hlt,e3,Ω3,ρ3,vs,ys0,ys1,rfl,⟨w3,r3.ext x3,no3,z1,z2,z3,iy.ext x3,x2.trans x3,q3,ey,Nat.le_succ_of_le hy⟩⟩
     | true =>
      refine iteT ?_
      dsimp only at q3
      cases q6:g ρ3 Ω3 with
      | none => rw [q6] at q3; cases q3
      | some p6 =>
       obtain ⟨y,Ω4⟩:=p6
       rw [q6] at q3
       dsimp only at q3
       cases q7:compD β p g (ds.drop (i + 1)) ρ3 Ω4 with
       | none => rw [q7] at q3; cases q3
       | some p7 =>
        obtain ⟨ys2,Ω5⟩:=p7
        rw [q7] at q3
        cases q3
        refine ⟨e3,Ω3,ρ3,y,Ω4,rfl,w3,r3.ext x3,q6,fun v e4 x4 w4 i4 => ?_⟩
        obtain ⟨z1,z2,z3⟩:=(x3.trans x4).keepOwn ha2 hF2 hA2
        have x24:=x3.trans x4
        refine ⟨vs,z1,by rw [<- iy.length]; exact big_lt (by omega),hlt,⟨e4.α,e4.F,e4.A,upd e4.H a (.lst (vs ++ [v]))⟩,Ω4,ρ3,_,ys0 ++ [y],ys2,rfl,⟨⟨fun b u hb => ?_,w4.fa,fun b hb => ?_,w4.ol,w4.nd,fun n b u h1 h2 => ⟨(w4.ob n b u h1 h2).1,(w4.ob n b u h1 h2).2.keep (fun z hz => ?_) (Same.refl _) ⟨[],by simp⟩⟩⟩,
         ⟨((r3.ext x3).ext x4).len,((r3.ext x3).ext x4).dat,fun j es h => absurd h (no3 j es),((r3.ext x3).ext x4).sep⟩,no3,upd_same,z2,z3,(iy.ext x24).append (.cons i4 .nil),⟨fun b o' u hb => by show upd e4.H a _ b = some (.frz o' u); rw [upd_ne (ne_of_none hb ha)]; exact (x2.trans x24).fz b o' u hb,fun b u hb hn => ?_,fun b u hb => ?_,(x2.trans x24).ff,(x2.trans x24).fn,(x2.trans x24).an,(x2.trans x24).aa,(x2.trans x24).al⟩,q7,by rw [<- ey]; simp,by simp; omega⟩⟩
        ·show upd e4.H a _ b = some u
         rw [upd_ne (fun z => by subst z; rw [z2] at hb; cases hb)]; exact w4.fh b u hb
        ·show upd e4.H a _ b ≠ none /\ ∀ xs,upd e4.H a _ b ≠ some (.tup xs)
         rw [upd_ne (fun z => z3 (by rw [<- z]; exact hb))]; exact w4.ah b hb
        ·show upd e4.H a _ b = some z
         rw [upd_ne (fun y => z3 (by rw [<- y]; exact (w4.ob n b u h1 h2).1))]; exact hz
        ·show upd e4.H a _ b = some u
         rw [upd_ne (ne_of_none hb ha)]; exact (x2.trans x24).hk b u hb hn
        ·obtain ⟨u',z⟩:=(x2.trans x24).dm b u hb
         exact ⟨u',by show upd e4.H a _ b = some u'; rw [upd_ne (ne_of_none hb ha)]; exact z⟩
  ·have ei:i = ds.length:=by omega
   subst ei
   rw [List.drop_length] at q3
   cases q3
   rw [List.append_nil] at ey
   subst ey
   refine .inl ⟨stop rfl,?_⟩
   exact fin a vs e2 (x'.trans x2) w2 ha2 hF2 hA2 (x'.back ha) iy
theorem comp_read {σ:St} {H:Hp} {Q:VK} (hw:tD K C (gComp μ γ β p g) σ H Q):tComp μ (tDI K C γ) (tDG K C β) (tDT K C p) (tD K C g) σ H Q:=by
 obtain ⟨e,Ω,ρ,d,Ωf,eH,w,rl,q,kk⟩:=hw
 unfold gComp at q
 cases q1:γ ρ Ω with
 | none => rw [q1] at q; cases q
 | some p1 =>
  obtain ⟨ds,Ω1⟩:=p1
  rw [q1] at q
  dsimp only at q
  split at q
  ·rename_i hbig
   cases q2:compD β p g ds (innerD μ ρ) Ω1 with
   | none => rw [q2] at q; cases q
   | some p2 =>
    obtain ⟨ysAll,Ω2⟩:=p2
    rw [q2] at q
    cases q
    refine comp_gen eH w rl q1 hbig q2 fun a vs e2 x2 w2 ha2 hF2 hA2 ha iy => ?_
    have ff:Same e2.F (upd e2.F a (.lst vs)):=fun b o hb => by rw [upd_ne (ne_of_none hb hF2)]; exact hb
    refine kk (.ref a) ⟨e2.α,upd e2.F a (.lst vs),e2.A,e2.H⟩ ⟨x2.fz,x2.hk,x2.dm,x2.ff.trans ff,fun b u hb => ?_,x2.an,x2.aa,x2.al⟩ ⟨fun b u hb => ?_,fun b hb => ?_,w2.ah,w2.ol,w2.nd,fun n b u h1 h2 => ⟨(w2.ob n b u h1 h2).1,(w2.ob n b u h1 h2).2.keep (fun z hz => hz) ff ⟨[],by simp⟩⟩⟩ ?_
    ·have hb:upd e2.F a (.lst vs) b = some u:=hb
     by_cases hba:b = a
     ·subst hba; exact .inr (.inl ha)
     ·rw [upd_ne hba] at hb; exact x2.fn b u hb
    ·have hb:upd e2.F a (.lst vs) b = some u:=hb
     by_cases hba:b = a
     ·subst hba; rw [upd_same] at hb; cases hb; exact ha2
     ·rw [upd_ne hba] at hb; exact w2.fh b u hb
    ·show upd e2.F a _ b = none
     rw [upd_ne (fun z => hA2 (by rw [<- z]; exact hb))]; exact w2.fa b hb
    ·rw [Is]
     exact ⟨a,vs,rfl,upd_same,IsL.mono ff ⟨[],by simp⟩ _ iy⟩
  ·cases q
end
section
variable {X:Cx} {C:Cl} {tg iter elt:Expr} {ifs:List Expr} {scope:Scope} {pos:Pos} {N:List Str} {μ:List (Option Nat)} {γ:ADen} {β:BDen} {p:TDen} {g:Den}
theorem pd_comp (hc:X.calm = true) (hcell:∀ y ∈ scope.names,y.2 ≠ .cell) (hkind:scope.kind = .function) (hnames:∀ y ∈ scope.names,y.2 = .local -> scope.names.lookup y.1 = some .local)
  (hfree:∀ y ∈ scope.names,y.2 = .free -> X.env.kindOf y.1 = some .cell \/ X.env.kindOf y.1 = some .free)
  (hhas:∀ x,((relabel scope X.env).names.lookup x = some .cell \/ (relabel scope X.env).names.lookup x = some .free) -> (x,NameKind.free) ∈ scope.names)
  (hμ:muOk X.N X.env.scope N (relabel scope X.env) μ = true) (hi:PDI X C tg iter γ)
  (hg:∀ fp A s H,PDG (cxComp X N scope (clos X.env.cells scope.names []) A fp s H) C tg β) (ht:∀ fp A s H,PDTs (cxComp X N scope (clos X.env.cells scope.names []) A fp s H) C ifs p) (he:∀ fp A s H,PD (cxComp X N scope (clos X.env.cells scope.names []) A fp s H) C elt g)
  (hs:∀ x,foldedSetIterable iter X.env x = pure x:=by intro _; rfl):PD X C (.ListComp elt [⟨tg,iter,ifs,0⟩] scope pos) (gComp μ γ β p g) :=
 pe_imp (pe_comp (g:=tDG X.K C β) (tt:=tDT X.K C p) (te:=tD X.K C g) hc hcell hkind hnames hfree hhas hμ hi hg ht he hs) fun _ _ _ hw => comp_read hw
theorem pds_comp {i:Nat} {y:Str} {py spos:Pos} (hN:X.N.Nodup) (hiN:X.N[i]? = some y) (hx:Loc X.env.scope y) (hc:X.calm = true) (hcell:∀ y ∈ scope.names,y.2 ≠ .cell) (hkind:scope.kind = .function) (hnames:∀ y ∈ scope.names,y.2 = .local -> scope.names.lookup y.1 = some .local)
  (hfree:∀ y ∈ scope.names,y.2 = .free -> X.env.kindOf y.1 = some .cell \/ X.env.kindOf y.1 = some .free)
  (hhas:∀ x,((relabel scope X.env).names.lookup x = some .cell \/ (relabel scope X.env).names.lookup x = some .free) -> (x,NameKind.free) ∈ scope.names)
  (hμ:muOk X.N X.env.scope N (relabel scope X.env) μ = true) (hi:PDI X C tg iter γ)
  (hg:∀ fp A s H,PDG (cxComp X N scope (clos X.env.cells scope.names []) A fp s H) C tg β) (ht:∀ fp A s H,PDTs (cxComp X N scope (clos X.env.cells scope.names []) A fp s H) C ifs p) (he:∀ fp A s H,PD (cxComp X N scope (clos X.env.cells scope.names []) A fp s H) C elt g)
  (hsw:swapsWith (.ListComp elt [⟨tg,iter,ifs,0⟩] scope pos) (some (.Name y py)) spos.line X.env = pure true:=by rfl)
  (hf:X.fn y = true \/ X.env.scope.names.lookup y = some .local:=by first | exact .inl rfl | exact .inr rfl | assumption)
  (hs:∀ x,foldedSetIterable iter X.env x = pure x:=by intro _; rfl):PDS X C (.Assign [.Name y py] (.ListComp elt [⟨tg,iter,ifs,0⟩] scope pos) spos) (sSet i (gComp μ γ β p g)):=fun e₀ =>
 ps_imp (ps_comp (g:=tDG X.K C β) (tt:=tDT X.K C p) (te:=tD X.K C g) hN hiN hx hc hcell hkind hnames hfree hhas hμ hi hg ht he hsw hf hs) fun Dn σ H hw => by
  obtain ⟨e,Ω,ρ,o,eH,r,q,k⟩:=hw
  have h2:tAsg (tD X.K C (gComp μ γ β p g)) (gName i) Dn σ H:=set_read ⟨e,Ω,ρ,o,eH,r,q,k⟩
  exact comp_read h2
end
end DL
namespace DL
open PySem PySem.Spec PyProof.Rows L2
structure Fn (P:Program) (w:World) (K:PySem.W.Frag) (mg:Str -> Option Value) (base:Heap) (C:Cl) (k:Nat) (n:Str) (F:FDen):Prop where
 ex:∃ f fd ps,mg n = some (.ref f) /\ PySem.W.keepIn K (.ref f) = true /\ Binds K fd ps [] /\ FnOk P w K mg base CX0 k f fd ps (spD K C F)
structure TF (K:PySem.W.Frag) (mg:Str -> Option Value) (n:Str) (st:Stmt):Prop where
 ex:∃ f fd,mg n = some (.ref f) /\ Fun K n n st f fd
theorem fn_F {P:Program} {w:World} {K:PySem.W.Frag} {mg:Str -> Option Value} {base:Heap} {C:Cl} {x:Str} {st:Stmt} {N ps:List Str} {k n m:Nat} {s:SDen} (T:TF K mg x st) (S:FnScope N ps (defScope st)) (hn:ps.length = n) (hm:N.length = m)
  (hb:∀ (kV doc pm:Value) (an:Option Addr) (cdv ct:Value) (us:List Value),us.length = ps.length -> bindArgs (PySem.W.fnOf x x (defArgs st) (defBody st) (defScope st) .none kV doc pm an cdv ct) ⟨us,[]⟩ = pure (ps.zip us))
  (hbody:∀ (f:Addr) (cdv:Value) (A:Around) (outer:List Env) (sh:Shared) (H:Hp) (E:XK),Room k (A.deeper (envOfC x (defScope st) sh.heap.objs.size f cdv)) ->
   PDB (cxOf CX0 P w K mg base N x (defScope st) f cdv A outer sh H E).nox C (defBody st) s):Fn P w K mg base C (k + 1) x (runD n m s):=by
 obtain ⟨f,fd,hm',F⟩:=T.ex
 exact ⟨f,fd,ps,hm',F.kp,F.binds hb,fn_D F S hn hm (hbody f)⟩
section
variable {X:Cx} {C:Cl} {k:Nat} {F:FDen} {n:Str} {p pos:Pos} {x:Expr} {es:List Expr} {ga:ADen}
theorem pd_callF (G:Fn X.prog X.w X.K X.mg X.base C k n F) (hr:Room k X.A) (hg:Gl X n)
  (ha:PDA X C (x :: es) ga) (hdb:(n == ("__debug__":Str)) = false:=by decide) (he:starEach (x :: es) X.env = (false,eval x X.env) :: starEach es X.env:=by rfl) (hpl:(backTo pos (starEach es X.env)).any (·.1) = false:=by rfl) :
  PD X C (.Call (.Name n p) (x :: es) [] pos) (gCall F ga):=by
 obtain ⟨f,fd,ps,hm,hk,hb,ok⟩:=G.ex
 exact pd_call ok hr hg hm hk hb ha hdb he hpl
end
noncomputable def relabelS (scope osc:Scope):Scope :=
 { scope with names:=scope.names.map fun (n,k) => if (k == .free && osc.kind == .function && osc.names.lookup n == some .cell) then (n,.cell) else (n,k) }
noncomputable def compOk (oN:List Str) (osc:Scope) (N:List Str) (scope:Scope) (μ:List (Option Nat)):Bool :=
 scope.names.all (fun y => decide (y.2 ≠ .cell)) && decide (scope.kind = .function) && scope.names.all (fun y => !decide (y.2 = .local) || decide (scope.names.lookup y.1 = some .local)) &&
  scope.names.all (fun y => !decide (y.2 = .free) || decide (osc.names.lookup y.1 = some .cell)) &&
  (relabelS scope osc).names.all (fun y => !(decide (y.2 = .cell) || decide (y.2 = .free)) || decide ((y.1,NameKind.free) ∈ scope.names)) && muOk oN osc N (relabelS scope osc) μ
structure CompOk (X:Cx) (N:List Str) (scope:Scope) (μ:List (Option Nat)):Prop where
 cell:∀ y ∈ scope.names,y.2 ≠ .cell
 kind:scope.kind = .function
 names:∀ y ∈ scope.names,y.2 = .local -> scope.names.lookup y.1 = some .local
 free:∀ y ∈ scope.names,y.2 = .free -> X.env.kindOf y.1 = some .cell \/ X.env.kindOf y.1 = some .free
 has:∀ x,((relabel scope X.env).names.lookup x = some .cell \/ (relabel scope X.env).names.lookup x = some .free) -> (x,NameKind.free) ∈ scope.names
 mu:muOk X.N X.env.scope N (relabel scope X.env) μ = true
theorem compOk_of {X:Cx} {oN:List Str} {osc:Scope} {N:List Str} {scope:Scope} {μ:List (Option Nat)} (hN:X.N = oN) (hs:X.env.scope = osc) (h:compOk oN osc N scope μ = true):CompOk X N scope μ:=by
 subst hN hs
 unfold compOk at h
 simp only [Bool.and_eq_true] at h
 obtain ⟨⟨⟨⟨⟨h1,h2⟩,h3⟩,h4⟩,h5⟩,h6⟩:=h
 refine ⟨fun y hy => of_decide_eq_true (List.all_eq_true.mp h1 y hy),of_decide_eq_true h2,fun y hy e => ?_,fun y hy e => .inl ?_,fun x hx => ?_,h6⟩
 ·have:=List.all_eq_true.mp h3 y hy
  simp only [Bool.or_eq_true,Bool.not_eq_true',decide_eq_false_iff_not,decide_eq_true_eq] at this
  exact this.resolve_left fun z => z e
 ·have:=List.all_eq_true.mp h4 y hy
  simp only [Bool.or_eq_true,Bool.not_eq_true',decide_eq_false_iff_not,decide_eq_true_eq] at this
  exact this.resolve_left fun z => z e
 ·have hx:(relabelS scope X.env.scope).names.lookup x = some .cell \/ (relabelS scope X.env.scope).names.lookup x = some .free:=hx
  have q:∀ k:NameKind,(k = .cell \/ k = .free) -> (relabelS scope X.env.scope).names.lookup x = some k -> (x,NameKind.free) ∈ scope.names:=fun k hk hl => by
   have:=List.all_eq_true.mp h5 (x,k) (PySem.mem_of_lookup hl)
   simp only [Bool.or_eq_true,Bool.not_eq_true',Bool.or_eq_false_iff,decide_eq_false_iff_not,decide_eq_true_eq] at this
   rcases this with ⟨a,b⟩ | c
   ·exact (hk.elim a b).elim
   ·exact c
  rcases hx with hx | hx
  ·exact q _ (.inl rfl) hx
  ·exact q _ (.inr rfl) hx
section
variable {X:Cx} {C:Cl} {tg iter elt:Expr} {ifs:List Expr} {scope:Scope} {pos:Pos} {N:List Str} {μ:List (Option Nat)} {γ:ADen} {β:BDen} {p:TDen} {g:Den}
theorem pd_compN (hc:X.calm = true) (ok:CompOk X N scope μ) (hi:PDI X C tg iter γ)
  (hg:∀ fp A s H,PDG (cxComp X N scope (clos X.env.cells scope.names []) A fp s H) C tg β) (ht:∀ fp A s H,PDTs (cxComp X N scope (clos X.env.cells scope.names []) A fp s H) C ifs p) (he:∀ fp A s H,PD (cxComp X N scope (clos X.env.cells scope.names []) A fp s H) C elt g)
  (hs:∀ x,foldedSetIterable iter X.env x = pure x:=by intro _; rfl):PD X C (.ListComp elt [⟨tg,iter,ifs,0⟩] scope pos) (gComp μ γ β p g) :=
 pd_comp hc ok.cell ok.kind ok.names ok.free ok.has ok.mu hi hg ht he hs
theorem pds_compN {i:Nat} {y:Str} {py spos:Pos} (hN:X.N.Nodup) (hiN:X.N[i]? = some y) (hx:Loc X.env.scope y) (hc:X.calm = true) (ok:CompOk X N scope μ) (hi:PDI X C tg iter γ)
  (hg:∀ fp A s H,PDG (cxComp X N scope (clos X.env.cells scope.names []) A fp s H) C tg β) (ht:∀ fp A s H,PDTs (cxComp X N scope (clos X.env.cells scope.names []) A fp s H) C ifs p) (he:∀ fp A s H,PD (cxComp X N scope (clos X.env.cells scope.names []) A fp s H) C elt g)
  (hsw:swapsWith (.ListComp elt [⟨tg,iter,ifs,0⟩] scope pos) (some (.Name y py)) spos.line X.env = pure true:=by rfl)
  (hf:X.fn y = true \/ X.env.scope.names.lookup y = some .local:=by first | exact .inl rfl | exact .inr rfl | assumption)
  (hs:∀ x,foldedSetIterable iter X.env x = pure x:=by intro _; rfl):PDS X C (.Assign [.Name y py] (.ListComp elt [⟨tg,iter,ifs,0⟩] scope pos) spos) (sSet i (gComp μ γ β p g)) :=
 pds_comp hN hiN hx hc ok.cell ok.kind ok.names ok.free ok.has ok.mu hi hg ht he hsw hf hs
end
section
variable {X:Cx} {C:Cl} {x b:Expr} {g:Den} {pos:Pos}
theorem pds_app {i:Nat} {n:Str} {p ap cp:Pos} (hv:PE X (.Name n p) (tVar i)) (he:PD X C x g)
  (hbase:attributeBase (.Name n p) "append" X.env (eval (.Name n p) X.env) = eval (.Name n p) X.env:=by rfl)
  (hline:(ap.endLine == cp.line) = true:=by rfl) (hs1:starEach [x] X.env = (false,eval x X.env) :: starEach [] X.env:=by rfl)
  (hfew:((backTo cp (starEach [x] X.env)).all (fun x => !x.1) && (backToKw cp (keywordEach [] X.env)).all (fun x => x.1.isSome)
   && decide ([x].length + ([]:List Keyword).length + (if ([]:List Keyword).isEmpty then 0 else 1) < 30)) = true:=by rfl)
  (hpl:(backTo cp (starEach [] X.env)).any (·.1) = false:=by rfl)
  (hs:swapsWith (.Call (.Attribute (.Name n p) "append" ap) [x] [] cp) none pos.line X.env = pure false:=by rfl) :
  PDS X C (.Expr (.Call (.Attribute (.Name n p) "append" ap) [x] [] cp) pos) (sApp i g):=fun e₀ =>
 ps_imp (ps_expr (pe_bm PySem.F.plainAttrs_list PySem.F.slot_list_append PySem.F.type_list_append mt_append hv (pa_cons he pa_nil hs1) hbase hfew hline hs1 hpl) hs) fun Dn σ H hw => app_read hw
noncomputable def gNeg (g:Den):Den:=fun ρ Ω => match g ρ Ω with
 | some (.int i,Ω') => some (.int (-i),Ω')
 | _ => none
theorem pd_neg (h:PD X C x g):PD X C (.UnaryOp .USub x pos) (gNeg g):=pe_imp (pe_un un_neg h) fun σ H Q hw' => by
 obtain ⟨e,Ω,ρ,d,Ω',eH,w,rl,q,kk⟩:=hw'
 unfold gNeg at q
 cases q1:g ρ Ω with
 | none => rw [q1] at q; cases q
 | some p1 =>
  obtain ⟨d1,Ω1⟩:=p1
  rw [q1] at q
  refine ⟨e,Ω,ρ,d1,Ω1,eH,w,rl,q1,fun v e' x' w' i' => ?_⟩
  cases d1 with
  | int i =>
   rw [Is] at i'
   cases q
   exact ⟨i,i',kk _ e' x' w' (by rw [Is])⟩
  | _ => cases q
end
noncomputable abbrev C0:Cl:=fun _ => none
end DL
namespace DL
open PySem
section
variable (ρ:List Sl) (Ω:List OS)
@[simp] theorem ap_var (i:Nat):gVar i ρ Ω = match ρ[i]? with | some (.dat d) => some (d,Ω) | _ => none:=(rfl)
@[simp] theorem ap_c (d:D):gC d ρ Ω = some (d,Ω):=(rfl)
@[simp] theorem ap_op (r:D -> D -> Option D) (f g:Den):gOp r f g ρ Ω = match f ρ Ω with
 | some (x,Ω₁) => (match g ρ Ω₁ with
  | some (y,Ω₂) => (match r x y with
   | some z => some (z,Ω₂)
   | none => none)
  | none => none)
 | none => none:=(rfl)
@[simp] theorem ap_T (g:Den):gT g ρ Ω = match g ρ Ω with | some (.bl b,Ω') => some (b,Ω') | _ => none:=(rfl)
@[simp] theorem ap_andT (p q:TDen):gAndT p q ρ Ω = match p ρ Ω with | some (true,Ω') => q ρ Ω' | some (false,Ω') => some (false,Ω') | none => none:=(rfl)
@[simp] theorem ap_orT (p q:TDen):gOrT p q ρ Ω = match p ρ Ω with | some (true,Ω') => some (true,Ω') | some (false,Ω') => q ρ Ω' | none => none:=(rfl)
@[simp] theorem ap_notT (p:TDen):gNotT p ρ Ω = match p ρ Ω with | some (k,Ω') => some (!k,Ω') | none => none:=(rfl)
@[simp] theorem ap_andV (f g:Den):gAndV f g ρ Ω = match f ρ Ω with | some (.bl true,Ω') => g ρ Ω' | some (.bl false,Ω') => some (.bl false,Ω') | _ => none:=(rfl)
@[simp] theorem ap_notV (f:Den):gNotV f ρ Ω = match f ρ Ω with | some (.bl k,Ω') => some (.bl (!k),Ω') | _ => none:=(rfl)
@[simp] theorem ap_if (p:TDen) (f g:Den):gIf p f g ρ Ω = match p ρ Ω with | some (true,Ω') => f ρ Ω' | some (false,Ω') => g ρ Ω' | none => none:=(rfl)
@[simp] theorem ap_chain (r r':D -> D -> Option D) (f g h:Den):gChain r r' f g h ρ Ω = match f ρ Ω with
 | some (x,Ω1) => (match g ρ Ω1 with
  | some (y,Ω2) => (match r x y with
   | some (.bl true) => (match h ρ Ω2 with
    | some (z,Ω3) => (match r' y z with
     | some d => some (d,Ω3)
     | none => none)
    | none => none)
   | some (.bl false) => some (.bl false,Ω2)
   | _ => none)
  | none => none)
 | none => none:=(rfl)
@[simp] theorem ap_nil:gNil ρ Ω = some ([],Ω):=(rfl)
@[simp] theorem ap_cons (f:Den) (g:ADen):gCons f g ρ Ω = match f ρ Ω with
 | some (d,Ω1) => (match g ρ Ω1 with | some (ds,Ω2) => some (d :: ds,Ω2) | none => none)
 | none => none:=(rfl)
@[simp] theorem ap_tup (g:ADen):gTup g ρ Ω = match g ρ Ω with | some (ds,Ω') => (if ds.length <= 100000 then some (.tup ds,Ω') else none) | none => none:=(rfl)
@[simp] theorem ap_lst (g:ADen):gLst g ρ Ω = match g ρ Ω with | some (ds,Ω') => (if ds.length <= 100000 then some (.lst ds,Ω') else none) | none => none:=(rfl)
@[simp] theorem ap_noPart:gNoPart ρ Ω = some (none,Ω):=(rfl)
@[simp] theorem ap_part (g:Den):gPart g ρ Ω = match g ρ Ω with | some (.int i,Ω') => some (some i,Ω') | _ => none:=(rfl)
@[simp] theorem ap_sl (f:Den) (lo hi:PDen):gSl f lo hi ρ Ω = match f ρ Ω with
 | some (d,Ω1) => (match lo ρ Ω1 with
  | some (l,Ω2) => (match hi ρ Ω2 with
   | some (u,Ω3) => (match slD d l u with | some z => some (z,Ω3) | none => none)
   | none => none)
  | none => none)
 | none => none:=(rfl)
@[simp] theorem ap_CB (r:List D -> Option D) (g:ADen):gCB r g ρ Ω = match g ρ Ω with | some (ds,Ω1) => (match r ds with | some z => some (z,Ω1) | none => none) | none => none:=(rfl)
@[simp] theorem ap_un (r:D -> Option D) (g:Den):gUn r g ρ Ω = match g ρ Ω with | some (d,Ω1) => (match r d with | some z => some (z,Ω1) | none => none) | none => none:=(rfl)
@[simp] theorem ap_neg (g:Den):gNeg g ρ Ω = match g ρ Ω with | some (.int i,Ω') => some (.int (-i),Ω') | _ => none:=(rfl)
@[simp] theorem ap_call (f:FDen) (g:ADen):gCall f g ρ Ω = match g ρ Ω with | some (ds,Ω1) => f ds Ω1 | none => none:=(rfl)
@[simp] theorem ap_seq (g:Den):gSeq g ρ Ω = match g ρ Ω with | some (d,Ω') => (match seqD d with | some ds => some (ds,Ω') | none => none) | none => none:=(rfl)
@[simp] theorem ap_rng (r:List D -> Option (List D)) (g:ADen):gRng r g ρ Ω = match g ρ Ω with | some (ds,Ω') => (match r ds with | some es => some (es,Ω') | none => none) | none => none:=(rfl)
@[simp] theorem ap_comp (μ:List (Option Nat)) (γ:ADen) (β:BDen) (p:TDen) (g:Den):gComp μ γ β p g ρ Ω = match γ ρ Ω with
 | some (ds,Ω1) => (if ds.length <= 100000 then (match compD β p g ds (innerD μ ρ) Ω1 with | some (ys,Ω2) => some (.lst ys,Ω2) | none => none) else none)
 | none => none:=(rfl)
@[simp] theorem ap_true:gTrue ρ Ω = some (true,Ω):=(rfl)
@[simp] theorem ap_next:sNext ρ Ω = some (.nx ρ Ω):=(rfl)
@[simp] theorem ap_sSeq (s t:SDen):sSeq s t ρ Ω = match s ρ Ω with | some (.nx ρ' Ω') => t ρ' Ω' | r => r:=(rfl)
@[simp] theorem ap_ghost (γ:List Sl -> Option (List Sl)) (s:SDen):sGhost γ s ρ Ω = match γ ρ with | some ρ' => s ρ' Ω | none => none:=(rfl)
@[simp] theorem ap_set (i:Nat) (g:Den):sSet i g ρ Ω = match g ρ Ω with | some (d,Ω') => some (.nx (ρ.set i (.dat d)) Ω') | none => none:=(rfl)
@[simp] theorem ap_ret (g:Den):sRet g ρ Ω = match g ρ Ω with | some (d,Ω') => some (.rt d Ω') | none => none:=(rfl)
@[simp] theorem ap_sIf (p:TDen) (s t:SDen):sIf p s t ρ Ω = match p ρ Ω with | some (true,Ω') => s ρ Ω' | some (false,Ω') => t ρ Ω' | none => none:=(rfl)
@[simp] theorem ap_own (i:Nat) (g:ADen):sOwn i g ρ Ω = match g ρ Ω with | some (ds,Ω') => (if ds.length <= 100000 then some (.nx (ρ.set i (.own ds)) Ω') else none) | none => none:=(rfl)
@[simp] theorem ap_app (i:Nat) (g:Den):sApp i g ρ Ω = match g ρ Ω with
 | some (d,Ω') => (match ρ[i]? with | some (.own ds) => (if ds.length < 100000 then some (.nx (ρ.set i (.own (ds ++ [d]))) Ω') else none) | _ => none)
 | none => none:=(rfl)
@[simp] theorem ap_asg (β:BDen) (g:Den):sAsg β g ρ Ω = match g ρ Ω with | some (d,Ω') => (match β d ρ with | some ρ' => some (.nx ρ' Ω') | none => none) | none => none:=(rfl)
@[simp] theorem ap_for (γ:ADen) (β:BDen) (s:SDen):sFor γ β s ρ Ω = match γ ρ Ω with | some (ds,Ω') => forD β s ds ρ Ω' | none => none:=(rfl)
@[simp] theorem ap_bName (i:Nat) (d:D):bName i d ρ = some (ρ.set i (.dat d)):=(rfl)
@[simp] theorem ap_bTup (is:List Nat) (ds:List D):bTup is (.tup ds) ρ = bNames is ds ρ:=(rfl)
theorem for_cons (β:BDen) (s:SDen) (d:D) (ds:List D):forD β s (d :: ds) ρ Ω = match β d ρ with
  | some ρ1 => (match s ρ1 Ω with
   | some (.nx ρ' Ω') => forD β s ds ρ' Ω'
   | some (.ct ρ' Ω') => forD β s ds ρ' Ω'
   | some (.bk ρ' Ω') => some (.nx ρ' Ω')
   | some (.rt z Ω') => some (.rt z Ω')
   | none => none)
  | none => none:=(rfl)
theorem comp_cons (β:BDen) (p:TDen) (g:Den) (d:D) (ds:List D):compD β p g (d :: ds) ρ Ω = match β d ρ with
  | some ρ1 => (match p ρ1 Ω with
   | some (true,Ω1) => (match g ρ1 Ω1 with
    | some (y,Ω2) => (match compD β p g ds ρ1 Ω2 with
     | some (ys,Ω3) => some (y :: ys,Ω3)
     | none => none)
    | none => none)
   | some (false,Ω1) => compD β p g ds ρ1 Ω1
   | none => none)
  | none => none:=(rfl)
theorem ap_run (n m:Nat) (s:SDen) (ds:List D):runD n m s ds Ω = if ds.length = n then (match s (ds.map Sl.dat ++ List.replicate (m - n) Sl.und) Ω with
  | some (.rt d Ω') => some (d,Ω')
  | some (.nx _ Ω') => some (.non,Ω')
  | _ => none)
 else none:=(rfl)
@[simp] theorem ap_dI (c:Int -> Int -> Bool) (f:Int -> Int -> Int) (i j:Int):dI c f (.int i) (.int j) = if c i j = true then some (.int (f i j)) else none:=(rfl)
@[simp] theorem ap_dB (f:Int -> Int -> Bool) (i j:Int):dB f (.int i) (.int j) = some (.bl (f i j)):=(rfl)
@[simp] theorem add_int (i j:Int):addD (.int i) (.int j) = some (.int (i + j)):=(rfl)
@[simp] theorem add_lst (xs ys:List D):addD (.lst xs) (.lst ys) = if xs.length + ys.length <= 100000 then some (.lst (xs ++ ys)) else none:=(rfl)
@[simp] theorem ix_lst (xs:List D) (i:Int):ixD (.lst xs) (.int i) = L2.atI xs i:=(rfl)
@[simp] theorem ix_scr (ns:List Int) (i:Int):ixD (.scr ns) (.int i) = (L2.atI ns i).map D.int:=(rfl)
@[simp] theorem sl_lst (xs:List D) (lo hi:Option Int):slD (.lst xs) lo hi = some (.lst (cutL xs lo hi)):=(rfl)
@[simp] theorem len_lst (xs:List D):lenD [.lst xs] = some (.int xs.length):=(rfl)
@[simp] theorem len_scr (ns:List Int):lenD [.scr ns] = some (.int ns.length):=(rfl)
@[simp] theorem min_2 (i j:Int):min2D [.int i,.int j] = some (.int (if j < i then j else i)):=(rfl)
@[simp] theorem int_b (b:Bool):int1D [.bl b] = some (.int (if b then 1 else 0)):=(rfl)
@[simp] theorem seq_lst (xs:List D):seqD (.lst xs) = some xs:=(rfl)
theorem rng_1 {j:Int} (h0:-1000000 <= j) (h:j <= 1000000):rng1 [.int j] = some (upD 0 j.toNat):=grd_pos (by omega)
theorem mul_i {i j:Int} (h:(-1000000000000000000 < i /\ i < 1000000000000000000) \/ (-1000000000000000000 < j /\ j < 1000000000000000000)):mulD (.int i) (.int j) = some (.int (i * j)):=grd_pos (by omega)
end
theorem run_rt {n m:Nat} {s:SDen} {ds:List D} {Ω Ω':List OS} {d:D} (hl:ds.length = n) (h:s (ds.map Sl.dat ++ List.replicate (m - n) Sl.und) Ω = some (.rt d Ω')):runD n m s ds Ω = some (d,Ω'):=by
 rw [ap_run,if_pos hl,h]
theorem seq_nx {s t:SDen} {ρ ρ':List Sl} {Ω Ω':List OS} (h:s ρ Ω = some (.nx ρ' Ω')):sSeq s t ρ Ω = t ρ' Ω':=by rw [ap_sSeq,h]
theorem seq_rt {s t:SDen} {ρ:List Sl} {Ω Ω':List OS} {d:D} (h:s ρ Ω = some (.rt d Ω')):sSeq s t ρ Ω = some (.rt d Ω'):=by rw [ap_sSeq,h]
theorem atI_nat' {β:Type} (xs:List β) (i:Nat) (h:i < xs.length):L2.atI xs (i:Int) = some xs[i]:=L2.atI_nat (List.getElem?_eq_getElem h)
theorem atI_map {β γ:Type} (f:β -> γ) (xs:List β) (i:Int):L2.atI (xs.map f) i = (L2.atI xs i).map f:=by
 unfold L2.atI
 rw [List.length_map]
 cases L2.ixN xs.length i with
 | none => rfl
 | some j => simp
theorem cut_to {β:Type} (xs:List β) (k:Nat):cutL xs none (some (k:Int)) = xs.take k:=by
 unfold cutL
 rw [HT.sIx_none,HT.sIx_nat,List.drop_zero,Nat.sub_zero]
 rcases Nat.le_total k xs.length with h | h
 ·rw [Nat.min_eq_left h]
 ·rw [Nat.min_eq_right h,List.take_length,List.take_of_length_le h]
theorem cut_from {β:Type} (xs:List β) (k:Nat):cutL xs (some (k:Int)) none = xs.drop k:=by
 unfold cutL
 rw [HT.sIx_none,HT.sIx_nat]
 rcases Nat.le_total k xs.length with h | h
 ·rw [Nat.min_eq_left h,List.take_of_length_le (by simp)]
 ·rw [Nat.min_eq_right h,List.drop_length,List.drop_eq_nil_of_le h]; simp
theorem shaped_int (i:Int):SeqAt.shaped (toP (.int i)) = true:=by rw [toP]; rfl
theorem shaped_bl (b:Bool):SeqAt.shaped (toP (.bl b)) = true:=by rw [toP]; rfl
@[simp] theorem eq_int_int (neg:Bool) (i j:Int):eqD neg (.int i) (.int j) = some (.bl (if neg then !decide (i = j) else decide (i = j))):=by
 unfold eqD
 rw [shaped_int,shaped_int]
 have e:PyData.eqv (toP (.int i)) (toP (.int j)) = decide (i = j):=by
  rw [toP,toP,PyData.eqv]
  by_cases h:i = j <;> simp [h]
 rw [e]
 rfl
@[simp] theorem eq_bl_bl (neg:Bool) (i j:Bool):eqD neg (.bl i) (.bl j) = some (.bl (if neg then !decide (i = j) else decide (i = j))):=by
 unfold eqD
 rw [shaped_bl,shaped_bl]
 have e:PyData.eqv (toP (.bl i)) (toP (.bl j)) = decide (i = j):=by
  rw [toP,toP]
  cases i <;> cases j <;> rfl
 rw [e]
 rfl
end DL
namespace DL
open PySem PySem.Spec PyProof.Rows L2
noncomputable def OIs (K:PySem.W.Frag) (α:List Addr) (F:Hp):Option D -> Option V -> Prop
 | none,none => True
 | some d,some v => Is K α F d v
 | _,_ => False
section
variable {κ:Type} [DecidableEq κ]
noncomputable def valD (kvs:List (κ × D)) (k:κ):Option D:=(kvs.find? fun kv => decide (kv.1 = k)).map (·.2)
noncomputable def putD (kvs:List (κ × D)) (k:κ) (v:D):List (κ × D) :=
 if (kvs.any fun kv => decide (kv.1 = k)) = true then kvs.map (fun kv => if kv.1 = k then (kv.1,v) else kv) else kvs ++ [(k,v)]
variable {K:PySem.W.Frag} {α:List Addr} {F:Hp}
theorem PsIs.len:∀ {ps:List (κ × D)} {vs:List (κ × V)},PsIs K α F ps vs -> ps.length = vs.length
 | [],_,h => by rw [show _ = [] from h]; rfl
 | p :: r,_,⟨v,t,e,_,q⟩ => by rw [e,List.length_cons,List.length_cons,q.len]
theorem PsIs.val (k:κ):∀ {ps:List (κ × D)} {vs:List (κ × V)},PsIs K α F ps vs -> OIs K α F (valD ps k) (valV vs k)
 | [],_,h => by rw [show _ = [] from h]; exact trivial
 | p :: r,_,⟨v,t,e,i,q⟩ => by
  subst e
  by_cases h:p.1 = k
  ·have e1:valD (p :: r) k = some p.2:=by simp [valD,List.find?_cons,h]
   rw [e1,valV_pos h]; exact i
  ·have e1:valD (p :: r) k = valD r k:=by simp [valD,List.find?_cons,h]
   rw [e1,valV_neg h]; exact q.val k
theorem PsIs.repl (k:κ) {d:D} {y:V} (iy:Is K α F d y):∀ {ps:List (κ × D)} {vs:List (κ × V)},PsIs K α F ps vs -> PsIs K α F (ps.map fun kv => if kv.1 = k then (kv.1,d) else kv) (vs.map fun kv => if kv.1 = k then (kv.1,y) else kv)
 | [],_,h => by rw [show _ = [] from h]; exact rfl
 | p :: r,_,⟨v,t,e,i,q⟩ => by
  subst e
  rw [List.map_cons,List.map_cons]
  by_cases h:p.1 = k
  ·rw [if_pos h,if_pos h]; exact ⟨y,_,rfl,iy,q.repl k iy⟩
  ·rw [if_neg h,if_neg h]; exact ⟨v,_,rfl,i,q.repl k iy⟩
theorem PsIs.snoc (k:κ) {d:D} {y:V} (iy:Is K α F d y):∀ {ps:List (κ × D)} {vs:List (κ × V)},PsIs K α F ps vs -> PsIs K α F (ps ++ [(k,d)]) (vs ++ [(k,y)])
 | [],_,h => by rw [show _ = [] from h]; exact ⟨y,[],rfl,iy,rfl⟩
 | p :: r,_,⟨v,t,e,i,q⟩ => by
  subst e
  exact ⟨v,_,rfl,i,q.snoc k iy⟩
theorem PsIs.any (k:κ):∀ {ps:List (κ × D)} {vs:List (κ × V)},PsIs K α F ps vs -> (ps.any fun kv => decide (kv.1 = k)) = vs.any fun kv => decide (kv.1 = k)
 | [],_,h => by rw [show _ = [] from h]; rfl
 | p :: r,_,⟨v,t,e,i,q⟩ => by
  subst e
  rw [List.any_cons,List.any_cons,q.any k]
theorem PsIs.put {ps:List (κ × D)} {vs:List (κ × V)} (h:PsIs K α F ps vs) (k:κ) {d:D} {y:V} (iy:Is K α F d y):PsIs K α F (putD ps k d) (putK vs k y):=by
 unfold putD putK
 rw [h.any k]
 split
 ·exact h.repl k iy
 ·exact h.snoc k iy
end
noncomputable def E4.obj (e:E4) (p:Addr) (H':Hp):E4:=⟨e.α ++ [p],e.F,fun b => e.A b \/ b = p,H'⟩
noncomputable def E4.at (e:E4) (a:Addr) (o:HO):E4:=⟨e.α,e.F,e.A,upd e.H a o⟩
section
variable {K:PySem.W.Frag} {C:Cl} {e:E4} {Ω:List OS}
theorem Wf.objA (w:Wf K C e Ω) {n:Nat} {a:Addr} (h:e.α[n]? = some a):e.A a /\ ∃ o,Ω[n]? = some o:=by
 have hl:n < Ω.length:=by rw [<- w.ol]; exact (List.getElem?_eq_some_iff.mp h).1
 exact ⟨(w.ob n a _ h (List.getElem?_eq_getElem hl)).1,_,List.getElem?_eq_getElem hl⟩
theorem Wf.obj (w:Wf K C e Ω) {p:Addr} {H':Hp} {o:OS} (hp:e.H p = none) (hk:∀ b u,e.H b = some u -> H' b = some u) (hn:H' p ≠ none /\ ∀ xs,H' p ≠ some (.tup xs)) (ho:OSIs K C (e.obj p H') p o) :
  Wf K C (e.obj p H') (Ω ++ [o]) /\ Ext e (e.obj p H'):=by
 have nA:¬ e.A p:=fun z => (w.ah p z).1 hp
 have npα:p ∉ e.α:=fun z => by
  obtain ⟨n,h⟩:=List.getElem?_of_mem z
  exact nA (w.objA h).1
 refine ⟨⟨fun b u h => hk b u (w.fh b u h),fun b h => ?_,fun b h => ?_,?_,?_,fun n b u h1 h2 => ?_⟩,⟨fun b o' u h => hk b _ h,fun b u h _ => hk b u h,fun b u h => ⟨u,hk b u h⟩,Same.refl _,fun b u h => .inl h,fun b h => ?_,fun b h => .inl h,[p],rfl⟩⟩
 ·rcases h with h | rfl
  ·exact w.fa b h
  ·exact w.nF hp
 ·rcases h with h | rfl
  ·obtain ⟨h1,h2⟩:=w.ah b h
   cases q:e.H b with
   | none => exact absurd q h1
   | some u =>
    show H' b ≠ none /\ ∀ xs,H' b ≠ some (.tup xs)
    rw [hk b u q,<- q]
    exact ⟨h1,h2⟩
  ·exact hn
 ·show (e.α ++ [p]).length = (Ω ++ [o]).length
  rw [List.length_append,List.length_append,w.ol]; rfl
 ·show (e.α ++ [p]).Nodup
  rw [List.nodup_append]
  refine ⟨w.nd,by simp,fun x hx y hy => ?_⟩
  simp only [List.mem_singleton] at hy
  subst hy
  exact fun z => npα (z ▸ hx)
 ·have h1:(e.α ++ [p])[n]? = some b:=h1
  by_cases hl:n < e.α.length
  ·rw [List.getElem?_append_left hl] at h1
   rw [List.getElem?_append_left (by rw [<- w.ol]; exact hl)] at h2
   exact ⟨.inl (w.ob n b u h1 h2).1,(w.ob n b u h1 h2).2.keep (fun v hv => hk b v hv) (Same.refl _) ⟨[p],rfl⟩⟩
  ·have en:n = e.α.length:=by
    have:=(List.getElem?_eq_some_iff.mp h1).1
    rw [List.length_append] at this
    simp at this
    omega
   subst en
   rw [List.getElem?_append_right (Nat.le_refl _),Nat.sub_self] at h1
   rw [w.ol,List.getElem?_append_right (Nat.le_refl _),Nat.sub_self] at h2
   cases h1
   cases h2
   exact ⟨.inr rfl,ho⟩
 ·rcases h with h | rfl
  ·exact .inl h
  ·exact .inr hp
theorem Wf.atW (w:Wf K C e Ω) {n:Nat} {a:Addr} {o':OS} {ho:HO} (hα:e.α[n]? = some a) (hn:∀ xs,ho ≠ .tup xs) (h':OSIs K C (e.at a ho) a o'):Wf K C (e.at a ho) (Ω.set n o'):=by
 have hA:=(w.objA hα).1
 have hF:=w.fa a hA
 have neF:∀ b u,e.F b = some u -> b ≠ a:=fun b u h z => by subst z; rw [hF] at h; cases h
 refine ⟨fun b u h => ?_,w.fa,fun b h => ?_,by simp [E4.at,w.ol],w.nd,fun m b u h1 h2 => ?_⟩
 ·show upd e.H a ho b = some u
  rw [upd_ne (neF b u h)]; exact w.fh b u h
 ·show upd e.H a ho b ≠ none /\ ∀ xs,upd e.H a ho b ≠ some (.tup xs)
  by_cases z:b = a
  ·subst z; rw [upd_same]; exact ⟨by simp,fun xs q => hn xs (Option.some.inj q)⟩
  ·rw [upd_ne z]; exact w.ah b h
 ·by_cases z:m = n
  ·subst z
   have h1:e.α[m]? = some b:=h1
   rw [hα] at h1
   cases h1
   have hl:m < Ω.length:=by rw [<- w.ol]; exact (List.getElem?_eq_some_iff.mp hα).1
   rw [List.getElem?_set_self hl] at h2
   cases h2
   exact ⟨hA,h'⟩
  ·rw [List.getElem?_set_ne (fun q => z q.symm)] at h2
   have nb:b ≠ a:=fun q => by
    subst q
    exact z ((List.getElem?_inj (List.getElem?_eq_some_iff.mp h1).1 w.nd).mp (h1.trans hα.symm))
   refine ⟨(w.ob m b u h1 h2).1,(w.ob m b u h1 h2).2.keep (fun v hv => ?_) (Same.refl _) ⟨[],by simp [E4.at]⟩⟩
   show upd e.H a ho b = some v
   rw [upd_ne nb]; exact hv
theorem Wf.at (w:Wf K C e Ω) {n:Nat} {a:Addr} {o':OS} {ho:HO} (hα:e.α[n]? = some a) (hn:∀ xs,ho ≠ .tup xs) (h':OSIs K C (e.at a ho) a o') (hz:∀ o u,e.H a ≠ some (.frz o u)) :
  Wf K C (e.at a ho) (Ω.set n o') /\ Ext e (e.at a ho):=by
 have hA:=(w.objA hα).1
 refine ⟨w.atW hα hn h',⟨fun b o' u h => ?_,fun b u h hn => ?_,fun b u h => ?_,Same.refl _,fun b u h => .inl h,fun b h => .inl h,fun b h => h,[],by simp [E4.at]⟩⟩
 ·show upd e.H a ho b = some (.frz o' u)
  rw [upd_ne (fun z => hz o' u (by rw [<- z]; exact h))]; exact h
 ·show upd e.H a ho b = some u
  rw [upd_ne (fun z => hn (by rw [z]; exact hA))]; exact h
 ·by_cases z:b = a
  ·subst z; exact ⟨ho,upd_same⟩
  ·exact ⟨u,by show upd e.H a ho b = some u; rw [upd_ne z]; exact h⟩
end
noncomputable def keyD:D -> Option Key
 | .int i => some (.inl i)
 | .str x => some (.inr x)
 | _ => none
noncomputable def keysD:List D -> Option (List Key)
 | [] => some []
 | d :: ds => match keyD d with
  | some k => (match keysD ds with | some ks => some (k :: ks) | none => none)
  | none => none
noncomputable def tkeyD:D -> Option (List Key)
 | .tup xs => keysD xs
 | _ => none
section
variable {K:PySem.W.Frag} {α:List Addr} {F:Hp}
theorem keyD_v {d:D} {k:Key} {v:V} (h:keyD d = some k) (i:Is K α F d v):v = kV k:=by
 cases d <;> first | cases h | skip
 ·rw [Is] at i; exact i
 ·rw [Is] at i; exact i
theorem keysD_v:∀ {ds:List D} {ks:List Key} {vs:List V},keysD ds = some ks -> IsL K α F ds vs -> vs = ks.map kV
 | [],ks,vs,h,i => by cases h; rw [i.of_nil]; rfl
 | d :: ds,ks,vs,h,i => by
  obtain ⟨v,r,rfl,i1,i2⟩:=i.of_cons
  unfold keysD at h
  cases q:keyD d with
  | none => rw [q] at h; cases h
  | some k =>
   rw [q] at h
   dsimp only at h
   cases q2:keysD ds with
   | none => rw [q2] at h; cases h
   | some ks' =>
    rw [q2] at h
    cases h
    rw [List.map_cons,keyD_v q i1,keysD_v q2 i2]
theorem tkeyD_v {d:D} {ks:List Key} {v:V} (h:tkeyD d = some ks) (i:Is K α F d v):∃ b,v = .ref b /\ F b = some (.tup (ks.map kV)):=by
 cases d <;> first | cases h | skip
 rw [Is] at i
 obtain ⟨a,vs,rfl,e,q⟩:=i
 rw [keysD_v h q] at e
 exact ⟨a,rfl,e⟩
end
noncomputable def lookO:OS -> D -> Option (Option D)
 | .fzK kvs,d => (match keyD d with | some k => some (valD kvs k) | none => none)
 | .dK kvs,d => (match keyD d with | some k => some (valD kvs k) | none => none)
 | .dT kvs,d => (match tkeyD d with | some k => some (valD kvs k) | none => none)
 | .fzT kvs,d => (match tkeyD d with | some k => some (valD kvs k) | none => none)
 | _,_ => none
section
variable {K:PySem.W.Frag} {C:Cl} {e:E4} {Ω:List OS}
theorem dget_of (w:Wf K C e Ω) {n:Nat} {a:Addr} {o:OS} {d:D} {r:Option D} {y:V} (hα:e.α[n]? = some a) (hΩ:Ω[n]? = some o) (hl:lookO o d = some r) (i:Is K e.α e.F d y) :
  ∃ r',DGet e.H a y r' /\ OIs K e.α e.F r r':=by
 have ob:=(w.ob n a o hα hΩ).2
 unfold lookO at hl
 cases o with
 | fzK kvs =>
  obtain ⟨vs,ob',h1,h2⟩:=ob
  dsimp only at hl
  cases q:keyD d with
  | none => rw [q] at hl; cases hl
  | some k =>
   rw [q] at hl
   cases hl
   rw [keyD_v q i]
   exact ⟨_,.inl ⟨vs,k,.inr ⟨_,h1⟩,rfl,rfl⟩,h2.val k⟩
 | dK kvs =>
  obtain ⟨vs,h1,h2⟩:=ob
  dsimp only at hl
  cases q:keyD d with
  | none => rw [q] at hl; cases hl
  | some k =>
   rw [q] at hl
   cases hl
   rw [keyD_v q i]
   exact ⟨_,DGet.k h1,h2.val k⟩
 | dT kvs =>
  obtain ⟨vs,h1,h2⟩:=ob
  dsimp only at hl
  cases q:tkeyD d with
  | none => rw [q] at hl; cases hl
  | some k =>
   rw [q] at hl
   cases hl
   obtain ⟨b,rfl,hb⟩:=tkeyD_v q i
   exact ⟨_,DGet.t h1 (w.fh _ _ hb),h2.val k⟩
 | fzT kvs =>
  obtain ⟨vs,ob',h1,h2⟩:=ob
  dsimp only at hl
  cases q:tkeyD d with
  | none => rw [q] at hl; cases hl
  | some k =>
   rw [q] at hl
   cases hl
   obtain ⟨b,rfl,hb⟩:=tkeyD_v q i
   exact ⟨_,.inr ⟨vs,k,b,.inr ⟨_,h1⟩,rfl,w.fh _ _ hb,rfl⟩,h2.val k⟩
 | _ => cases hl
end
noncomputable def gDGet (go gi:Den):Den:=fun ρ Ω => match go ρ Ω with
 | some (.obj n,Ω1) => (match gi ρ Ω1 with
  | some (k,Ω2) => (match Ω2[n]? with
   | some o => (match lookO o k with | some (some d) => some (d,Ω2) | _ => none)
   | none => none)
  | none => none)
 | _ => none
section
variable {X:Cx} {C:Cl} {a b c x y:Expr} {f g h:Den} {pos pos' ap cp:Pos}
theorem OIs.some_of {K:PySem.W.Frag} {α:List Addr} {F:Hp} {d:D} {r:Option V} (h:OIs K α F (some d) r):∃ v,r = some v /\ Is K α F d v:=by
 cases r with
 | none => exact h.elim
 | some v => exact ⟨v,rfl,h⟩
theorem pd_dget (hu:X.A.units + 1 < cLine) (ho:PD X C a f) (hi:PD X C b g) (hs:NoSl b):PD X C (.Subscript a b pos) (gDGet f g):=pe_imp (pe_dget hu ho hi hs) fun σ H Q hw' => by
 obtain ⟨e,Ω,ρ,d,Ω',eH,w,rl,q,kk⟩:=hw'
 unfold gDGet at q
 cases q1:f ρ Ω with
 | none => rw [q1] at q; cases q
 | some p1 =>
  obtain ⟨d1,Ω1⟩:=p1
  rw [q1] at q
  cases d1 with
  | obj n =>
   dsimp only at q
   cases q2:g ρ Ω1 with
   | none => rw [q2] at q; cases q
   | some p2 =>
    obtain ⟨k,Ω2⟩:=p2
    rw [q2] at q
    dsimp only at q
    cases q3:Ω2[n]? with
    | none => rw [q3] at q; cases q
    | some o =>
     rw [q3] at q
     dsimp only at q
     cases q4:lookO o k with
     | none => rw [q4] at q; cases q
     | some r =>
      rw [q4] at q
      cases r with
      | none => cases q
      | some d' =>
       cases q
       refine ⟨e,Ω,ρ,_,Ω1,eH,w,rl,q1,fun v e1 x1 w1 i1 => ?_⟩
       refine ⟨e1,Ω1,ρ,k,_,rfl,w1,rl.ext x1,q2,fun u e2 x2 w2 i2 => ?_⟩
       have i3:=i1.ext x2
       rw [Is] at i3
       obtain ⟨p,hα,rfl⟩:=i3
       obtain ⟨r',g1,o1⟩:=dget_of w2 hα q3 q4 i2
       obtain ⟨v',rfl,iv⟩:=o1.some_of
       exact ⟨p,v',rfl,g1,kk v' e2 (x1.trans x2) w2 iv⟩
  | _ => cases q
end
end DL
namespace DL
open PySem PySem.Spec PyProof.Rows L2
theorem law_okO {K:PySem.W.Frag} {C:Cl} {F:FDen} {H:Hp} {a:Addr} {ns:List Int} {E:XK} (hS:SqL K H a (ns.map V.int)) (h:∃ Ω,F [.scr ns] [] = some (.bl true,Ω)):spD K C F [.ref a] H (fun v _ => v = .bl true) E:=by
 obtain ⟨Ω,h⟩:=h
 refine ⟨⟨[],H,fun _ => False,H⟩,[],[.scr ns],.bl true,Ω,rfl,⟨Same.refl _,fun _ h => h.elim,fun _ h => h.elim,rfl,List.nodup_nil,fun n a o h => by simp at h⟩,?_,h,fun v e' _ _ i => ?_⟩
 ·exact .cons (by rw [Is]; exact ⟨a,rfl,hS⟩) .nil
 ·rw [Is] at i; exact i
end DL
namespace DL
open PySem PySem.Spec PyProof.Rows L2
structure FunV (K:PySem.W.Frag) (x qual:Str) (st:Stmt) (dV:Value) (f:Addr) (fd:FuncData):Prop where
 ex:∃ (oc:Value) (od:Option Addr) (kV doc pm:Value) (an:Option Addr) (cdv ct:Value) (osl:Array (Option Value)),
  fd = PySem.W.fnOf x qual (defArgs st) (defBody st) (defScope st) dV kV doc pm an cdv ct /\ K.lookup f = some ⟨oc,od,.func fd,osl⟩ /\ PySem.W.codeIn K cdv qual = true
noncomputable def spC (K:PySem.W.Frag) (F:FDen):Sp:=fun vs H Q E => ∀ C:Cl,spD K C F vs H Q E
theorem law_okC {K:PySem.W.Frag} {F:FDen} {H:Hp} {a:Addr} {ns:List Int} {E:XK} (hS:SqL K H a (ns.map V.int)) (h:∃ Ω,F [.scr ns] [] = some (.bl true,Ω)):spC K F [.ref a] H (fun v _ => v = .bl true) E:=fun C => law_okO hS h
noncomputable def clAdd (C:Cl) (c:Str) (a:Addr):Cl:=fun x => if x = c then some a else C x
theorem clAdd_same {C:Cl} {c:Str} {a:Addr}:clAdd C c a c = some a:=if_pos rfl
section
variable (ρ:List Sl) (Ω:List OS)
@[simp] theorem ap_dget (go gi:Den):gDGet go gi ρ Ω = match go ρ Ω with
 | some (.obj n,Ω1) => (match gi ρ Ω1 with
  | some (k,Ω2) => (match Ω2[n]? with
   | some o => (match lookO o k with | some (some d) => some (d,Ω2) | _ => none)
   | none => none)
  | none => none)
 | _ => none:=(rfl)
@[simp] theorem ap_expr (g:Den):sExpr g ρ Ω = match g ρ Ω with | some (_,Ω') => some (.nx ρ Ω') | none => none:=(rfl)
end
end DL
namespace DL
open PySem
mutual
noncomputable def pl:D -> Bool
 | .non => true
 | .int _ => true
 | .str x => (PyData.str x).canLay0
 | .tup xs => plL xs
 | .lst xs => plL xs
 | _ => false
noncomputable def plL:List D -> Bool
 | [] => true
 | d :: ds => pl d && plL ds
end
mutual
noncomputable def dep:D -> Nat
 | .tup xs => depL xs + 1
 | .lst xs => depL xs + 1
 | _ => 0
noncomputable def depL:List D -> Nat
 | [] => 0
 | d :: ds => max (dep d) (depL ds)
end
mutual
theorem lay_pl:∀ d:D,pl d = true -> (toP d).canLay0 = true
 | .non,_ => by rw [toP]; rfl
 | .int _,_ => by rw [toP]; rfl
 | .str x,h => by rw [pl] at h; rw [toP]; exact h
 | .tup xs,h => by rw [pl] at h; rw [toP,PyData.canLay0]; exact lay_plL xs h
 | .lst xs,h => by rw [pl] at h; rw [toP,PyData.canLay0]; exact lay_plL xs h
 | .bl _,h => by simp [pl] at h
 | .scr _,h => by simp [pl] at h
 | .obj _,h => by simp [pl] at h
theorem lay_plL:∀ ds:List D,plL ds = true -> PyData.canLayAll0 (toPs ds) = true
 | [],_ => by rw [toPs]; rfl
 | d :: ds,h => by
  rw [plL,Bool.and_eq_true] at h
  rw [toPs,PyData.canLayAll0,Bool.and_eq_true]
  exact ⟨lay_pl d h.1,lay_plL ds h.2⟩
end
mutual
theorem dep_pl:∀ d:D,pl d = true -> (toP d).depth = dep d
 | .non,_ => by rw [toP,dep]; rfl; all_goals (intro _ z; cases z)
 | .int _,_ => by rw [toP,dep]; rfl; all_goals (intro _ z; cases z)
 | .str x,h => by rw [toP,dep]; rfl; all_goals (intro _ z; cases z)
 | .tup xs,h => by rw [pl] at h; rw [toP,dep,PyData.depth,dep_plL xs h]
 | .lst xs,h => by rw [pl] at h; rw [toP,dep,PyData.depth,dep_plL xs h]
 | .bl _,h => by simp [pl] at h
 | .scr _,h => by simp [pl] at h
 | .obj _,h => by simp [pl] at h
theorem dep_plL:∀ ds:List D,plL ds = true -> PyData.depthAll (toPs ds) = depL ds
 | [],_ => by rw [toPs,depL]; rfl
 | d :: ds,h => by
  rw [plL,Bool.and_eq_true] at h
  rw [toPs,depL,PyData.depthAll,dep_pl d h.1,dep_plL ds h.2]
end
theorem shaped_pl {d:D} (h:pl d = true) (hd:dep d <= 64):SeqAt.shaped (toP d) = true:=by
 unfold SeqAt.shaped
 rw [lay_pl d h,dep_pl d h]
 simp [hd]
mutual
theorem eqv_pl:∀ (p q:D),pl p = true -> pl q = true -> (PyData.eqv (toP p) (toP q) = true ↔ p = q)
 | .non,q,_,hq => by cases q <;> simp [toP,PyData.eqv,pl] at hq ⊢
 | .int i,q,_,hq => by cases q <;> simp [toP,PyData.eqv,pl] at hq ⊢
 | .str x,q,_,hq => by cases q <;> simp [toP,PyData.eqv,pl] at hq ⊢
 | .tup xs,q,hp,hq => by
  cases q with
  | tup ys =>
   rw [pl] at hp hq
   rw [toP,toP,PyData.eqv,eqv_plL xs ys hp hq]
   exact ⟨fun h => by rw [h],fun h => by injection h⟩
  | _ => simp [toP,PyData.eqv,pl] at hq ⊢
 | .lst xs,q,hp,hq => by
  cases q with
  | lst ys =>
   rw [pl] at hp hq
   rw [toP,toP,PyData.eqv,eqv_plL xs ys hp hq]
   exact ⟨fun h => by rw [h],fun h => by injection h⟩
  | _ => simp [toP,PyData.eqv,pl] at hq ⊢
 | .bl _,_,h,_ => by simp [pl] at h
 | .scr _,_,h,_ => by simp [pl] at h
 | .obj _,_,h,_ => by simp [pl] at h
theorem eqv_plL:∀ (ps qs:List D),plL ps = true -> plL qs = true -> (PyData.eqvAll (toPs ps) (toPs qs) = true ↔ ps = qs)
 | [],[],_,_ => by simp [toPs,PyData.eqvAll]
 | [],_ :: _,_,_ => by simp [toPs,PyData.eqvAll]
 | _ :: _,[],_,_ => by simp [toPs,PyData.eqvAll]
 | p :: ps,q :: qs,hp,hq => by
  rw [plL,Bool.and_eq_true] at hp hq
  rw [toPs,toPs,PyData.eqvAll,Bool.and_eq_true,eqv_pl p q hp.1 hq.1,eqv_plL ps qs hp.2 hq.2]
  exact ⟨fun h => by rw [h.1,h.2],fun h => by injection h with a b; exact ⟨a,b⟩⟩
end
theorem eq_self_pl (neg:Bool) {p:D} (h:pl p = true) (hd:dep p <= 64):eqD neg p p = some (.bl (!neg)):=by
 unfold eqD
 rw [shaped_pl h hd,(eqv_pl p p h h).mpr rfl]
 cases neg <;> rfl
theorem eq_ne_pl (neg:Bool) {p q:D} (hp:pl p = true) (hq:pl q = true) (dp:dep p <= 64) (dq:dep q <= 64) (n:p ≠ q):eqD neg p q = some (.bl neg):=by
 unfold eqD
 have e:PyData.eqv (toP p) (toP q) = false:=by
  cases z:PyData.eqv (toP p) (toP q) with
  | false => rfl
  | true => exact absurd ((eqv_pl p q hp hq).mp z) n
 rw [shaped_pl hp dp,shaped_pl hq dq,e]
 cases neg <;> rfl
end DL
namespace L2
open PySem PySem.Spec PyProof.Rows
noncomputable def Itx (x:Str):It:=⟨fun i _ => i < x.cps.size,fun i H v H' => H' = H /\ ∃ c,x.cps[i]? = some c /\ v = .str ⟨#[c]⟩,fun i _ => i = x.cps.size⟩
theorem turn_text {P:Program} {w:World} {K:PySem.W.Frag} {tg:Expr} (it:Addr) (x:Str) (t:Tok) (T:String) (hT:["enumerate","zip","dict_itemiterator","dict_reverseitemiterator","odict_iterator","itertools.zip_longest","itertools.pairwise"].contains T = false)
  (W:∀ A:Around,A.handled = none -> Walks P w A it [it] [it] x.cps.size (SignAt x) (fun i h => h.IsStrIter it T x t i)) (hself:∀ (A:Around) (i:Nat) (s:Shared) (Q:Value -> Shared -> Prop) (E:Value -> Shared -> Prop),s.heap.IsStrIter it T x t i -> Q (.ref it) s -> wpAny (model P w) A (pyIter (.ref it)) Q E s) :
  Turn P w K tg (Itx x) [it] it (fun i h => h.IsStrIter it T x t i) where
 mem:=by simp
 obj:=fun i h st b hb => by
  have e:b = it:=by simpa using hb
  subst e
  obtain ⟨o,h1,h2,h3⟩:=st
  exact ⟨o,h1,fun v z => by rw [h3] at z; cases z⟩
 keep:=fun i h h' st k => by
  obtain ⟨o,h1,h2⟩:=st
  exact ⟨o,k it (by simp) _ h1,h2⟩
 item:=by
  intro X hP hw hK hc i pins s σ H E I hf st hg
  subst hP hw hK
  obtain ⟨f0,f1,f2,f3,f4,f5⟩:=hf it (by simp)
  refine (W _ (I.ok.hd hc)).item i s _ _ hg st fun v h' tk hv st' kk => ?_
  obtain ⟨c,u,hc',rfl⟩:=hv
  have J1:Inv X pins σ H { s with heap:=h',toks:=tk }:=I.turned (fun b o hb e => kk b o (by simpa using hb) e) f0 f1 f3 f4 f5
  obtain ⟨o,g1,g2,g3⟩:=id st'
  exact ⟨_,rfl,go_of (s:={ s with heap:=h',toks:=tk }) (n:=T) g1 g2 g3 hT ⟨.str ⟨#[c]⟩,H,J1,⟨u,rfl⟩,⟨rfl,c,hc',rfl⟩,st',fun b hb => (hf b hb).1⟩⟩
 done:=by
  intro X hP hw hK hc i pins s σ H E I hf st hg
  subst hP hw hK
  obtain ⟨f0,f1,f2,f3,f4,f5⟩:=hf it (by simp)
  have e:i = x.cps.size:=hg
  subst e
  exact (W _ (I.ok.hd hc)).done s _ _ st fun h' tk kk => ⟨rfl,I.turned (t':=tk) (fun b o hb e => kk b o (by simpa using hb) e) f0 f1 f3 f4 f5⟩
 self:=fun A i s Q E st h => hself A i s Q E st h
section
variable {X:Cx} {tg:Expr}
noncomputable def iText (tl:TE):TI:=fun σ H R => tl σ H fun x H1 => ∃ z,x = .str z /\ R (Itx z) H1
theorem pi_text {l:Expr} {tl:TE} (hl:PE X l tl):PI X tg l (iText tl):=by
 intro pins s σ H R I h
 refine thn (hl pins s σ H _ I h) fun v s1 hw' => ?_
 obtain ⟨x,H1,I1,r1,q1⟩:=hw'
 obtain ⟨z,e,q⟩:=q1
 subst e
 obtain ⟨t,rfl⟩:=r1
 have fin:∀ T,["enumerate","zip","dict_itemiterator","dict_reverseitemiterator","odict_iterator","itertools.zip_longest","itertools.pairwise"].contains T = false ->
   (∀ A:Around,A.handled = none -> Walks X.prog X.w A s1.heap.objs.size [s1.heap.objs.size] [s1.heap.objs.size] z.cps.size (SignAt z) (fun i h => h.IsStrIter s1.heap.objs.size T z t i)) ->
   (∀ (A:Around) (i:Nat) (s:Shared) (Q:Value -> Shared -> Prop) (E:Value -> Shared -> Prop),s.heap.IsStrIter s1.heap.objs.size T z t i -> Q (.ref s1.heap.objs.size) s -> wpAny (model X.prog X.w) A (pyIter (.ref s1.heap.objs.size)) Q E s) ->
   ∀ o,(s1.heap.push o).IsStrIter s1.heap.objs.size T z t 0 -> PIE X pins σ tg R (.ref s1.heap.objs.size) { s1 with heap:=s1.heap.push o }:=fun T hT W hs o st => by
  refine ⟨s1.heap.objs.size,[s1.heap.objs.size],_,_,H1,rfl,I1.kept (t':=s1.toks) fun b o e => Heap.get?_push_of_some _ e,turn_text _ z t T hT W hs,st,fun b hb => ?_,q⟩
  have e:b = s1.heap.objs.size:=by simpa using hb
  subst e
  exact I1.fpOk (Nat.le_refl _) (I1.hok.fresh (Nat.le_refl _))
 cases ha:z.cps.all (· < 128)
 ·exact wpAny_pyIter_wide ha (fin "str_iterator" (by decide) (fun A hA => Walks.strWide hA _ z t) (fun A i s Q E st hq => wpAny_pyIter_striter_wide st hq) _ ⟨_,Heap.get?_push_size _ rfl,rfl,rfl⟩)
 ·exact wpAny_pyIter_ascii ha (fin "str_ascii_iterator" (by decide) (fun A hA => Walks.strAscii hA _ z t) (fun A i s Q E st hq => wpAny_pyIter_striter_ascii st hq) _ ⟨_,Heap.get?_push_size _ rfl,rfl,rfl⟩)
end
end L2
namespace L2
open PySem PySem.Spec PyProof.Rows
section
variable {X:Cx}
noncomputable def rEnds:V -> List V -> Hp -> VK -> Prop:=fun x vs H Q => ∃ a b,x = .str a /\ vs = [.str b] /\ Q (.bl (Txt.endswith a b)) H
theorem mt_ends:MtR X "str.endswith" rEnds:=by
 intro pins s σ H x vs v us Q I rx rv h
 obtain ⟨a,b,rfl,rfl,q⟩:=h
 obtain ⟨t,rfl⟩:=rx
 obtain ⟨u,rfl,ru⟩:=vals1 rv
 obtain ⟨t2,rfl⟩:=ru
 exact SC.endswith ⟨.bl _,H,I,rfl,q⟩
theorem vals_strs:∀ (l:List (Str × Tok)),Vals ((l.map (·.1)).map V.str) (strValues l)
 | [] => .nil
 | (x,t) :: l => .cons ⟨t,rfl⟩ (vals_strs l)
theorem strs_of:∀ {ys:List Str} {its:List Value},Vals (ys.map V.str) its -> ∃ l:List (Str × Tok),its = strValues l /\ l.map (·.1) = ys
 | [],_,.nil => ⟨[],rfl,rfl⟩
 | y :: ys,_,.cons r rs => by
  obtain ⟨t,rfl⟩:=r
  obtain ⟨l,rfl,e⟩:=strs_of rs
  exact ⟨(y,t) :: l,rfl,by rw [List.map_cons,e]⟩
noncomputable def rSplit:V -> List V -> Hp -> VK -> Prop:=fun x vs H Q => ∃ a b,x = .str a /\ vs = [.str b] /\ (b.length == 0) = false /\ a.length <= sizeLine /\ (Builtin.Str.partsBetween a (Builtin.Str.occurrences a b 0 a.length (a.length + 1)) b.length).length <= sizeLine /\ (Txt.split a b).length <= sizeLine /\
 ∀ p,H p = none -> Q (.ref p) (upd H p (.lst ((Txt.split a b).map V.str)))
theorem split_new {prog:Program} {w:World} {A:Around} {E:Value -> Shared -> Prop} {s:Shared} {x y:Str} {t u:Tok} {Q:Value -> Shared -> Prop} (hy:(y.length == 0) = false) (hsz:x.length <= sizeLine) (hsz2:(Builtin.Str.partsBetween x (Builtin.Str.occurrences x y 0 x.length (x.length + 1)) y.length).length <= sizeLine)
  (hq:∀ (l:List (Str × Tok)) (k:Nat),l.map (·.1) = Txt.split x y -> Q (.ref s.heap.objs.size) { s with heap:=s.heap.push { cls:=.type "list",data:=.seq (strValues l).toArray },toks:=k }):wpAny (model prog w) A (call (.builtin "str.split") [.str x t,.str y u]) Q E s:=by
 cases h1:(decide (x.length < y.length) || decide (Builtin.Str.strKind x < Builtin.Str.strKind y))
 ·cases hf:(Builtin.Str.occurrences x y 0 x.length (x.length + 1)).isEmpty
  ·refine call_meets F.slot_str_split (typeIs_str _ _ _) F.entry_str_split (F.args_str_split_2 _ _) (meets_str_split_sep x y t u h1 hy hf hsz hsz2) ?_
   have q:=hq (numbered s.toks (Builtin.Str.partsBetween x (Builtin.Str.occurrences x y 0 x.length (x.length + 1)) y.length)) (s.toks + (Builtin.Str.partsBetween x (Builtin.Str.occurrences x y 0 x.length (x.length + 1)) y.length).length) ((numbered_texts _ _).trans ((if_neg (ne_true_of_eq_false h1)).trans (if_neg (ne_true_of_eq_false hf))).symm)
   rw [<- strsFrom_eq] at q; exact q
  ·exact call_meets F.slot_str_split (typeIs_str _ _ _) F.entry_str_split (F.args_str_split_2 _ _) (meets_str_split_not_found x y t u h1 hy hf) (hq [(x,t)] s.toks ((if_neg (ne_true_of_eq_false h1)).trans (if_pos hf)).symm)
 ·exact call_meets F.slot_str_split (typeIs_str _ _ _) F.entry_str_split (F.args_str_split_2 _ _) (meets_str_split_cannot_occur x y t u h1) (hq [(x,t)] s.toks (if_pos h1).symm)
theorem mt_split:MtR X "str.split" rSplit:=by
 intro pins s σ H x vs v us Q I rx rv h
 obtain ⟨a,b,rfl,rfl,h1,h2,h3,h4,q⟩:=h
 obtain ⟨t,rfl⟩:=rx
 obtain ⟨u,rfl,ru⟩:=vals1 rv
 obtain ⟨t2,rfl⟩:=ru
 refine split_new h1 h2 h3 fun l k e => ?_
 refine ⟨.ref s.heap.objs.size,_,I.laid (t':=k) (o:=.lst ((Txt.split a b).map V.str)) (fun b ob q => Heap.get?_push_of_some _ q) (Nat.le_refl _) ?_,rfl,q _ (I.hok.fresh (Nat.le_refl _))⟩
 refine ⟨by rw [List.length_map]; exact h4,strValues l,0,by rw [<- e]; exact vals_strs l,Heap.get?_push_size _ rfl⟩
noncomputable def rJoin (K:PySem.W.Frag):V -> List V -> Hp -> VK -> Prop:=fun x vs H Q => ∃ a p ys,x = .str a /\ vs = [.ref p] /\ SqL K H p (ys.map V.str) /\ JoinOk a ys = true /\ Q (.str (Txt.join a ys)) H
theorem mt_join:MtR X "str.join" (rJoin X.K):=by
 intro pins s σ H x vs v us Q I rx rv h
 obtain ⟨a,p,ys,rfl,rfl,hp,hok,q⟩:=h
 obtain ⟨t,rfl⟩:=rx
 obtain ⟨u,rfl,ru⟩:=vals1 rv
 cases ru
 obtain ⟨its,r,pl,_⟩:=I.list hp
 obtain ⟨l,rfl,e⟩:=strs_of r
 exact SC.join pl.isList e hok fun t' k => ⟨.str _,H,I.tok k,⟨t',rfl⟩,q⟩
theorem call_intS:CallR X (.type "int") (fun xs H Q => ∃ z n,xs = [V.str z] /\ PySem.intText? z = some n /\ z.length <= 640 /\ Q (.int n) H):=by
 intro pins s σ H xs us Q I r h
 obtain ⟨z,n,rfl,h1,h2,q⟩:=h
 obtain ⟨u,rfl,ru⟩:=vals1 r
 obtain ⟨t,rfl⟩:=ru
 exact PySem.W.KIN.call_text h1 h2 ⟨.int n,H,I.tok _,⟨_,rfl⟩,q⟩
theorem call_allB (hh:X.A.handled = none):CallR X (.builtin "all") (fun xs H Q => ∃ (p:Addr) (bs:List Bool),xs = [V.ref p] /\ SqL X.K H p (bs.map V.bl) /\ Q (.bl (bs.all id)) H):=by
 intro pins s σ H xs us Q I r h
 obtain ⟨p,bs,rfl,hp,q⟩:=h
 obtain ⟨u,rfl,ru⟩:=vals1 r
 cases ru
 obtain ⟨its,rv,pl,_⟩:=I.list hp
 have hlt:p < s.heap.objs.size:=by obtain ⟨_,_,e,_⟩:=pl; exact Heap.lt_size e
 have hl:=rv.length
 rw [List.length_map] at hl
 refine call_all_walk (wpAny_pyIter_list pl.isList ?_)
 refine ⟨s.heap.objs.size,[s.heap.objs.size,p],[s.heap.objs.size],its.toArray.size,_,_,fun i => (bs[i]?).getD true,rfl,Walks.list (A:=X.A.in1) hh _ p (Nat.ne_of_lt hlt) its.toArray,⟨⟨_,Heap.get?_push_size _ rfl,rfl,rfl⟩,pl.isList.push _⟩,fun i v s' Q' E' hP hQ => ?_,fun h' tk hk => ?_⟩
 ·have hi:i < its.length:=by
   have:its.toArray[i]? = some v:=hP
   have:=(Array.getElem?_eq_some_iff.mp this).1
   simpa using this
  have hb:i < bs.length:=by omega
  obtain ⟨u,e1,e2⟩:=rv.get (i:=i) (x:=V.bl bs[i]) (by rw [List.getElem?_map,List.getElem?_eq_getElem hb]; rfl)
  have e3:its.toArray[i]? = some v:=hP
  rw [show its.toArray[i]? = its[i]? by simp,e1] at e3
  cases e3
  cases (show v = Value.bool bs[i] from e2)
  dsimp only at hQ
  rw [List.getElem?_eq_getElem hb,Option.getD_some] at hQ
  exact wpAny_truthy_bool hQ
 ·have e:((List.range its.toArray.size).all fun i => (bs[i]?).getD true) = bs.all id:=by
   rw [List.size_toArray,<- hl]
   have:∀ l:List Bool,((List.range l.length).all fun i => (l[i]?).getD true) = l.all id:=by
    intro l
    induction l with
    | nil => rfl
    | cons b l ih =>
     rw [List.length_cons,List.range_succ_eq_map,List.all_cons,List.all_map,List.all_cons,<- ih]
     rfl
   exact this bs
  rw [e]
  refine ⟨.bl _,H,I.kept (t':=tk) fun b o q => ?_,rfl,q⟩
  exact hk b o (fun hm => by rw [List.mem_singleton.mp hm] at q; exact Nat.lt_irrefl _ (Heap.lt_size q)) (Heap.get?_push_of_some _ q)
theorem part_of {v:Value} {o:Option Int} (h:IsPart v o):∃ l:Option (Int × Tok),v = partValue l /\ l.map (·.1) = o:=by
 cases h with
 | none => exact ⟨none,rfl,rfl⟩
 | int i t => exact ⟨some (i,t),rfl,rfl⟩
noncomputable def rSlS:V -> Option Int -> Option Int -> Hp -> VK -> Prop:=fun x lo hi H Q => ∃ z,x = .str z /\ z.length <= sizeLine /\ Q (.str (Txt.slice z lo hi)) H
theorem sl_text:SlR X rSlS:=by
 intro pins s σ H x v vl vu lo hi sl Q I rx hs pl pu h
 obtain ⟨z,rfl,hz,q⟩:=h
 obtain ⟨t,rfl⟩:=rx
 obtain ⟨l,rfl,rfl⟩:=part_of pl
 obtain ⟨u,rfl,rfl⟩:=part_of pu
 refine ⟨"str",_,F.slot_str_getitem.lookup,typeIs_str _ _ _,wpAny_getItem_str_slice (l:=l) (u:=u) (st:=none) hs rfl (post_val_or_str ⟨Nat.le_trans (Txt.slice_le z _ _) hz,fun t' k => ?_⟩)⟩
 exact ⟨.str _,H,I.tok k,⟨t',rfl⟩,q⟩
end
end L2
namespace DL
open PySem PySem.Spec PyProof.Rows L2
noncomputable def signsD (z:Str):List D:=z.cps.toList.map fun c => .str ⟨#[c]⟩
noncomputable def gTx (g:Den):ADen:=fun ρ Ω => match g ρ Ω with
 | some (.str z,Ω') => some (signsD z,Ω')
 | _ => none
noncomputable def endsD:D -> D -> Option D
 | .str a,.str b => some (.bl (Txt.endswith a b))
 | _,_ => none
noncomputable def strsD:List D -> Option (List Str)
 | [] => some []
 | .str z :: r => match strsD r with
  | some zs => some (z :: zs)
  | none => none
 | _ => none
noncomputable def blsD:List D -> Option (List Bool)
 | [] => some []
 | .bl b :: r => match blsD r with
  | some bs => some (b :: bs)
  | none => none
 | _ => none
noncomputable def splD:D -> D -> Option D
 | .str a,.str b => grd ((b.length == 0) = false /\ a.length <= 100000 /\ (Builtin.Str.partsBetween a (Builtin.Str.occurrences a b 0 a.length (a.length + 1)) b.length).length <= 100000 /\ (Txt.split a b).length <= 100000) (some (.lst ((Txt.split a b).map D.str)))
 | _,_ => none
noncomputable def joinD:D -> D -> Option D
 | .str a,.lst ds => match strsD ds with
  | some zs => grd (JoinOk a zs = true) (some (.str (Txt.join a zs)))
  | none => none
 | _,_ => none
noncomputable def inSD (neg:Bool):D -> D -> Option D
 | .str y,.str x => some (.bl (if neg then !Txt.contains x y else Txt.contains x y))
 | _,_ => none
noncomputable def int1S:List D -> Option D
 | [.str z] => match PySem.intText? z with
  | some n => grd (z.length <= 640) (some (.int n))
  | none => none
 | _ => none
noncomputable def allD:List D -> Option D
 | [.lst ds] => match blsD ds with
  | some bs => some (.bl (bs.all id))
  | none => none
 | _ => none
noncomputable def slS:D -> Option Int -> Option Int -> Option D
 | .str z,lo,hi => grd (z.length <= 100000) (some (.str (Txt.slice z lo hi)))
 | _,_,_ => none
noncomputable def gSlS (f:Den) (lo hi:PDen):Den:=fun ρ Ω => match f ρ Ω with
 | some (d,Ω1) => match lo ρ Ω1 with
  | some (l,Ω2) => match hi ρ Ω2 with
   | some (u,Ω3) => match slS d l u with
    | some z => some (z,Ω3)
    | none => none
   | none => none
  | none => none
 | none => none
theorem big_size:(100000:Nat) <= sizeLine:=by rw [sizeLine_eq]; decide
theorem isL_strs {K:PySem.W.Frag} {α:List Addr} {F:Hp}:∀ {ds:List D} {zs:List Str} {vs:List V},strsD ds = some zs -> IsL K α F ds vs -> vs = zs.map V.str
 | [],zs,vs,h,i => by cases h; exact i.of_nil
 | .str z :: r,zs,vs,h,i => by
  obtain ⟨v,t,rfl,i1,i2⟩:=i.of_cons
  unfold strsD at h
  cases q:strsD r with
  | none => rw [q] at h; cases h
  | some ys =>
   rw [q] at h
   cases h
   rw [Is] at i1
   rw [i1,isL_strs q i2]
   rfl
 | .non :: _,_,_,h,_ => nomatch h
 | .bl _ :: _,_,_,h,_ => nomatch h
 | .int _ :: _,_,_,h,_ => nomatch h
 | .tup _ :: _,_,_,h,_ => nomatch h
 | .lst _ :: _,_,_,h,_ => nomatch h
 | .scr _ :: _,_,_,h,_ => nomatch h
 | .obj _ :: _,_,_,h,_ => nomatch h
theorem isL_bls {K:PySem.W.Frag} {α:List Addr} {F:Hp}:∀ {ds:List D} {bs:List Bool} {vs:List V},blsD ds = some bs -> IsL K α F ds vs -> vs = bs.map V.bl
 | [],zs,vs,h,i => by cases h; exact i.of_nil
 | .bl z :: r,zs,vs,h,i => by
  obtain ⟨v,t,rfl,i1,i2⟩:=i.of_cons
  unfold blsD at h
  cases q:blsD r with
  | none => rw [q] at h; cases h
  | some ys =>
   rw [q] at h
   cases h
   rw [Is] at i1
   rw [i1,isL_bls q i2]
   rfl
 | .non :: _,_,_,h,_ => nomatch h
 | .str _ :: _,_,_,h,_ => nomatch h
 | .int _ :: _,_,_,h,_ => nomatch h
 | .tup _ :: _,_,_,h,_ => nomatch h
 | .lst _ :: _,_,_,h,_ => nomatch h
 | .scr _ :: _,_,_,h,_ => nomatch h
 | .obj _ :: _,_,_,h,_ => nomatch h
theorem isL_mkstrs {K:PySem.W.Frag} {α:List Addr} {F:Hp}:∀ zs:List Str,IsL K α F (zs.map D.str) (zs.map V.str)
 | [] => .nil
 | z :: zs => .cons (by rw [Is]) (isL_mkstrs zs)
theorem walk_text {K:PySem.W.Frag} {e:E4} {z:Str}:Walk K e (Itx z) (signsD z):=by
 refine Walk.still ?_
 intro i e2 _ _ _
 refine ⟨fun h => by rw [h]; simp [signsD,Itx],fun d hd => ?_⟩
 have hl:i < z.cps.size:=by
  have:=(List.getElem?_eq_some_iff.mp hd).1
  simpa [signsD] using this
 refine ⟨hl,fun x H' ⟨z1,c,z2,z3⟩ => ⟨z1,?_⟩⟩
 have:d = D.str ⟨#[c]⟩:=by
  unfold signsD at hd
  rw [List.getElem?_map,Array.getElem?_toList,z2] at hd
  exact (Option.some.inj hd).symm
 subst this z3
 rw [Is]
section
variable {X:Cx} {C:Cl} {x a b tg:Expr} {f g:Den} {n:Str} {p pos ap cp:Pos}
theorem pdi_text (h:PD X C x g):PDI X C tg x (gTx g):=pi_imp (pi_text h) fun σ H R hw' => by
 obtain ⟨e,Ω,ρ,ds,Ω',eH,w,rl,q,k⟩:=hw'
 unfold gTx at q
 cases q1:g ρ Ω with
 | none => rw [q1] at q; cases q
 | some p1 =>
  obtain ⟨d1,Ω1⟩:=p1
  rw [q1] at q
  cases d1 with
  | str z =>
   cases q
   refine ⟨e,Ω,ρ,_,_,eH,w,rl,q1,fun v e1 x1 w1 i1 => ?_⟩
   rw [Is] at i1
   exact ⟨z,i1,k e1 _ x1 w1 walk_text⟩
  | _ => cases q
theorem pd_ends (ha:PD X C a f) (hb:PD X C b g)
  (hbase:attributeBase a "endswith" X.env (eval a X.env) = eval a X.env:=by rfl) (hline:(ap.endLine == cp.line) = true:=by rfl) (hs1:starEach [b] X.env = (false,eval b X.env) :: starEach [] X.env:=by rfl)
  (hfew:((backTo cp (starEach [b] X.env)).all (fun x => !x.1) && (backToKw cp (keywordEach [] X.env)).all (fun x => x.1.isSome) && decide ([b].length + ([]:List Keyword).length + (if ([]:List Keyword).isEmpty then 0 else 1) < 30)) = true:=by rfl)
  (hpl:(backTo cp (starEach [] X.env)).any (·.1) = false:=by rfl):PD X C (.Call (.Attribute a "endswith" ap) [b] [] cp) (gOp endsD f g) :=
 pe_imp (pe_bm PySem.F.plainAttrs_str PySem.F.slot_str_endswith PySem.F.type_str_endswith mt_ends ha (pa_cons hb pa_nil hs1) hbase hfew hline hs1 hpl) fun σ H Q hw' => by
  obtain ⟨e,Ω,ρ,d,Ω',eH,w,rl,q,kk⟩:=hw'
  unfold gOp at q
  cases q1:f ρ Ω with
  | none => rw [q1] at q; cases q
  | some p1 =>
   obtain ⟨d1,Ω1⟩:=p1
   rw [q1] at q
   dsimp only at q
   cases q2:g ρ Ω1 with
   | none => rw [q2] at q; cases q
   | some p2 =>
    obtain ⟨d2,Ω2⟩:=p2
    rw [q2] at q
    dsimp only at q
    cases d1 with
    | str z1 =>
     cases d2 with
     | str z2 =>
      cases q
      refine ⟨e,Ω,ρ,_,Ω1,eH,w,rl,q1,fun v e1 x1 w1 i1 => ?_⟩
      rw [Is] at i1
      subst i1
      refine ⟨rfl,e1,Ω1,ρ,_,_,rfl,w1,rl.ext x1,q2,fun u e2 x2 w2 i2 => ?_⟩
      rw [Is] at i2
      subst i2
      exact ⟨z1,z2,rfl,rfl,kk _ e2 (x1.trans x2) w2 (by rw [Is])⟩
     | _ => cases q
    | _ => cases q
theorem pd_split (ha:PD X C a f) (hb:PD X C b g)
  (hbase:attributeBase a "split" X.env (eval a X.env) = eval a X.env:=by rfl) (hline:(ap.endLine == cp.line) = true:=by rfl) (hs1:starEach [b] X.env = (false,eval b X.env) :: starEach [] X.env:=by rfl)
  (hfew:((backTo cp (starEach [b] X.env)).all (fun x => !x.1) && (backToKw cp (keywordEach [] X.env)).all (fun x => x.1.isSome) && decide ([b].length + ([]:List Keyword).length + (if ([]:List Keyword).isEmpty then 0 else 1) < 30)) = true:=by rfl)
  (hpl:(backTo cp (starEach [] X.env)).any (·.1) = false:=by rfl):PD X C (.Call (.Attribute a "split" ap) [b] [] cp) (gOp splD f g) :=
 pe_imp (pe_bm PySem.F.plainAttrs_str PySem.F.slot_str_split PySem.F.type_str_split mt_split ha (pa_cons hb pa_nil hs1) hbase hfew hline hs1 hpl) fun σ H Q hw' => by
  obtain ⟨e,Ω,ρ,d,Ω',eH,w,rl,q,kk⟩:=hw'
  unfold gOp at q
  cases q1:f ρ Ω with
  | none => rw [q1] at q; cases q
  | some p1 =>
   obtain ⟨d1,Ω1⟩:=p1
   rw [q1] at q
   dsimp only at q
   cases q2:g ρ Ω1 with
   | none => rw [q2] at q; cases q
   | some p2 =>
    obtain ⟨d2,Ω2⟩:=p2
    rw [q2] at q
    dsimp only at q
    cases d1 with
    | str z1 =>
     cases d2 with
     | str z2 =>
      cases q3:splD (.str z1) (.str z2) with
      | none => rw [q3] at q; cases q
      | some z =>
       rw [q3] at q
       cases q
       unfold splD at q3
       obtain ⟨⟨h1,h2,h3,h4⟩,q3⟩:=grd_some q3
       cases q3
       refine ⟨e,Ω,ρ,_,Ω1,eH,w,rl,q1,fun v e1 x1 w1 i1 => ?_⟩
       rw [Is] at i1
       subst i1
       refine ⟨rfl,e1,Ω1,ρ,_,_,rfl,w1,rl.ext x1,q2,fun u e2 x2 w2 i2 => ?_⟩
       rw [Is] at i2
       subst i2
       refine ⟨z1,z2,rfl,rfl,h1,Nat.le_trans h2 big_size,Nat.le_trans h3 big_size,Nat.le_trans h4 big_size,fun p' hp => ?_⟩
       refine kk _ (e2.new p' _) ((x1.trans x2).trans (w2.new_ext hp)) (w2.new hp) ?_
       rw [Is]
       exact ⟨p',_,rfl,upd_same,isL_mkstrs _⟩
     | _ => cases q
    | _ => cases q
theorem pd_join (ha:PD X C a f) (hb:PD X C b g)
  (hbase:attributeBase a "join" X.env (eval a X.env) = eval a X.env:=by rfl) (hline:(ap.endLine == cp.line) = true:=by rfl) (hs1:starEach [b] X.env = (false,eval b X.env) :: starEach [] X.env:=by rfl)
  (hfew:((backTo cp (starEach [b] X.env)).all (fun x => !x.1) && (backToKw cp (keywordEach [] X.env)).all (fun x => x.1.isSome) && decide ([b].length + ([]:List Keyword).length + (if ([]:List Keyword).isEmpty then 0 else 1) < 30)) = true:=by rfl)
  (hpl:(backTo cp (starEach [] X.env)).any (·.1) = false:=by rfl):PD X C (.Call (.Attribute a "join" ap) [b] [] cp) (gOp joinD f g) :=
 pe_imp (pe_bm PySem.F.plainAttrs_str PySem.F.slot_str_join PySem.F.type_str_join mt_join ha (pa_cons hb pa_nil hs1) hbase hfew hline hs1 hpl) fun σ H Q hw' => by
  obtain ⟨e,Ω,ρ,d,Ω',eH,w,rl,q,kk⟩:=hw'
  unfold gOp at q
  cases q1:f ρ Ω with
  | none => rw [q1] at q; cases q
  | some p1 =>
   obtain ⟨d1,Ω1⟩:=p1
   rw [q1] at q
   dsimp only at q
   cases q2:g ρ Ω1 with
   | none => rw [q2] at q; cases q
   | some p2 =>
    obtain ⟨d2,Ω2⟩:=p2
    rw [q2] at q
    dsimp only at q
    cases d1 with
    | str z1 =>
     cases d2 with
     | lst ds =>
      cases q4:strsD ds with
      | none =>
       have:joinD (.str z1) (.lst ds) = none:=by show (match strsD ds with | some zs => grd (JoinOk z1 zs = true) (some (D.str (Txt.join z1 zs))) | none => none) = none; rw [q4]
       rw [this] at q; cases q
      | some zs =>
       have e3:joinD (.str z1) (.lst ds) = grd (JoinOk z1 zs = true) (some (.str (Txt.join z1 zs))):=by show (match strsD ds with | some zs => grd (JoinOk z1 zs = true) (some (D.str (Txt.join z1 zs))) | none => none) = _; rw [q4]
       rw [e3] at q
       by_cases hj:JoinOk z1 zs = true
       ·rw [grd_pos hj] at q
        cases q
        refine ⟨e,Ω,ρ,_,Ω1,eH,w,rl,q1,fun v e1 x1 w1 i1 => ?_⟩
        rw [Is] at i1
        subst i1
        refine ⟨rfl,e1,Ω1,ρ,_,_,rfl,w1,rl.ext x1,q2,fun u e2 x2 w2 i2 => ?_⟩
        rw [Is] at i2
        obtain ⟨l,vs,rfl,hF,il⟩:=i2
        rw [isL_strs q4 il] at hF
        exact ⟨z1,l,zs,rfl,rfl,SqL.of (w2.fh _ _ hF),hj,kk _ e2 (x1.trans x2) w2 (by rw [Is])⟩
       ·have:grd (JoinOk z1 zs = true) (some (D.str (Txt.join z1 zs))) = none:=if_neg hj
        rw [this] at q; cases q
     | _ => cases q
    | _ => cases q
theorem opD_inS:OpD X C (compareOp .In) (inSD false):=by
 rintro pins s σ H x y v u Q I rx ry ⟨e,Ω,d₁,d₂,z,eH,w,i1,i2,q,kk⟩
 subst eH
 cases d₁ with
 | str y1 =>
  cases d₂ with
  | str x1 =>
   cases q
   rw [Is] at i1
   rw [Is] at i2
   subst i1 i2
   obtain ⟨t,rfl⟩:=rx
   obtain ⟨t2,rfl⟩:=ry
   exact P.in_str ⟨.bl _,e.H,I,rfl,kk _ e (Ext.refl e) w (by rw [Is]; rfl)⟩
  | _ => cases q
 | _ => cases q
theorem opD_notinS:OpD X C (compareOp .NotIn) (inSD true):=by
 rintro pins s σ H x y v u Q I rx ry ⟨e,Ω,d₁,d₂,z,eH,w,i1,i2,q,kk⟩
 subst eH
 cases d₁ with
 | str y1 =>
  cases d₂ with
  | str x1 =>
   cases q
   rw [Is] at i1
   rw [Is] at i2
   subst i1 i2
   obtain ⟨t,rfl⟩:=rx
   obtain ⟨t2,rfl⟩:=ry
   exact P.notIn_str ⟨.bl _,e.H,I,rfl,kk _ e (Ext.refl e) w (by rw [Is]; rfl)⟩
  | _ => cases q
 | _ => cases q
theorem callD_intS:CallD X C (.type "int") int1S:=by
 rintro pins s σ H xs us Q I r ⟨e,Ω,ds,z,eH,w,i,q,kk⟩
 subst eH
 match ds,q with
 | [.str zz],q =>
  obtain ⟨v,rfl,iv⟩:=isL_one i
  rw [Is] at iv
  subst iv
  unfold int1S at q
  dsimp only at q
  cases q1:PySem.intText? zz with
  | none => rw [q1] at q; cases q
  | some n =>
   rw [q1] at q
   obtain ⟨hl,q⟩:=grd_some q
   cases q
   exact call_intS pins s σ _ _ us Q I r ⟨zz,n,rfl,q1,hl,kk _ e (Ext.refl e) w (by rw [Is])⟩
theorem callD_all (hh:X.A.handled = none):CallD X C (.builtin "all") allD:=by
 rintro pins s σ H xs us Q I r ⟨e,Ω,ds,z,eH,w,i,q,kk⟩
 subst eH
 match ds,q with
 | [.lst es],q =>
  obtain ⟨v,rfl,iv⟩:=isL_one i
  rw [Is] at iv
  obtain ⟨l,vs,rfl,hF,il⟩:=iv
  unfold allD at q
  dsimp only at q
  cases q1:blsD es with
  | none => rw [q1] at q; cases q
  | some bs =>
   rw [q1] at q
   cases q
   rw [isL_bls q1 il] at hF
   exact call_allB hh pins s σ _ _ us Q I r ⟨l,bs,rfl,SqL.of (w.fh _ _ hF),kk _ e (Ext.refl e) w (by rw [Is])⟩
theorem pd_slS {lo hi:Option Expr} {gl gh:PDen} {p2:Pos} (ha:PD X C a f) (hl:PDO X C lo gl) (hh:PDO X C hi gh):PD X C (.Subscript a (.Slice lo hi none p2) pos) (gSlS f gl gh) :=
 pe_imp (pe_slice sl_text ha hl hh) fun σ H Q hw' => by
  obtain ⟨e,Ω,ρ,d,Ω',eH,w,rl,e1,kk⟩:=hw'
  unfold gSlS at e1
  cases q1:f ρ Ω with
  | none => rw [q1] at e1; cases e1
  | some p1 =>
   obtain ⟨d1,Ω1⟩:=p1
   rw [q1] at e1
   dsimp only at e1
   cases q2:gl ρ Ω1 with
   | none => rw [q2] at e1; cases e1
   | some p2 =>
    obtain ⟨l,Ω2⟩:=p2
    rw [q2] at e1
    dsimp only at e1
    cases q3:gh ρ Ω2 with
    | none => rw [q3] at e1; cases e1
    | some p3 =>
     obtain ⟨u,Ω3⟩:=p3
     rw [q3] at e1
     dsimp only at e1
     cases d1 with
     | str zz =>
      cases q4:slS (.str zz) l u with
      | none => rw [q4] at e1; cases e1
      | some z =>
       rw [q4] at e1
       cases e1
       unfold slS at q4
       obtain ⟨hz,q4⟩:=grd_some q4
       cases q4
       refine ⟨e,Ω,ρ,_,Ω1,eH,w,rl,q1,fun v e' x' w' i' => ?_⟩
       rw [Is] at i'
       refine ⟨e',Ω1,ρ,l,Ω2,rfl,w',rl.ext x',q2,fun e2 x2 w2 => ?_⟩
       refine ⟨e2,Ω2,ρ,u,_,rfl,w2,(rl.ext x').ext x2,q3,fun e3 x3 w3 => ?_⟩
       exact ⟨zz,i',Nat.le_trans hz big_size,kk _ e3 ((x'.trans x2).trans x3) w3 (by rw [Is])⟩
     | _ => cases e1
end
end DL
namespace L2
open PySem PySem.Spec PyProof.Rows
section
variable {X:Cx} {x:Str} {C:Addr} {bmB:List Value} {B newId initId:String} {np cpos pos:Pos} {e:Expr} {te:TE}
noncomputable def Thrown (X:Cx) (C:Addr) (σ:St) (H:Hp):Prop:=∀ (pins:List (Addr × Obj)) (s:Shared) (h':Heap) (ea:Addr) (args:List Value),Inv X pins σ H s -> Heap.MadeExcOf s.heap h' ea (.ref C) args -> X.xe (.ref ea) { s with heap:=h' }
theorem ps_raise (O:OwnCls x C bmB newId X.mg X.base) (FB:ExcBaseFacts B newId initId bmB) (hh:X.A.handled = none) (hg:Gl X x) (ha:PE X e te) (te_mono:∀ {σ:St} {H:Hp},te σ H (fun _ H1 => Thrown X C σ H1) -> te σ H (fun v H1 => [v].length = 1 /\ Thrown X C σ H1)) (he:starEach [e] X.env = (false,eval e X.env) :: starEach [] X.env:=by rfl) (hpl:(backTo cpos (starEach [e] X.env)).any (·.1) = false:=by rfl)
  (hd:(x == ("__debug__":Str)) = false:=by decide):PS X (.Raise (some (.Call (.Name x np) [e] [] cpos)) none pos) (fun _ σ H => te σ H fun _ H1 => Thrown X C σ H1):=by
 intro pins s σ H D I h
 obtain ⟨tl,N,nm,q,bs,hdct,sn,sub,ab,col,dd,k0,k1,k2,k3,k5,mN,hC,hN,hni,T⟩:=O.obj
 refine wpAny_Raise_call_subT (C:=C) (nm:=nm) (q:=q) (N:=N) (bs:=bs) (bm:=tl) (hdct:=hdct) (sn:=sn) (sub:=sub) (ab:=ab) (col:=col) (dd:=dd) (k0:=k0) (k1:=k1) (k2:=k2) (k3:=k3) (k5:=k5) FB (mN:=mN) (T.hasType FB.hasBase) hh hpl hni (ld_glob I hg O.bound ⟨rfl,?_⟩ hd)
 have sp:=(pa_cons ha pa_nil he) cpos pins s σ H (fun vs H1 => vs.length = 1 /\ Thrown X C σ H1) I (show te σ H (fun v H1 => [v].length = 1 /\ Thrown X C σ H1) from (te_mono h))
 rw [he] at sp ⊢
 refine Calls.evalArgs_plain (thn sp fun us s2 hw' => ?_)
 obtain ⟨vs,H1,I1,r1,l1,q1⟩:=hw'
 have k:=I1.bk
 exact ⟨rfl,by show us.length <= sizeLine; rw [<- r1.length,l1]; decide,k _ _ hC,hN.keeps k,T.keeps k,fun h' ea hm => q1 pins s2 h' ea us I1 hm⟩
end
theorem ok_there {P:Program} {w:World} {H:Hp} {h:Heap} {a:Addr} {o:HO} (x:ObjOk P w H h a o):∃ ob,h.get? a = some ob:=by
 cases o with
 | lst xs => obtain ⟨_,_,_,_,e⟩:=x; exact ⟨_,e⟩
 | tup xs => obtain ⟨_,_,_,ob,e,_⟩:=x; exact ⟨ob,e⟩
 | dK kvs => obtain ⟨_,_,_,_,o,_,_,e,_⟩:=x; exact ⟨_,e⟩
 | dT kvs => obtain ⟨_,_,_,_,o,_,_,e,_⟩:=x; exact ⟨_,e⟩
 | set S n => obtain ⟨o,_,_,_,e,_⟩:=x; exact ⟨_,e⟩
 | ins C dx fs => obtain ⟨_,_,_,e,_⟩:=x; exact ⟨_,e⟩
 | own y => exact x
 | xd fs => obtain ⟨_,⟨_,_,_,e,_⟩,_⟩:=x; exact ⟨_,e⟩
 | rng lo hi => obtain ⟨_,_,_,e⟩:=x; exact ⟨_,e⟩
 | frz ob u => exact ⟨_,x.1⟩
 | tbl ps => exact ⟨_,x⟩
 | met f y => exact ⟨_,x⟩
 | ext φ => exact x.2.1
noncomputable def CXr (P:Program) (w:World):CXT:=fun outer H s E e s' => ∃ (ea C t:Addr) (H':Hp) (B:Heap),e = .ref ea /\ E (.ref C) none H' /\ s'.os = s.os /\ AllBare s'.gens /\ Un (frs outer) [] H H' s.heap s'.heap /\ HOk P w H' s'.heap /\
 Heap.FlyingW B outer ea (.ref C) (.ref t) s'.heap /\ (∀ b o,H' b = some o -> ∃ ob,B.get? b = some ob) /\ H' ea = none /\ ∀ b o,s.heap.get? b = some o -> H b = none -> b ∉ frs outer -> B.get? b = some o
theorem thrown_leaves {P:Program} {w:World} {K:PySem.W.Frag} {mg:Str -> Option Value} {base:Heap} {N:List Str} {qual:Str} {scope:Scope} {f C:Addr} {cd:Value} {A:Around} {outer:List Env} {s₀:Shared} {H₀ H:Hp} {E:XK} {σ:St}
  (hE:E (.ref C) none H):Thrown (cxOf (CXr P w) P w K mg base N qual scope f cd A outer s₀ H₀ E) C σ H:=by
 intro pins s h' ea args I hm
 have hst:(cxOf (CXr P w) P w K mg base N qual scope f cd A outer s₀ H₀ E).stack = envOfC qual scope s₀.heap.objs.size f cd :: outer:=rfl
 have hB:∀ b o,s.heap.get? b = some o -> b ∉ frs (envOfC qual scope s₀.heap.objs.size f cd :: outer) -> (PySem.W.hideAll s.heap (frs (envOfC qual scope s₀.heap.objs.size f cd :: outer))).get? b = some o:=fun b o e n => PySem.W.hideAll_get _ e n
 have sub:∀ b ∈ frs (envOfC qual scope s₀.heap.objs.size f cd :: outer),b = s₀.heap.objs.size \/ b ∈ frs outer:=fun b hb => List.mem_cons.mp (I.stkSub b hb)
 have old:∀ b o,s₀.heap.get? b = some o -> b ∉ frs outer -> b ∉ frs (envOfC qual scope s₀.heap.objs.size f cd :: outer):=fun b o e n hb => by
  rcases sub b hb with z | z
  ·exact absurd (Heap.lt_size e) (by rw [z]; exact Nat.lt_irrefl _)
  ·exact n z
 have trk:∀ b o,H b = some o -> b ∉ frs (envOfC qual scope s₀.heap.objs.size f cd :: outer):=fun b o e hb => by
  have:=I.stkFree b hb
  rw [this] at e; cases e
 refine wpAny_leaves_madeW (base:=PySem.W.hideAll s.heap (frs (envOfC qual scope s₀.heap.objs.size f cd :: outer))) (env:=envOfC qual scope s₀.heap.objs.size f cd) (outer:=outer) (L:=s₀.heap.objs.size) (h:=s.heap) I.ok.frames rfl (fun b o q => PySem.W.of_hideAll _ q)
  (PySem.W.funFrames_hide I.stack fun env he b hb => List.mem_filterMap.mpr ⟨env,he,hb⟩) hm fun h'' t x1 x2 x3 x4 => ?_
 have k1:=x1.1
 have un:Un (frs outer) [] H₀ H s₀.heap h'':=by
  refine ⟨fun b o e n nf _ => k1 b o (hB b o (I.base.keep b o e n nf (by intro z; cases z)) (old b o e nf)),fun b o e n hf _ => ?_,fun b o e n _ => I.base.free b o e n (by intro z; cases z),fun b o e _ => ?_,I.base.tups,I.base.frzs,I.base.tbls⟩
  ·obtain ⟨sl,q⟩:=I.base.slot b o e n hf (by intro z; cases z)
   obtain ⟨_,o',ho',hd⟩:=I.ok.funs.mem hf
   have ho'':s₀.heap.get? b = some o':=ho'
   rw [e] at ho''
   cases ho''
   obtain ⟨sl',q'⟩:=x4 b { o with slots:=sl } (hm.keeps b _ q) hd
   exact ⟨sl',q'⟩
  ·by_cases hf:b ∈ frs outer
   ·obtain ⟨_,o',ho',hd⟩:=I.ok.funs.mem hf
    have ho'':s₀.heap.get? b = some o':=ho'
    rw [e] at ho''
    cases ho''
    obtain ⟨sl,q⟩:=I.base.slot b o e (I.ok.frf b hf) hf (by intro z; cases z)
    obtain ⟨sl',q'⟩:=x4 b { o with slots:=sl } (hm.keeps b _ q) hd
    exact ⟨_,q'⟩
   ·obtain ⟨o',q⟩:=I.base.there b o e (by intro z; cases z)
    exact ⟨o',k1 b o' (hB b o' q (old b o e hf))⟩
 have hok:HOk P w H h'':=fun b o e => (I.hok b o e).stay (fun c u hc q => by
  refine k1 c u (hB c u q ?_)
  rcases hc with z | z
  ·rw [z]; exact trk b o e
  ·exact trk c _ z) (fun _ q => q) (fun _ _ q => q)
 refine ⟨ea,C,t,H,PySem.W.hideAll s.heap (frs (envOfC qual scope s₀.heap.objs.size f cd :: outer)),rfl,hE,I.os,I.bare,un,hok,x1,fun b o e => ?_,?_,fun b o e n nf => ?_⟩
 ·obtain ⟨ob,q⟩:=ok_there (I.hok b o e)
  exact ⟨ob,hB b ob q (trk b o e)⟩
 ·cases q:H ea with
  | none => rfl
  | some o =>
   obtain ⟨ob,z⟩:=ok_there (I.hok ea o q)
   rw [hm.new] at z; cases z
 ·exact hB b o (I.base.keep b o e n nf (by intro z; cases z)) (old b o e nf)
end L2
namespace L2
open PySem PySem.Spec PyProof.Rows
noncomputable abbrev Cx.mark (X:Cx) (v:Value):Cx:={ X with A:=X.A.mark (some v),calm:=false }
theorem Inv.mark {X:Cx} {pins:List (Addr × Obj)} {σ:St} {H:Hp} {s:Shared} (I:Inv X pins σ H s) (v:Value):Inv (X.mark v) pins σ H s :=
 ⟨⟨I.ok.mod,I.ok.kind,I.ok.glob,I.ok.blt,I.ok.above,I.ok.inj,I.ok.has,I.ok.cab,(fun z => absurd z Bool.false_ne_true),I.ok.frames,I.ok.stk,I.ok.exf,I.ok.bs,I.ok.bsz,I.ok.noex,I.ok.exfs,I.ok.funs,I.ok.frf⟩,I.os,I.bare,I.base,I.loc,I.cell,I.free,I.freeC,I.pin,I.hok,I.len⟩
theorem Inv.unmark {X:Cx} {v:Value} {pins:List (Addr × Obj)} {σ:St} {H:Hp} {s:Shared} (ok:X.Ok) (I:Inv (X.mark v) pins σ H s):Inv X pins σ H s :=
 ⟨ok,I.os,I.bare,I.base,I.loc,I.cell,I.free,I.freeC,I.pin,I.hok,I.len⟩
section
variable {X:Cx} {pins:List (Addr × Obj)} {σ:St} {ea C t:Addr} {H:Hp} {B:Heap} {s:Shared} {x n:Str} {np hpos:Pos} {cv:Value} {i:Nat} {b₀:Stmt} {suite:List Stmt} {rest:List ExceptHandler} {Q:Flow -> Shared -> Prop} {E:Value -> Shared -> Prop} {b:Bool}
theorem ty_looks {M:Model} {h:Heap} {ob:Obj} {cls:Value} (ho:h.get? ea = some ob) (hc:ob.cls = cls):PySem.W.Looks M h (typeOf (.ref ea)) cls:=by
 rw [<- hc]; exact (show PySem.W.Looks M h (typeOf (.ref ea)) ob.cls from (PySem.W.Looks.ld ho).andThen .now)
end
end L2
namespace L2
open PySem PySem.Spec PyProof.Rows
section
variable {X:Cx} {k:Nat} {f C:Addr} {fd:FuncData} {ps:List Str} {sp:Sp} {dvs:List V} {ds:List Value} {x m:Str} {p pos apos:Pos} {e o:Expr} {es:List Expr} {ta:TE} {t:TA}
noncomputable def PassX (X:Cx) (σ:St) (H:Hp) (E:XK):Prop:=∀ (pins:List (Addr × Obj)) (s:Shared) (e:Value) (s':Shared),Inv X pins σ H s -> CXr X.prog X.w X.stack H s E e s' -> X.xe e s'
theorem run_fnX {pins:List (Addr × Obj)} {σ:St} {H:Hp} {s:Shared} {Q:VK} {E:XK} {us:List Value} {vs:List V} (F:FnOk X.prog X.w X.K X.mg X.base (CXr X.prog X.w) k f fd ps sp) (hr:Room k X.A) (hb:Binds X.K fd ps ds) (hd:Vals dvs ds)
  (I:Inv X pins σ H s) (r:Vals vs us) (h:sp (vs ++ dvs) H Q E) (hx:PassX X σ H E):wpAny (model X.prog X.w) X.A (call (.ref f) us) (EP X pins σ Q) X.xe s:=by
 have r2:Vals (vs ++ dvs) (us ++ ds):=r.append hd
 have hl:(us ++ ds).length = ps.length:=by rw [<- r2.length]; exact F.len _ _ _ _ h
 refine wpAny_call (codeAny_mono (F.run X.A X.stack s H ⟨us,[]⟩ (us ++ ds) (vs ++ dvs) Q E hr I.env0 (hb s us I.kIn hl) r2 h) fun r s' hq => ?_)
 cases r with
 | error e => exact hx pins s e s' I hq
 | ok fl => cases fl with
  | ret u => exact I.after hq
  | _ => exact False.elim hq
noncomputable def tCallX (X:Cx) (sp:Sp) (dvs:List V) (t:TA):TE:=fun σ H Q => t σ H fun vs H1 => ∃ E,sp (vs ++ dvs) H1 Q E /\ PassX X σ H1 E
theorem pe_callX (F:FnOk X.prog X.w X.K X.mg X.base (CXr X.prog X.w) k f fd ps sp) (hr:Room k X.A) (hg:Gl X x) (hm:X.mg x = some (.ref f)) (hk:PySem.W.keepIn X.K (.ref f) = true) (hb:Binds X.K fd ps ds) (hd:Vals dvs ds)
  (ha:PA X (e :: es) t) (hdb:(x == ("__debug__":Str)) = false:=by decide) (he:starEach (e :: es) X.env = (false,eval e X.env) :: starEach es X.env:=by rfl) (hpl:(backTo pos (starEach es X.env)).any (·.1) = false:=by rfl) :
  PE X (.Call (.Name x p) (e :: es) [] pos) (tCallX X sp dvs t):=by
 intro pins s σ H Q I h
 refine wpAny_Call_Name_kw (ld_glob I hg hm ?_ hdb)
 exact PySem.W.callWith_K (h₀:=X.base) I.ok.mod.kin hk (thn (ha pos pins s σ H _ I h) fun us s1 ⟨vs,H1,I1,r,E,q,hx⟩ => ⟨I1.kIn,run_fnX F hr hb hd I1 r q hx⟩) he hpl
end
noncomputable abbrev Cx.hold (X:Cx) (pn:List (Addr × Obj)) (E:Value -> Shared -> Prop):Cx:={ X with pn:=pn,xe:=E }
theorem Inv.hold {X:Cx} {pins:List (Addr × Obj)} {σ:St} {H:Hp} {s:Shared} (I:Inv X pins σ H s) (E:Value -> Shared -> Prop):Inv (X.hold (X.pn ++ pins) E) [] σ H s :=
 ⟨⟨I.ok.mod,I.ok.kind,I.ok.glob,I.ok.blt,I.ok.above,I.ok.inj,I.ok.has,I.ok.cab,I.ok.hd,I.ok.frames,I.ok.stk,I.ok.exf,I.ok.bs,I.ok.bsz,I.ok.noex,I.ok.exfs,I.ok.funs,I.ok.frf⟩,I.os,I.bare,I.base,I.loc,I.cell,I.free,I.freeC,fun p hp => I.pin p (by simpa using hp),I.hok,I.len⟩
theorem Inv.unhold {X:Cx} {pins pins':List (Addr × Obj)} {σ:St} {H:Hp} {s:Shared} {E:Value -> Shared -> Prop} (ok:X.Ok) (I:Inv (X.hold (X.pn ++ pins) E) pins' σ H s):Inv X pins σ H s :=
 ⟨ok,I.os,I.bare,I.base,I.loc,I.cell,I.free,I.freeC,fun p hp => I.pin p (List.mem_append_left _ hp),I.hok,I.len⟩
noncomputable def Ends.only (r:VK):Ends:={ nx:=fun _ _ => False,rt:=r,bk:=fun _ _ => False,ct:=fun _ _ => False }
end L2
namespace DL
open PySem PySem.Spec PyProof.Rows L2
noncomputable abbrev RDen:=List Sl -> List OS -> Option (Str × List OS)
noncomputable abbrev XFDen:=List D -> List OS -> Option (Str × List OS)
noncomputable abbrev SRDen:=List Sl -> List OS -> Option (Str × List Sl × List OS)
noncomputable abbrev XWt:=St -> Addr -> Hp -> Prop
noncomputable def tR (K:PySem.W.Frag) (C:Cl) (XW:XWt) (r:RDen):TE:=fun σ H _ => ∃ e Ω ρ c Ω' Ca,e.H = H /\ Wf K C e Ω /\ RelE K e σ ρ /\ r ρ Ω = some (c,Ω') /\ C c = some Ca /\ ∀ e',Ext e e' -> Wf K C e' Ω' -> XW σ Ca e'.H
noncomputable def RD (X:Cx) (C:Cl) (XW:XWt) (x:Expr) (r:RDen):Prop:=PE X x (tR X.K C XW r)
noncomputable def tRS (K:PySem.W.Frag) (C:Cl) (XW:XWt) (e₀:E4) (r:SRDen):TS:=fun _ σ H => ∃ e Ω ρ c ρ' Ω' Ca,e.H = H /\ RelS K C e₀ e Ω σ ρ /\ r ρ Ω = some (c,ρ',Ω') /\ C c = some Ca /\ ∀ e' σ',RelS K C e₀ e' Ω' σ' ρ' -> XW σ' Ca e'.H
noncomputable def RDS (X:Cx) (C:Cl) (XW:XWt) (st:Stmt) (r:SRDen):Prop:=∀ e₀,PS X st (tRS X.K C XW e₀ r)
noncomputable def RDB (X:Cx) (C:Cl) (XW:XWt) (sts:List Stmt) (r:SRDen):Prop:=∀ e₀,PSs X sts (tRS X.K C XW e₀ r)
noncomputable def dmH (H H':Hp):Prop:=∀ b o,H b = some o -> ∃ o',H' b = some o'
noncomputable def ThrowOk (X:Cx) (XW:XWt):Prop:=∀ Ca σ H,XW σ Ca H -> Thrown X Ca σ H
noncomputable def FlyOk (X:Cx) (XW:XWt):Prop:=∀ σ H,PassX X σ H fun cv _ H' => ∃ Ca,cv = .ref Ca /\ XW σ Ca H' /\ dmH H H'
section
variable {X:Cx} {C:Cl} {XW:XWt} {a b c x:Expr} {f g:Den} {p:TDen} {st:Stmt} {rest sts sts':List Stmt} {s:SDen} {r r1 r2:SRDen} {rx:RDen} {pos:Pos}
theorem rdb_one (h:RDS X C XW st r):RDB X C XW [st] r:=fun e₀ => pss_one (h e₀)
theorem rdb_here (h:RDS X C XW st r):RDB X C XW (st :: rest) r:=fun e₀ => pss_imp (pss_cons (h e₀) (pss_never (sts:=rest))) fun Dn σ H hw' => by obtain ⟨e,Ω,ρ,c,ρ',Ω',Ca,eH,rl,q,hC,k⟩:=hw'; exact ⟨e,Ω,ρ,c,ρ',Ω',Ca,eH,rl,q,hC,k⟩
noncomputable def rThen (s:SDen) (r:SRDen):SRDen:=fun ρ Ω => match s ρ Ω with
 | some (.nx ρ1 Ω1) => r ρ1 Ω1
 | _ => none
theorem rdb_next (h1:PDS X C st s) (h2:RDB X C XW rest r):RDB X C XW (st :: rest) (rThen s r):=fun e₀ => pss_imp (pss_cons (h1 e₀) (h2 e₀)) fun Dn σ H hw' => by
 obtain ⟨e,Ω,ρ,c,ρ',Ω',Ca,eH,rl,q,hC,k⟩:=hw'
 unfold rThen at q
 cases q1:s ρ Ω with
 | none => rw [q1] at q; cases q
 | some o1 =>
  rw [q1] at q
  refine ⟨e,Ω,ρ,o1,eH,rl,q1,?_⟩
  cases o1 with
  | nx ρ1 Ω1 => exact fun e' σ' r' => ⟨e',Ω1,ρ1,c,ρ',Ω',Ca,rfl,r',q,hC,k⟩
  | _ => cases q
noncomputable def rOr (r1 r2:SRDen):SRDen:=fun ρ Ω => match r1 ρ Ω with
 | some z => some z
 | none => r2 ρ Ω
theorem rdb_or (h1:RDB X C XW sts r1) (h2:RDB X C XW sts r2):RDB X C XW sts (rOr r1 r2):=fun e₀ pins sh σ H D I hw' => by
 obtain ⟨e,Ω,ρ,c,ρ',Ω',Ca,eH,rl,q,hC,k⟩:=hw'
 unfold rOr at q
 cases q1:r1 ρ Ω with
 | none => rw [q1] at q; exact h2 e₀ pins sh σ H D I ⟨e,Ω,ρ,c,ρ',Ω',Ca,eH,rl,q,hC,k⟩
 | some z => rw [q1] at q; cases q; exact h1 e₀ pins sh σ H D I ⟨e,Ω,ρ,c,ρ',Ω',Ca,eH,rl,q1,hC,k⟩
noncomputable def rNever:SRDen:=fun _ _ => none
theorem rdb_never:RDB X C XW sts rNever:=fun e₀ => pss_imp pss_never fun Dn σ H hw' => by obtain ⟨e,Ω,ρ,c,ρ',Ω',Ca,eH,rl,q,hC,k⟩:=hw'; cases q
noncomputable def rIf (p:TDen) (s t:SRDen):SRDen:=fun ρ Ω => match p ρ Ω with
 | some (true,Ω') => s ρ Ω'
 | some (false,Ω') => t ρ Ω'
 | none => none
theorem rds_if (hc:PDT X C c p) (ha:RDB X C XW sts r1) (hb:RDB X C XW sts' r2):RDS X C XW (.If c sts sts' pos) (rIf p r1 r2):=fun e₀ => ps_imp (ps_if hc (ha e₀) (hb e₀)) fun Dn σ H hw' => by
 obtain ⟨e,Ω,ρ,c,ρ',Ω',Ca,eH,rl,q,hC,k⟩:=hw'
 unfold rIf at q
 cases q1:p ρ Ω with
 | none => rw [q1] at q; cases q
 | some p1 =>
  obtain ⟨d,Ω1⟩:=p1
  rw [q1] at q
  refine ⟨e,Ω,ρ,d,Ω1,eH,rl.wf,rl.rel,q1,fun e' x' w' => ?_⟩
  cases d with
  | true => rw [if_pos rfl]; exact ⟨e',Ω1,ρ,c,ρ',Ω',Ca,rfl,rl.to x' w',q,hC,k⟩
  | false => rw [if_neg (by decide)]; exact ⟨e',Ω1,ρ,c,ρ',Ω',Ca,rfl,rl.to x' w',q,hC,k⟩
noncomputable def rE (rx:RDen):SRDen:=fun ρ Ω => match rx ρ Ω with
 | some (c,Ω') => some (c,ρ,Ω')
 | none => none
theorem rE_read {K:PySem.W.Frag} {e₀:E4} {σ:St} {H:Hp} {Dn:Ends} {Q:VK} (hw:tRS K C XW e₀ (rE rx) Dn σ H):tR K C XW rx σ H Q:=by
 obtain ⟨e,Ω,ρ,c,ρ',Ω',Ca,eH,rl,q,hC,k⟩:=hw
 unfold rE at q
 cases q1:rx ρ Ω with
 | none => rw [q1] at q; cases q
 | some p1 =>
  obtain ⟨c1,Ω1⟩:=p1
  rw [q1] at q
  cases q
  exact ⟨e,Ω,ρ,_,_,Ca,eH,rl.wf,rl.rel,q1,hC,fun e' x' w' => k e' σ (rl.to x' w')⟩
theorem rds_ret (h:RD X C XW x rx):RDS X C XW (.Return (some x) pos) (rE rx):=fun e₀ => ps_imp (ps_ret h) fun Dn σ H hw => rE_read hw
theorem rds_expr (h:RD X C XW x rx) (hs:swapsWith x none pos.line X.env = pure false:=by rfl):RDS X C XW (.Expr x pos) (rE rx):=fun e₀ => ps_imp (ps_expr h hs) fun Dn σ H hw => rE_read hw
end
end DL
namespace DL
open PySem PySem.Spec PyProof.Rows L2
noncomputable def spX (K:PySem.W.Frag) (C:Cl) (F:FDen) (R:XFDen):Sp:=fun vs H Q E => spD K C F vs H Q E \/ ∃ e Ω ds c Ω' Ca,e.H = H /\ Wf K C e Ω /\ IsL K e.α e.F ds vs /\ R ds Ω = some (c,Ω') /\ C c = some Ca /\ ∀ e',Ext e e' -> Wf K C e' Ω' -> E (.ref Ca) none e'.H
noncomputable def runR (n m:Nat) (r:SRDen):XFDen:=fun ds Ω => if ds.length = n then match r (ds.map Sl.dat ++ List.replicate (m - n) Sl.und) Ω with
 | some (c,_,Ω') => some (c,Ω')
 | none => none
 else none
theorem throwOk_def {P:Program} {w:World} {K:PySem.W.Frag} {mg:Str -> Option Value} {base:Heap} {N:List Str} {qual:Str} {scope:Scope} {f:Addr} {cd:Value} {A:Around} {outer:List Env} {s₀:Shared} {H₀:Hp} {E:XK} :
  ThrowOk (cxOf (CXr P w) P w K mg base N qual scope f cd A outer s₀ H₀ E) fun _ Ca H' => E (.ref Ca) none H':=fun Ca σ H h => thrown_leaves h
theorem fn_DX {P:Program} {w:World} {K:PySem.W.Frag} {mg:Str -> Option Value} {base:Heap} {C:Cl} {x qual:Str} {st:Stmt} {dV:Value} {f:Addr} {fd:FuncData} {N ps:List Str} {k n m:Nat} {s:SDen} {r:SRDen} (F:FunV K x qual st dV f fd) (S:FnScope N ps (defScope st)) (hn:ps.length = n) (hm:N.length = m)
  (hbody:∀ (cdv:Value) (A:Around) (outer:List Env) (sh:Shared) (H:Hp) (E:XK),Room k (A.deeper (envOfC qual (defScope st) sh.heap.objs.size f cdv)) ->
   PDB (cxOf (CXr P w) P w K mg base N qual (defScope st) f cdv A outer sh H E).nox C (defBody st) s)
  (hout:∀ (cdv:Value) (A:Around) (outer:List Env) (sh:Shared) (H:Hp) (E:XK),Room k (A.deeper (envOfC qual (defScope st) sh.heap.objs.size f cdv)) ->
   RDB (cxOf (CXr P w) P w K mg base N qual (defScope st) f cdv A outer sh H E) C (fun _ Ca H' => E (.ref Ca) none H') (defBody st) r):FnOk P w K mg base (CXr P w) (k + 1) f fd ps (spX K C (runD n m s) (runR n m r)):=by
 obtain ⟨oc,od,kV,doc,pm,an,cdv,ct,osl,rfl,lk,hcd⟩:=F
 refine fn_of lk hcd S (fun vs H Q E h => ?_) fun A outer sh H vs Q E hr h => ?_
 ·rcases h with ⟨e,Ω,ds,d,Ω',_,_,i,q,_⟩ | ⟨e,Ω,ds,c,Ω',Ca,_,_,i,q,_⟩
  ·unfold runD at q
   by_cases hl:ds.length = n
   ·rw [<- i.length,hl,hn]
   ·rw [if_neg hl] at q; cases q
  ·unfold runR at q
   by_cases hl:ds.length = n
   ·rw [<- i.length,hl,hn]
   ·rw [if_neg hl] at q; cases q
 ·rcases h with ⟨e,Ω,ds,d,Ω',eH,wf,i,q,kk⟩ | ⟨e,Ω,ds,c,Ω',Ca,eH,wf,i,q,hC,kk⟩
  ·unfold runD at q
   by_cases hl:ds.length = n
   ·rw [if_pos hl] at q
    cases q1:s (ds.map Sl.dat ++ List.replicate (m - n) Sl.und) Ω with
    | none => rw [q1] at q; cases q
    | some o =>
     rw [q1] at q
     refine ⟨_,(hbody cdv A outer sh H E hr e).nox,e,Ω,_,o,eH,start_rel wf i,by rw [hl,hm]; exact q1,?_⟩
     cases o with
     | rt d' Ω2 => cases q; exact fun e' v x' w' i' => kk v e' x' w' i'
     | nx ρ' Ω2 => cases q; exact fun e' σ' r' => kk .non e' r'.ext r'.wf (by rw [Is])
     | bk ρ' Ω2 => cases q
     | ct ρ' Ω2 => cases q
   ·rw [if_neg hl] at q; cases q
  ·unfold runR at q
   by_cases hl:ds.length = n
   ·rw [if_pos hl] at q
    cases q1:r (ds.map Sl.dat ++ List.replicate (m - n) Sl.und) Ω with
    | none => rw [q1] at q; cases q
    | some p1 =>
     obtain ⟨c1,ρ1,Ω1⟩:=p1
     rw [q1] at q
     cases q
     exact ⟨_,hout cdv A outer sh H E hr e,e,Ω,_,_,ρ1,_,Ca,eH,start_rel wf i,by rw [hl,hm]; exact q1,hC,fun e' σ' r' => kk e' r'.ext r'.wf⟩
   ·rw [if_neg hl] at q; cases q
theorem tDA_mono {K:PySem.W.Frag} {C:Cl} {g:ADen} {σ:St} {H:Hp} {Q Q':List V -> Hp -> Prop} (h:tDA K C g σ H Q) (i:∀ v H',Q v H' -> Q' v H'):tDA K C g σ H Q':=by
 obtain ⟨e,Ω,ρ,d,Ω',eH,w,rl,q,kk⟩:=h
 exact ⟨e,Ω,ρ,d,Ω',eH,w,rl,q,fun v e' x' w' i' => i _ _ (kk v e' x' w' i')⟩
theorem passX_none {X:Cx} {σ:St} {H:Hp}:PassX X σ H fun _ _ _ => False:=fun pins s e s' I hw' => by obtain ⟨ea,C,t,H',B,_,z,_⟩:=hw'; exact z.elim
structure FnX (P:Program) (w:World) (K:PySem.W.Frag) (mg:Str -> Option Value) (base:Heap) (C:Cl) (k:Nat) (n:Str) (F:FDen) (R:XFDen):Prop where
 ex:∃ f fd ps,mg n = some (.ref f) /\ PySem.W.keepIn K (.ref f) = true /\ Binds K fd ps [] /\ FnOk P w K mg base (CXr P w) k f fd ps (spX K C F R)
noncomputable def rCall (R:XFDen) (g:ADen):RDen:=fun ρ Ω => match g ρ Ω with
 | some (ds,Ω1) => R ds Ω1
 | none => none
section
variable {X:Cx} {C:Cl} {XW:XWt} {k:Nat} {F:FDen} {R:XFDen} {n:Str} {p pos:Pos} {a b x:Expr} {es:List Expr} {ga:ADen} {f g:Den} {r:RDen}
theorem rd_call (hX:FlyOk X XW) (G:FnX X.prog X.w X.K X.mg X.base C k n F R) (hr:Room k X.A) (hg:Gl X n)
  (ha:PDA X C (x :: es) ga) (hdb:(n == ("__debug__":Str)) = false:=by decide) (he:starEach (x :: es) X.env = (false,eval x X.env) :: starEach es X.env:=by rfl) (hpl:(backTo pos (starEach es X.env)).any (·.1) = false:=by rfl) :
  RD X C XW (.Call (.Name n p) (x :: es) [] pos) (rCall R ga):=by
 obtain ⟨fa,fd,ps,hm,hk,hb,ok⟩:=G.ex
 refine pe_imp (pe_callX ok hr hg hm hk hb .nil ha hdb he hpl) fun σ H Q hw' => ?_
 obtain ⟨e,Ω,ρ,c,Ω',Ca,eH,w,rl,q,hC,kk⟩:=hw'
 unfold rCall at q
 cases q1:ga ρ Ω with
 | none => rw [q1] at q; cases q
 | some p1 =>
  obtain ⟨ds,Ω1⟩:=p1
  rw [q1] at q
  refine ⟨e,Ω,ρ,ds,Ω1,eH,w,rl,q1,fun vs e' x' w' i' => ?_⟩
  refine ⟨_,?_,hX σ e'.H⟩
  rw [List.append_nil]
  exact .inr ⟨e',Ω1,ds,c,Ω',Ca,rfl,w',i',q,hC,fun e'' x'' w'' => ⟨Ca,rfl,kk e'' (x'.trans x'') w'',x''.dm⟩⟩
theorem pd_callX (G:FnX X.prog X.w X.K X.mg X.base C k n F R) (hr:Room k X.A) (hg:Gl X n)
  (ha:PDA X C (x :: es) ga) (hdb:(n == ("__debug__":Str)) = false:=by decide) (he:starEach (x :: es) X.env = (false,eval x X.env) :: starEach es X.env:=by rfl) (hpl:(backTo pos (starEach es X.env)).any (·.1) = false:=by rfl) :
  PD X C (.Call (.Name n p) (x :: es) [] pos) (gCall F ga):=by
 obtain ⟨fa,fd,ps,hm,hk,hb,ok⟩:=G.ex
 exact pe_imp (pe_callX ok hr hg hm hk hb .nil ha hdb he hpl) fun σ H Q hw => tDA_mono (call_read (E:=fun _ _ _ => False) hw) fun vs H2 z2 => ⟨_,.inl z2,passX_none⟩
end
end DL
namespace L2
open PySem PySem.Spec PyProof.Rows
theorem Cx.Ok.unhold {X:Cx} {pn:List (Addr × Obj)} {E:Value -> Shared -> Prop} (h:(X.hold pn E).Ok):X.Ok :=
 ⟨h.mod,h.kind,h.glob,h.blt,h.above,h.inj,h.has,h.cab,h.hd,h.frames,h.stk,h.exf,h.bs,h.bsz,h.noex,h.exfs,h.funs,h.frf⟩
end L2
namespace DL
open PySem PySem.Spec PyProof.Rows L2
noncomputable abbrev VDen:=List Sl -> List OS -> Option (List OS)
noncomputable def tV (K:PySem.W.Frag) (C:Cl) (p:VDen):TE:=fun σ H Q => ∃ e Ω ρ Ω',e.H = H /\ Wf K C e Ω /\ RelE K e σ ρ /\ p ρ Ω = some Ω' /\ ∀ v e',Ext e e' -> Wf K C e' Ω' -> Q v e'.H
noncomputable def PV (X:Cx) (C:Cl) (x:Expr) (p:VDen):Prop:=PE X x (tV X.K C p)
section
variable {X:Cx} {C:Cl} {XW:XWt} {a x:Expr} {f g:Den} {p:VDen} {pos p1 p2:Pos}
noncomputable def pOf (g:Den):VDen:=fun ρ Ω => match g ρ Ω with
 | some (_,Ω') => some Ω'
 | none => none
theorem pv_of (h:PD X C x g):PV X C x (pOf g):=pe_imp h fun σ H Q hw' => by
 obtain ⟨e,Ω,ρ,Ω',eH,w,rl,q,k⟩:=hw'
 unfold pOf at q
 cases q1:g ρ Ω with
 | none => rw [q1] at q; cases q
 | some p1 =>
  obtain ⟨d,Ω1⟩:=p1
  rw [q1] at q
  cases q
  exact ⟨e,Ω,ρ,d,_,eH,w,rl,q1,fun v e' x' w' _ => k v e' x' w'⟩
noncomputable def rRaiseV (c:Str) (p:VDen):SRDen:=fun ρ Ω => match p ρ Ω with
 | some Ω' => some (c,ρ,Ω')
 | none => none
theorem rds_raiseV {cn:Str} {Ca:Addr} {bmB:List Value} {B newId initId:String} {np cpos:Pos} (hX:ThrowOk X XW) (hC:C cn = some Ca) (O:OwnCls cn Ca bmB newId X.mg X.base) (FB:ExcBaseFacts B newId initId bmB) (hh:X.A.handled = none) (hg:Gl X cn) (ha:PV X C x p)
  (he:starEach [x] X.env = (false,eval x X.env) :: starEach [] X.env:=by rfl) (hpl:(backTo cpos (starEach [x] X.env)).any (·.1) = false:=by rfl)
  (hd:(cn == ("__debug__":Str)) = false:=by decide):RDS X C XW (.Raise (some (.Call (.Name cn np) [x] [] cpos)) none pos) (rRaiseV cn p):=fun e₀ =>
 ps_imp (ps_raise O FB hh hg ha (fun {σ H} hv => by
   obtain ⟨e,Ω,ρ,Ω',eH,w,rl,q,k⟩:=hv
   exact ⟨e,Ω,ρ,Ω',eH,w,rl,q,fun v e' x' w' => ⟨rfl,k v e' x' w'⟩⟩) he hpl hd) fun Dn σ H hw' => by
  obtain ⟨e,Ω,ρ,c,ρ',Ω',Cb,eH,rl,q,hCb,k⟩:=hw'
  unfold rRaiseV at q
  cases q1:p ρ Ω with
  | none => rw [q1] at q; cases q
  | some Ω1 =>
   rw [q1] at q
   cases q
   rw [hC] at hCb
   cases hCb
   exact ⟨e,Ω,ρ,_,eH,rl.wf,rl.rel,q1,fun v e' x' w' => hX Ca σ _ (k e' σ (rl.to x' w'))⟩
end
end DL
namespace L2
open PySem PySem.Spec PyProof.Rows
section
variable {K:PySem.W.Frag} {h:Heap} {bmB:List Value} {newId:String} {mg:Str -> Option Value} {x:Str}
noncomputable def nsNoInit (K:PySem.W.Frag) (N:Addr):Bool:=match K.lookup N with
 | some o => (match o.data with
  | .dict es _ => es.all (fun e => match e.key with | .str _ _ => true | _ => false) && (nsFind es "__init__").isNone
  | _ => false)
 | none => false
theorem ns_no {N:Addr} (X:K.In h) (q:nsNoInit K N = true):∃ mN,h.Ns N mN /\ mN "__init__" = none:=by
 unfold nsNoInit at q
 split at q
 ·rename_i o ho
  split at q
  ·rename_i es ep hd
   rw [Bool.and_eq_true] at q
   refine ⟨h.nsMap N,.of_isNs ?_,?_⟩
   ·unfold Heap.isNs; rw [X _ _ ho]; simp only [hd]; exact q.1
   ·unfold Heap.nsMap; rw [X _ _ ho]; simp only [hd]; exact Option.isNone_iff_eq_none.mp q.2
  ·cases q
 ·cases q
noncomputable def tailIn (K:PySem.W.Frag) (bmB:List Value):List Value -> Bool
 | [] => bmB == []
 | v :: tl => (bmB == v :: tl) || (match v with
  | .ref A => (match K.lookup A with | some o => (match o.data with | .cls cd => nsNoInit K cd.ns && tailIn K bmB tl | _ => false) | none => false)
  | _ => false)
theorem tail_in (X:K.In h):∀ {tl:List Value},tailIn K bmB tl = true -> OwnTail h bmB tl
 | [],q => by
  unfold tailIn at q
  rw [beq_iff_eq] at q
  rw [<- q]; exact .base
 | v :: tl,q => by
  unfold tailIn at q
  rw [Bool.or_eq_true] at q
  rcases q with q | q
  ·rw [beq_iff_eq] at q
   rw [<- q]; exact .base
  ·split at q
   ·split at q
    ·rename_i o ho
     obtain ⟨oc,dd,data,sl⟩:=o
     dsimp only at q
     split at q
     ·rw [Bool.and_eq_true] at q
      obtain ⟨mA,h1,h2⟩:=ns_no X q.1
      exact .own (X _ _ ho) h1 h2 (tail_in X q.2)
     ·cases q
    ·cases q
   ·cases q
noncomputable def slot6 (l:List (Option Value)):Option Value:=if l.length = 6 then (l.getD 4 none) else none
theorem slot6_of {l:List (Option Value)} {v:Value} (h:slot6 l = some v):∃ k0 k1 k2 k3 k5,l = [k0,k1,k2,k3,some v,k5]:=by
 unfold slot6 at h
 by_cases q:l.length = 6
 ·rw [if_pos q] at h
  obtain _ | ⟨a,l⟩:=l
  ·cases q
  obtain _ | ⟨b,l⟩:=l
  ·cases q
  obtain _ | ⟨c,l⟩:=l
  ·cases q
  obtain _ | ⟨d,l⟩:=l
  ·cases q
  obtain _ | ⟨e,l⟩:=l
  ·cases q
  obtain _ | ⟨f,l⟩:=l
  ·cases q
  obtain _ | ⟨g,l⟩:=l
  ·exact ⟨a,b,c,d,f,congrArg (fun z => [a,b,c,d,z,f]) h⟩
  ·cases q
 ·rw [if_neg q] at h; cases h
noncomputable def ownIn (K:PySem.W.Frag) (C:Addr) (bmB:List Value) (newId:String):Bool:=match K.lookup C with
 | none => false
 | some o => (match o.data with
  | .cls cd => (match cd.mro with
   | [] => false
   | v :: bm => o.cls == .type "type" && v == .ref C && slot6 o.slots.toList == some (.builtin newId) && !cd.hasDel && nsNoInit K cd.ns && tailIn K bmB bm)
  | _ => false)
theorem own_in {C:Addr} (X:K.In h) (q:ownIn K C bmB newId = true) (hm:mg x = some (.ref C)):OwnCls x C bmB newId mg h:=by
 unfold ownIn at q
 split at q
 ·cases q
 ·rename_i o ho
  obtain ⟨oc,dd,data,sl⟩:=o
  dsimp only at q
  split at q
  ·rename_i cd
   obtain ⟨nm,bs,mro,ns,qn,hd,sn,sub,ab,col,del⟩:=cd
   dsimp only at q
   cases mro with
   | nil => cases q
   | cons v bm =>
    simp only [Bool.and_eq_true,beq_iff_eq,Bool.not_eq_true'] at q
    obtain ⟨⟨⟨⟨⟨rfl,rfl⟩,hs⟩,hdel⟩,hn⟩,ht⟩:=q
    obtain ⟨mN,h1,h2⟩:=ns_no X hn
    obtain ⟨k0,k1,k2,k3,k5,hs⟩:=slot6_of hs
    subst hdel
    have hsl:sl = #[k0,k1,k2,k3,some (.builtin newId),k5]:=by
     obtain ⟨l⟩:=sl
     simp only at hs
     rw [hs]
    subst hsl
    exact ⟨hm,bm,ns,nm,qn,bs,hd,sn,sub,ab,col,dd,k0,k1,k2,k3,k5,mN,X _ _ ho,h1,h2,tail_in X ht⟩
  ·cases q
end
end L2
namespace L2
open PySem PySem.Spec PyProof.Rows
theorem fly_inv {X:Cx} {pins:List (Addr × Obj)} {σ:St} {H H':Hp} {s s':Shared} {ea C t:Addr} {B h'':Heap} (I:Inv X pins σ H s) (os:s'.os = s.os) (bare:AllBare s'.gens) (un:Un (frs X.stack) [] H H' s.heap s'.heap) (hok:HOk X.prog X.w H' s'.heap)
  (fl:Heap.FlyingW B X.stack ea (.ref C) (.ref t) s'.heap) (trk:∀ b o,H' b = some o -> ∃ ob,B.get? b = some ob) (old:∀ b o,s.heap.get? b = some o -> H b = none -> b ∉ frs X.stack -> B.get? b = some o) (dm:∀ b o,H b = some o -> ∃ o',H' b = some o')
  (kB:B.StaysIn h'') (up:s'.heap.UpToSlots h''):Inv X pins σ H' { s' with heap:=h'' }:=by
 have slot:∀ b o,s.heap.get? b = some o -> H b = none -> b ∈ frs X.stack -> ∃ sl,h''.get? b = some { o with slots:=sl }:=fun b o e n hf => by
  obtain ⟨sl,q⟩:=un.slot b o e n hf (by intro z; cases z)
  obtain ⟨_,o',ho',hd⟩:=I.stack.mem hf
  rw [e] at ho'
  cases ho'
  obtain ⟨sl',q'⟩:=up b { o with slots:=sl } q hd
  exact ⟨sl',q'⟩
 have un':Un (frs X.stack) [] H H' s.heap h'':=by
  refine ⟨fun b o e n nf _ => kB b o (old b o e n nf),fun b o e n hf _ => slot b o e n hf,un.free,fun b o e _ => ?_,un.tups,un.frzs,un.tbls⟩
  cases q:H b with
  | none =>
   by_cases hf:b ∈ frs X.stack
   ·obtain ⟨sl,z⟩:=slot b o e q hf
    exact ⟨_,z⟩
   ·exact ⟨o,kB b o (old b o e q hf)⟩
  | some u =>
   obtain ⟨u',q'⟩:=dm b u q
   obtain ⟨ob,z⟩:=trk b u' q'
   exact ⟨ob,kB b ob z⟩
 have hok':HOk X.prog X.w H' h'':=fun b o e => (hok b o e).stay (fun c u hc q => by
  obtain ⟨ob,z⟩:∃ ob,B.get? c = some ob:=by
   rcases hc with y | y
   ·rw [y]; exact trk b o e
   ·exact trk c _ y
  have z':=fl.1 c ob z
  rw [q] at z'
  cases z'
  exact kB c _ z) (fun _ q => q) (fun _ _ q => q)
 exact I.call' (s':={ s' with heap:=h'' }) os un' hok' bare (fun b z => absurd z (by simp))
theorem flown_leaves {P:Program} {w:World} {K:PySem.W.Frag} {mg:Str -> Option Value} {base:Heap} {N:List Str} {qual:Str} {scope:Scope} {f:Addr} {cd:Value} {A:Around} {outer:List Env} {s₀:Shared} {H₀ H:Hp} {E E':XK} {σ:St}
  (hE:∀ C H',E' (.ref C) none H' -> E (.ref C) none H' /\ ∀ b o,H b = some o -> ∃ o',H' b = some o') (hE2:∀ C H',E' C none H' -> ∃ Ca,C = .ref Ca):PassX (cxOf (CXr P w) P w K mg base N qual scope f cd A outer s₀ H₀ E) σ H E':=by
 intro pins s e s' I h
 have sub:∀ b ∈ frs (envOfC qual scope s₀.heap.objs.size f cd :: outer),b = s₀.heap.objs.size \/ b ∈ frs outer:=fun b hb => List.mem_cons.mp (I.stkSub b hb)
 have old0:∀ b o,s₀.heap.get? b = some o -> b ∉ frs outer -> b ∉ frs (envOfC qual scope s₀.heap.objs.size f cd :: outer):=fun b o e n hb => by
  rcases sub b hb with z | z
  ·exact absurd (Heap.lt_size e) (by rw [z]; exact Nat.lt_irrefl _)
  ·exact n z
 have hdm:∀ C H',E' C none H' -> ∀ b o,H b = some o -> ∃ o',H' b = some o':=fun C H' z => by
  obtain ⟨Ca,rfl⟩:=hE2 C H' z
  exact (hE Ca H' z).2
 obtain ⟨ea,C,t,H',B,e1,hE',os,bare,un,hok,fl,trk,nea,old⟩:=id h
 subst e1
 have dm:=hdm _ _ hE'
 refine wpAny_leaves_onW (base:=B) (env:=envOfC qual scope s₀.heap.objs.size f cd) (outer:=outer) (L:=s₀.heap.objs.size) I.ok.frames rfl fl fun h'' fl'' up => ?_
 have I'':Inv (cxOf (CXr P w) P w K mg base N qual scope f cd A outer s₀ H₀ E) pins σ H' { s' with heap:=h'' } :=
  fly_inv I os bare un hok fl trk old dm fl''.1 up
 refine ⟨ea,C,t,H',B,rfl,(hE C H' hE').1,I''.os,I''.bare,I''.base,I''.hok,fl'',trk,nea,fun b o e n nf => ?_⟩
 exact old b o (I.base.keep b o e n nf (by intro z; cases z)) (I.base.free b o e n (by intro z; cases z)) (old0 b o e nf)
end L2
namespace DL
open PySem PySem.Spec PyProof.Rows L2
theorem flyOk_def {P:Program} {w:World} {K:PySem.W.Frag} {mg:Str -> Option Value} {base:Heap} {N:List Str} {qual:Str} {scope:Scope} {f:Addr} {cd:Value} {A:Around} {outer:List Env} {s₀:Shared} {H₀:Hp} {E:XK} :
  FlyOk (cxOf (CXr P w) P w K mg base N qual scope f cd A outer s₀ H₀ E) fun _ Ca H' => E (.ref Ca) none H':=fun σ H =>
 flown_leaves (fun C H' ⟨Ca,e,q,dm⟩ => by cases e; exact ⟨q,dm⟩) fun Cv H' ⟨Ca,e,_⟩ => ⟨Ca,e⟩
end DL
namespace DL
open PySem PySem.Spec PyProof.Rows L2
noncomputable def forR (β:BDen) (s:SDen) (r:SRDen):List D -> SRDen
 | [],_,_ => none
 | d :: ds,ρ,Ω => match β d ρ with
  | some ρ1 => match r ρ1 Ω with
   | some z => some z
   | none => match s ρ1 Ω with
    | some (.nx ρ' Ω') => forR β s r ds ρ' Ω'
    | some (.ct ρ' Ω') => forR β s r ds ρ' Ω'
    | _ => none
  | none => none
noncomputable def rFor (γ:ADen) (β:BDen) (s:SDen) (r:SRDen):SRDen:=fun ρ Ω => match γ ρ Ω with
 | some (ds,Ω') => forR β s r ds ρ Ω'
 | none => none
section
variable {X:Cx} {C:Cl} {XW:XWt} {tg iter c:Expr} {γ:ADen} {β:BDen} {s:SDen} {r:SRDen} {body:List Stmt} {pos:Pos}
theorem rdb_ex {sts:List Stmt} (h:PDB X C sts s) (h2:RDB X C XW sts r):PSs X sts (fun Dn σ H => (∃ e₁,tDS X.K C e₁ s Dn σ H) \/ ∃ e₁,tRS X.K C XW e₁ r Dn σ H):=fun pins sh σ H Dn I hw =>
 hw.elim (fun ⟨e₁,z⟩ => h e₁ pins sh σ H Dn I z) fun ⟨e₁,z⟩ => h2 e₁ pins sh σ H Dn I z
theorem rds_for (hp:PassesOwn (model X.prog X.w) X.A X.env X.xe) (hc:X.calm = true) (hi:PDI X C tg iter γ) (hg:PDG X C tg β) (hb:PDB X C body s) (hb2:RDB X C XW body r)
  (hs:∀ x,foldedSetIterable iter X.env x = pure x:=by intro _; rfl):RDS X C XW (.For tg iter body [] pos) (rFor γ β s r):=by
 refine fun e₀ => ps_imp (ps_for hp hc hi hg (rdb_ex hb hb2) hs) fun Dn σ H hw' => ?_
 obtain ⟨e,Ω,ρ,cn,ρ',Ωx,Ca,eH,rl,q,hC,k⟩:=hw'
 unfold rFor at q
 cases q1:γ ρ Ω with
 | none => rw [q1] at q; cases q
 | some p1 =>
  obtain ⟨ds,Ω'⟩:=p1
  rw [q1] at q
  dsimp only at q
  refine ⟨e,Ω,ρ,ds,Ω',eH,rl.wf,rl.rel,q1,fun e' J x' w' wk => ?_⟩
  refine ⟨fun i m σ H => m = ds.length - i /\ i <= ds.length /\ ∃ e2 Ω2 ρ2,e2.H = H /\ RelS X.K C e₀ e2 Ω2 σ ρ2 /\ Same e'.F e2.F /\ (∃ more,e2.α = e'.α ++ more) /\ forR β s r (ds.drop i) ρ2 Ω2 = some (cn,ρ',Ωx),⟨ds.length,by simp,Nat.zero_le _,e',Ω',ρ,rfl,rl.to x' w',Same.refl _,⟨[],by simp⟩,by simpa using q⟩,?_⟩
  rintro i m σ2 H2 ⟨rfl,hil,e2,Ω2,ρ2,rfl,r2,ff,al,q2⟩
  obtain ⟨stop,go⟩:=wk i e2 ff al r2.wf.fh
  by_cases hlt:i < ds.length
  ·have hd:ds[i]? = some ds[i]:=List.getElem?_eq_getElem hlt
   obtain ⟨g1,y1⟩:=go _ hd
   have edrop:ds.drop i = ds[i] :: ds.drop (i + 1):=List.drop_eq_getElem_cons hlt
   rw [edrop] at q2
   refine .inr ⟨g1,fun σ' H' => ∃ e3 Ω3 ρ3,e3.H = H' /\ RelS X.K C e₀ e3 Ω3 σ' ρ3 /\ Same e'.F e3.F /\ (∃ more,e3.α = e'.α ++ more) /\ forR β s r (ds.drop (i + 1)) ρ3 Ω3 = some (cn,ρ',Ωx),fun σ' H' hN => ⟨ds.length - (i + 1),by omega,rfl,hlt,hN⟩,fun x H' hy => ?_⟩
   obtain ⟨e2',rfl,ix,up⟩:=y1 x H' hy
   obtain ⟨x2',w2'⟩:=up C Ω2 r2.wf
   replace r2:=r2.to x2' w2'
   replace ff:=ff.trans x2'.ff
   replace al:∃ more,e2'.α = e'.α ++ more:=by
    obtain ⟨m1,z1⟩:=al
    obtain ⟨m2,z2⟩:=x2'.al
    exact ⟨m1 ++ m2,by rw [z2,z1,List.append_assoc]⟩
   clear y1 g1 stop go
   revert r2 ff al ix
   generalize e2' = e2
   intro ix r2 ff al
   unfold forR at q2
   cases q3:β ds[i] ρ2 with
   | none => rw [q3] at q2; cases q2
   | some ρ3 =>
    rw [q3] at q2
    dsimp only at q2
    refine ⟨e2,Ω2,ρ2,_,ρ3,rfl,r2.wf,r2.rel,ix,q3,fun σ3 r3 o3 => ?_⟩
    have r3':=r2.by r3 o3
    obtain ⟨e₁,hF,hα,r4,toE,toN,_⟩:=r3'.mark
    have back:∀ {e5:E4} {Ω5:List OS} {σ5:St} {ρ5:List Sl},RelS X.K C e₁ e5 Ω5 σ5 ρ5 -> RelS X.K C e₀ e5 Ω5 σ5 ρ5 /\ Same e'.F e5.F /\ ∃ more,e5.α = e'.α ++ more:=fun {e5 Ω5 σ5 ρ5} r5 => by
     refine ⟨⟨r5.wf,r5.rel,toE _ r5.ext,fun i ds a h1 h2 => toN _ (r5.fresh i ds a h1 h2)⟩,ff.trans (hF ▸ r5.ext.ff),?_⟩
     obtain ⟨m1,z1⟩:=al
     obtain ⟨m2,z2⟩:=r5.ext.al
     exact ⟨m1 ++ m2,by rw [z2,hα,z1,List.append_assoc]⟩
    cases q5:r ρ3 Ω2 with
    | some z =>
     rw [q5] at q2
     cases q2
     exact .inr ⟨e₁,e2,Ω2,ρ3,cn,ρ',Ωx,Ca,rfl,r4,q5,hC,fun e5 σ5 r5 => k e5 σ5 (back r5).1⟩
    | none =>
     rw [q5] at q2
     dsimp only at q2
     cases q4:s ρ3 Ω2 with
     | none => rw [q4] at q2; cases q2
     | some o4 =>
      rw [q4] at q2
      refine .inl ⟨e₁,e2,Ω2,ρ3,o4,rfl,r4,q4,?_⟩
      cases o4 with
      | nx ρ5 Ω5 => exact fun e5 σ5 r5 => ⟨e5,Ω5,ρ5,rfl,(back r5).1,(back r5).2.1,(back r5).2.2,q2⟩
      | ct ρ5 Ω5 => exact fun e5 σ5 r5 => ⟨e5,Ω5,ρ5,rfl,(back r5).1,(back r5).2.1,(back r5).2.2,q2⟩
      | bk ρ5 Ω5 => cases q2
      | rt z Ω5 => cases q2
  ·have hge:ds.drop i = []:=List.drop_eq_nil_of_le (Nat.le_of_not_lt hlt)
   rw [hge] at q2
   cases q2
end
theorem passes_def {P:Program} {w:World} {K:PySem.W.Frag} {mg:Str -> Option Value} {base:Heap} {N:List Str} {qual:Str} {scope:Scope} {f:Addr} {cd:Value} {A:Around} {outer:List Env} {s₀:Shared} {H₀:Hp} {E:XK} {CX:CXT} :
  let X:=cxOf CX P w K mg base N qual scope f cd A outer s₀ H₀ E
  PassesOwn (model X.prog X.w) X.A X.env X.xe:=PassesOwn.leaving
end DL
namespace L2
open PySem PySem.Spec PyProof.Rows
section
variable {X:Cx} {a:Expr} {ta:TE} {z:Str} {kk:Nat} {p1 p2 pos:Pos}
noncomputable def tFRS (ta:TE):TE:=fun σ H Q => ta σ H fun x H1 => ∃ y:Str,x = .str y /\ (reprText y).length <= 50000 /\ ∀ t,Q (.str t) H1
theorem pe_frs (ha:PE X a ta) (hz:z.length <= 1000:=by decide) (hs:evalEach [.Constant (.str z) kk p1,.FormattedValue a 114 none p2] X.env = [eval (.Constant (.str z) kk p1) X.env,eval (.FormattedValue a 114 none p2) X.env]:=by rfl) :
  PE X (.JoinedStr [.Constant (.str z) kk p1,.FormattedValue a 114 none p2] pos) (tFRS ta):=by
 intro pins s σ H Q I h
 have len:∀ p q:Str,(p ++ q).length = p.length + q.length:=fun p q => strLen_append p q
 have sl:(100000:Nat) <= sizeLine:=by rw [sizeLine_eq]; decide
 refine PySem.wpAny_JoinedStr ?_
 rw [hs]
 refine wpAny_mono (pe_str (X:=X) (x:=z) (j:=kk) (pos:=p1) pins s σ H (fun v H' => v = .str z /\ H' = H) I ⟨rfl,rfl⟩) (fun u s2 ⟨y,H2,I2,r2,e2,e3⟩ => ?_) fun _ _ e => e
 subst e2 e3
 obtain ⟨t2,rfl⟩:=r2
 refine ⟨z,t2,rfl,?_,?_⟩
 ·rw [PySem.W.KT.empty_app]; omega
 rw [PySem.W.KT.empty_app]
 refine PySem.wpAny_FormattedValue_repr (thn (ha pins s2 σ _ _ I2 h) fun u s3 hw' => ?_)
 obtain ⟨y,H3,I3,r3,x,ey,lx,q⟩:=hw'
 subst ey
 obtain ⟨t3,rfl⟩:=r3
 refine wpAny_pyReprObj_str ?_ (by omega)
 have fin:∀ (u:Tok) (tk:Nat),∃ y t,Value.str (reprText x) u = .str y t /\ (z ++ y).length <= sizeLine /\ ((z ++ y).length <= sizeLine /\ EP X pins σ Q (.str (z ++ y) tk) { s3 with toks:=tk + 1 }):=fun u tk =>
  ⟨_,_,rfl,by rw [len]; omega,by rw [len]; omega,.str _,H3,I3.tok _,⟨_,rfl⟩,q _⟩
 exact wpAny_formatField_str (fin _ _) (fin _ _) (by omega)
end
end L2
namespace DL
open PySem PySem.Spec PyProof.Rows L2
section
variable {X:Cx} {C:Cl} {a:Expr} {f:Den} {pos p1 p2:Pos}
noncomputable def pFrs (f:Den):VDen:=fun ρ Ω => match f ρ Ω with
 | some (.str y,Ω') => if (reprText y).length <= 50000 then some Ω' else none
 | _ => none
theorem pv_frs {z:Str} {kk:Nat} (ha:PD X C a f) (hz:z.length <= 1000:=by decide) (hs:evalEach [.Constant (.str z) kk p1,.FormattedValue a 114 none p2] X.env = [eval (.Constant (.str z) kk p1) X.env,eval (.FormattedValue a 114 none p2) X.env]:=by rfl) :
  PV X C (.JoinedStr [.Constant (.str z) kk p1,.FormattedValue a 114 none p2] pos) (pFrs f):=pe_imp (pe_frs ha hz hs) fun σ H Q hw' => by
 obtain ⟨e,Ω,ρ,Ω',eH,w,rl,q,k⟩:=hw'
 unfold pFrs at q
 split at q
 ·rename_i y Ω1 q1
  split at q
  ·rename_i hy
   cases q
   refine ⟨e,Ω,ρ,_,_,eH,w,rl,q1,fun v e' x' w' i' => ?_⟩
   rw [Is] at i'
   subst i'
   exact ⟨y,rfl,hy,fun t => k _ e' x' w'⟩
  ·cases q
 ·cases q
end
end DL
namespace DL
open PySem PySem.Spec PyProof.Rows L2
@[elab_as_elim] theorem len0 {p:List Value -> Prop} (us:List Value) (hl:us.length = 0) (h:p []):p us:=by
 cases us with
 | nil => exact h
 | cons a us => cases hl
@[elab_as_elim] theorem len1 {p:List Value -> Prop} (us:List Value) (hl:us.length = 1) (h:∀ a,p [a]):p us:=by
 cases us with
 | nil => cases hl
 | cons a us => exact len0 (p:=fun us => p (a :: us)) us (Nat.succ.inj hl) (h a)
@[elab_as_elim] theorem len2 {p:List Value -> Prop} (us:List Value) (hl:us.length = 2) (h:∀ a b,p [a,b]):p us:=by
 cases us with
 | nil => cases hl
 | cons a us => exact len1 (p:=fun us => p (a :: us)) us (Nat.succ.inj hl) (fun b => h a b)
@[elab_as_elim] theorem len3 {p:List Value -> Prop} (us:List Value) (hl:us.length = 3) (h:∀ a b c,p [a,b,c]):p us:=by
 cases us with
 | nil => cases hl
 | cons a us => exact len2 (p:=fun us => p (a :: us)) us (Nat.succ.inj hl) (fun b c => h a b c)
end DL
namespace L2
open PySem PySem.Spec PyProof.Rows
noncomputable def sqN (b:Bool):String:=match b with | true => "tuple" | false => "list"
noncomputable def itN (b:Bool):String:=match b with | true => "tuple_iterator" | false => "list_iterator"
noncomputable def SqB (b:Bool) (h:Heap) (a:Addr) (xs:Array Value):Prop:=∃ o,h.get? a = some o /\ o.cls = .type (sqN b) /\ ∃ n,o.data = .seq xs n
noncomputable def ItB (b:Bool) (h:Heap) (a l:Addr) (i:Nat):Prop:=∃ o,h.get? a = some o /\ o.cls = .type (itN b) /\ o.data = .fields #[.ref l,.int i 0]
section
variable {b:Bool} {h h':Heap} {a l c:Addr} {i:Nat} {xs:Array Value}
theorem SqB.go (x:SqB b h a xs) (e:∀ o,h.get? a = some o -> h'.get? a = some o):SqB b h' a xs:=let ⟨o,ho,r⟩:=x; ⟨o,e o ho,r⟩
theorem ItB.go (x:ItB b h a l i) (e:∀ o,h.get? a = some o -> h'.get? a = some o):ItB b h' a l i:=let ⟨o,ho,r⟩:=x; ⟨o,e o ho,r⟩
theorem SqB.eb (x:SqB b h a xs) (e:Heap.ExtBut c h h') (n:a ≠ c):SqB b h' a xs:=x.go fun o q => e a o n q
theorem ItB.eb (x:ItB b h a l i) (e:Heap.ExtBut c h h') (n:a ≠ c):ItB b h' a l i:=x.go fun o q => e a o n q
theorem SqB.lt (x:SqB b h a xs):a < h.objs.size:=let ⟨_,ho,_⟩:=x; Heap.lt_size ho
theorem ItB.lt (x:ItB b h a l i):a < h.objs.size:=let ⟨_,ho,_⟩:=x; Heap.lt_size ho
end
section
variable {prog:Program} {w:World} {A:Around} {E:Value -> Shared -> Prop} {s:Shared} {b:Bool}
theorem zb_item {it l:Addr} {i:Nat} {items:Array Value} {x:Value} {Q:Value -> Shared -> Prop} (hit:ItB b s.heap it l i) (hl:SqB b s.heap l items) (hx:items[i]? = some x)
  (hQ:∀ g,ItB b g it l (i + 1) -> Heap.SameBut it s.heap g -> Q x { s with heap:=g }):wpAny (model prog w) A (Builtin.SmallTypes.nextOf (.ref it)) Q E s:=by
 cases b with
 | false => exact wpAny_nextOf_list_item hit hl hx hQ
 | true =>
  obtain ⟨o,e1,e2,e3⟩:=id hit
  obtain ⟨u,e4,_,n,e5⟩:=hl
  have hT:s.TypeIs (.ref it) "tuple_iterator":=⟨o,e1,e2⟩
  unfold Builtin.SmallTypes.nextOf
  refine wpAny_bind (wpAny_callSpecial?_slot (name:=Str.ofString "__next__") hT F.slot_tuple_iterator_next (wpAny_call_entry F.slot_tuple_iterator_next hT F.entry_tuple_iterator_next ?_ (F.args_tuple_iterator_next_1 _)))
  show wpAny _ _ (field (.ref it) 0 >>= fun _ => _) _ _ s
  refine wpAny_bind (wpAny_field e1 e3 (x:=.ref l) rfl ?_)
  show wpAny _ _ (if (Value.ref l == Value.none) = true then (_:Sem _) else _) _ _ s
  refine (if_neg (show ¬ ((Value.ref l == Value.none) = true) from Bool.false_ne_true)) ▸ ?_
  show wpAny _ _ (field (.ref it) 1 >>= fun _ => _) _ _ s
  refine wpAny_bind (wpAny_field e1 e3 (x:=.int i 0) rfl ?_)
  show wpAny _ _ (seqItems? (.ref l) >>= fun _ => _) _ _ s
  refine wpAny_bind (wpAny_seqItems e4 e5 ?_)
  simp only [hx,Int.toNat_natCast]
  refine wpAny_bind (wpAny_setField e1 e3 (by simp) (wpAny_pure ⟨x,rfl,wpAny_pure (hQ _ ⟨_,Heap.get?_update_self _ e1 (Obj.isFreed_of_fields (Obj.data_mapFields e3 _)),(Obj.cls_mapFields ..).trans e2,?_⟩ (Heap.SameBut.update ..))⟩))
  rw [Obj.data_mapFields e3]; simp [rawInt]
theorem zb_end {it l:Addr} {i:Nat} {items:Array Value} {Q:Value -> Shared -> Prop} (hh:A.handled = none) (hit:ItB b s.heap it l i) (hl:SqB b s.heap l items) (hx:items[i]? = none)
  (hE:∀ g e,Heap.ExtBut it s.heap g -> (∃ o,g.get? e = some o /\ o.cls = .type "StopIteration") -> E (.ref e) { s with heap:=g }):wpAny (model prog w) A (Builtin.SmallTypes.nextOf (.ref it)) Q E s:=by
 cases b with
 | false => exact wpAny_nextOf_list_end hh hit hl hx hE
 | true =>
  obtain ⟨o,e1,e2,e3⟩:=id hit
  obtain ⟨u,e4,_,n,e5⟩:=hl
  have hT:s.TypeIs (.ref it) "tuple_iterator":=⟨o,e1,e2⟩
  unfold Builtin.SmallTypes.nextOf
  refine wpAny_bind (wpAny_callSpecial?_slot (name:=Str.ofString "__next__") hT F.slot_tuple_iterator_next (wpAny_call_entry F.slot_tuple_iterator_next hT F.entry_tuple_iterator_next ?_ (F.args_tuple_iterator_next_1 _)))
  show wpAny _ _ (field (.ref it) 0 >>= fun _ => _) _ _ s
  refine wpAny_bind (wpAny_field e1 e3 (x:=.ref l) rfl ?_)
  show wpAny _ _ (if (Value.ref l == Value.none) = true then (_:Sem _) else _) _ _ s
  refine (if_neg (show ¬ ((Value.ref l == Value.none) = true) from Bool.false_ne_true)) ▸ ?_
  show wpAny _ _ (field (.ref it) 1 >>= fun _ => _) _ _ s
  refine wpAny_bind (wpAny_field e1 e3 (x:=.int i 0) rfl ?_)
  show wpAny _ _ (seqItems? (.ref l) >>= fun _ => _) _ _ s
  refine wpAny_bind (wpAny_seqItems e4 e5 ?_)
  simp only [hx,Int.toNat_natCast]
  refine wpAny_bind (wpAny_rule (wpAny_bind (wpAny_setField e1 e3 (by simp) ?_)))
  show wpAny _ _ (newExc (.type "StopIteration") [] >>= fun _ => _) _ _ _
  refine wpAny_bind ?_
  simp only [newTuple,newExc]
  refine wpAny_bind (wpAny_newObj_type ?_ (by size_fits)); refine wpAny_bind (m:=firstArgMember _ _) (wpAny_of_eq (a:=Value.none) (by first | rfl | (simp only [firstArgMember]; rfl)) ?_)
  refine wpAny_newObj_type ?_ (by size_fits); simp only [raiseNew]; refine wpAny_bind (wpAny_handled ?_)
  first | rw [hh] | rw [show A.in1.handled = none from hh]
  refine wpAny_bind (wpAny_pure (wpAny_throw (hE _ _ (((Heap.SameBut.update ..).extBut.push _).push _) ⟨_,Heap.get?_push_size _ rfl,rfl⟩)))
end
end L2
namespace L2
open PySem PySem.Spec PyProof.Rows
section
variable {prog:Program} {w:World} {A:Around} {E:Value -> Shared -> Prop} {s:Shared} {b1 b2:Bool} {z TI TO i1 i2 l1 l2:Addr} {k:Nat} {xs ys:Array Value} {x y a b:Value}
theorem zb_next {Q:Value -> Shared -> Prop} (D:ZipApart z TI TO i1 i2 l1 l2) (hz:IsZip s.heap z TI TO .none) (hTI:IsPair s.heap TI (.ref i1) (.ref i2)) (hTO:IsPair s.heap TO a b)
  (p1:ItB b1 s.heap i1 l1 k) (p2:ItB b2 s.heap i2 l2 k) (q1:SqB b1 s.heap l1 xs) (q2:SqB b2 s.heap l2 ys) (hx:xs[k]? = some x) (hy:ys[k]? = some y)
  (hQ:∀ g,IsZip g z TI TO (rawInt s.heap.objs.size) -> IsPair g TO x y -> ItB b1 g i1 l1 (k + 1) -> ItB b2 g i2 l2 (k + 1) -> IsPair g s.heap.objs.size x y -> g.objs.size = s.heap.objs.size + 1 ->
   (∀ c o,c ≠ z -> c ≠ TO -> c ≠ i1 -> c ≠ i2 -> s.heap.get? c = some o -> g.get? c = some o) -> Q (.ref s.heap.objs.size) { s with heap:=g }) :
  wpAny (model prog w) A (Builtin.«zip.__next__» ⟨[.ref z],[]⟩) (fun fin s' => ∃ v,fin = .done (.ret v) /\ Q v s') E s:=by
 show wpAny _ _ (field (.ref z) 2 >>= fun _ => _) _ _ _
 refine wpAny_bind (wpAny_field hz rfl (x:=.bool false) rfl (?_:wpAny _ _ (field (.ref z) 3 >>= fun _ => _) _ _ _))
 refine wpAny_bind (wpAny_field hz rfl (x:=.ref TI) rfl (wpAny_bind (wpAny_seqItems hTI rfl ?_)))
 show wpAny _ _ (Builtin.SmallTypes.ownedTupleIsFree (.ref z) >>= fun _ => _) _ _ _
 refine wpAny_bind ?_
 unfold Builtin.SmallTypes.ownedTupleIsFree
 refine wpAny_bind (wpAny_field hz rfl (x:=Value.none) rfl (wpAny_pure ?_))
 simp only [if_true]
 refine wpAny_bind (wpAny_rule (wpAny_bind (wpAny_field hz rfl (x:=.ref TO) rfl (wpAny_bind (wpAny_setField_rec hz (by simp) fun g1 z1 m1 => ?_)))))
 replace z1:IsZip g1 z TI TO .ellipsis:=z1
 refine wpAny_bind ?_
 simp only [List.forIn_cons,List.forIn_nil,List.zipIdx_cons,List.zipIdx_nil]
 refine wpAny_bind (wpAny_bind (wpAny_onRaise (?_:wpAny _ _ (Builtin.SmallTypes.nextOf (.ref i1) >>= fun _ => _) _ _ _)))
 refine wpAny_bind (zb_item (p1.eb m1.extBut D.i1z) (q1.eb m1.extBut D.l1z) hx fun g2 r2 m2 => wpAny_pure ?_)
 have t2:IsPair g2 TO a b:=m2.extBut TO _ D.TOi1 (m1.extBut TO _ D.TOz hTO)
 refine wpAny_bind (wpAny_seqItems t2 rfl (wpAny_bind (wpAny_updateSeq_pair t2 fun g3 t3 m3 => wpAny_bind (wpAny_letGo (wpAny_pure ?_)))))
 replace t3:IsPair g3 TO x b:=t3
 refine wpAny_bind (wpAny_bind (wpAny_onRaise (?_:wpAny _ _ (Builtin.SmallTypes.nextOf (.ref i2) >>= fun _ => _) _ _ _)))
 refine wpAny_bind (zb_item (((p2.eb m1.extBut D.i2z).eb m2.extBut D.i12.symm).eb m3.extBut D.TOi2.symm) (((q2.eb m1.extBut D.l2z).eb m2.extBut D.l2i1).eb m3.extBut D.l2TO) hy fun g4 r4 m4 => wpAny_pure ?_)
 have t4:IsPair g4 TO x b:=m4.extBut TO _ D.TOi2 t3
 refine wpAny_bind (wpAny_seqItems t4 rfl (wpAny_bind (wpAny_updateSeq_pair t4 fun g5 t5 m5 => wpAny_bind (wpAny_letGo (wpAny_pure (wpAny_pure ?_))))))
 replace t5:IsPair g5 TO x y:=t5
 refine wpAny_bind (wpAny_seqItems t5 rfl (wpAny_bind (wpAny_newTuple ?_)))
 have sz:g5.objs.size = s.heap.objs.size:=by rw [m5.1,m4.1,m3.1,m2.1,m1.1]
 have z5:IsZip g5 z TI TO .ellipsis:=m5.extBut z _ D.TOz.symm (m4.extBut z _ D.i2z.symm (m3.extBut z _ D.TOz.symm (m2.extBut z _ D.i1z.symm z1)))
 have all:∀ c o,c ≠ z -> c ≠ TO -> c ≠ i1 -> c ≠ i2 -> s.heap.get? c = some o -> g5.get? c = some o:=fun c o c1 c2 c3 c4 e => m5.extBut c o c2 (m4.extBut c o c4 (m3.extBut c o c2 (m2.extBut c o c3 (m1.extBut c o c1 e))))
 have r1':ItB b1 g5 i1 l1 (k + 1):=((r2.eb m3.extBut D.TOi1.symm).eb m4.extBut D.i12).eb m5.extBut D.TOi1.symm
 have r2':ItB b2 g5 i2 l2 (k + 1):=r4.eb m5.extBut D.TOi2.symm
 have lz:z < g5.objs.size:=Heap.lt_size z5
 show wpAny _ _ (Builtin.SmallTypes.ownedTupleHandOut (.ref z) (.ref g5.objs.size) >>= fun _ => _) _ _ _
 refine wpAny_bind ?_
 unfold Builtin.SmallTypes.ownedTupleHandOut
 have z6:IsZip (g5.push { cls:=.type "tuple",data:=.seq #[x,y] }) z TI TO .ellipsis:=Heap.get?_push_of_some _ z5
 refine wpAny_bind (wpAny_setField_rec z6 (by simp) fun g7 z7 m7 => ?_)
 replace z7:IsZip g7 z TI TO (rawInt g5.objs.size):=z7
 refine wpAny_setField_rec z7 (by simp) fun g8 z8 m8 => ?_
 replace z8:IsZip g8 z TI TO (rawInt g5.objs.size):=z8
 have up:∀ c o,c ≠ z -> g5.get? c = some o -> g8.get? c = some o:=fun c o c1 e => m8.extBut c o c1 (m7.extBut c o c1 (Heap.get?_push_of_some _ e))
 have t8:IsPair g8 g5.objs.size x y:=m8.extBut _ _ (Nat.ne_of_gt lz) (m7.extBut _ _ (Nat.ne_of_gt lz) (Heap.get?_push_size _ rfl))
 have s8:g8.objs.size = g5.objs.size + 1:=by rw [m8.1,m7.1,Heap.size_push]
 rw [sz] at z8 t8 s8
 refine wpAny_pure ⟨_,rfl,?_⟩
 show Q (.ref g5.objs.size) _
 rw [sz]
 exact hQ g8 z8 (up TO _ D.TOz t5) (r1'.go fun o e => up _ o D.i1z e) (r2'.go fun o e => up _ o D.i2z e) t8 s8 fun c o c1 c2 c3 c4 e => up c o c1 (all c o c1 c2 c3 c4 e)
theorem zb_stop {Q:Fin -> Shared -> Prop} (hh:A.handled = none) (D:ZipApart z TI TO i1 i2 l1 l2) (hz:IsZip s.heap z TI TO .none) (hTI:IsPair s.heap TI (.ref i1) (.ref i2)) (hTO:IsPair s.heap TO a b)
  (p1:ItB b1 s.heap i1 l1 k) (p2:ItB b2 s.heap i2 l2 k) (q1:SqB b1 s.heap l1 xs) (q2:SqB b2 s.heap l2 ys) (hend:xs[k]? = none \/ ys[k]? = none)
  (hE:∀ g e,(∀ c o,c ≠ z -> c ≠ TO -> c ≠ i1 -> c ≠ i2 -> s.heap.get? c = some o -> g.get? c = some o) -> (∃ o,g.get? e = some o /\ o.cls = .type "StopIteration") -> E (.ref e) { s with heap:=g }) :
  wpAny (model prog w) A (Builtin.«zip.__next__» ⟨[.ref z],[]⟩) Q E s:=by
 show wpAny _ _ (field (.ref z) 2 >>= fun _ => _) _ _ _
 refine wpAny_bind (wpAny_field hz rfl (x:=.bool false) rfl (?_:wpAny _ _ (field (.ref z) 3 >>= fun _ => _) _ _ _))
 refine wpAny_bind (wpAny_field hz rfl (x:=.ref TI) rfl (wpAny_bind (wpAny_seqItems hTI rfl ?_)))
 show wpAny _ _ (Builtin.SmallTypes.ownedTupleIsFree (.ref z) >>= fun _ => _) _ _ _
 refine wpAny_bind ?_
 unfold Builtin.SmallTypes.ownedTupleIsFree
 refine wpAny_bind (wpAny_field hz rfl (x:=Value.none) rfl (wpAny_pure ?_))
 simp only [if_true]
 refine wpAny_bind (wpAny_rule (wpAny_bind (wpAny_field hz rfl (x:=.ref TO) rfl (wpAny_bind (wpAny_setField_rec hz (by simp) fun g1 z1 m1 => ?_)))))
 replace z1:IsZip g1 z TI TO .ellipsis:=z1
 refine wpAny_bind ?_
 simp only [List.forIn_cons,List.forIn_nil,List.zipIdx_cons,List.zipIdx_nil]
 refine wpAny_bind (wpAny_bind (wpAny_onRaise (?_:wpAny _ _ (Builtin.SmallTypes.nextOf (.ref i1) >>= fun _ => _) _ _ _)))
 cases hx:xs[k]? with
 | none =>
  refine wpAny_bind (zb_end hh (p1.eb m1.extBut D.i1z) (q1.eb m1.extBut D.l1z) hx fun g2 e m2 he => ?_)
  obtain ⟨oe,e1,e2⟩:=he
  have z2:IsZip g2 z TI TO .ellipsis:=m2 z _ D.i1z.symm z1
  have ne:e ≠ z:=fun q => by subst q; rw [z2] at e1; cases e1; simp at e2
  exact wpAny_setField_rec z2 (by simp) fun g3 _ m3 => hE g3 e (fun c o c1 _ c3 _ q => m3.extBut c o c1 (m2 c o c3 (m1.extBut c o c1 q))) ⟨oe,m3.extBut e oe ne e1,e2⟩
 | some x =>
  have hy:ys[k]? = none:=by rcases hend with q | q; (rw [hx] at q; cases q); exact q
  refine wpAny_bind (zb_item (p1.eb m1.extBut D.i1z) (q1.eb m1.extBut D.l1z) hx fun g2 r2 m2 => wpAny_pure ?_)
  have t2:IsPair g2 TO a b:=m2.extBut TO _ D.TOi1 (m1.extBut TO _ D.TOz hTO)
  refine wpAny_bind (wpAny_seqItems t2 rfl (wpAny_bind (wpAny_updateSeq_pair t2 fun g3 t3 m3 => wpAny_bind (wpAny_letGo (wpAny_pure ?_)))))
  refine wpAny_bind (wpAny_bind (wpAny_onRaise (?_:wpAny _ _ (Builtin.SmallTypes.nextOf (.ref i2) >>= fun _ => _) _ _ _)))
  refine wpAny_bind (zb_end hh (((p2.eb m1.extBut D.i2z).eb m2.extBut D.i12.symm).eb m3.extBut D.TOi2.symm) (((q2.eb m1.extBut D.l2z).eb m2.extBut D.l2i1).eb m3.extBut D.l2TO) hy fun g4 e m4 he => ?_)
  obtain ⟨oe,e1,e2⟩:=he
  have z4:IsZip g4 z TI TO .ellipsis:=m4 z _ D.i2z.symm (m3.extBut z _ D.TOz.symm (m2.extBut z _ D.i1z.symm z1))
  have ne:e ≠ z:=fun q => by subst q; rw [z4] at e1; cases e1; simp at e2
  exact wpAny_setField_rec z4 (by simp) fun g5 _ m5 => hE g5 e (fun c o c1 c2 c3 c4 q => m5.extBut c o c1 (m4 c o c4 (m3.extBut c o c2 (m2.extBut c o c3 (m1.extBut c o c1 q))))) ⟨oe,m5.extBut e oe ne e1,e2⟩
theorem zb_pyNext {Q:Option Value -> Shared -> Prop} (D:ZipApart z TI TO i1 i2 l1 l2) (hz:IsZip s.heap z TI TO .none) (hTI:IsPair s.heap TI (.ref i1) (.ref i2)) (hTO:IsPair s.heap TO a b)
  (p1:ItB b1 s.heap i1 l1 k) (p2:ItB b2 s.heap i2 l2 k) (q1:SqB b1 s.heap l1 xs) (q2:SqB b2 s.heap l2 ys) (hx:xs[k]? = some x) (hy:ys[k]? = some y)
  (hQ:∀ g,IsZip g z TI TO (rawInt s.heap.objs.size) -> IsPair g TO x y -> ItB b1 g i1 l1 (k + 1) -> ItB b2 g i2 l2 (k + 1) -> IsPair g s.heap.objs.size x y -> g.objs.size = s.heap.objs.size + 1 ->
   (∀ c o,c ≠ z -> c ≠ TO -> c ≠ i1 -> c ≠ i2 -> s.heap.get? c = some o -> g.get? c = some o) -> Q (some (.ref s.heap.objs.size)) { s with heap:=g }) :
  wpAny (model prog w) A (pyNext (.ref z)) Q E s:=by
 have hT:s.TypeIs (.ref z) "zip":=⟨_,hz,rfl⟩
 unfold pyNext
 exact wpAny_bind (wpAny_attempt (wpAny_callSpecial?_slot (name:=Str.ofString "__next__") hT F.slot_zip_next (wpAny_call_entry F.slot_zip_next hT F.entry_zip_next
  (zb_next D hz hTI hTO p1 p2 q1 q2 hx hy fun g a1 a2 a3 a4 a5 a6 a7 => wpAny_pure (hQ g a1 a2 a3 a4 a5 a6 a7)) (F.args_zip_next_1 _))))
theorem zb_pyStop {Q:Option Value -> Shared -> Prop} (hh:A.handled = none) (D:ZipApart z TI TO i1 i2 l1 l2) (hz:IsZip s.heap z TI TO .none) (hTI:IsPair s.heap TI (.ref i1) (.ref i2)) (hTO:IsPair s.heap TO a b)
  (p1:ItB b1 s.heap i1 l1 k) (p2:ItB b2 s.heap i2 l2 k) (q1:SqB b1 s.heap l1 xs) (q2:SqB b2 s.heap l2 ys) (hend:xs[k]? = none \/ ys[k]? = none)
  (hQ:∀ g,(∀ c o,c ≠ z -> c ≠ TO -> c ≠ i1 -> c ≠ i2 -> s.heap.get? c = some o -> g.get? c = some o) -> Q none { s with heap:=g }):wpAny (model prog w) A (pyNext (.ref z)) Q E s:=by
 have hT:s.TypeIs (.ref z) "zip":=⟨_,hz,rfl⟩
 unfold pyNext
 refine wpAny_bind (wpAny_attempt (wpAny_callSpecial?_slot (name:=Str.ofString "__next__") hT F.slot_zip_next (wpAny_call_entry F.slot_zip_next hT F.entry_zip_next
  (zb_stop hh D hz hTI hTO p1 p2 q1 q2 hend fun g e hk he => ?_) (F.args_zip_next_1 _))))
 obtain ⟨o,e1,e2⟩:=he
 exact wpAny_bind (wpAny_isInstance (T:="StopIteration") (b:=true) ⟨o,e1,e2⟩ isSubtype_stop (wpAny_pure (hQ _ hk)))
end
noncomputable def itO (b:Bool) (l:Addr):Obj:={ cls:=.type (itN b),data:=.fields #[.ref l,.int 0 0] }
noncomputable abbrev zb1 (h:Heap) (b1:Bool) (l1:Addr):Heap:=h.push (itO b1 l1)
noncomputable abbrev zb2 (h:Heap) (b1 b2:Bool) (l1 l2:Addr):Heap:=(zb1 h b1 l1).push (itO b2 l2)
noncomputable abbrev zb3 (h:Heap) (b1 b2:Bool) (l1 l2:Addr):Heap:=(zb2 h b1 b2 l1 l2).push { cls:=.type "tuple",data:=.seq #[.ref h.objs.size,.ref (zb1 h b1 l1).objs.size] }
noncomputable abbrev zb4 (h:Heap) (b1 b2:Bool) (l1 l2:Addr):Heap:=(zb3 h b1 b2 l1 l2).push { cls:=.type "tuple",data:=.seq #[.none,.none] }
noncomputable abbrev zb5 (h:Heap) (b1 b2:Bool) (l1 l2:Addr):Heap:=(zb4 h b1 b2 l1 l2).push { cls:=.type "zip",data:=.fields #[.none,.bool false,.bool false,.ref (zb2 h b1 b2 l1 l2).objs.size,.ref (zb3 h b1 b2 l1 l2).objs.size] }
theorem zb_iter {prog:Program} {w:World} {A:Around} {E:Value -> Shared -> Prop} {s:Shared} {b:Bool} {l:Addr} {xs:Array Value} {Q:Value -> Shared -> Prop} (hl:SqB b s.heap l xs)
  (h:Q (.ref s.heap.objs.size) { s with heap:=s.heap.push (itO b l) }):wpAny (model prog w) A (pyIter (.ref l)) Q E s:=by
 cases b with
 | false => exact wpAny_pyIter_list hl h
 | true => exact wpAny_pyIter_tuple hl h
theorem zb_meets (b1 b2:Bool) (l1 l2:Addr) (xs ys:Array Value):Meets (Builtin.«zip.__new__» ⟨[.type "zip",.ref l1,.ref l2],[]⟩) (fun _ R s => SqB b1 s.heap l1 xs /\ SqB b2 s.heap l2 ys /\
   R (.ok (.ret (.ref (zb4 s.heap b1 b2 l1 l2).objs.size))) { s with heap:=zb5 s.heap b1 b2 l1 l2 }) :=
 .of_wp fun prog w A R s h => by
  obtain ⟨hp,g,d,tk,os⟩:=s; obtain ⟨e1,e2,h⟩:=h
  have hsub:=sub_zip
  have L1:SqB b1 (Shared.heap ⟨hp,g,d,tk,os⟩) l1 xs:=e1
  have L2:SqB b2 (Shared.heap ⟨hp.push (itO b1 l1),g,d,tk,os⟩) l2 ys:=e2.go fun o q => Heap.get?_push_of_some _ q
  wp_walk using zb_iter L1,zb_iter L2
  exact ⟨_,rfl,h⟩
theorem zb_call {prog:Program} {w:World} {A:Around} {E:Value -> Shared -> Prop} {s:Shared} {b1 b2:Bool} {l1 l2:Addr} {xs ys:Array Value} {Q:Value -> Shared -> Prop} (e1:SqB b1 s.heap l1 xs) (e2:SqB b2 s.heap l2 ys)
  (h:∀ g,IsZip g (s.heap.objs.size + 4) (s.heap.objs.size + 2) (s.heap.objs.size + 3) .none -> IsPair g (s.heap.objs.size + 2) (.ref s.heap.objs.size) (.ref (s.heap.objs.size + 1)) ->
   IsPair g (s.heap.objs.size + 3) .none .none -> ItB b1 g s.heap.objs.size l1 0 -> ItB b2 g (s.heap.objs.size + 1) l2 0 -> g.objs.size = s.heap.objs.size + 5 ->
   (∀ c o,s.heap.get? c = some o -> g.get? c = some o) -> Q (.ref (s.heap.objs.size + 4)) { s with heap:=g }):wpAny (model prog w) A (call (.type "zip") [.ref l1,.ref l2]) Q E s:=by
 refine callType_new F.called_zip (by decide) (F.typeCall_zip_2 _ _) (F.newCall_zip_2 _ _) (fun obj => F.args_object_init_3 obj _ _) F.entry_zip_new (zb_meets b1 b2 l1 l2 xs ys) ⟨e1,e2,?_⟩
 have n1:(zb1 s.heap b1 l1).objs.size = s.heap.objs.size + 1:=Heap.size_push ..
 have n2:(zb2 s.heap b1 b2 l1 l2).objs.size = s.heap.objs.size + 2:=by rw [Heap.size_push,n1]
 have n3:(zb3 s.heap b1 b2 l1 l2).objs.size = s.heap.objs.size + 3:=by rw [Heap.size_push,n2]
 have n4:(zb4 s.heap b1 b2 l1 l2).objs.size = s.heap.objs.size + 4:=by rw [Heap.size_push,n3]
 have n5:(zb5 s.heap b1 b2 l1 l2).objs.size = s.heap.objs.size + 5:=by rw [Heap.size_push,n4]
 have up:∀ (h:Heap) (o u:Obj) c,h.get? c = some o -> (h.push u).get? c = some o:=fun h o u c q => Heap.get?_push_of_some _ q
 have g5:(zb5 s.heap b1 b2 l1 l2).get? (zb4 s.heap b1 b2 l1 l2).objs.size = some _:=Heap.get?_push_size _ rfl
 have g4:(zb5 s.heap b1 b2 l1 l2).get? (zb3 s.heap b1 b2 l1 l2).objs.size = some _:=up _ _ _ _ (Heap.get?_push_size _ rfl)
 have g3:(zb5 s.heap b1 b2 l1 l2).get? (zb2 s.heap b1 b2 l1 l2).objs.size = some _:=up _ _ _ _ (up _ _ _ _ (Heap.get?_push_size _ rfl))
 have g2:(zb5 s.heap b1 b2 l1 l2).get? (zb1 s.heap b1 l1).objs.size = some (itO b2 l2):=up _ _ _ _ (up _ _ _ _ (up _ _ _ _ (Heap.get?_push_size _ rfl)))
 have g1:(zb5 s.heap b1 b2 l1 l2).get? s.heap.objs.size = some (itO b1 l1):=up _ _ _ _ (up _ _ _ _ (up _ _ _ _ (up _ _ _ _ (Heap.get?_push_size _ rfl))))
 show _ /\ _
 rw [n2,n3,n4] at g5
 rw [n1,n2] at g3
 rw [n3] at g4
 rw [n1] at g2
 rw [n4]
 exact ⟨⟨_,g5,rfl⟩,h _ g5 g3 g4 ⟨_,g1,rfl,rfl⟩ ⟨_,g2,rfl,rfl⟩ n5 fun c o q => up _ _ _ _ (up _ _ _ _ (up _ _ _ _ (up _ _ _ _ (up _ _ _ _ q))))⟩
end L2
namespace L2
open PySem PySem.Spec PyProof.Rows
section
variable {X:Cx} {pins:List (Addr × Obj)} {σ:St} {H:Hp} {s:Shared} {h':Heap}
theorem Inv.turnL {t':Nat} {ch:List Addr} (I:Inv X pins σ H s) (k:∀ b o,b ∉ ch -> s.heap.get? b = some o -> h'.get? b = some o) (hf:∀ b ∈ ch,FpOk X pins H b):Inv X pins σ H { s with heap:=h',toks:=t' }:=by
 have nit:∀ b u,H b = some u -> b ∉ ch:=fun b u e z => by rw [(hf b z).1] at e; cases e
 have nl:X.env.locals ∉ ch:=fun z => (hf _ z).2.1 rfl
 refine I.step (g':=s.gens) (d':=s.drawn) (ch:=ch) (fun b hb => ?_) (fun b o _ _ hc e _ => k b o hc e) (fun b o _ _ hc e _ => ⟨o.slots,k b o hc e⟩) (fun _ _ _ _ n => n) (fun b o hc e => ⟨o,k b o hc e⟩) (fun _ _ e => e) (fun _ _ _ e => e) (fun b ps e => ⟨#[],by rw [e]; simp⟩) (fun m hm => ?_) (fun b u e => ?_) I.bare
 ·obtain ⟨f0,f1,f2,f3,f4,f5⟩:=hf b hb
  exact ⟨f3,f1,f4,f5⟩
 ·obtain ⟨o,es,ep,ho,r⟩:=hm
  exact ⟨o,es,ep,k _ o nl ho,r⟩
 ·refine (I.hok b u e).stay (fun c v hc q => k c v ?_ q) (fun _ q => q) fun _ _ q => q
  rcases hc with z | z
  ·rw [z]; exact nit b u e
  ·exact nit c _ z
theorem Inv.turnT {t':Nat} {ch:List Addr} {p:Addr} {xs:List V} {us:List Value} (I:Inv X pins σ H s) (k:∀ b o,b ∉ ch -> s.heap.get? b = some o -> h'.get? b = some o) (hf:∀ b ∈ ch,FpOk X pins H b)
  (hp:s.heap.objs.size <= p) (hz:xs.length <= sizeLine) (r:Vals xs us) (ht:IsTup h' p us.toArray):Inv X pins σ (upd H p (.tup xs)) { s with heap:=h',toks:=t' }:=by
 have hn:H p = none:=I.hok.fresh hp
 have ne:∀ b o,s.heap.get? b = some o -> b ≠ p:=fun b o e z => absurd (Heap.lt_size e) (by rw [z]; exact Nat.not_lt.mpr hp)
 have neH:∀ b u,H b = some u -> b ≠ p:=fun b u e z => by rw [z,hn] at e; cases e
 have nit:∀ b u,H b = some u -> b ∉ ch:=fun b u e z => by rw [(hf b z).1] at e; cases e
 have nl:X.env.locals ∉ ch:=fun z => (hf _ z).2.1 rfl
 refine I.step (g':=s.gens) (d':=s.drawn) (ch:=ch) (fun b hb => ?_) (fun b o _ _ hc e _ => k b o hc e) (fun b o _ _ hc e _ => ⟨o.slots,k b o hc e⟩) (fun b o _ e n => by rw [upd_ne (ne b o e)]; exact n) (fun b o hc e => ⟨o,k b o hc e⟩)
  (fun b xs e => by rw [upd_ne (neH b _ e)]; exact e) (fun b o u e => by rw [upd_ne (neH b _ e)]; exact e) (fun b ps e => ⟨#[],by rw [upd_ne (neH b _ e),e]; simp⟩) (fun m hm => ?_) (fun b u e => ?_) I.bare
 ·obtain ⟨f0,f1,f2,f3,f4,f5⟩:=hf b hb
  exact ⟨f3,f1,f4,f5⟩
 ·obtain ⟨o,es,ep,ho,r⟩:=hm
  exact ⟨o,es,ep,k _ o nl ho,r⟩
 ·by_cases z:b = p
  ·subst z
   rw [upd_same] at e
   cases e
   exact ⟨hz,us,r,ht⟩
  ·rw [upd_ne z] at e
   refine (I.hok b u e).stay (fun c v hc q => k c v ?_ q) (fun c q => by rw [upd_ne (neH c _ q)]; exact q) fun c xs q => by rw [upd_ne (neH c _ q)]; exact q
   rcases hc with z | z
   ·rw [z]; exact nit b u e
   ·exact nit c _ z
end
noncomputable def SqD (K:PySem.W.Frag) (b:Bool) (H:Hp) (a:Addr) (xs:List V):Prop:=match b with | true => SqT K H a xs | false => SqL K H a xs
theorem sqB_of {X:Cx} {pins:List (Addr × Obj)} {σ:St} {H:Hp} {s:Shared} {b:Bool} {a:Addr} {xs:List V} (I:Inv X pins σ H s) (h:SqD X.K b H a xs):∃ its:List Value,Vals xs its /\ SqB b s.heap a its.toArray:=by
 cases b with
 | false =>
  obtain ⟨its,r,p,_⟩:=I.list h
  exact ⟨its,r,p.isList⟩
 | true =>
  obtain ⟨its,r,p,_⟩:=I.tuple h
  exact ⟨its,r,p⟩
theorem sqD_one {X:Cx} {pins:List (Addr × Obj)} {σ:St} {H:Hp} {s:Shared} {b:Bool} {a:Addr} {xs ys:List V} (I:Inv X pins σ H s) (h:SqD X.K b H a xs) (h':SqD X.K b H a ys):xs = ys:=by
 cases b with
 | false => exact I.list_inj h h'
 | true => exact I.tuple_inj h h'
noncomputable def Itz (K:PySem.W.Frag) (b1 b2:Bool) (l1 l2:Addr):It :=
 ⟨fun i H => ∃ xs ys x y,SqD K b1 H l1 xs /\ SqD K b2 H l2 ys /\ xs[i]? = some x /\ ys[i]? = some y,
  fun i H v H' => ∃ p x y,v = .ref p /\ H p = none /\ H' = upd H p (.tup [x,y]) /\ (∀ xs,SqD K b1 H l1 xs -> xs[i]? = some x) /\ ∀ ys,SqD K b2 H l2 ys -> ys[i]? = some y,
  fun i H => ∃ xs ys,SqD K b1 H l1 xs /\ SqD K b2 H l2 ys /\ (xs.length <= i \/ ys.length <= i)⟩
noncomputable def ZipAt (b1 b2:Bool) (z TI TO i1 i2 l1 l2:Addr) (i:Nat) (h:Heap):Prop:=IsZip h z TI TO .none /\ IsPair h TI (.ref i1) (.ref i2) /\ (∃ a b,IsPair h TO a b) /\ ItB b1 h i1 l1 i /\ ItB b2 h i2 l2 i
theorem turn_zip {P:Program} {w:World} {K:PySem.W.Frag} {es:List Expr} {kk:Nat} {pt:Pos} {b1 b2:Bool} {z TI TO i1 i2 l1 l2:Addr} (D:ZipApart z TI TO i1 i2 l1 l2) :
  Turn P w K (.Tuple es kk pt) (Itz K b1 b2 l1 l2) [z,TI,TO,i1,i2] z (ZipAt b1 b2 z TI TO i1 i2 l1 l2) where
 mem:=by simp
 obj:=fun i h st b hb => by
  obtain ⟨hz,hTI,⟨a,c,hTO⟩,⟨o1,e1,_,d1⟩,⟨o2,e2,_,d2⟩⟩:=st
  simp only [List.mem_cons,List.not_mem_nil,or_false] at hb
  rcases hb with rfl | rfl | rfl | rfl | rfl
  ·exact ⟨_,hz,fun v q => nomatch q⟩
  ·exact ⟨_,hTI,fun v q => nomatch q⟩
  ·exact ⟨_,hTO,fun v q => nomatch q⟩
  ·exact ⟨_,e1,fun v q => by rw [d1] at q; cases q⟩
  ·exact ⟨_,e2,fun v q => by rw [d2] at q; cases q⟩
 keep:=fun i h h' st k => by
  obtain ⟨hz,hTI,⟨a,c,hTO⟩,p1,p2⟩:=st
  exact ⟨k z (by simp) _ hz,k TI (by simp) _ hTI,⟨a,c,k TO (by simp) _ hTO⟩,p1.go fun o e => k i1 (by simp) o e,p2.go fun o e => k i2 (by simp) o e⟩
 item:=by
  intro X hP hw hK hc i pins s σ H E I hf st hg
  subst hP hw hK
  obtain ⟨hz,hTI,⟨a,b,hTO⟩,p1,p2⟩:=st
  obtain ⟨xs,ys,x,y,s1,s2,hx,hy⟩:=hg
  obtain ⟨its1,rv1,q1⟩:=sqB_of I s1
  obtain ⟨its2,rv2,q2⟩:=sqB_of I s2
  obtain ⟨u,hu,ru⟩:=rv1.get hx
  obtain ⟨v,hv,rv⟩:=rv2.get hy
  refine zb_pyNext D hz hTI hTO p1 p2 q1 q2 (x:=u) (y:=v) (by simpa using hu) (by simpa using hv) fun g a1 a2 a3 a4 a5 a6 a7 => ⟨_,rfl,wpAny_letOwnedTupleGo_zip a1 fun g' z' m' => ?_⟩
  have lz:z < s.heap.objs.size:=Heap.lt_size hz
  have k':∀ c o,c ∉ [z,TI,TO,i1,i2] -> s.heap.get? c = some o -> g'.get? c = some o:=fun c o hc e => by
   simp only [List.mem_cons,List.not_mem_nil,or_false,not_or] at hc
   exact m'.extBut c o hc.1 (a7 c o hc.1 hc.2.2.1 hc.2.2.2.1 hc.2.2.2.2 e)
  have t':IsTup g' s.heap.objs.size [u,v].toArray:=⟨_,m'.extBut _ _ (Nat.ne_of_gt lz) a5,rfl,_,rfl⟩
  have J:=I.turnT (t':=s.toks) (xs:=[x,y]) (us:=[u,v]) (p:=s.heap.objs.size) k' hf (Nat.le_refl _) (by show 2 <= sizeLine; rw [sizeLine_eq]; decide) (.cons ru (.cons rv .nil)) t'
  have hn:H s.heap.objs.size = none:=I.hok.fresh (Nat.le_refl _)
  refine ⟨.ref s.heap.objs.size,_,J,rfl,⟨_,x,y,rfl,hn,rfl,fun us hu => by rw [sqD_one I hu s1]; exact hx,fun us hu => by rw [sqD_one I hu s2]; exact hy⟩,⟨z',m'.extBut _ _ D.TIz (a7 _ _ D.TIz D.TITO D.TIi1 D.TIi2 hTI),⟨_,_,m'.extBut _ _ D.TOz a2⟩,a3.eb m'.extBut D.i1z,a4.eb m'.extBut D.i2z⟩,fun b hb => ?_⟩
  have lb:b < s.heap.objs.size:=by
   simp only [List.mem_cons,List.not_mem_nil,or_false] at hb
   rcases hb with rfl | rfl | rfl | rfl | rfl
   ·exact lz
   ·exact Heap.lt_size hTI
   ·exact Heap.lt_size hTO
   ·exact p1.lt
   ·exact p2.lt
  rw [upd_ne (Nat.ne_of_lt lb)]
  exact (hf b hb).1
 done:=by
  intro X hP hw hK hc i pins s σ H E I hf st hg
  subst hP hw hK
  obtain ⟨hz,hTI,⟨a,b,hTO⟩,p1,p2⟩:=st
  obtain ⟨xs,ys,s1,s2,he⟩:=hg
  obtain ⟨its1,rv1,q1⟩:=sqB_of I s1
  obtain ⟨its2,rv2,q2⟩:=sqB_of I s2
  have n1:=rv1.length
  have n2:=rv2.length
  refine zb_pyStop (I.ok.hd hc) D hz hTI hTO p1 p2 q1 q2 (he.imp (fun q => by simp; omega) fun q => by simp; omega) fun g hk => ⟨rfl,I.turnL (t':=s.toks) (ch:=[z,TI,TO,i1,i2]) (fun c o hc e => ?_) hf⟩
  simp only [List.mem_cons,List.not_mem_nil,or_false,not_or] at hc
  exact hk c o hc.1 hc.2.2.1 hc.2.2.2.1 hc.2.2.2.2 e
 self:=fun _ _ _ _ _ st h => wpAny_pyIter_zip st.1 h
theorem zip_apart (I l1 l2:Nat) (h1:l1 < I) (h2:l2 < I):ZipApart (I + 4) (I + 2) (I + 3) I (I + 1) l1 l2:=zipApart_new h1 h2
theorem boot_zip:bootBuiltins "zip" = some (.type "zip"):=by decide +kernel
noncomputable def iZip (K:PySem.W.Frag) (ta:TA):TI:=fun σ H R => ta σ H fun vs H1 => ∃ b1 b2 l1 l2 xs ys,vs = [.ref l1,.ref l2] /\ SqD K b1 H1 l1 xs /\ SqD K b2 H1 l2 ys /\ R (Itz K b1 b2 l1 l2) H1
theorem pi_zip {X:Cx} {es:List Expr} {kk:Nat} {pt:Pos} {a b:Expr} {ta:TA} {p pos:Pos} (hg:Gl X "zip") (hm:X.mg "zip" = none) (ha:PA X [a,b] ta) (hs:starEach [a,b] X.env = [(false,eval a X.env),(false,eval b X.env)]:=by rfl) (hs2:starEach [b] X.env = [(false,eval b X.env)]:=by rfl) :
  PI X (.Tuple es kk pt) (.Call (.Name "zip" p) [a,b] [] pos) (iZip X.K ta):=by
 intro pins s σ H R I h
 refine Call_ (ld_blt I hg hm boot_zip (PyProof.Rows.callWith_type1 (thn (ha pos pins s σ H _ I h) fun us s1 ⟨vs,H1,I1,r1,q1⟩ => ?_) (by rw [hs,hs2]) (by rw [hs2]; rfl)))
 obtain ⟨b1,b2,l1,l2,xs,ys,e,s1',s2',q⟩:=q1
 subst e
 cases r1 with
 | cons r rr =>
  cases rr with
  | cons r' rr =>
   cases rr
   cases r
   cases r'
   obtain ⟨its1,rv1,c1⟩:=sqB_of I1 s1'
   obtain ⟨its2,rv2,c2⟩:=sqB_of I1 s2'
   refine zb_call c1 c2 fun g hz hTI hTO p1 p2 sz kk' => wpAny_pyIter_zip hz ⟨_,_,_,_,H1,rfl,I1.kept (t':=s1.toks) kk',turn_zip (zip_apart _ _ _ c1.lt c2.lt),⟨hz,hTI,⟨_,_,hTO⟩,p1,p2⟩,fun b hb => ?_,q⟩
   have lb:s1.heap.objs.size <= b:=by
    simp only [List.mem_cons,List.not_mem_nil,or_false] at hb
    rcases hb with rfl | rfl | rfl | rfl | rfl
    ·exact Nat.le_add_right _ _
    ·exact Nat.le_add_right _ _
    ·exact Nat.le_add_right _ _
    ·exact Nat.le_refl _
    ·exact Nat.le_add_right _ _
   exact I1.fpOk lb (I1.hok.fresh lb)
end L2
namespace DL
open PySem PySem.Spec PyProof.Rows L2
noncomputable def itmsD:D -> Option (List D)
 | .lst xs => some xs
 | .scr ns => some (ns.map D.int)
 | .tup xs => some xs
 | _ => none
noncomputable def pairD (x y:D):D:=.tup [x,y]
noncomputable def zipD:List D -> Option (List D)
 | [a,b] => match itmsD a,itmsD b with
  | some xs,some ys => some (List.zipWith pairD xs ys)
  | _,_ => none
 | _ => none
theorem sqD_same {K:PySem.W.Frag} {H H':Hp} {b:Bool} {a:Addr} {xs:List V} (e:Same H H') (h:SqD K b H a xs):SqD K b H' a xs:=by
 cases b with
 | false => exact e.seq h
 | true => exact sameT e h
theorem itms_is {K:PySem.W.Frag} {α:List Addr} {F:Hp} {d:D} {xs:List D} {v:V} (h:itmsD d = some xs) (i:Is K α F d v):∃ b a vs,v = .ref a /\ SqD K b F a vs /\ IsL K α F xs vs:=by
 cases d with
 | lst ys =>
  cases h
  rw [Is] at i
  obtain ⟨a,vs,rfl,h1,r1⟩:=i
  exact ⟨false,a,vs,rfl,SqL.of h1,r1⟩
 | scr ns =>
  cases h
  rw [Is] at i
  obtain ⟨a,rfl,h1⟩:=i
  exact ⟨false,a,_,rfl,h1,IsL.ints ns⟩
 | tup ys =>
  cases h
  rw [Is] at i
  obtain ⟨a,vs,rfl,h1,r1⟩:=i
  exact ⟨true,a,vs,rfl,SqT.of h1,r1⟩
 | _ => cases h
theorem walk_zip {K:PySem.W.Frag} {e:E4} {b1 b2:Bool} {l1 l2:Addr} {vs1 vs2:List V} {ds1 ds2:List D} (s1:SqD K b1 e.F l1 vs1) (s2:SqD K b2 e.F l2 vs2) (r1:IsL K e.α e.F ds1 vs1) (r2:IsL K e.α e.F ds2 vs2):Walk K e (Itz K b1 b2 l1 l2) (List.zipWith pairD ds1 ds2):=by
 intro i e2 ff al fh
 have t1:=sqD_same fh (sqD_same ff s1)
 have t2:=sqD_same fh (sqD_same ff s2)
 have n1:=r1.length
 have n2:=r2.length
 refine ⟨fun z => ⟨vs1,vs2,t1,t2,?_⟩,fun d hd => ?_⟩
 ·rw [List.length_zipWith] at z
  omega
 ·rw [List.getElem?_zipWith] at hd
  cases q1:ds1[i]? with
  | none => rw [q1] at hd; cases hd
  | some x =>
   cases q2:ds2[i]? with
   | none => rw [q1,q2] at hd; cases hd
   | some y =>
    rw [q1,q2] at hd
    cases hd
    obtain ⟨vx,hvx,ivx⟩:=(IsL.mono ff al ds1 r1).get q1
    obtain ⟨vy,hvy,ivy⟩:=(IsL.mono ff al ds2 r2).get q2
    refine ⟨⟨vs1,vs2,vx,vy,t1,t2,hvx,hvy⟩,fun v H' ⟨p,x',y',e1,e2',e3,u1,u2⟩ => ?_⟩
    subst e1 e3
    have u1':=u1 vs1 t1
    have u2':=u2 vs2 t2
    rw [hvx] at u1'
    rw [hvy] at u2'
    cases u1'
    cases u2'
    have nF:e2.F p = none:=by
     cases q:e2.F p with
     | none => rfl
     | some o => rw [fh p o q] at e2'; cases e2'
    have sm:Same e2.F (e2.new p (.tup [vx,vy])).F:=fun b o hb => by
     show upd e2.F p _ b = some o
     rw [upd_ne (fun z => by rw [z,nF] at hb; cases hb)]
     exact hb
    refine ⟨e2.new p (.tup [vx,vy]),rfl,?_,fun C Ω w => ⟨w.new_ext e2',w.new e2'⟩⟩
    unfold pairD
    rw [Is]
    exact ⟨p,[vx,vy],rfl,upd_same,.cons (Is.mono sm ⟨[],by simp [E4.new]⟩ _ ivx) (.cons (Is.mono sm ⟨[],by simp [E4.new]⟩ _ ivy) .nil)⟩
end DL
namespace DL
open PySem PySem.Spec PyProof.Rows L2
section
variable {X:Cx} {C:Cl} {ga:ADen} {pos p pt:Pos} {es:List Expr} {kk:Nat} {a b:Expr}
theorem pdi_zip (hg:Gl X "zip") (hm:X.mg "zip" = none) (ha:PDA X C [a,b] ga) (hs:starEach [a,b] X.env = [(false,eval a X.env),(false,eval b X.env)]:=by rfl) (hs2:starEach [b] X.env = [(false,eval b X.env)]:=by rfl) :
  PDI X C (.Tuple es kk pt) (.Call (.Name "zip" p) [a,b] [] pos) (gRng zipD ga) :=
 pi_imp (pi_zip hg hm ha hs hs2) fun σ H R hw' => by
  obtain ⟨e,Ω,ρ,ds,Ω',eH,w,rl,q,k⟩:=hw'
  unfold gRng at q
  cases q1:ga ρ Ω with
  | none => rw [q1] at q; cases q
  | some p1 =>
   obtain ⟨fs,Ω1⟩:=p1
   rw [q1] at q
   dsimp only at q
   refine ⟨e,Ω,ρ,fs,Ω1,eH,w,rl,q1,fun v e' x' w' i' => ?_⟩
   match fs,q,i' with
   | [d1,d2],q,i' =>
    obtain ⟨v1,v2,rfl,iv1,iv2⟩:=isL_two i'
    have ez:zipD [d1,d2] = match itmsD d1,itmsD d2 with | some xs,some ys => some (List.zipWith pairD xs ys) | _,_ => none:=rfl
    rw [ez] at q
    cases z1:itmsD d1 with
    | none => rw [z1] at q; cases q
    | some xs =>
     cases z2:itmsD d2 with
     | none => rw [z1,z2] at q; cases q
     | some ys =>
      rw [z1,z2] at q
      cases q
      obtain ⟨b1,l1,vs1,rfl,t1,r1⟩:=itms_is z1 iv1
      obtain ⟨b2,l2,vs2,rfl,t2,r2⟩:=itms_is z2 iv2
      exact ⟨b1,b2,l1,l2,vs1,vs2,rfl,sqD_same w'.fh t1,sqD_same w'.fh t2,k e' _ x' w' (walk_zip t1 t2 r1 r2)⟩
end
end DL
namespace DL
open PySem PySem.Spec PyProof.Rows L2
noncomputable def dispP:List (Str × Den) -> List Sl -> List OS -> Option (List (Key × D) × List OS)
 | [],_,Ω => some ([],Ω)
 | (z,g) :: r,ρ,Ω => match g ρ Ω with
  | some (d,Ω1) => match dispP r ρ Ω1 with
   | some (kvs,Ω2) => some ((.inr z,d) :: kvs,Ω2)
   | none => none
  | none => none
noncomputable def mergeD (kvs more:List (Key × D)):List (Key × D):=more.foldl (fun acc kv => putD acc kv.1 kv.2) kvs
noncomputable def gDisp (kgs:List (Str × Den)):Den:=fun ρ Ω => match dispP kgs ρ (Ω ++ [.dK []]) with
 | some (kvs,Ω') => (match Ω'[Ω.length]? with
  | some (.dK []) => some (.obj Ω.length,Ω'.set Ω.length (.dK (mergeD [] kvs)))
  | _ => none)
 | none => none
theorem PsIs.merge {K:PySem.W.Frag} {α:List Addr} {F:Hp}:∀ {more:List (Key × D)} {ms:List (Key × V)} {kvs:List (Key × D)} {vs:List (Key × V)},PsIs K α F more ms -> PsIs K α F kvs vs -> PsIs K α F (mergeD kvs more) (mergeK vs ms)
 | [],ms,kvs,vs,h,h2 => by rw [show ms = [] from h]; exact h2
 | p :: r,ms,kvs,vs,⟨v,t,e,i,q⟩,h2 => by
  rw [e]
  exact PsIs.merge (kvs:=putD kvs p.1 p.2) (vs:=putK vs p.1 v) q (h2.put p.1 i)
section
variable {X:Cx} {C:Cl} {pos:Pos}
theorem disp_go {K:PySem.W.Frag} {σ:St} {ρ:List Sl}:∀ {kgs:List (Str × Den)} {e:E4} {Ω Ω':List OS} {kvs:List (Key × D)} {Q:List (V × V) -> Hp -> Prop},dispP kgs ρ Ω = some (kvs,Ω') -> Wf K C e Ω -> RelE K e σ ρ ->
  (∀ e' ps,Ext e e' -> Wf K C e' Ω' -> PsIs K e'.α e'.F kvs ps -> Q (ps.map fun kv => (kV kv.1,kv.2)) e'.H) -> tPairs (kgs.map fun kg => (tC (.str kg.1),tD K C kg.2)) σ e.H Q
 | [],e,Ω,Ω',kvs,Q,h,w,rl,kk => by cases h; exact kk e [] (Ext.refl e) w rfl
 | (z,g) :: r,e,Ω,Ω',kvs,Q,h,w,rl,kk => by
  unfold dispP at h
  cases q1:g ρ Ω with
  | none => rw [q1] at h; cases h
  | some p1 =>
   obtain ⟨d,Ω1⟩:=p1
   rw [q1] at h
   dsimp only at h
   cases q2:dispP r ρ Ω1 with
   | none => rw [q2] at h; cases h
   | some p2 =>
    obtain ⟨kvs2,Ω2⟩:=p2
    rw [q2] at h
    cases h
    refine ⟨e,Ω,ρ,d,Ω1,rfl,w,rl,q1,fun v e1 x1 w1 i1 => ?_⟩
    refine disp_go q2 w1 (rl.ext x1) fun e2 ps x2 w2 ip => ?_
    exact kk e2 ((.inr z,v) :: ps) (x1.trans x2) w2 ⟨v,ps,rfl,i1.ext x2,ip⟩
inductive PDP (X:Cx) (C:Cl):List (Option Expr) -> List Expr -> List (Str × Den) -> Prop
 | nil:PDP X C [] [] []
 | cons {z:Str} {j:Nat} {p:Pos} {x:Expr} {g:Den} {ks:List (Option Expr)} {vs:List Expr} {kgs:List (Str × Den)}:PD X C x g -> PDP X C ks vs kgs -> PDP X C (some (.Constant (.str z) j p) :: ks) (x :: vs) ((z,g) :: kgs)
theorem PDP.pps {ks:List (Option Expr)} {vs:List Expr} {kgs:List (Str × Den)} (h:PDP X C ks vs kgs):PPs X pos ks vs (kgs.map fun kg => (tC (.str kg.1),tD X.K C kg.2)):=by
 induction h with
 | nil => exact pps_nil
 | cons h1 _ ih => exact pps_cons pe_str h1 ih
theorem PDP.all {ks:List (Option Expr)} {vs:List Expr} {kgs:List (Str × Den)} (h:PDP X C ks vs kgs):ks.all (·.isSome) = true /\ ks.length = vs.length /\ kgs.length = ks.length:=by
 induction h with
 | nil => exact ⟨rfl,rfl,rfl⟩
 | cons _ _ ih => exact ⟨by rw [List.all_cons,ih.1]; rfl,by rw [List.length_cons,List.length_cons,ih.2.1],by rw [List.length_cons,List.length_cons,ih.2.2]⟩
theorem dispP_len {ρ:List Sl}:∀ {kgs:List (Str × Den)} {Ω Ω':List OS} {kvs:List (Key × D)},dispP kgs ρ Ω = some (kvs,Ω') -> kvs.length = kgs.length
 | [],_,_,_,h => by cases h; rfl
 | (z,g) :: r,Ω,Ω',kvs,h => by
  unfold dispP at h
  cases q1:g ρ Ω with
  | none => rw [q1] at h; cases h
  | some p1 =>
   obtain ⟨d,Ω1⟩:=p1
   rw [q1] at h
   dsimp only at h
   cases q2:dispP r ρ Ω1 with
   | none => rw [q2] at h; cases h
   | some p2 =>
    obtain ⟨kvs2,Ω2⟩:=p2
    rw [q2] at h
    cases h
    rw [List.length_cons,List.length_cons,dispP_len q2]
theorem pd_disp {ks:List (Option Expr)} {vs:List Expr} {kgs:List (Str × Den)} (h:PDP X C ks vs kgs) (h0:ks ≠ []) (h15:ks.length <= 15):PD X C (.Dict ks vs pos) (gDisp kgs) :=
 pe_imp (pe_disp h.pps h.all.1 h.all.2.1 h0 h15) fun σ H Q hw' => by
  obtain ⟨e,Ω,ρ,d,Ω',eH,w,rl,q,kk⟩:=hw'
  subst eH
  intro p hp
  unfold gDisp at q
  cases q1:dispP kgs ρ (Ω ++ [.dK []]) with
  | none => rw [q1] at q; cases q
  | some p1 =>
   obtain ⟨kvs,Ω1⟩:=p1
   rw [q1] at q
   dsimp only at q
   cases q2:Ω1[Ω.length]? with
   | none => rw [q2] at q; cases q
   | some o =>
    rw [q2] at q
    cases o with
    | dK l =>
     cases l with
     | cons _ _ => cases q
     | nil =>
      cases q
      obtain ⟨w',x'⟩:=w.obj (H':=upd e.H p (.dK [])) (o:=.dK []) hp (fun b u hb => by rw [upd_ne (ne_of_none hb hp)]; exact hb) (by rw [upd_same]; exact ⟨by simp,fun xs z => nomatch z⟩) ⟨[],upd_same,rfl⟩
      refine disp_go q1 w' (rl.ext x') fun e2 ps x2 w2 ip => ?_
      have hα:e2.α[Ω.length]? = some p:=by
       obtain ⟨more,em⟩:=x2.al
       rw [em,List.getElem?_append_left]
       ·show (e.α ++ [p])[Ω.length]? = some p
        rw [<- w.ol]; simp
       ·show Ω.length < (e.α ++ [p]).length
        rw [<- w.ol]; simp
      obtain ⟨vs0,h1,h2⟩:=(w2.ob _ p _ hα q2).2
      have e0:vs0 = []:=h2
      subst e0
      refine ⟨h1,ps,rfl,?_,?_⟩
      ·rw [<- ip.len,dispP_len q1,h.all.2.2]; exact h15
      ·obtain ⟨w3,x3⟩:=w2.at (o':=.dK (mergeD [] kvs)) (ho:=.dK (mergeK [] ps)) hα (fun xs z => nomatch z) ⟨_,upd_same,ip.merge rfl⟩ fun o u z => by rw [h1] at z; cases z
       refine kk _ (e2.at p _) ((x'.trans x2).trans x3) w3 ?_
       rw [Is]
       exact ⟨p,hα,rfl⟩
    | _ => cases q
end
end DL
namespace DL
open PySem PySem.Spec PyProof.Rows L2
section
variable {prog:Program} {w:World} {A:Around} {E:Value -> Shared -> Prop} {s:Shared}
theorem cat_none {t b:Addr} {ws:List Value} {Q:Value -> Shared -> Prop} (ht:IsTup s.heap t (([]:List Value)).toArray) (hb:IsTup s.heap b ws.toArray) (h:Q (.ref b) s) :
  wpAny (model prog w) A (binaryOp .Add (.ref t) (.ref b)) Q E s:=by
 obtain ⟨⟨cls,dd,data,sl⟩,ho,hc,n,hd⟩:=id ht
 obtain ⟨⟨cls2,dd2,data2,sl2⟩,ho2,hc2,n2,hd2⟩:=id hb
 simp only at hc hd hc2 hd2
 subst hc hd hc2 hd2
 exact concat_meets ⟨_,ho,rfl⟩ ⟨_,ho2,rfl⟩ noFill_tuple_add seq_tuple_add PySem.F.slot_tuple_add PySem.F.entry_tuple_add (PySem.F.args_tuple_add_2 _ _)
  (tuple_addW0 t b _ ws.toArray n n2 dd dd2 sl sl2 (by simp)) ⟨ho,ho2,h⟩
theorem getItem_tuple_all {t sl:Addr} {items:Array Value} {vl vu:Value} {lo hi:Option Int} {Q:Value -> Shared -> Prop} (ht:IsTup s.heap t items) (hs:s.heap.IsSliceOf sl vl vu .none) (pl:IsPart vl lo) (pu:IsPart vu hi)
  (hw:HT.sIx items.size 0 lo = 0 /\ HT.sIx items.size items.size hi = items.size) (h:Q (.ref t) s):wpAny (model prog w) A (getItem (.ref t) (.ref sl)) Q E s:=by
 obtain ⟨os,hos,hcs,hds⟩:=id hs
 have hTs:s.TypeIs (.ref sl) "slice":=⟨os,hos,hcs⟩
 unfold getItem
 try with_reducible refine wpAny_holding ?_
 first | refine wpAny_bind (wpAny_pure ?_) | skip
 refine wpAny_bind (wpAny_sequenceKey ht.typeIs (by decide) ?_)
 refine wpAny_bind (wpAny_callSpecial?_slot (name:=Str.ofString "__getitem__") ht.typeIs PyProof.Rows.slot_tuple_getitem
  (wpAny_call_entry PyProof.Rows.slot_tuple_getitem ht.typeIs entry_tuple_getitem ?_ (args_tuple_getitem _ _)))
 show wpAny _ _ (Builtin.Tuple.tupleItemsOf (.ref t) >>= _) _ _ s
 refine wpAny_bind (tupleItemsOf_ ht ?_)
 refine wpAny_bind (wpAny_typeOf hTs ?_)
 rw [if_pos (by decide)]
 refine wpAny_bind (HT.sliceApplied_gen hs pl pu ?_)
 have hy:((((HT.sIx items.size 0 lo:Nat):Int) == 0 && (1:Int) == 1 && (HT.sIx items.size items.size hi - HT.sIx items.size 0 lo) == items.size) = true):=by
  rw [hw.1,hw.2]; simp
 show wpAny _ _ (if (((HT.sIx items.size 0 lo:Nat):Int) == 0 && (1:Int) == 1 && (HT.sIx items.size items.size hi - HT.sIx items.size 0 lo) == items.size) = true then _ else _) _ _ s
 rw [if_pos hy]
 unfold Builtin.Tuple.tupleIsExact
 refine wpAny_bind (wpAny_bind (wpAny_typeOf ht.typeIs ?_))
 refine wpAny_pure ?_
 rw [if_pos (by decide)]
 first
  | exact wpAny_bind (wpAny_rule (wpAny_pure ⟨_,rfl,wpAny_pure h⟩))
  | exact wpAny_pure ⟨_,rfl,wpAny_pure h⟩
  | exact wpAny_bind (wpAny_pure ⟨_,rfl,wpAny_pure h⟩)
  | exact wpAny_bind (wpAny_pure (wpAny_pure ⟨_,rfl,wpAny_pure h⟩))
end
section
variable {X:Cx} {C:Cl} {a b c x:Expr} {f g h:Den} {pos:Pos}
noncomputable def addTD:D -> D -> Option D
 | .tup xs,.tup ys => if xs.length + ys.length <= big then some (.tup (xs ++ ys)) else none
 | _,_ => none
theorem addT_inv {d₁ d₂ z:D} (q:addTD d₁ d₂ = some z):∃ xs ys,d₁ = .tup xs /\ d₂ = .tup ys /\ xs.length + ys.length <= big /\ z = .tup (xs ++ ys):=by
 unfold addTD at q
 split at q
 ·rename_i xs ys
  split at q
  ·rename_i hl
   cases q
   exact ⟨xs,ys,rfl,rfl,hl,rfl⟩
  ·cases q
 ·cases q
theorem opD_addT:OpD X C (binaryOp .Add) addTD:=by
 intro pins s σ H x y v u Q I rx ry hw
 obtain ⟨e,Ω,d₁,d₂,z,eH,w,i1,i2,q,kk⟩:=hw
 subst eH
 obtain ⟨xs,ys,rfl,rfl,hl,rfl⟩:=addT_inv q
 simp only [Is] at i1 i2
 obtain ⟨l,vs,rfl,h1,r1⟩:=i1
 obtain ⟨m,us,rfl,h2,r2⟩:=i2
 by_cases hv:vs = []
 ·subst hv
  have hx:xs = []:=List.length_eq_zero_iff.mp (by rw [r1.length]; rfl)
  subst hx
  cases rx
  cases ry
  obtain ⟨its,q1,p1,_⟩:=I.tuple (SqT.of (w.fh _ _ h1))
  obtain ⟨its2,q2,p2,_⟩:=I.tuple (SqT.of (w.fh _ _ h2))
  cases q1
  exact cat_none p1 p2 ⟨.ref m,_,I,rfl,kk _ e (Ext.refl e) w (by rw [Is]; exact ⟨m,us,rfl,h2,r2⟩)⟩
 ·refine op_catT pins s σ _ _ _ v u Q I rx ry ⟨l,m,vs,us,rfl,rfl,SqT.of (w.fh _ _ h1),SqT.of (w.fh _ _ h2),hv,by rw [<- r1.length,<- r2.length]; exact big_line hl,fun z => ?_,fun _ p hp => ?_⟩
  ·subst z
   have hy:ys = []:=List.length_eq_zero_iff.mp (by rw [r2.length]; rfl)
   subst hy
   rw [List.append_nil] at kk
   exact kk _ e (Ext.refl e) w (by rw [Is]; exact ⟨l,vs,rfl,h1,r1⟩)
  ·refine kk _ (e.new p _) (w.new_ext hp) (w.new hp) ?_
   rw [Is]
   exact ⟨p,_,rfl,upd_same,(r1.append r2).ext (w.new_ext hp)⟩
noncomputable def rSlA (K:PySem.W.Frag):V -> Option Int -> Option Int -> Hp -> VK -> Prop:=fun x lo hi H Q => ∃ a xs,x = .ref a /\ SqT K H a xs /\
 ((HT.sIx xs.length 0 lo = 0 /\ HT.sIx xs.length xs.length hi = xs.length) -> Q (.ref a) H) /\
 (¬ (HT.sIx xs.length 0 lo = 0 /\ HT.sIx xs.length xs.length hi = xs.length) -> ∀ p,H p = none -> Q (.ref p) (upd H p (.tup (cutV xs lo hi))))
theorem sl_tupA:SlR X (rSlA X.K):=by
 intro pins s σ H x v vl vu lo hi sl Q I rx hs pl pu h
 obtain ⟨a,xs,rfl,hx,q1,q2⟩:=h
 by_cases hw:HT.sIx xs.length 0 lo = 0 /\ HT.sIx xs.length xs.length hi = xs.length
 ·cases rx
  obtain ⟨its,r,ht,hz⟩:=I.tuple hx
  have hlen:its.toArray.size = xs.length:=by rw [List.size_toArray]; exact r.length.symm
  refine ⟨"tuple",_,PyProof.Rows.slot_tuple_getitem.lookup,ht.typeIs,?_⟩
  exact getItem_tuple_all ht hs pl pu (by rw [hlen]; exact hw) ⟨.ref a,H,I,rfl,q1 hw⟩
 ·exact sl_tup pins s σ H _ v vl vu lo hi sl Q I rx hs pl pu ⟨a,xs,rfl,hx,hw,q2 hw⟩
noncomputable def slTD:D -> Option Int -> Option Int -> Option D
 | .tup xs,lo,hi => some (.tup (cutL xs lo hi))
 | _,_,_ => none
theorem slT_inv {d z:D} {lo hi:Option Int} (q:slTD d lo hi = some z):∃ xs,d = .tup xs /\ z = .tup (cutL xs lo hi):=by
 unfold slTD at q
 split at q
 ·cases q; exact ⟨_,rfl,rfl⟩
 ·cases q
noncomputable def gSlT (f:Den) (lo hi:PDen):Den:=fun ρ Ω => (f ρ Ω).bind fun p => (lo ρ p.2).bind fun l => (hi ρ l.2).bind fun u => (slTD p.1 l.1 u.1).bind fun z => some (z,u.2)
theorem pd_slT {lo hi:Option Expr} {gl gh:PDen} {p2:Pos} (ha:PD X C a f) (hl:PDO X C lo gl) (hh:PDO X C hi gh):PD X C (.Subscript a (.Slice lo hi none p2) pos) (gSlT f gl gh) :=
 pe_imp (pe_slice sl_tupA ha hl hh) fun σ H Q hw' => by
  obtain ⟨e,Ω,ρ,d,Ω',eH,w,rl,e1,kk⟩:=hw'
  unfold gSlT at e1
  obtain ⟨⟨d1,Ω1⟩,q1,e1⟩:=Option.bind_eq_some_iff.mp e1
  obtain ⟨⟨l,Ω2⟩,q2,e1⟩:=Option.bind_eq_some_iff.mp e1
  obtain ⟨⟨u,Ω3⟩,q3,e1⟩:=Option.bind_eq_some_iff.mp e1
  obtain ⟨z,q4,e1⟩:=Option.bind_eq_some_iff.mp e1
  obtain ⟨xs,rfl,rfl⟩:=slT_inv q4
  cases e1
  refine ⟨e,Ω,ρ,.tup xs,Ω1,eH,w,rl,q1,fun v e' x' w' i' => ?_⟩
  refine ⟨e',Ω1,ρ,l,Ω2,rfl,w',rl.ext x',q2,fun e2 x2 w2 => ?_⟩
  refine ⟨e2,Ω2,ρ,u,_,rfl,w2,(rl.ext x').ext x2,q3,fun e3 x3 w3 => ?_⟩
  have i3:=i'.ext (x2.trans x3)
  rw [Is] at i3
  obtain ⟨p,vs,rfl,h1,r1⟩:=i3
  refine ⟨p,vs,rfl,SqT.of (w3.fh _ _ h1),fun hw => ?_,fun _ p' hp => ?_⟩
  ·refine kk _ e3 ((x'.trans x2).trans x3) w3 ?_
   have hc:cutL xs l u = xs:=by
    unfold cutL
    rw [<- r1.length] at hw
    rw [hw.1,hw.2,List.drop_zero,Nat.sub_zero,List.take_length]
   rw [hc,Is]
   exact ⟨p,vs,rfl,h1,r1⟩
  ·refine kk _ (e3.new p' _) (((x'.trans x2).trans x3).trans (w3.new_ext hp)) (w3.new hp) ?_
   rw [Is]
   refine ⟨p',_,rfl,upd_same,?_⟩
   unfold cutL cutV
   rw [<- r1.length]
   exact ((r1.drop _).take _).ext (w3.new_ext hp)
open Classical in
end
end DL
namespace L2
open PySem PySem.Spec PyProof.Rows
noncomputable def Ite (K:PySem.W.Frag) (l:Addr):It :=
 ⟨fun i H => ∃ xs x,SqD K false H l xs /\ xs[i]? = some x,
  fun i H v H' => ∃ p x,v = .ref p /\ H p = none /\ H' = upd H p (.tup [.int i,x]) /\ ∀ xs,SqD K false H l xs -> xs[i]? = some x,
  fun i H => ∃ xs,SqD K false H l xs /\ xs.length <= i⟩
noncomputable def EnumAt (e it l:Addr) (i:Nat) (h:Heap):Prop:=(∃ old,IsEnum h e it i old) /\ ItB false h it l i
theorem turn_enum {P:Program} {w:World} {K:PySem.W.Frag} {es:List Expr} {kk:Nat} {pt:Pos} {e it l:Addr} (hne:e ≠ it) :
  Turn P w K (.Tuple es kk pt) (Ite K l) [e,it] e (EnumAt e it l) where
 mem:=by simp
 obj:=fun i h st b hb => by
  obtain ⟨⟨old,he⟩,⟨o1,e1,_,d1⟩⟩:=st
  simp only [List.mem_cons,List.not_mem_nil,or_false] at hb
  rcases hb with rfl | rfl
  ·exact ⟨_,he,fun v q => nomatch q⟩
  ·exact ⟨_,e1,fun v q => by rw [d1] at q; cases q⟩
 keep:=fun i h h' st k => by
  obtain ⟨⟨old,he⟩,p1⟩:=st
  exact ⟨⟨old,k e (by simp) _ he⟩,p1.go fun o q => k it (by simp) o q⟩
 item:=by
  intro X hP hw hK hc i pins s σ H E I hf st hg
  subst hP hw hK
  obtain ⟨⟨old,he⟩,p1⟩:=st
  obtain ⟨xs,x,s1,hx⟩:=hg
  obtain ⟨its1,rv1,q1⟩:=sqB_of I s1
  obtain ⟨u,hu,ru⟩:=rv1.get hx
  refine wpAny_pyNext_enum_item he p1 q1 (x:=u) (by simpa using hu) hne fun g a1 a2 a3 a4 a5 => ⟨_,rfl,wpAny_letOwnedTupleGo_enum a1 fun g' z' m' => ?_⟩
  have le:e < s.heap.objs.size:=Heap.lt_size he
  have k':∀ c o,c ∉ [e,it] -> s.heap.get? c = some o -> g'.get? c = some o:=fun c o hc q => by
   simp only [List.mem_cons,List.not_mem_nil,or_false,not_or] at hc
   exact m'.extBut c o hc.1 (a5 c o hc.1 hc.2 q)
  have t':IsTup g' s.heap.objs.size [.int i s.toks,u].toArray:=⟨_,m'.extBut _ _ (Nat.ne_of_gt le) a3,rfl,_,rfl⟩
  have J:=I.turnT (t':=s.toks + 1) (xs:=[.int i,x]) (us:=[.int i s.toks,u]) (p:=s.heap.objs.size) k' hf (Nat.le_refl _) (by show 2 <= sizeLine; rw [sizeLine_eq]; decide) (.cons ⟨_,rfl⟩ (.cons ru .nil)) t'
  have hn:H s.heap.objs.size = none:=I.hok.fresh (Nat.le_refl _)
  refine ⟨.ref s.heap.objs.size,_,J,rfl,⟨_,x,rfl,hn,rfl,fun us hu => by rw [sqD_one I hu s1]; exact hx⟩,⟨⟨_,z'⟩,ItB.eb (b:=false) a2 m'.extBut (Ne.symm hne)⟩,fun b hb => ?_⟩
  have lb:b < s.heap.objs.size:=by
   simp only [List.mem_cons,List.not_mem_nil,or_false] at hb
   rcases hb with rfl | rfl
   ·exact le
   ·exact p1.lt
  rw [upd_ne (Nat.ne_of_lt lb)]
  exact (hf b hb).1
 done:=by
  intro X hP hw hK hc i pins s σ H E I hf st hg
  subst hP hw hK
  obtain ⟨⟨old,he⟩,p1⟩:=st
  obtain ⟨xs,s1,hx⟩:=hg
  obtain ⟨its1,rv1,q1⟩:=sqB_of I s1
  have n1:=rv1.length
  refine wpAny_pyNext_enum_end (I.ok.hd hc) he p1 q1 (by simp; omega) fun g hk => ⟨rfl,I.turnL (t':=s.toks) (ch:=[e,it]) (fun c o hc q => ?_) hf⟩
  simp only [List.mem_cons,List.not_mem_nil,or_false,not_or] at hc
  exact hk c o hc.2 q
 self:=fun _ _ _ _ _ st h => wpAny_pyIter_enum st.1.choose_spec h
theorem boot_enum:bootBuiltins "enumerate" = some (.type "enumerate"):=by decide +kernel
noncomputable def iEnum (K:PySem.W.Frag) (ta:TA):TI:=fun σ H R => ta σ H fun vs H1 => ∃ l xs,vs = [.ref l] /\ SqD K false H1 l xs /\ R (Ite K l) H1
theorem pi_enum {X:Cx} {es:List Expr} {kk:Nat} {pt:Pos} {a:Expr} {ta:TA} {p pos:Pos} (hg:Gl X "enumerate") (hm:X.mg "enumerate" = none) (ha:PA X [a] ta) (hs:starEach [a] X.env = [(false,eval a X.env)]:=by rfl) :
  PI X (.Tuple es kk pt) (.Call (.Name "enumerate" p) [a] [] pos) (iEnum X.K ta):=by
 intro pins s σ H R I h
 refine Call_ (ld_blt I hg hm boot_enum (PyProof.Rows.callWith_type1 (thn (ha pos pins s σ H _ I h) fun us s1 ⟨vs,H1,I1,r1,q1⟩ => ?_) (by rw [hs]; rfl) rfl))
 obtain ⟨l,xs,e,s1',q⟩:=q1
 subst e
 cases r1 with
 | cons r rr =>
  cases rr
  cases r
  obtain ⟨its1,rv1,c1⟩:=sqB_of I1 s1'
  refine call_enumerate_list c1 fun h' hE hI hsz hk => wpAny_pyIter_enum hE ⟨_,_,_,_,H1,rfl,I1.kept (t':=s1.toks) hk,turn_enum (Nat.succ_ne_self _),⟨⟨_,hE⟩,hI⟩,fun b hb => ?_,q⟩
  have lb:s1.heap.objs.size <= b:=by
   simp only [List.mem_cons,List.not_mem_nil,or_false] at hb
   rcases hb with rfl | rfl
   ·exact Nat.le_add_right _ _
   ·exact Nat.le_refl _
  exact I1.fpOk lb (I1.hok.fresh lb)
end L2
namespace DL
open PySem PySem.Spec PyProof.Rows L2
noncomputable def enumF:Nat -> List D -> List D
 | _,[] => []
 | lo,d :: ds => pairD (.int lo) d :: enumF (lo + 1) ds
noncomputable def enumD:List D -> Option (List D)
 | [.lst xs] => some (enumF 0 xs)
 | _ => none
theorem enumF_length:∀ (lo:Nat) (ds:List D),(enumF lo ds).length = ds.length
 | _,[] => rfl
 | lo,d :: ds => by show (enumF (lo + 1) ds).length + 1 = _; rw [enumF_length (lo + 1) ds]; rfl
theorem enumF_get:∀ (lo:Nat) (ds:List D) (i:Nat),(enumF lo ds)[i]? = (ds[i]?).map fun d => pairD (.int ((lo + i:Nat):Int)) d
 | _,[],i => rfl
 | lo,d :: ds,0 => rfl
 | lo,d :: ds,i + 1 => by
  show (enumF (lo + 1) ds)[i]? = (ds[i]?).map _
  rw [enumF_get (lo + 1) ds i,show lo + 1 + i = lo + (i + 1) by omega]
theorem walk_enum {K:PySem.W.Frag} {e:E4} {l:Addr} {vs:List V} {ds:List D} (s1:SqD K false e.F l vs) (r1:IsL K e.α e.F ds vs):Walk K e (Ite K l) (enumF 0 ds):=by
 intro i e2 ff al fh
 have t1:=sqD_same fh (sqD_same ff s1)
 have n1:=r1.length
 refine ⟨fun z => ⟨vs,t1,?_⟩,fun d hd => ?_⟩
 ·rw [enumF_length] at z
  omega
 ·rw [enumF_get] at hd
  cases q1:ds[i]? with
  | none => rw [q1] at hd; cases hd
  | some x =>
   rw [q1] at hd
   cases hd
   obtain ⟨vx,hvx,ivx⟩:=(IsL.mono ff al ds r1).get q1
   refine ⟨⟨vs,vx,t1,hvx⟩,fun v H' ⟨p,x',e1,e2',e3,u1⟩ => ?_⟩
   subst e1 e3
   have u1':=u1 vs t1
   rw [hvx] at u1'
   cases u1'
   have nF:e2.F p = none:=by
    cases q:e2.F p with
    | none => rfl
    | some o => rw [fh p o q] at e2'; cases e2'
   have sm:Same e2.F (e2.new p (.tup [.int i,vx])).F:=fun b o hb => by
    show upd e2.F p _ b = some o
    rw [upd_ne (fun z => by rw [z,nF] at hb; cases hb)]
    exact hb
   refine ⟨e2.new p (.tup [.int i,vx]),rfl,?_,fun C Ω w => ⟨w.new_ext e2',w.new e2'⟩⟩
   unfold pairD
   rw [Is]
   refine ⟨p,[.int i,vx],rfl,upd_same,.cons ?_ (.cons (Is.mono sm ⟨[],by simp [E4.new]⟩ _ ivx) .nil)⟩
   rw [Is,Nat.zero_add]
section
variable {X:Cx} {C:Cl} {ga:ADen} {pos p pt:Pos} {es:List Expr} {kk:Nat} {a b:Expr}
theorem pdi_enum (hg:Gl X "enumerate") (hm:X.mg "enumerate" = none) (ha:PDA X C [a] ga) (hs:starEach [a] X.env = [(false,eval a X.env)]:=by rfl) :
  PDI X C (.Tuple es kk pt) (.Call (.Name "enumerate" p) [a] [] pos) (gRng enumD ga) :=
 pi_imp (pi_enum hg hm ha hs) fun σ H R hw' => by
  obtain ⟨e,Ω,ρ,ds,Ω',eH,w,rl,q,k⟩:=hw'
  unfold gRng at q
  cases q1:ga ρ Ω with
  | none => rw [q1] at q; cases q
  | some p1 =>
   obtain ⟨fs,Ω1⟩:=p1
   rw [q1] at q
   dsimp only at q
   refine ⟨e,Ω,ρ,fs,Ω1,eH,w,rl,q1,fun v e' x' w' i' => ?_⟩
   match fs,q,i' with
   | [.lst xs],q,i' =>
    have ez:enumD [.lst xs] = some (enumF 0 xs):=rfl
    rw [ez] at q
    cases q
    obtain ⟨v1,r,rfl,iv1,rr⟩:=i'.of_cons
    have e0:=rr.of_nil
    subst e0
    rw [Is] at iv1
    obtain ⟨l,vs,rfl,h1,r1⟩:=iv1
    exact ⟨l,vs,rfl,sqD_same w'.fh (show SqD X.K false e'.F l vs from SqL.of h1),k e' _ x' w' (walk_enum (show SqD X.K false e'.F l vs from SqL.of h1) r1)⟩
end
end DL
namespace DL
open PySem PySem.Spec PyProof.Rows L2
noncomputable def sTryU (s:SDen) (r:SRDen) (tc:Str -> Bool) (t:SDen):SDen:=fun ρ Ω => match s ρ Ω with
 | some o => some o
 | none => match r ρ Ω with
  | some (c,ρ1,Ω1) => if tc c = true then match t ρ1 Ω1 with
    | some (.rt d Ω') => some (.rt d Ω')
    | _ => none
   else none
  | none => none
end DL
namespace SS
open PySem
variable {led:Bool} {t:SetTable}
end SS
namespace SS
open PySem PySem.Spec PyProof.Rows
noncomputable def intOf:Value -> Int
 | .int n _ => n
 | _ => 0
end SS
namespace SS
open PySem PySem.Spec PyProof.Rows
section
variable {prog:Program} {w:World} {A:Around} {E:Value -> Shared -> Prop} {s:Shared} {a:Addr} {o:Obj} {ns:List Int}
set_option maxHeartbeats 3200000 in
end
end SS
namespace DL
open PySem PySem.Spec PyProof.Rows L2
structure DG (K:PySem.W.Frag) (n:Str) (st:Stmt) (f:Addr):Prop where
 a:PySem.W.nsIn K mainGlobals n = some (some (.ref f))
 l:∃ fd,FunV K n n st .none f fd
 k:PySem.W.keepIn K (.ref f) = true
noncomputable abbrev bmVE:List Value:=[.type "ValueError",.type "Exception",.type "BaseException",.type "object"]
structure EK (K:PySem.W.Frag) (c:Str) (Ca:Addr):Prop where
 a:PySem.W.nsIn K mainGlobals c = some (some (.ref Ca))
 ow:ownIn K Ca bmVE "ValueError.__new__" = true
 cl:(PySem.W.clsIn K Ca).isSome = true
 ga:PySem.W.findIn K (.ref Ca) "__getattribute__" = some (some (.builtin "BaseException.__getattribute__"))
 hk:PySem.W.findIn K (.ref Ca) "__getattr__" = some none
 sub:PySem.W.subIn K (.ref Ca) (.type "BaseException") = some true
 ha:PySem.W.findIn K (.ref Ca) "__class__" = some (some (.builtin "object.__class__"))
 hn:PySem.W.specialIn K (.builtin "object.__class__") "__get__" = some (some (.builtin "getset_descriptor.__get__"))
 tk:PySem.W.takesIn K (.builtin "object.__class__") = some true
 hm:PySem.W.mroIn K Ca (.type "object") = some true
section
variable {P:Program} {w:World} {K:PySem.W.Frag} {mg:Str -> Option Value} {base h:Heap} {C:Cl} {n c m q:Str} {st:Stmt} {f Ca:Addr} {fd:FuncData} {k:Nat} {F:FDen} {R:XFDen} {ps:List Str}
theorem DG.fn (d:DG K n st f):∃ fd,Fun K n n st f fd:=by
 obtain ⟨fd,F⟩:=d.l
 obtain ⟨oc,od,kV,doc,pm,an,cdv,ct,osl,rfl,l,cc⟩:=F.ex
 exact ⟨_,fun_mk l cc d.k⟩
theorem DG.tf (d:DG K n st f) (X:K.In h) (G:h.Ns mainGlobals mg):TF K mg n st:=by
 obtain ⟨fd,F⟩:=d.fn
 exact ⟨f,fd,PySem.W.mg_of X G d.a,F⟩
noncomputable def BindOk (m q:Str) (st:Stmt) (ps:List Str):Prop:=∀ (kV doc pm:Value) (an:Option Addr) (cdv ct:Value) (us:List Value),us.length = ps.length -> bindArgs (PySem.W.fnOf m q (defArgs st) (defBody st) (defScope st) .none kV doc pm an cdv ct) ⟨us,[]⟩ = pure (ps.zip us)
theorem DG.law {x:Str} (d:DG K n st f) (hb:BindOk n n st [x]):∃ fd,Fun K n n st f fd /\ ∀ (s:Shared) (v:Value),BindsTo s fd ⟨[v],[]⟩ [(x,v)]:=by
 obtain ⟨fd,F⟩:=d.l
 obtain ⟨oc,od,kV,doc,pm,an,cdv,ct,osl,rfl,l,cc⟩:=F.ex
 exact ⟨_,fun_mk l cc d.k,fun s v => .of_eq (hb kV doc pm an cdv ct [v] rfl)⟩
theorem FunV.b (F:FunV K m q st .none f fd) (hb:BindOk m q st ps):Binds K fd ps []:=by
 obtain ⟨oc,od,kV,doc,pm,an,cdv,ct,osl,rfl,l,cc⟩:=F.ex
 exact .all (hb kV doc pm an cdv ct)
theorem fnx_mk (X:K.In h) (G:h.Ns mainGlobals mg) (d:DG K n st f) (hb:BindOk n n st ps) (ok:∀ fd,FunV K n n st .none f fd -> FnOk P w K mg base (CXr P w) k f fd ps (spX K C F R)):FnX P w K mg base C k n F R:=by
 obtain ⟨fd,F⟩:=d.l
 exact ⟨f,fd,ps,PySem.W.mg_of X G d.a,d.k,F.b hb,ok fd F⟩
end
end DL
namespace L2
open PySem PySem.Spec PyProof.Rows
section
variable {prog:Program} {w:World} {A:Around} {R:Result -> Shared -> Prop} {s:Shared}
theorem compLoop_goX {E:Value -> Shared -> Prop} {elt target iter:Expr} {ifs:List Expr} {scope:Scope} {pos:Pos} {it acc:Value} {env:Env} (I:Nat -> Shared -> Prop) (hE:∀ x s',E x s' -> notedBy (model prog w) A env (fun y s'' => R (.error y) s'') x s')
  (turn:∀ n s,I n s -> wpAny (model prog w) A (pyNext it) (fun r s₁ => match r with
   | none => R (.ok .next) s₁
   | some v => wpAny (model prog w) A (letOwnedTupleGo target it v) (fun _ s₂ => wpAny (model prog w) A (assign target env v) (fun _ s₂ =>
     wpAny (model prog w) A (forIn ifs true fun c r => if r = true then do let ok <- isTrue c env (eval c env); pure (ForInStep.yield ok) else pure (ForInStep.yield r)) (fun ok s₃ =>
      if ok = true then wpAny (model prog w) A (eval elt env) (fun x s₄ =>
       wpAny (model prog w) A (call (.builtin "list.append") [acc,x]) (fun _ s₅ => ∃ m,m < n /\ I m s₅) E s₄) E s₃
      else ∃ m,m < n /\ I m s₃) E s₂) E s₂) E s₁) E s)
  (n:Nat) (h:I n s) :
  codeAny (model prog w) A (.compLoop (.ListComp elt [⟨target,iter,ifs,0⟩] scope pos) 0 it acc env) R s:=by
 refine codeAny_loop rfl I (fun n s hI => ?_) n h
 show wpAny _ A ((compTurn (.ListComp elt [⟨target,iter,ifs,0⟩] scope pos) 0 it acc env).onRaise (fun x => do noteFrame x env; theTreesLotGoes x)) _ _ s
 refine wpAny_noted ?_
 rw [compTurn_list]
 refine wpAny_bind (wpAny_standAt (wpAny_bind (wpAny_mono (turn n s hI) (fun r s₁ h₁ => ?_) fun _ _ h' => hE _ _ h')))
 cases r with
 | none => exact wpAny_pure h₁
 | some v =>
  refine wpAny_bind (wpAny_mono h₁ (fun _ s₂ h₂ => wpAny_bind (wpAny_mono h₂ (fun _ s₃ h₃ => wpAny_bind (wpAny_mono h₃ (fun ok s₄ h₄ => ?_) fun _ _ h' => hE _ _ h')) fun _ _ h' => hE _ _ h')) fun _ _ h' => hE _ _ h')
  cases ok with
  | false => exact wpAny_pure ⟨rfl,h₄⟩
  | true =>
   exact wpAny_bind (wpAny_bind (wpAny_mono h₄ (fun x s₅ h₅ => wpAny_bind (wpAny_mono h₅ (fun _ s₆ h₆ => wpAny_pure (wpAny_pure ⟨rfl,h₆⟩)) fun _ _ h' => hE _ _ h')) fun _ _ h' => hE _ _ h'))
end
section
variable {X:Cx} {pins:List (Addr × Obj)} {σ:St} {H2:Hp} {s2:Shared} {tg iter elt:Expr} {ifs:List Expr} {scope:Scope} {pos:Pos} {it:Addr} {fp:List Addr} {tn:Nat -> Heap -> Prop} {J:It} {N:List Str} {μ:List (Option Nat)} {g:TG} {tt:TT} {te:TE} {Q:VK}
theorem comp_coreX {RR:Value -> Addr -> Result -> Shared -> Prop} (Ex:Addr -> Value -> Shared -> Prop) (I2:Inv X pins σ H2 s2) (T:Turn X.prog X.w X.K tg J fp it tn) (st2:tn 0 s2.heap) (f2:∀ b ∈ fp,FpOk X pins H2 b) (hc:X.calm = true)
  (hcell:∀ y ∈ scope.names,y.2 ≠ .cell) (hkind:scope.kind = .function) (hfr:∀ y ∈ scope.names,y.2 = .free -> ∃ c,X.env.cells.lookup y.1 = some c)
  (hhas:∀ x,((relabel scope X.env).names.lookup x = some .cell \/ (relabel scope X.env).names.lookup x = some .free) -> (x,NameKind.free) ∈ scope.names)
  (hμ:muOk X.N X.env.scope N (relabel scope X.env) μ = true)
  (hg:∀ C s H,PG ((cxComp X N scope (clos X.env.cells scope.names []) C fp s H).hold [] (Ex C)) tg g) (ht:∀ C s H,PTs ((cxComp X N scope (clos X.env.cells scope.names []) C fp s H).hold [] (Ex C)) ifs tt) (he:∀ C,s2.heap.objs.size <= C -> PE ((cxComp X N scope (clos X.env.cells scope.names []) C fp s2 H2).hold [] (Ex C)) elt te)
  (hW:compW μ g tt te σ Q J H2)
  (hRR:∀ p C s' H' m,Inv X pins σ H' s' -> s'.heap.Ns C m -> FpOk X pins H' C -> Q (.ref p) H' -> RR (.ref p) C (.ok .next) s')
  (hRE:∀ p C,s2.heap.objs.size <= C -> ∀ x s',Ex C x s' -> notedBy (model X.prog X.w) X.A (compEnvC scope (clos X.env.cells scope.names []) C X.env) (fun y s'' => RR (.ref p) C (.error y) s'') x s') :
  wpAny (model X.prog X.w) X.A (newList []) (fun acc s₃ => wpAny (model X.prog X.w) X.A (newFunctionEnv scope X.env.globals (clos X.env.cells scope.names []) [] X.env.qual none .none (some X.env)) (fun cenv s₄ =>
   codeAny (model X.prog X.w) X.A (.compStart (.ListComp elt [⟨tg,iter,ifs,0⟩] scope pos) 0 (.ref it) acc { cenv with scope:=relabel scope X.env }) (RR acc cenv.locals) s₄) X.xe s₃) X.xe s2:=by
 refine wpAny_newObj_type (wpAny_newFunctionEnv hcell (by intro y hy; simp at hy) (fun h₁ hns₁ hsb₁ => ?_) hkind)
 dsimp only at hns₁ hsb₁ ⊢
 generalize hH2:s2.heap.push { cls:=.type "list",dict:=none,data:=.seq ([]:List Value).toArray } = G at hns₁ hsb₁ ⊢
 have hC:G.objs.size = s2.heap.objs.size + 1:=by rw [<- hH2,Heap.size_push]
 have hDC:s2.heap.objs.size ≠ G.objs.size:=by rw [hC]; exact Nat.ne_of_lt (Nat.lt_succ_self _)
 have hCle:s2.heap.objs.size <= G.objs.size:=by rw [hC]; exact Nat.le_succ _
 have below:∀ b,b < s2.heap.objs.size -> b ≠ G.objs.size /\ b ≠ s2.heap.objs.size:=fun b hb => ⟨by rw [hC]; exact Nat.ne_of_lt (Nat.lt_succ_of_lt hb),Nat.ne_of_lt hb⟩
 have old:∀ b o,s2.heap.get? b = some o -> h₁.get? b = some o:=fun b o e => hsb₁.extBut b o (below b (Heap.lt_size e)).1 (Heap.get?_push_of_some _ (hH2 ▸ Heap.get?_push_of_some _ e))
 have hobj:h₁.get? s2.heap.objs.size = some { cls:=.type "list",dict:=none,data:=.seq ([]:List Value).toArray }:=hsb₁.extBut _ _ hDC (Heap.get?_push_of_some _ (hH2 ▸ Heap.get?_push_size _ rfl))
 have hclin:∀ x c,(clos X.env.cells scope.names []).lookup x = some c -> X.env.cells.lookup x = some c:=fun x c h => clos_in hfr (fun _ _ z => by simp at z) h
 have cellt:∀ x c,(clos X.env.cells scope.names []).lookup x = some c -> c < s2.heap.objs.size:=fun x c h => by
  obtain ⟨v,o,ho,_⟩:=I2.cell x c (hclin x c h)
  exact Heap.lt_size ho
 have fplt:∀ b ∈ fp,b < s2.heap.objs.size:=fun b hb => by
  obtain ⟨o,ho,_⟩:=T.obj 0 _ st2 b hb
  exact Heap.lt_size ho
 have Hn:∀ a,s2.heap.objs.size <= a -> H2 a = none:=fun a ha => I2.hok.fresh ha
 obtain ⟨W,⟨m0,w0⟩,turn⟩:=hW s2.heap.objs.size (Hn _ (Nat.le_refl _))
 have okc:((cxComp X N scope (clos X.env.cells scope.names []) G.objs.size fp s2 H2).hold [] (Ex G.objs.size)).Ok:=by
  refine ⟨I2.ok.mod,by show (relabel scope X.env).kind = _; exact hkind,I2.ok.glob,I2.ok.blt,hCle,fun x y c h1 h2 => ?_,fun x hx => ?_,fun _ _ z => (by cases z),I2.ok.hd,I2.ok.frames,.inl rfl,fun b hb => ⟨?_,fun x c h z => ?_⟩,I2.bs,Nat.le_trans I2.ok.bsz I2.sz,fun b o e hb => ?_,fun b hb z => ?_,I2.stack,I2.stkFree⟩
  ·exact I2.ok.inj x y c (hclin x c h1) (hclin y c h2)
  ·exact clos_has (hhas x hx)
  ·exact (below b (fplt b hb)).1
  ·exact (f2 b hb).2.2.2.2.1 x c (hclin x c h) z
  ·rcases (f2 b hb).2.2.2.1 with z | z
   ·exact I2.ok.noex b o e z
   ·exact absurd (Nat.lt_of_lt_of_le (Heap.lt_size e) (Nat.le_trans I2.ok.bsz z)) (Nat.lt_irrefl _)
  ·rcases List.mem_cons.mp (I2.stkSub b z) with e | e
   ·exact (f2 b hb).2.1 e
   ·exact (f2 b hb).2.2.1 e
 have Hfree:∀ b,b ≠ s2.heap.objs.size -> H2 b = none -> (upd H2 s2.heap.objs.size (.lst [])) b = none:=fun b h1 h2 => by rw [upd_ne h1]; exact h2
 have I3:Inv ((cxComp X N scope (clos X.env.cells scope.names []) G.objs.size fp s2 H2).hold [] (Ex G.objs.size)) [] (inner μ σ) (upd H2 s2.heap.objs.size (.lst [])) { s2 with heap:=h₁,toks:=s2.toks + ([]:List (Str × Value)).length }:=by
  refine ⟨okc,rfl,I2.bare,Un.laid old (Nat.le_refl _) (Hn _ (Nat.le_refl _)),⟨_,hns₁,fun i x v e1 e2 e3 => ?_⟩,fun x c h => ?_,Hfree _ hDC.symm (Hn _ hCle),fun x c h => (I2.freeC x c (hclin x c h)).elim (fun z => .inl (Hfree _ (below c (cellt x c h)).2 z)) (fun ⟨_,o1,b1,z⟩ => .inr ⟨rfl,o1,b1,by rw [upd_ne (below c (cellt x c h)).2]; exact z⟩),fun p hp => absurd (show p ∈ ([]:List (Addr × Obj)) from hp) (by simp),I2.hok.laid old (Nat.le_refl _) ⟨by decide,[],0,.nil,hobj⟩,?_⟩
  ·have e1':N[i]? = some x:=e1
   have e2':(μ.map fun o => o.bind fun j => (σ[j]?).join)[i]? = some (some v):=e2
   rw [List.getElem?_map] at e2'
   cases q:μ[i]? with
   | none => rw [q] at e2'; cases e2'
   | some o =>
    rw [q] at e2'
    cases o with
    | none => cases e2'
    | some j =>
     have e4:(σ[j]?).join = some v:=Option.some.inj e2'
     have e5:σ[j]? = some (some v):=by
      cases z:σ[j]? with
      | none => rw [z] at e4; cases e4
      | some y => rw [z] at e4; cases y with
       | none => cases e4
       | some y => rw [show y = v from Option.some.inj e4]
     obtain ⟨a1,a2,a3⟩:=muOk.get hμ q e1'
     obtain ⟨m,hn,hl⟩:=I2.loc
     obtain ⟨u,r,l⟩:=hl j x v a1 e5 (.inr (.inl a2))
     refine ⟨u,r,?_⟩
     rcases l with ⟨k,_⟩ | ⟨_,c,hcc,hce⟩
     ·exact absurd ((show X.env.scope.names.lookup x = some .local from k).symm.trans a2) (by intro z; cases z)
     ·obtain ⟨c',hc'⟩:∃ c,(clos X.env.cells scope.names []).lookup x = some c:=clos_has (hhas x a3)
      have ec:c' = c:=Option.some.inj ((hclin x c' hc').symm.trans hcc)
      subst ec
      exact .inr ⟨a3,c',hc',hce.keeps old⟩
  ·obtain ⟨v,z⟩:=I2.cell x c (hclin x c h)
   exact ⟨v,z.keeps old⟩
  ·show (μ.map _).length = N.length
   rw [List.length_map]
   have q:=hμ
   unfold muOk at q
   rw [Bool.and_eq_true] at q
   exact of_decide_eq_true q.1
 have fin:∀ {σ':St} {H':Hp} {s':Shared},Inv ((cxComp X N scope (clos X.env.cells scope.names []) G.objs.size fp s2 H2).hold [] (Ex G.objs.size)) [] σ' H' s' -> Q (.ref s2.heap.objs.size) H' -> RR (.ref s2.heap.objs.size) G.objs.size (.ok .next) s':=fun {σ' H' s'} I4 q => by
  have I5:Inv X pins σ H' s':=I2.call' (ch:=fp) I4.os I4.base I4.hok I4.bare fun b hb => ⟨(f2 b hb).2.2.2.1,(f2 b hb).2.1,(f2 b hb).2.2.2.2.1,(f2 b hb).2.2.2.2.2⟩
  obtain ⟨m,hn,_⟩:=I4.loc
  have hn':s'.heap.Ns G.objs.size m:=hn
  refine hRR _ _ s' H' m I5 hn' ⟨I4.free,Nat.ne_of_gt (Nat.lt_of_lt_of_le I2.lt hCle),I2.nofs hCle,.inr (Nat.le_trans I2.sz hCle),fun x c h z => ?_,fun p hp z => ?_⟩ q
  ·obtain ⟨v,o,ho,_⟩:=I2.cell x c h
   exact (below c (Heap.lt_size ho)).1 z
  ·exact (below p.1 (Heap.lt_size (I2.pin p hp).1)).1 z
 have stat:∀ {H':Hp},(∀ b ∈ fp,H' b = none) -> ∀ b ∈ fp,FpOk ((cxComp X N scope (clos X.env.cells scope.names []) G.objs.size fp s2 H2).hold [] (Ex G.objs.size)) [] H' b:=fun {H'} hn b hb => by
  refine ⟨hn b hb,(below b (fplt b hb)).1,fun z => ?_,.inl hb,fun x c h z => (f2 b hb).2.2.2.2.1 x c (hclin x c h) z,fun p hp => absurd (show p ∈ ([]:List (Addr × Obj)) from hp) (by simp)⟩
  exact okc.exfs b hb z
 have loop:codeAny (model X.prog X.w) X.A (.compLoop (.ListComp elt [⟨tg,iter,ifs,0⟩] scope pos) 0 (.ref it) (.ref s2.heap.objs.size) (compEnvC scope (clos X.env.cells scope.names []) G.objs.size X.env))
   (RR (.ref s2.heap.objs.size) G.objs.size) { s2 with heap:=h₁,toks:=s2.toks + ([]:List (Str × Value)).length }:=by
  refine compLoop_goX (E:=Ex G.objs.size) (fun n s' => ∃ i σ' H',Inv ((cxComp X N scope (clos X.env.cells scope.names []) G.objs.size fp s2 H2).hold [] (Ex G.objs.size)) [] σ' H' s' /\ tn i s'.heap /\ (∀ b ∈ fp,H' b = none) /\ W i n σ' H') (hRE _ _ hCle) ?_ m0
   ⟨0,inner μ σ,_,I3,T.keep _ _ _ st2 (fun b hb o e => old b o e),fun b hb => Hfree b (below b (fplt b hb)).2 (f2 b hb).1,w0⟩
  rintro n s3 ⟨i,σ3,H3,I3,st3,fr3,w3⟩
  rcases turn i n σ3 H3 w3 with ⟨stop,qn⟩ | ⟨go,Nn,hN,step⟩
  ·refine thn (T.done ((cxComp X N scope (clos X.env.cells scope.names []) G.objs.size fp s2 H2).hold [] (Ex G.objs.size)) rfl rfl rfl hc i [] s3 σ3 H3 _ I3 (stat fr3) st3 stop) fun r s4 ⟨hr,I4⟩ => ?_
   subst hr
   exact fin I4 qn
  ·refine thn (T.item ((cxComp X N scope (clos X.env.cells scope.names []) G.objs.size fp s2 H2).hold [] (Ex G.objs.size)) rfl rfl rfl hc i [] s3 σ3 H3 _ I3 (stat fr3) st3 go) fun r s4 ⟨u,hr,h4⟩ => ?_
   subst hr
   refine thn h4 fun _ s5 hw' => ?_
   obtain ⟨x,H5,I5,r5,y5,st5,fr5⟩:=hw'
   have I5':=I5.pinned (stat fr5) (T.obj _ _ st5)
   have again:∀ {σ7:St} {H7:Hp} {s7:Shared},Inv ((cxComp X N scope (clos X.env.cells scope.names []) G.objs.size fp s2 H2).hold [] (Ex G.objs.size)) ([] ++ pinsAt fp s5.heap) σ7 H7 s7 -> Nn σ7 H7 ->
     ∃ m,m < n /\ ∃ i σ' H',Inv ((cxComp X N scope (clos X.env.cells scope.names []) G.objs.size fp s2 H2).hold [] (Ex G.objs.size)) [] σ' H' s7 /\ tn i s7.heap /\ (∀ b ∈ fp,H' b = none) /\ W i m σ' H':=fun {σ7 H7 s7} I7 n7 => by
    obtain ⟨m',hm,w7⟩:=hN σ7 H7 n7
    refine ⟨m',hm,i + 1,σ7,H7,I7.unpinned,T.keep _ _ _ st5 fun b hb o e => (I7.pin (b,o) (List.mem_append_right _ (List.mem_append_right _ (mem_pinsAt hb e)))).1,fun b hb => ?_,w7⟩
    obtain ⟨o,e,d⟩:=T.obj _ _ st5 b hb
    exact (I7.pin (b,o) (List.mem_append_right _ (List.mem_append_right _ (mem_pinsAt hb e)))).2.1
   refine thn (hg G.objs.size s2 H2 _ s5 σ3 H5 x u _ I5' r5 (step x H5 y5)) fun _ s6 hw' => ?_
   obtain ⟨σ6,H6,I6,q6⟩:=hw'
   refine thn (ht G.objs.size s2 H2 _ s6 σ6 H6 _ I6 q6) fun ok s7 ⟨H7,I7,q7⟩ => ?_
   cases ok with
   | false =>
    rw [if_neg (by decide)] at q7 ⊢
    exact again I7 q7
   | true =>
    rw [if_pos rfl] at q7 ⊢
    refine thn (he G.objs.size hCle _ s7 σ6 H7 _ I7 q7) fun u8 s8 hw' => ?_
    obtain ⟨y,H8,I8,r8,ys,e8,l8,q8⟩:=hw'
    have ma:=mt_append (X:=(cxComp X N scope (clos X.env.cells scope.names []) G.objs.size fp s2 H2).hold [] (Ex G.objs.size)) _ s8 σ6 H8 (.ref s2.heap.objs.size) [y] (.ref s2.heap.objs.size) [u8]
     (fun _ H9 => Nn σ6 H9) I8 rfl (.cons r8 .nil) ⟨_,ys,y,rfl,rfl,e8,l8,q8⟩
    exact thn ma fun _ s9 ⟨_,H9,I9,_,q9⟩ => again I9 q9
 exact codeAny_compStart_list loop (T.self _ 0 _ _ _ (T.keep _ _ _ st2 (fun b hb o e => old b o e)) loop)
end
end L2
namespace L2
open PySem PySem.Spec PyProof.Rows
section
variable {M:Model} {A:Around} {E:Value -> Shared -> Prop} {s:Shared}
theorem noteFrame_like {e:Value} {env env':Env} (h:env'.frame = env.frame):noteFrame e env' = noteFrame e env:=by
 unfold noteFrame PySem.frameOf
 rw [h]
theorem ff_less {h base base':Heap} (k:∀ b,base.get? b = none -> base'.get? b = none):∀ {l:List Env},h.FunFrames base l -> h.FunFrames base' l
 | [],_ => True.intro
 | _ :: _,⟨a,⟨L,o,x1,x2,x3⟩,r⟩ => ⟨a,⟨L,o,x1,k _ x2,x3⟩,ff_less k r⟩
theorem ff_but {h h' base:Heap} {c:Addr} (k:∀ b,b ≠ c -> h'.get? b = h.get? b):∀ {l:List Env},c ∉ frs l -> h.FunFrames base l -> h'.FunFrames base l
 | [],_,_ => True.intro
 | env :: rest,n,⟨a,⟨L,o,x1,x2,x3,x4⟩,r⟩ => by
  have e:frs (env :: rest) = L :: frs rest:=by unfold frs; rw [List.filterMap_cons,x1]
  rw [e] at n
  exact ⟨a,⟨L,o,x1,x2,by rw [k L (fun z => n (by rw [z]; exact List.mem_cons_self))]; exact x3,x4⟩,ff_but k (fun z => n (List.mem_cons_of_mem _ z)) r⟩
theorem upField {h:Heap} {T:Addr} {oT:Obj} {ts:Array Value} (hT:h.get? T = some oT) (dT:oT.data = .fields ts) (f:Array Value -> Array Value) :
  (h.update T (Obj.mapFields f)).get? T = some (Obj.mapFields f oT) /\ (Obj.mapFields f oT).data = .fields (f ts) /\ (∀ b,b ≠ T -> (h.update T (Obj.mapFields f)).get? b = h.get? b) /\ ∀ b o,h.get? b = some o -> (∀ vs,o.data ≠ .fields vs) -> b ≠ T:=by
 have dd:=Obj.data_mapFields dT f
 refine ⟨Heap.get?_update_self _ hT (Obj.isFreed_of_fields dd),dd,fun b hb => Heap.get?_update_other _ _ hb.symm,fun b o e n z => ?_⟩
 rw [z,hT] at e
 cases e
 exact n ts dT
theorem setFlight_any {base:Heap} {l:List Env} {e:Addr} {cls a0 fl:Value} {f:Option Addr} {Q:Unit -> Shared -> Prop} (kb:base.StaysIn s.heap) (hl:s.heap.FunFrames base l) (ht:s.heap.TracedAtW base e cls a0 fl)
  (h:∀ h' fl',base.StaysIn h' -> h'.FunFrames base l -> h'.TracedAtW base e cls a0 fl' -> (∀ b o,s.heap.get? b = some o -> (∀ vs,o.data ≠ .fields vs) -> h'.get? b = some o) -> Q () { s with heap:=h' }) :
  wpAny M A (setFlight (.ref e) f) Q E s:=by
 obtain ⟨oe,vs,T,oT,ts,he,hc,hd,h1,nT,ne,hT,dT,h3⟩:=ht
 have g3:3 < ts.size:=(Array.getElem?_eq_some_iff.mp h3).1
 unfold setFlight
 refine wpAny_bind (wpAny_field he hd h1 ?_)
 rw [if_pos (by simp)]
 obtain ⟨u1,u2,u3,u4⟩:=upField hT dT (fun a => a.setIfInBounds 3 (f.elim Value.none fun f => rawInt f))
 refine wpAny_setField hT dT g3 (h _ (f.elim Value.none fun f => rawInt f) (fun b o q => ?_) (hl.of_keeps fun b o q n => ⟨o,?_,rfl⟩) ⟨oe,vs,T,_,_,?_,hc,hd,h1,nT,ne,u1,u2,by simp [g3]⟩ fun b o q n => ?_)
 ·exact (u3 b fun z => by rw [z,nT] at q; cases q).trans (kb b o q)
 ·exact (u3 b (u4 b o q n)).trans q
 ·exact (u3 e ne.symm).trans he
 ·exact (u3 b (u4 b o q n)).trans q
theorem looks_any {base:Heap} {env:Env} {outer:List Env} {L e:Addr} {cls a0 fl:Value} {Q:Unit -> Shared -> Prop} (hfr:A.frames = some (env :: outer)) (hf:env.frame = some L) (kb:base.StaysIn s.heap) (nb:base.get? e = none) (hl:s.heap.FunFrames base (env :: outer))
  (ht:s.heap.TracedAtW base e cls a0 fl) (hQ:∀ h',Heap.HeldW base (env :: outer) e cls a0 L h' -> s.heap.UpToSlots h' -> Q () { s with heap:=h' }):wpAny M A (noteFrame (.ref e) env) Q E s:=by
 by_cases hfl:fl = rawInt L
 ·subst hfl
  exact wpAny_noteFrame_againW hf ht (hQ s.heap ⟨kb,nb,hl,ht⟩ (Heap.UpToSlots.refl _))
 ·obtain ⟨oe,vs,T,oT,ts,he,⟨hc,h0⟩,hd,h1,nT,ne,hT,dT,h3⟩:=ht
  subst hc
  obtain ⟨u1,u2,u3,u4⟩:=upField hT dT (fun a => a.setIfInBounds 3 Value.none)
  unfold noteFrame
  simp only [hf]
  refine wpAny_bind (wpAny_field he hd h1 ?_)
  rw [if_pos (by simp)]
  refine wpAny_bind (wpAny_field hT dT h3 ?_)
  rw [if_neg (by simpa using hfl)]
  refine wpAny_bind (wpAny_setField hT dT (Array.getElem?_eq_some_iff.mp h3).1 ?_)
  refine wpAny_entryW hfr (hl.of_keeps fun b o q n => ⟨o,(u3 b (u4 b o q n)).trans q,rfl⟩) hf ((u3 e ne.symm).trans he) (fun b o q => (u3 b fun z => by rw [z,nT] at q; cases q).trans (kb b o q)) nb hd (Array.getElem?_eq_some_iff.mp h1).1 h0 fun h' hN => ?_
  obtain ⟨x1,x2,x3,x4⟩:=hN
  exact hQ h' ⟨x1,nb,x2,x3⟩ fun b o q n => x4 b o ((u3 b (u4 b o q n)).trans q) n
end
structure FlownA (X:Cx) (pins:List (Addr × Obj)) (σ:St) (ea C t:Addr) (H:Hp) (B:Heap) (s:Shared):Prop where
 kb:B.StaysIn s.heap
 nb:B.get? ea = none
 ff:s.heap.FunFrames B X.stack
 tr:∃ fl,s.heap.TracedAtW B ea (.ref C) (.ref t) fl
 nea:H ea = none
 inv:∀ h',B.StaysIn h' -> s.heap.UpToSlots h' -> Inv X pins σ H { s with heap:=h' }
 new:∀ b o,X.s₀.heap.get? b = some o -> X.H₀ b = none -> b ∉ X.ex -> b ≠ ea
 pne:∀ p ∈ X.pn ++ pins,p.1 ≠ ea
structure FlownC (X:Cx) (pins:List (Addr × Obj)) (σ:St) (c ea C t:Addr) (H:Hp) (B:Heap) (s:Shared):Prop where
 fl:Heap.FlyingW B X.stack ea (.ref C) (.ref t) s.heap
 nea:H ea = none
 inv:∀ h',(∀ b o,b ≠ c -> B.get? b = some o -> h'.get? b = some o) -> (∀ b o,b ≠ c -> s.heap.get? b = some o -> (∀ vs,o.data ≠ .fields vs) -> ∃ sl,h'.get? b = some { o with slots:=sl }) -> Inv X pins σ H { s with heap:=h' }
 new:∀ b o,X.s₀.heap.get? b = some o -> X.H₀ b = none -> b ∉ X.ex -> b ≠ ea
 pne:∀ p ∈ X.pn ++ pins,p.1 ≠ ea
 bc:∃ o,B.get? c = some o
 ns:∃ m,s.heap.Ns c m
 fp:FpOk X pins H c
 fr:X.A.frames = some X.stack
theorem flownC {X:Cx} {pins:List (Addr × Obj)} {σ:St} {H:Hp} {s s':Shared} {E:XK} {e:Value} {c:Addr} {m:Str -> Option Value} (I:Inv X pins σ H s) (h:CXr X.prog X.w X.stack H s E e s') (hdm:∀ C H',E C none H' -> ∀ b o,H b = some o -> ∃ o',H' b = some o')
  (fc:FpOk X pins H c) (hn:s.heap.Ns c m):∃ ea C t H' B,e = .ref ea /\ E (.ref C) none H' /\ FlownC X pins σ c ea C t H' B s':=by
 obtain ⟨ea,C,t,H',B,e1,hE,os,bare,un,hok,fl,trk,nea,old⟩:=h
 have gen:∀ b o,s.heap.get? b = some o -> H b = none -> b ≠ ea:=fun b o e n z => by
  subst z
  by_cases hf:b ∈ frs X.stack
  ·obtain ⟨_,o',ho',hd⟩:=I.stack.mem hf
   rw [e] at ho'
   cases ho'
   obtain ⟨sl,q⟩:=un.slot b o e n hf (by intro z; cases z)
   obtain ⟨oe,ws,hoe,_,hoed,_⟩:=fl.first
   rw [q] at hoe
   cases hoe
   exact hd _ hoed
  ·have z:=old b o e n hf
   rw [fl.2.1] at z
   cases z
 have nfr:c ∉ frs X.stack:=fun z => (List.mem_cons.mp (I.stkSub c z)).elim fc.2.1 fc.2.2.1
 obtain ⟨o,es,ep,ho,r⟩:=hn
 have bc:=old c o ho fc.1 nfr
 have nc:H' c = none:=un.free c o ho fc.1 (by intro z; cases z)
 refine ⟨ea,C,t,H',B,e1,hE,fl,nea,fun h'' kB up => ?_,fun b o e n nx => ?_,fun p hp => gen _ _ (I.pin p hp).1 (I.pin p hp).2.1,⟨o,bc⟩,⟨m,o,es,ep,fl.1 c o bc,r⟩,⟨nc,fc.2.1,fc.2.2.1,fc.2.2.2⟩,I.ok.frames⟩
 rotate_left
 ·obtain ⟨o',q⟩:=I.base.there b o e nx
  exact gen b o' q (I.base.free b o e n nx)
 have dm:=hdm _ _ hE
 have slot:∀ b o,s.heap.get? b = some o -> H b = none -> b ∈ frs X.stack -> ∃ sl,h''.get? b = some { o with slots:=sl }:=fun b o e n hf => by
  obtain ⟨sl,q⟩:=un.slot b o e n hf (by intro z; cases z)
  obtain ⟨_,o',ho',hd⟩:=I.stack.mem hf
  rw [e] at ho'
  cases ho'
  obtain ⟨sl',q'⟩:=up b { o with slots:=sl } (fun z => nfr (by rw [<- z]; exact hf)) q hd
  exact ⟨sl',q'⟩
 have un':Un (frs X.stack) [c] H H' s.heap h'':=by
  refine ⟨fun b o e n nf nx => kB b o (fun z => nx (by simp [z])) (old b o e n nf),fun b o e n hf _ => slot b o e n hf,fun b o e n _ => un.free b o e n (by intro z; cases z),fun b o e nx => ?_,un.tups,un.frzs,un.tbls⟩
  have nbc:b ≠ c:=fun z => nx (by simp [z])
  cases q:H b with
  | none =>
   by_cases hf:b ∈ frs X.stack
   ·obtain ⟨sl,z⟩:=slot b o e q hf
    exact ⟨_,z⟩
   ·exact ⟨o,kB b o nbc (old b o e q hf)⟩
  | some u =>
   obtain ⟨u',q'⟩:=dm b u q
   obtain ⟨ob,z⟩:=trk b u' q'
   exact ⟨ob,kB b ob nbc z⟩
 have hok':HOk X.prog X.w H' h'':=fun b o e => (hok b o e).stay (fun d u hc q => by
  obtain ⟨⟨ob,z⟩,nd⟩:(∃ ob,B.get? d = some ob) /\ d ≠ c:=by
   rcases hc with y | y
   ·rw [y]; exact ⟨trk b o e,fun z => by rw [z,nc] at e; cases e⟩
   ·exact ⟨trk d _ y,fun z => by rw [z,nc] at y; cases y⟩
  have z':=fl.1 d ob z
  rw [q] at z'
  cases z'
  exact kB d _ nd z) (fun _ q => q) (fun _ _ q => q)
 exact I.call' (s':={ s' with heap:=h'' }) os un' hok' bare (fun b z => by
  have e:b = c:=by simpa using z
  subst e
  exact ⟨fc.2.2.2.1,fc.2.1,fc.2.2.2.2.1,fc.2.2.2.2.2⟩)
theorem comp_leaves {X:Cx} {pins:List (Addr × Obj)} {σ:St} {c ea C t:Addr} {H:Hp} {B:Heap} {s:Shared} {env':Env} {use:Option (Value -> Sem Unit)} {Q:Value -> Shared -> Prop} {acc:Value} (F:FlownC X pins σ c ea C t H B s) (hs:X.stack = X.env :: X.outer) (hfr:X.env.frame = some X.env.locals) (he:env'.frame = X.env.frame)
  (nfr:c ∉ frs X.stack) (fin:∀ B' s',FlownA X pins σ ea C t H B' s' -> X.xe (.ref ea) s') :
  notedBy (model X.prog X.w) X.A env' (fun y s'' => compPost (model X.prog X.w) X.A X.xe use Q acc c (.error y) s'') (.ref ea) s:=by
 have fl:=F.fl
 rw [hs] at fl
 have fr:=F.fr
 rw [hs] at fr
 obtain ⟨oc,bc⟩:=F.bc
 obtain ⟨m,hn⟩:=F.ns
 show wpAny _ _ (noteFrame (.ref ea) env') _ _ s
 rw [noteFrame_like he]
 refine wpAny_looks_onW fr hfr fl fun h4 held up4 => ?_
 obtain ⟨k1,k2,k3,k4⟩:=held
 have ne1:ea ≠ c:=fun z => by rw [z,bc] at k2; cases k2
 have goal:∃ m,h4.Ns c m /\ ∀ h',Heap.SameBut c h4 h' -> ∀ cenv:Env,cenv.locals = c -> wpAny (model X.prog X.w) X.A (passOn "comprehension.variables-let-go" (.ref ea) cenv:Sem Value) (fun _ _ => False) X.xe { s with heap:=h' }:=by
  refine ⟨m,up4.ns hn,fun h5 sb cenv _ => ?_⟩
  obtain ⟨oe,vs,T,oT,ts,ge,hc,hd,h1,nT,ne,hT,dT,h3⟩:=k4
  have nTc:T ≠ c:=fun z => by rw [z,bc] at nT; cases nT
  have kb5:(PySem.W.hideAll B [c]).StaysIn h5:=fun b o q => by
   have nbc:b ≠ c:=fun z => by rw [PySem.W.hideAll_none [c] (by simp [z])] at q; cases q
   exact (sb.2 b nbc).trans (k1 b o (PySem.W.of_hideAll _ q))
  have less:∀ b,B.get? b = none -> (PySem.W.hideAll B [c]).get? b = none:=fun b hb => by
   cases q:(PySem.W.hideAll B [c]).get? b with
   | none => rfl
   | some o => rw [PySem.W.of_hideAll _ q] at hb; cases hb
  have ff5:h5.FunFrames (PySem.W.hideAll B [c]) (X.env :: X.outer):=ff_less less (ff_but (fun b hb => sb.2 b hb) (by rw [<- hs]; exact nfr) k3)
  have ge5:=(sb.2 ea ne1).trans ge
  unfold PySem.passOn
  refine wpAny_bind (wpAny_field ge5 hd h1 ?_)
  rw [if_neg (by simp)]
  have go:∀ h6 fl',(PySem.W.hideAll B [c]).StaysIn h6 -> h6.FunFrames (PySem.W.hideAll B [c]) (X.env :: X.outer) -> h6.TracedAtW (PySem.W.hideAll B [c]) ea (.ref C) (.ref t) fl' -> (∀ b o,h5.get? b = some o -> (∀ vs,o.data ≠ .fields vs) -> h6.get? b = some o) -> X.xe (.ref ea) { s with heap:=h6 }:=fun h6 fl' a1 a2 a3 a4 => by
   refine fin (PySem.W.hideAll B [c]) { s with heap:=h6 } ⟨a1,less _ k2,by rw [hs]; exact a2,⟨fl',a3⟩,F.nea,fun h' b1 b2 => ?_,F.new,F.pne⟩
   refine F.inv h' (fun b o nbc q => b1 b o (PySem.W.hideAll_get _ q (by simpa using nbc))) fun b o nbc q n => ?_
   obtain ⟨sl,q4⟩:=up4 b o q n
   obtain ⟨sl',q6⟩:=b2 b { o with slots:=sl } (a4 b { o with slots:=sl } ((sb.2 b nbc).trans q4) n) n
   exact ⟨sl',q6⟩
  have tr5:Heap.TracedAtW h5 (PySem.W.hideAll B [c]) ea (.ref C) (.ref t) (rawInt X.env.locals):=⟨oe,vs,T,oT,ts,ge5,hc,hd,h1,less _ nT,ne,(sb.2 T nTc).trans hT,dT,h3⟩
  first
   | exact wpAny_bind (wpAny_pure (wpAny_bind (setFlight_any (s:={ s with heap:=h5 }) kb5 ff5 tr5 fun h6 fl' a1 a2 a3 a4 => wpAny_throw (go h6 fl' a1 a2 a3 a4))))
   | exact wpAny_bind (setFlight_any (s:={ s with heap:=h5 }) kb5 ff5 tr5 fun h6 fl' a1 a2 a3 a4 => wpAny_throw (go h6 fl' a1 a2 a3 a4))
 cases use <;> exact goal
end L2
namespace L2
open PySem PySem.Spec PyProof.Rows
section
variable {X:Cx} {pins:List (Addr × Obj)} {σ:St} {ea C t:Addr} {H:Hp} {B:Heap} {s:Shared} {x:Str} {np hpos pos:Pos} {cv:Value} {b₀:Stmt} {suite body:List Stmt} {rest:List ExceptHandler} {Q:Flow -> Shared -> Prop} {E:Value -> Shared -> Prop}
theorem caught_any (F:FlownA X pins σ ea C t H B s) (hs:X.stack = X.env :: X.outer) (hfr:X.env.frame = some X.env.locals) (hg:Gl X x) (hm:X.mg x = some cv) (hx:PySem.W.exmOne X.K (.ref C) cv = some true) (hd:(x == ("__debug__":Str)) = false)
  (k:∀ s7,Inv (X.mark (.ref ea)) pins σ H s7 ->
   wpAny (model X.prog X.w) (X.A.mark (some (.ref ea))) (execs (b₀ :: suite) X.env) (fun f s3 => Q f s3) (fun _ _ => False) s7) :
  wpAny (model X.prog X.w) X.A (noteFrame (.ref ea) X.env) (fun _ s2 => wpAny (model X.prog X.w) X.A (setFlight (.ref ea) none) (fun _ s3 => wpAny (model X.prog X.w) X.A (handleBy (.ref ea) X.env (.ExceptHandler (some (.Name x np)) none (b₀ :: suite) hpos :: rest)) Q E s3) E s2) E s:=by
 have I0:=F.inv s.heap F.kb (Heap.UpToSlots.refl _)
 obtain ⟨fl,tr⟩:=F.tr
 have ff:=F.ff
 rw [hs] at ff
 have fr:X.A.frames = some (X.env :: X.outer):=by rw [<- hs]; exact I0.ok.frames
 refine looks_any fr hfr F.kb F.nb ff tr fun h4 held4 up4 => ?_
 refine wpAny_landsW held4 fun h5 fl5 up5 => ?_
 have up45:=up4.trans up5
 have I5:=(F.inv h5 fl5.1 up45).mark (.ref ea)
 obtain ⟨ob,hob,hobc⟩:=fl5.there
 refine wpAny_handleBy_cons (codeAny_handlers_test (ld_glob I5 hg hm ?_ hd)) (by intro q; cases q)
 refine (PySem.W.exm_one I5.kIn (ty_looks hob hobc) hx).here ?_
 refine codeAny_handlers_suite (lands_againW fl5 fun h6 fl6 up6 => ?_)
 have I6:=(F.inv h6 fl6.1 (up45.trans up6)).mark (.ref ea)
 exact wpAny_mono (k _ I6) (fun f s3 q => q) fun _ _ z => z.elim
noncomputable def ServedA (X:Cx) (pins:List (Addr × Obj)) (Hw:St -> Addr -> Hp -> Prop):Value -> Shared -> Prop:=fun e s' => ∃ σ ea C t H' B,e = .ref ea /\ FlownA X pins σ ea C t H' B s' /\ Hw σ C H'
variable {tb:List (Addr × Obj) -> (Value -> Shared -> Prop) -> TS} {th:TS}
theorem ps_tryA (hb:∀ pn E,PSs (X.hold pn E) body (tb pn E)) (hh:∀ (v:Value) (pn:List (Addr × Obj)),PSs ((X.mark v).hold pn fun _ _ => False) (b₀ :: suite) th)
  (hs:X.stack = X.env :: X.outer) (hfr:X.env.frame = some X.env.locals) (hg:Gl X x) (hm:X.mg x = some cv) (hd:(x == ("__debug__":Str)) = false:=by decide) :
  PS X (.Try body [.ExceptHandler (some (.Name x np)) none (b₀ :: suite) hpos] [] [] pos) (fun D σ H => ∀ pins,tb (X.pn ++ pins) (ServedA X pins fun σ' C H' => PySem.W.exmOne X.K (.ref C) cv = some true /\ th (Ends.only D.rt) σ' H') D σ H):=by
 intro pins s σ H D I h
 have ok:=I.ok
 have sp:=hb (X.pn ++ pins) (ServedA X pins fun σ' C H' => PySem.W.exmOne X.K (.ref C) cv = some true /\ th (Ends.only D.rt) σ' H') [] s σ H D (I.hold _) (h pins)
 refine wpAny_Try_except (wpAny_mono sp (fun fl s1 q => ?_) fun e s1 q => ?_)
 ·cases fl with
  | ret u => obtain ⟨v,σ',H',I',r,q⟩:=q; exact ⟨v,σ',H',I'.unhold ok,r,q⟩
  | next => obtain ⟨σ',H',I',q⟩:=q; exact wpAny_execs_nil ⟨σ',H',I'.unhold ok,q⟩
  | brk => obtain ⟨σ',H',I',q⟩:=q; exact ⟨σ',H',I'.unhold ok,q⟩
  | cont => obtain ⟨σ',H',I',q⟩:=q; exact ⟨σ',H',I'.unhold ok,q⟩
 ·obtain ⟨σ1,ea,C,t,H',B,rfl,F,hx,q⟩:=q
  refine caught_any F hs hfr hg hm hx hd fun s7 I7 => ?_
  refine wpAny_mono (hh (.ref ea) (X.pn ++ pins) [] s7 _ _ _ (I7.hold _) q) (fun fl s3 q3 => ?_) fun _ _ z => z
  cases fl with
  | ret u =>
   obtain ⟨v,σ3,H3,I3,r3,q3⟩:=q3
   have I4:=I3.unhold (I7.ok)
   exact ⟨v,σ3,H3,I4.unmark ok,r3,q3⟩
  | next => obtain ⟨_,_,_,q⟩:=q3; exact q.elim
  | brk => obtain ⟨_,_,_,q⟩:=q3; exact q.elim
  | cont => obtain ⟨_,_,_,q⟩:=q3; exact q.elim
end
end L2
namespace DL
open PySem PySem.Spec PyProof.Rows L2
noncomputable def FlyF (X:Cx) (XW:XWt):Prop:=∀ pins σ ea Ca t H B s,FlownA X pins σ ea Ca t H B s -> XW σ Ca H -> X.xe (.ref ea) s
theorem flownA_unhold {X:Cx} {pins pins':List (Addr × Obj)} {E:Value -> Shared -> Prop} {σ:St} {ea C t:Addr} {H:Hp} {B:Heap} {s:Shared} (ok:X.Ok) (F:FlownA (X.hold (X.pn ++ pins) E) pins' σ ea C t H B s):FlownA X pins σ ea C t H B s :=
 ⟨F.kb,F.nb,F.ff,F.tr,F.nea,fun h' a b => (F.inv h' a b).unhold ok,F.new,fun p hp => F.pne p (List.mem_append_left _ hp)⟩
theorem flyF_try {X:Cx} {pins:List (Addr × Obj)} {Hw:XWt}:FlyF (X.hold (X.pn ++ pins) (ServedA X pins Hw)) Hw:=fun pins' σ ea Ca t H B s F hw =>
 ⟨σ,ea,Ca,t,H,B,rfl,flownA_unhold (E:=_) ((F.inv s.heap F.kb (Heap.UpToSlots.refl _)).ok.unhold) F,hw⟩
section
variable {X:Cx} {C:Cl} {body:List Stmt} {x:Str} {np hpos pos:Pos} {cv:Value} {b₀:Stmt} {suite:List Stmt} {s t:SDen} {r:SRDen} {tc:Str -> Bool}
theorem pds_tryA (hb:∀ pn E,PDB (X.hold pn E) C body s) (hr:∀ pn E XW,FlyF (X.hold pn E) XW -> RDB (X.hold pn E) C XW body r) (ht:∀ v pn,PDB ((X.mark v).hold pn fun _ _ => False) C (b₀ :: suite) t)
  (htc:∀ c,tc c = true -> ∃ Ca,C c = some Ca /\ PySem.W.exmOne X.K (.ref Ca) cv = some true)
  (hs:X.stack = X.env :: X.outer) (hfr:X.env.frame = some X.env.locals) (hg:Gl X x) (hm:X.mg x = some cv) (hd:(x == ("__debug__":Str)) = false:=by decide) :
  PDS X C (.Try body [.ExceptHandler (some (.Name x np)) none (b₀ :: suite) hpos] [] [] pos) (sTryU s r tc t):=fun e₀ =>
 ps_imp (ps_tryA (tb:=fun pn E Dn σ H => tDS X.K C e₀ s Dn σ H \/ ∃ XW,FlyF (X.hold pn E) XW /\ tRS X.K C XW e₀ r Dn σ H) (th:=tDS X.K C e₀ t)
  (fun pn E pins sh σ H D I h => h.elim (fun z => hb pn E e₀ pins sh σ H D I z) fun ⟨XW,hX,z⟩ => hr pn E XW hX e₀ pins sh σ H D I z) (fun v pn => ht v pn e₀) hs hfr hg hm hd) fun Dn σ H hw' pins => by
  obtain ⟨e,Ω,ρ,o,eH,rl,q,k⟩:=hw'
  unfold sTryU at q
  cases q1:s ρ Ω with
  | some o1 =>
   rw [q1] at q
   cases q
   exact .inl ⟨e,Ω,ρ,_,eH,rl,q1,k⟩
  | none =>
   rw [q1] at q
   dsimp only at q
   cases q2:r ρ Ω with
   | none => rw [q2] at q; cases q
   | some p2 =>
    obtain ⟨c,ρ1,Ω1⟩:=p2
    rw [q2] at q
    dsimp only at q
    by_cases hc:tc c = true
    ·rw [if_pos hc] at q
     obtain ⟨Ca,hC,hx⟩:=htc c hc
     refine .inr ⟨_,flyF_try,e,Ω,ρ,c,ρ1,Ω1,Ca,eH,rl,q2,hC,fun e' σ' r' => ⟨hx,?_⟩⟩
     cases q3:t ρ1 Ω1 with
     | none => rw [q3] at q; cases q
     | some o3 =>
      rw [q3] at q
      cases o3 with
      | rt d Ω' => cases q; exact ⟨_,_,_,_,rfl,r',q3,k⟩
      | _ => cases q
    ·rw [if_neg hc] at q; cases q
end
noncomputable def compR (β:BDen) (p:TDen) (g:Den) (r:RDen):List D -> List Sl -> List OS -> Option (Str × List OS)
 | [],_,_ => none
 | d :: ds,ρ,Ω => match β d ρ with
  | some ρ1 => match p ρ1 Ω with
   | some (true,Ω1) => match r ρ1 Ω1 with
    | some z => some z
    | none => match g ρ1 Ω1 with
     | some (_,Ω2) => compR β p g r ds ρ1 Ω2
     | none => none
   | some (false,Ω1) => compR β p g r ds ρ1 Ω1
   | none => none
  | none => none
noncomputable def rComp (μ:List (Option Nat)) (γ:ADen) (β:BDen) (p:TDen) (g:Den) (r:RDen):RDen:=fun ρ Ω => match γ ρ Ω with
 | some (ds,Ω1) => if ds.length <= big then compR β p g r ds (innerD μ ρ) Ω1 else none
 | none => none
section
variable {K:PySem.W.Frag} {C:Cl} {β:BDen} {p:TDen} {g:Den} {r:RDen} {μ:List (Option Nat)}
structure CIR (K:PySem.W.Frag) (C:Cl) (β:BDen) (p:TDen) (g:Den) (r:RDen) (ds:List D) (a:Addr) (cn:Str) (Ωf:List OS) (e':E4) (i:Nat) (σ':St) (e2:E4) (Ω2:List OS) (ρ2:List Sl) (vs:List V) (ys0:List D):Prop where
 w:Wf K C e2 Ω2
 rr:RelE K e2 σ' ρ2
 no:∀ (j:Nat) (es:List D),ρ2[j]? ≠ some (.own es)
 ha:e2.H a = some (.lst vs)
 hF:e2.F a = none
 hA:¬ e2.A a
 iy:IsL K e2.α e2.F ys0 vs
 x:Ext e' e2
 q:compR β p g r (ds.drop i) ρ2 Ω2 = some (cn,Ωf)
 hy:ys0.length <= i
noncomputable def CInvR (K:PySem.W.Frag) (C:Cl) (β:BDen) (p:TDen) (g:Den) (r:RDen) (ds:List D) (a:Addr) (cn:Str) (Ωf:List OS) (e':E4) (i:Nat) (σ':St) (H':Hp):Prop :=
 ∃ e2 Ω2 ρ2 vs ys0,e2.H = H' /\ CIR K C β p g r ds a cn Ωf e' i σ' e2 Ω2 ρ2 vs ys0
theorem compR_gen {σ:St} {XW:XWt} {J:It} {e e':E4} {Ω1 Ωf:List OS} {ρ:List Sl} {ds:List D} {cn:Str} {Ca:Addr} (rl:RelE K e σ ρ) (hbig:ds.length <= big) (q2:compR β p g r ds (innerD μ ρ) Ω1 = some (cn,Ωf)) (hC:C cn = some Ca)
  (x':Ext e e') (w':Wf K C e' Ω1) (wk:Walk K e' J ds) (fin:∀ e2,Ext e e2 -> Wf K C e2 Ωf -> XW σ Ca e2.H) :
  compW μ (tDG K C β) (tDT K C p) (fun σ' H' Q' => tD K C g σ' H' Q' \/ tR K C (fun _ Ca H' => XW σ Ca H') r σ' H' Q') σ (fun _ _ => False) J e'.H:=by
 intro a ha
 refine ⟨fun i m σ' H' => m = ds.length - i /\ i <= ds.length /\ CInvR K C β p g r ds a cn Ωf e' i σ' H',⟨ds.length,by simp,Nat.zero_le _,⟨e'.α,e'.F,e'.A,upd e'.H a (.lst [])⟩,Ω1,innerD μ ρ,[],[],rfl,⟨?_,?_,fun j es => inner_own,upd_same,w'.nF ha,fun z => (w'.ah a z).1 ha,.nil,?_,by simpa using q2,Nat.zero_le _⟩⟩,?_⟩
 ·refine ⟨fun b u hb => ?_,w'.fa,fun b hb => ?_,w'.ol,w'.nd,fun n b u h1 h2 => ⟨(w'.ob n b u h1 h2).1,(w'.ob n b u h1 h2).2.keep (fun z hz => ?_) (Same.refl _) ⟨[],by simp⟩⟩⟩
  ·show upd e'.H a _ b = some u
   rw [upd_ne (ne_of_none (w'.fh b u hb) ha)]; exact w'.fh b u hb
  ·show upd e'.H a _ b ≠ none /\ ∀ xs,upd e'.H a _ b ≠ some (.tup xs)
   rw [upd_ne (fun z => (w'.ah b hb).1 (by rw [z]; exact ha))]; exact w'.ah b hb
  ·show upd e'.H a _ b = some z
   rw [upd_ne (ne_of_none hz ha)]; exact hz
 ·have r1:=inner_rel (μ:=μ) (rl.ext x')
  exact ⟨r1.len,r1.dat,fun j es h => absurd h inner_own,r1.sep⟩
 ·refine ⟨fun b o' u hb => by show upd e'.H a _ b = some (.frz o' u); rw [upd_ne (ne_of_none hb ha)]; exact hb,fun b u hb _ => ?_,fun b u hb => ⟨u,?_⟩,Same.refl _,fun b u hb => .inl hb,fun b hb => .inl hb,fun b hb => hb,[],by simp⟩
  ·show upd e'.H a _ b = some u
   rw [upd_ne (ne_of_none hb ha)]; exact hb
  ·show upd e'.H a _ b = some u
   rw [upd_ne (ne_of_none hb ha)]; exact hb
 ·rintro i m σ2 H2 ⟨rfl,hil,e2,Ω2,ρ2,vs,ys0,rfl,⟨w2,r2,no2,ha2,hF2,hA2,iy,x2,q3,hy⟩⟩
  obtain ⟨stop,go⟩:=wk i e2 x2.ff x2.al w2.fh
  by_cases hlt:i < ds.length
  ·have hd:ds[i]? = some ds[i]:=List.getElem?_eq_getElem hlt
   obtain ⟨g1,y1⟩:=go _ hd
   have edrop:ds.drop i = ds[i] :: ds.drop (i + 1):=List.drop_eq_getElem_cons hlt
   rw [edrop] at q3
   refine .inr ⟨g1,fun σ' H' => i + 1 <= ds.length /\ CInvR K C β p g r ds a cn Ωf e' (i + 1) σ' H',fun σ' H' hN => ⟨ds.length - (i + 1),by omega,rfl,hN⟩,fun x H' hyl => ?_⟩
   obtain ⟨e2',rfl,ix,up⟩:=y1 x H' hyl
   obtain ⟨xx,ww⟩:=up C Ω2 w2
   obtain ⟨hh',hf',ha'⟩:=xx.keepOwn ha2 hF2 hA2
   replace r2:=r2.ext xx
   replace iy:=iy.ext xx
   replace x2:=x2.trans xx
   clear y1 g1 stop go w2 ha2 hF2 hA2
   revert r2 iy x2 ww hh' hf' ha' ix
   generalize e2' = e2
   intro ix w2 ha2 hF2 hA2 r2 iy x2
   unfold compR at q3
   cases q4:β ds[i] ρ2 with
   | none => rw [q4] at q3; cases q3
   | some ρ3 =>
    rw [q4] at q3
    dsimp only at q3
    refine ⟨e2,Ω2,ρ2,_,ρ3,rfl,w2,r2,ix,q4,fun σ3 r3 o3 => ?_⟩
    have no3:∀ (j:Nat) (es:List D),ρ3[j]? ≠ some (.own es):=fun j es h => no2 j es (o3 j es h).1
    cases q5:p ρ3 Ω2 with
    | none => rw [q5] at q3; cases q3
    | some p5 =>
     obtain ⟨b,Ω3⟩:=p5
     rw [q5] at q3
     refine ⟨e2,Ω2,ρ3,b,Ω3,rfl,w2,r3,q5,fun e3 x3 w3 => ?_⟩
     cases b with
     | false =>
      refine iteF ?_
      obtain ⟨z1,z2,z3⟩:=x3.keepOwn ha2 hF2 hA2
      exact ⟨hlt,e3,Ω3,ρ3,vs,ys0,rfl,⟨w3,r3.ext x3,no3,z1,z2,z3,iy.ext x3,x2.trans x3,q3,Nat.le_succ_of_le hy⟩⟩
     | true =>
      refine iteT ?_
      dsimp only at q3
      cases q8:r ρ3 Ω3 with
      | some z =>
       rw [q8] at q3
       cases q3
       exact .inr ⟨e3,Ω3,ρ3,cn,Ωf,Ca,rfl,w3,r3.ext x3,q8,hC,fun e4 x4 w4 => fin e4 (x'.trans ((x2.trans x3).trans x4)) w4⟩
      | none =>
       rw [q8] at q3
       dsimp only at q3
       cases q6:g ρ3 Ω3 with
       | none => rw [q6] at q3; cases q3
       | some p6 =>
        obtain ⟨y,Ω4⟩:=p6
        rw [q6] at q3
        dsimp only at q3
        refine .inl ⟨e3,Ω3,ρ3,y,Ω4,rfl,w3,r3.ext x3,q6,fun v e4 x4 w4 i4 => ?_⟩
        obtain ⟨z1,z2,z3⟩:=(x3.trans x4).keepOwn ha2 hF2 hA2
        have x24:=x3.trans x4
        refine ⟨vs,z1,by rw [<- iy.length]; exact big_lt (by omega),hlt,⟨e4.α,e4.F,e4.A,upd e4.H a (.lst (vs ++ [v]))⟩,Ω4,ρ3,_,ys0 ++ [y],rfl,⟨⟨fun b u hb => ?_,w4.fa,fun b hb => ?_,w4.ol,w4.nd,fun n b u h1 h2 => ⟨(w4.ob n b u h1 h2).1,(w4.ob n b u h1 h2).2.keep (fun z hz => ?_) (Same.refl _) ⟨[],by simp⟩⟩⟩,
         ⟨((r3.ext x3).ext x4).len,((r3.ext x3).ext x4).dat,fun j es h => absurd h (no3 j es),((r3.ext x3).ext x4).sep⟩,no3,upd_same,z2,z3,(iy.ext x24).append (.cons i4 .nil),⟨fun b o' u hb => by show upd e4.H a _ b = some (.frz o' u); rw [upd_ne (ne_of_none hb ha)]; exact (x2.trans x24).fz b o' u hb,fun b u hb hn => ?_,fun b u hb => ?_,(x2.trans x24).ff,(x2.trans x24).fn,(x2.trans x24).an,(x2.trans x24).aa,(x2.trans x24).al⟩,q3,by simp; omega⟩⟩
        ·show upd e4.H a _ b = some u
         rw [upd_ne (fun z => by subst z; rw [z2] at hb; cases hb)]; exact w4.fh b u hb
        ·show upd e4.H a _ b ≠ none /\ ∀ xs,upd e4.H a _ b ≠ some (.tup xs)
         rw [upd_ne (fun z => z3 (by rw [<- z]; exact hb))]; exact w4.ah b hb
        ·show upd e4.H a _ b = some z
         rw [upd_ne (fun y => z3 (by rw [<- y]; exact (w4.ob n b u h1 h2).1))]; exact hz
        ·show upd e4.H a _ b = some u
         rw [upd_ne (ne_of_none hb ha)]; exact (x2.trans x24).hk b u hb hn
        ·obtain ⟨u',z⟩:=(x2.trans x24).dm b u hb
         exact ⟨u',by show upd e4.H a _ b = some u'; rw [upd_ne (ne_of_none hb ha)]; exact z⟩
  ·have ei:i = ds.length:=by omega
   subst ei
   rw [List.drop_length] at q3
   cases q3
end
section
variable {X:Cx} {C:Cl} {XW:XWt} {tg iter elt:Expr} {ifs:List Expr} {scope:Scope} {pos:Pos} {N:List Str} {μ:List (Option Nat)} {γ:ADen} {β:BDen} {p:TDen} {g:Den} {r:RDen}
theorem comp_out {pins:List (Addr × Obj)} {s:Shared} {σ:St} {H:Hp} {use:Option (Value -> Sem Unit)} {Q:Value -> Shared -> Prop} {QQ:VK} (hX:FlyF X XW) (hst:X.stack = X.env :: X.outer) (hfm:X.env.frame = some X.env.locals) (hc:X.calm = true) (ok:CompOk X N scope μ) (hi:PDI X C tg iter γ)
  (hg:∀ fp A s H E,PDG ((cxComp X N scope (clos X.env.cells scope.names []) A fp s H).hold [] E) C tg β) (ht:∀ fp A s H E,PDTs ((cxComp X N scope (clos X.env.cells scope.names []) A fp s H).hold [] E) C ifs p) (he:∀ fp A s H E,PD ((cxComp X N scope (clos X.env.cells scope.names []) A fp s H).hold [] E) C elt g)
  (hr:∀ fp A s H E XW',FlyOk ((cxComp X N scope (clos X.env.cells scope.names []) A fp s H).hold [] E) XW' -> RD ((cxComp X N scope (clos X.env.cells scope.names []) A fp s H).hold [] E) C XW' elt r)
  (I:Inv X pins σ H s) (hfr:∀ y ∈ scope.names,y.2 = .free -> ∃ c,X.env.cells.lookup y.1 = some c) (hw:tR X.K C XW (rComp μ γ β p g r) σ H QQ) :
  wpAny (model X.prog X.w) X.A (eval iter X.env) (fun x s₁ => wpAny (model X.prog X.w) X.A (pyIter x) (fun it s₂ => wpAny (model X.prog X.w) X.A (newList []) (fun acc s₃ =>
   wpAny (model X.prog X.w) X.A (newFunctionEnv scope X.env.globals (clos X.env.cells scope.names []) [] X.env.qual none .none (some X.env)) (fun cenv s₄ =>
    codeAny (model X.prog X.w) X.A (.compStart (.ListComp elt [⟨tg,iter,ifs,0⟩] scope pos) 0 it acc { cenv with scope:=relabel scope X.env }) (compPost (model X.prog X.w) X.A X.xe use Q acc cenv.locals) s₄) X.xe s₃) X.xe s₂) X.xe s₁) X.xe s:=by
 obtain ⟨e,Ω,ρ,c,Ω',Ca,eH,w,rl,q,hC,k⟩:=hw
 unfold rComp at q
 cases q1:γ ρ Ω with
 | none => rw [q1] at q; cases q
 | some p1 =>
  obtain ⟨ds,Ω1⟩:=p1
  rw [q1] at q
  dsimp only at q
  split at q
  rotate_left
  ·cases q
  rename_i hbig
  refine thn (hi pins s σ H (fun J H1 => ∃ e',e'.H = H1 /\ Ext e e' /\ Wf X.K C e' Ω1 /\ Walk X.K e' J ds) I ⟨e,Ω,ρ,ds,Ω1,eH,w,rl,q1,fun e' J x' w' wk => ⟨e',rfl,x',w',wk⟩⟩) fun v s1 h1 => thn h1 fun itv s2 h2 => ?_
  obtain ⟨it,fp,tn,J,H2,rfl,I2,T,st2,f2,e',eH2,x',w',wk⟩:=h2
  subst eH2
  have stat:∀ {Cc:Addr} {H':Hp},s2.heap.objs.size <= Cc -> H' Cc = none -> FpOk X pins H' Cc:=fun {Cc H'} hle hn => by
   exact I2.fpOk hle hn
  refine comp_coreX (RR:=fun acc Cc => compPost (model X.prog X.w) X.A X.xe use Q acc Cc) (fun Cc x s' => ∃ ea Cb t H' B,x = .ref ea /\ FlownC X pins σ Cc ea Cb t H' B s' /\ XW σ Cb H') (Q:=fun _ _ => False) (g:=tDG X.K C β) (tt:=tDT X.K C p) (te:=fun σ' H' Q' => tD X.K C g σ' H' Q' \/ tR X.K C (fun _ Ca H' => XW σ Ca H') r σ' H' Q') I2 T st2 f2 hc ok.cell ok.kind hfr ok.has ok.mu
   (fun Cc s H => hg fp Cc s H _) (fun Cc s H => ht fp Cc s H _) (fun Cc hle pins' s3 σ3 H3 Q3 I3 h3 => ?_) (compR_gen rl hbig q hC x' w' wk k) (fun _ _ _ _ _ _ _ _ z => z.elim) ?_
  ·rcases h3 with z | z
   ·exact he fp Cc s2 _ _ pins' s3 σ3 H3 Q3 I3 z
   ·refine hr fp Cc s2 _ _ (fun _ Ca H' => XW σ Ca H') ?_ pins' s3 σ3 H3 Q3 I3 z
    intro σ4 H4 pins4 s4 x4 s5 I4 h4
    have I5:Inv X pins σ H4 s4:=I2.call' (ch:=fp) I4.os I4.base I4.hok I4.bare fun b hb => ⟨(f2 b hb).2.2.2.1,(f2 b hb).2.1,(f2 b hb).2.2.2.2.1,(f2 b hb).2.2.2.2.2⟩
    obtain ⟨m,hn,_⟩:=I4.loc
    obtain ⟨ea,Cb,t,H',B,e1,⟨Cd,hd,xw,_⟩,F⟩:=flownC (c:=Cc) (m:=m) I5 h4 (fun Cv H' ⟨Ca,_,_,dm⟩ => dm) (stat hle I4.free) hn
    cases hd
    exact ⟨ea,_,t,H',B,e1,F,xw⟩
  ·rintro pp Cc hle x s' ⟨ea,Cb,t,H',B,rfl,F,xw⟩
   have nfr:Cc ∉ frs X.stack:=fun z => (List.mem_cons.mp (I2.stkSub Cc z)).elim F.fp.2.1 F.fp.2.2.1
   exact comp_leaves F hst hfm rfl nfr fun B' s'' FA => hX _ _ _ _ _ _ _ _ FA xw
theorem rds_compN {y:Str} {py spos:Pos} (hX:FlyF X XW) (hst:X.stack = X.env :: X.outer) (hfm:X.env.frame = some X.env.locals) (hc:X.calm = true) (ok:CompOk X N scope μ) (hi:PDI X C tg iter γ)
  (hg:∀ fp A s H E,PDG ((cxComp X N scope (clos X.env.cells scope.names []) A fp s H).hold [] E) C tg β) (ht:∀ fp A s H E,PDTs ((cxComp X N scope (clos X.env.cells scope.names []) A fp s H).hold [] E) C ifs p) (he:∀ fp A s H E,PD ((cxComp X N scope (clos X.env.cells scope.names []) A fp s H).hold [] E) C elt g)
  (hr:∀ fp A s H E XW',FlyOk ((cxComp X N scope (clos X.env.cells scope.names []) A fp s H).hold [] E) XW' -> RD ((cxComp X N scope (clos X.env.cells scope.names []) A fp s H).hold [] E) C XW' elt r)
  (hsw:swapsWith (.ListComp elt [⟨tg,iter,ifs,0⟩] scope pos) (some (.Name y py)) spos.line X.env = pure true:=by rfl)
  (hs:∀ x,foldedSetIterable iter X.env x = pure x:=by intro _; rfl):RDS X C XW (.Assign [.Name y py] (.ListComp elt [⟨tg,iter,ifs,0⟩] scope pos) spos) (rE (rComp μ γ β p g r)):=by
 intro e₀ pins s σ H D I h
 have hfr:∀ y ∈ scope.names,y.2 = .free -> ∃ c,X.env.cells.lookup y.1 = some c:=fun y hy hk => I.ok.has y.1 (ok.free y hy hk)
 rw [exec_Assign_Name_used _ _ _ _ hsw]
 refine wpAny_bind (wpAny_standAt (wpAny_bind ?_))
 show wpAny _ _ (do let _ <- comprehension (.ListComp elt [⟨tg,iter,ifs,0⟩] scope pos) scope X.env _ (newList []) false (eval iter X.env) (some (assign (.Name y py) X.env))) _ _ s
 exact wpAny_bind (wpAny_mono (wpAny_comprehension_free (use:=some (assign (.Name y py) X.env)) (Q:=fun _ s' => SP X pins D .next s') rfl hs (closure_of hfr) ok.kind ok.names
  (comp_out (QQ:=fun _ _ => False) hX hst hfm hc ok hi hg ht he hr I hfr (rE_read h))) (fun _ s' hq => wpAny_pure (wpAny_pure hq)) fun _ _ e => e)
end
end DL
namespace L2
open PySem PySem.Spec PyProof.Rows
section
variable {X:Cx} {pos:Pos}
noncomputable def gLstT (K:PySem.W.Frag) (n:Nat) (t:TGs):TG:=fun v σ H Q => ∃ a xs,v = .ref a /\ SqL K H a xs /\ xs.length = n /\ t xs σ H Q
theorem pg_lst {es:List Expr} {k:Nat} {t:TGs} {n:Nat} (hc:X.calm = true) (h:PGs X es t)
  (hn:(assignEach es X.env).length = n:=by rfl) (hst:(assignEach es X.env).findIdx? (·.1) = none:=by rfl):PG X (.Tuple es k pos) (gLstT X.K n t):=by
 intro pins s σ H v u Q I r hw
 obtain ⟨a,xs,e1,hq,hl,hw⟩:=hw
 subst e1
 cases r
 obtain ⟨its,rv,pl,hz⟩:=I.list hq
 rw [assign_Tuple]
 refine wpAny_bind (wpAny_standAt ?_)
 unfold unpack
 have hz2:n = its.toArray.size:=by simp [<- hl,rv.length]
 rw [hn,hst,hz2]
 refine wpAny_bind (wpAny_holding (PySem.W.kun_itemsOf (I.ok.hd hc) pl.isList fun h' hx => ?_))
 have I1:Inv X pins σ H { s with heap:=h' }:=I.kept (t':=s.toks) fun b o e => hx b o (Nat.ne_of_lt (Heap.lt_size e)) e
 exact h pins _ σ H xs _ Q I1 (by simpa using rv) hw
noncomputable def Ites (x:Str):It :=
 ⟨fun i _ => i < x.cps.size,fun i H v H' => ∃ p c,v = .ref p /\ H p = none /\ x.cps[i]? = some c /\ H' = upd H p (.tup [.int i,.str ⟨#[c]⟩]),fun i _ => i = x.cps.size⟩
theorem turn_enumS {P:Program} {w:World} {K:PySem.W.Frag} {es:List Expr} {kk:Nat} {pt:Pos} {e it:Addr} {x:Str} {t:Tok} {T:String} (hne:e ≠ it)
  (DR:∀ A:Around,A.handled = none -> Draws P w A it [it] x.cps.size (fun i v => ∃ c u,x.cps[i]? = some c /\ v = Value.str ⟨#[c]⟩ u) (fun i h => h.IsStrIter it T x t i)) :
  Turn P w K (.Tuple es kk pt) (Ites x) [e,it] e (fun i h => (∃ old,IsEnum h e it i old) /\ h.IsStrIter it T x t i) where
 mem:=by simp
 obj:=fun i h st b hb => by
  obtain ⟨⟨old,he⟩,⟨o1,e1,_,d1⟩⟩:=st
  simp only [List.mem_cons,List.not_mem_nil,or_false] at hb
  rcases hb with rfl | rfl
  ·exact ⟨_,he,fun v q => nomatch q⟩
  ·exact ⟨_,e1,fun v q => by rw [d1] at q; cases q⟩
 keep:=fun i h h' st k => by
  obtain ⟨⟨old,he⟩,⟨o1,e1,r1⟩⟩:=st
  exact ⟨⟨old,k e (by simp) _ he⟩,⟨o1,k it (by simp) _ e1,r1⟩⟩
 item:=by
  intro X hP hw hK hc i pins s σ H E I hf st hg
  subst hP hw hK
  obtain ⟨⟨old,he⟩,p1⟩:=st
  have hn1:e ∉ [it]:=by simpa using hne
  refine wpAny_pyNext_enum_itemD (DR _ (I.ok.hd hc)) he p1 hg hne hn1 fun x' g tk px a1 a2 a3 a4 a5 => ⟨_,rfl,wpAny_letOwnedTupleGo_enum a1 fun g' z' m' => ?_⟩
  obtain ⟨c,u,hc1,rfl⟩:=px
  have le:e < s.heap.objs.size:=Heap.lt_size he
  have lit:it < s.heap.objs.size:=by obtain ⟨o,ho,_⟩:=p1; exact Heap.lt_size ho
  have k':∀ c o,c ∉ [e,it] -> s.heap.get? c = some o -> g'.get? c = some o:=fun c o hc q => by
   simp only [List.mem_cons,List.not_mem_nil,or_false,not_or] at hc
   exact m'.extBut c o hc.1 (a5 c o hc.1 hc.2 q)
  have t':IsTup g' s.heap.objs.size [.int i tk,.str ⟨#[c]⟩ u].toArray:=⟨_,m'.extBut _ _ (Nat.ne_of_gt le) a3,rfl,_,rfl⟩
  have J:=I.turnT (t':=tk + 1) (xs:=[.int i,.str ⟨#[c]⟩]) (us:=[.int i tk,.str ⟨#[c]⟩ u]) (p:=s.heap.objs.size) k' hf (Nat.le_refl _) (by show 2 <= sizeLine; rw [sizeLine_eq]; decide) (.cons ⟨_,rfl⟩ (.cons ⟨_,rfl⟩ .nil)) t'
  have hn:H s.heap.objs.size = none:=I.hok.fresh (Nat.le_refl _)
  refine ⟨.ref s.heap.objs.size,_,J,rfl,⟨_,c,rfl,hn,hc1,rfl⟩,⟨⟨_,z'⟩,?_⟩,fun b hb => ?_⟩
  ·obtain ⟨o,ho,r⟩:=a2
   exact ⟨o,m'.extBut it o (Ne.symm hne) ho,r⟩
  have lb:b < s.heap.objs.size:=by
   simp only [List.mem_cons,List.not_mem_nil,or_false] at hb
   rcases hb with rfl | rfl
   ·exact le
   ·exact lit
  rw [upd_ne (Nat.ne_of_lt lb)]
  exact (hf b hb).1
 done:=by
  intro X hP hw hK hc i pins s σ H E I hf st hg
  subst hP hw hK
  obtain ⟨⟨old,he⟩,p1⟩:=st
  have e1:i = x.cps.size:=hg
  subst e1
  refine wpAny_pyNext_enum_endD (DR _ (I.ok.hd hc)) he p1 fun g hk => ⟨rfl,I.turnL (t':=s.toks) (ch:=[e,it]) (fun c o hc q => ?_) hf⟩
  simp only [List.mem_cons,List.not_mem_nil,or_false,not_or] at hc
  exact hk c o hc.2 q
 self:=fun _ _ _ _ _ st h => wpAny_pyIter_enum st.1.choose_spec h
noncomputable def iEnumS (ta:TA):TI:=fun σ H R => ta σ H fun vs H1 => ∃ z,vs = [.str z] /\ R (Ites z) H1
theorem pi_enumS {es:List Expr} {kk:Nat} {pt:Pos} {a:Expr} {ta:TA} {p pos:Pos} (hg:Gl X "enumerate") (hm:X.mg "enumerate" = none) (ha:PA X [a] ta) (hs:starEach [a] X.env = [(false,eval a X.env)]:=by rfl) :
  PI X (.Tuple es kk pt) (.Call (.Name "enumerate" p) [a] [] pos) (iEnumS ta):=by
 intro pins s σ H R I h
 refine Call_ (ld_blt I hg hm boot_enum (PyProof.Rows.callWith_type1 (thn (ha pos pins s σ H _ I h) fun us s1 ⟨vs,H1,I1,r1,q1⟩ => ?_) (by rw [hs]; rfl) rfl))
 obtain ⟨z,e,q⟩:=q1
 subst e
 cases r1 with
 | cons r rr =>
  cases rr
  obtain ⟨t,rfl⟩:=r
  refine call_enumerate_str fun h' hE hI hsz hk => wpAny_pyIter_enum hE ?_
  have fp:∀ b ∈ [s1.heap.objs.size + 1,s1.heap.objs.size],FpOk X pins H1 b:=fun b hb => by
   have lb:s1.heap.objs.size <= b:=by
    simp only [List.mem_cons,List.not_mem_nil,or_false] at hb
    rcases hb with rfl | rfl
    ·exact Nat.le_add_right _ _
    ·exact Nat.le_refl _
   exact I1.fpOk lb (I1.hok.fresh lb)
  cases hz:z.cps.all (· < 128)
  ·have hI':h'.IsStrIter s1.heap.objs.size "str_iterator" z t 0:=by simpa [strIterType,hz] using hI
   exact ⟨_,_,_,_,H1,rfl,I1.kept (t':=s1.toks) hk,turn_enumS (Nat.succ_ne_self _) (fun A hA => Draws.strWide hA _ z t),⟨⟨_,hE⟩,hI'⟩,fp,q⟩
  ·have hI':h'.IsStrIter s1.heap.objs.size "str_ascii_iterator" z t 0:=by simpa [strIterType,hz] using hI
   exact ⟨_,_,_,_,H1,rfl,I1.kept (t':=s1.toks) hk,turn_enumS (Nat.succ_ne_self _) (fun A hA => Draws.strAscii hA _ z t),⟨⟨_,hE⟩,hI'⟩,fp,q⟩
end
end L2
namespace L2
open PySem PySem.Spec PyProof.Rows
section
variable {prog:Program} {w:World} {A:Around} {E:Value -> Shared -> Prop} {s:Shared} {a:Addr} {k:Str} {tk:Tok} {δ:Type} {R:δ -> Value -> Prop} {D:List (Str × δ)} {d:δ}
theorem getItem_tab {Q:Value -> Shared -> Prop} (T:PyProof.Rows.KTD.TabOf R s.heap a D) (hat:PyProof.Rows.KTD.datumAt k D = some d) (h:∀ v,R d v -> Q v { s with toks:=s.toks + 1 }):wpAny (model prog w) A (getItem (.ref a) (.str k tk)) Q E s:=by
 obtain ⟨_,o,es,ep,ho,hc,hd,hr⟩:=T
 obtain ⟨v,hv,hR⟩:=hr.find_some hat
 have ty:s.TypeIs (.ref a) "dict":=⟨o,ho,hc.1⟩
 have hq:∃ i,(es.findIdx? fun e => e.key.isStr k) = some i /\ (es[i]?).map (·.val) = some v:=by
  have hf:findBy (fun k v => v.isStr k) es k = some v:=by
   rw [<- hv]; obtain ⟨l⟩:=es; simp [findBy]
  rw [findBy_of_findIdx?] at hf
  cases hi:es.findIdx? fun e => e.key.isStr k with
  | none => rw [hi] at hf; cases hf
  | some i => rw [hi] at hf; exact ⟨i,rfl,hf⟩
 obtain ⟨i,hi,hiv⟩:=hq
 unfold getItem
 try with_reducible refine wpAny_holding ?_
 refine wpAny_bind (wpAny_sequenceKey ty (by decide) ?_)
 refine wpAny_bind (wpAny_callSpecial?_slot (name:=Str.ofString "__getitem__") ty PySem.F.slot_dict_getitem (wpAny_call_entry PySem.F.slot_dict_getitem ty PySem.F.entry_dict_getitem ?_ (by first | exact args_dict_getitem _ _ | exact F.args_dict_getitem_1 _ _)))
 show wpAny _ _ (dictGet a (.str k tk) >>= _) _ _ s
 refine wpAny_bind ?_
 unfold dictGet
 try with_reducible refine wpAny_holding ?_
 have ks:es.all (fun e => isExactStrKey e.key) = true:=by obtain ⟨l⟩:=es; simpa using hr.exact
 refine wpAny_bind (wpAny_pyHash_str ?_)
 refine wpAny_bind (PyProof.Rows.KTD.kt_dictFind_strs (s:={ s with toks:=s.toks + 1 }) ho hd ks ?_)
 rw [hi]
 refine wpAny_bind (wpAny_dictEntries (s:={ s with toks:=s.toks + 1 }) ho hd (wpAny_pure ?_))
 show wpAny _ _ (match (es[i]?).map (·.val) with | _ => _) _ _ _
 rw [hiv]
 exact wpAny_pure ⟨v,rfl,wpAny_pure (h v hR)⟩
end
section
variable {X:Cx} {i:Expr} {pos p:Pos} {n:Str} {ty:TE} {δ:Type} {R:δ -> V -> Prop} {kvs:List (Str × δ)}
theorem pe_tab {a:Addr} (hg:Gl X n) (hm:X.mg n = some (.ref a)) (T:∀ h:Heap,X.K.In h -> PyProof.Rows.KTD.TabOf (fun d u => ∃ v,RelV v u /\ R d v) h a kvs) (hi:PE X i ty) (hs:NoSl i) (hd:(n == ("__debug__":Str)) = false:=by decide) :
  PE X (.Subscript (.Name n p) i pos) (fun σ H Q => ty σ H fun y H2 => ∃ z d,y = .str z /\ PyProof.Rows.KTD.datumAt z kvs = some d /\ ∀ v,R d v -> Q v H2):=by
 intro pins s σ H Q I h
 refine subD_of PySem.F.slot_dict_getitem.lookup hs (thn ((pe_glob (v:=.ref a) hg hm rfl hd) pins s σ H (fun x H1 => x = .ref a /\ H1 = H) I ⟨rfl,rfl⟩) fun u s1 ⟨x,H1,I1,rx,ex,eH⟩ => ?_)
 subst ex eH
 cases rx
 refine thn (hi pins s1 σ _ _ I1 h) fun iv s2 ⟨y,H2,I2,ry,z,d,ey,hat,q2⟩ => ?_
 subst ey
 obtain ⟨t,rfl⟩:=ry
 have T2:=T s2.heap I2.kIn
 refine ⟨?_,getItem_tab T2 hat fun u ⟨v,rv,hv⟩ => ⟨v,H2,I2.tok _,rv,q2 v hv⟩⟩
 obtain ⟨_,o,_,_,ho,hc,_⟩:=T2
 exact ⟨o,ho,hc.1⟩
end
end L2
namespace DL
open PySem PySem.Spec PyProof.Rows L2
mutual
noncomputable def mtOk (K:PySem.W.Frag):D -> Value -> Bool
 | .mt xs,u => match u with
  | .ref a => match K.lookup a with
   | some o => match o.cls with
    | .type t => match o.data with
     | .seq its _ => decide (t = "tuple") && (decide (its.size <= 1000) && mtOks K xs its.toList)
     | _ => false
    | _ => false
   | none => false
  | _ => false
 | .str x,u => match u with
  | .str y _ => decide (x = y)
  | _ => false
 | .int i,u => match u with
  | .int j _ => decide (i = j)
  | _ => false
 | .non,_ => false
 | .bl _,_ => false
 | .tup _,_ => false
 | .lst _,_ => false
 | .scr _,_ => false
 | .obj _,_ => false
noncomputable def mtOks (K:PySem.W.Frag):List D -> List Value -> Bool
 | [],us => us.isEmpty
 | d :: ds,us => match us with
  | u :: us => mtOk K d u && mtOks K ds us
  | [] => false
end
mutual
theorem mtOk_is {K:PySem.W.Frag}:∀ (d:D) (u:Value),mtOk K d u = true -> ∃ v,RelV v u /\ ∀ α F,Is K α F d v
 | .mt xs,u,h => by
  rw [mtOk.eq_def] at h
  dsimp only at h
  split at h
  ·rename_i a
   split at h
   ·rename_i o ho
    split at h
    ·rename_i t ht
     split at h
     ·rename_i its n hd
      simp only [Bool.and_eq_true,decide_eq_true_eq] at h
      obtain ⟨h1,h2,h3⟩:=h
      obtain ⟨vs,rv,is⟩:=mtOks_is xs its.toList h3
      refine ⟨.ref a,rfl,fun α F => ?_⟩
      rw [Is]
      exact ⟨a,vs,rfl,⟨o,its,n,ho,by rw [ht,h1],hd,by rw [sizeLine_eq]; omega,rv⟩,is α F⟩
     ·cases h
    ·cases h
   ·cases h
  ·cases h
 | .str x,u,h => by
  rw [mtOk.eq_def] at h
  dsimp only at h
  split at h
  ·rename_i y t
   have e:x = y:=of_decide_eq_true h
   subst e
   exact ⟨.str x,⟨t,rfl⟩,fun α F => by rw [Is]⟩
  ·cases h
 | .int x,u,h => by
  rw [mtOk.eq_def] at h
  dsimp only at h
  split at h
  ·rename_i y t
   have e:x = y:=of_decide_eq_true h
   subst e
   exact ⟨.int x,⟨t,rfl⟩,fun α F => by rw [Is]⟩
  ·cases h
 | .non,_,h => by rw [mtOk] at h; cases h
 | .bl _,_,h => by rw [mtOk] at h; cases h
 | .tup _,_,h => by rw [mtOk] at h; cases h
 | .lst _,_,h => by rw [mtOk] at h; cases h
 | .scr _,_,h => by rw [mtOk] at h; cases h
 | .obj _,_,h => by rw [mtOk] at h; cases h
theorem mtOks_is {K:PySem.W.Frag}:∀ (ds:List D) (us:List Value),mtOks K ds us = true -> ∃ vs,Vals vs us /\ ∀ α F,IsL K α F ds vs
 | [],us,h => by
  rw [mtOks] at h
  cases us with
  | nil => exact ⟨[],.nil,fun _ _ => .nil⟩
  | cons _ _ => cases h
 | d :: ds,us,h => by
  cases us with
  | nil => rw [mtOks] at h; cases h
  | cons u us =>
   rw [mtOks] at h
   simp only [Bool.and_eq_true] at h
   obtain ⟨v,r1,i1⟩:=mtOk_is d u h.1
   obtain ⟨vs,r2,i2⟩:=mtOks_is ds us h.2
   exact ⟨v :: vs,.cons r1 r2,fun α F => .cons (i1 α F) (i2 α F)⟩
end
noncomputable def globOk (K:PySem.W.Frag) (n:Str) (d:D):Bool:=match PySem.W.nsIn K mainGlobals n with
 | some (some u) => mtOk K d u
 | _ => false
noncomputable def tabOk (K:PySem.W.Frag) (n:Str) (kvs:List (Str × D)):Bool:=match PySem.W.nsIn K mainGlobals n with
 | some (some (.ref a)) => PyProof.Rows.KTD.tabLook (mtOk K) (fun b => K.lookup b) a kvs
 | _ => false
noncomputable def GlobM (K:PySem.W.Frag) (mg:Str -> Option Value) (n:Str) (d:D):Prop:=∃ u v,mg n = some u /\ RelV v u /\ ∀ α F,Is K α F d v
noncomputable def GlobT (K:PySem.W.Frag) (mg:Str -> Option Value) (n:Str) (kvs:List (Str × D)):Prop:=∃ a,mg n = some (.ref a) /\ ∀ h:Heap,K.In h -> PyProof.Rows.KTD.TabOf (fun d u => ∃ v,RelV v u /\ ∀ α F,Is K α F d v) h a kvs
theorem globM_of {K:PySem.W.Frag} {h:Heap} {mg:Str -> Option Value} {n:Str} {d:D} (X:K.In h) (G:h.Ns mainGlobals mg) (q:globOk K n d = true):GlobM K mg n d:=by
 unfold globOk at q
 split at q
 ·rename_i u e
  obtain ⟨v,r,i⟩:=mtOk_is d u q
  exact ⟨u,v,PySem.W.mg_of X G e,r,i⟩
 ·cases q
theorem globT_of {K:PySem.W.Frag} {h:Heap} {mg:Str -> Option Value} {n:Str} {kvs:List (Str × D)} (X:K.In h) (G:h.Ns mainGlobals mg) (q:tabOk K n kvs = true):GlobT K mg n kvs:=by
 unfold tabOk at q
 split at q
 ·rename_i a e
  exact ⟨a,PySem.W.mg_of X G e,fun h' X' => PyProof.Rows.KTD.tab_of_look (fun d u hl => mtOk_is d u hl) (fun b o q => X' b o q) q⟩
 ·cases q
section
variable {X:Cx} {C:Cl} {pos p:Pos} {n:Str} {x a b i tg iter:Expr} {f g:Den} {ga:ADen}
theorem pd_globM {d:D} (hg:Gl X n) (hm:GlobM X.K X.mg n d) (hd:(n == ("__debug__":Str)) = false:=by decide):PD X C (.Name n pos) (gC d):=by
 obtain ⟨u,v,e,r,i⟩:=hm
 exact pd_c (pe_glob hg e r hd) fun _ _ => i _ _
noncomputable def strO:D -> Option Str
 | .str z => some z
 | _ => none
theorem strO_of {d:D} {z:Str} (h:strO d = some z):d = .str z:=by cases d <;> first | cases h; rfl | cases h
noncomputable def gTab (kvs:List (Str × D)) (g:Den):Den:=fun ρ Ω => (g ρ Ω).bind fun p => (strO p.1).bind fun z => (PyProof.Rows.KTD.datumAt z kvs).bind fun d => some (d,p.2)
theorem pd_tab {kvs:List (Str × D)} (hg:Gl X n) (hm:GlobT X.K X.mg n kvs) (hi:PD X C i g) (hs:NoSl i) (hd:(n == ("__debug__":Str)) = false:=by decide):PD X C (.Subscript (.Name n p) i pos) (gTab kvs g):=by
 obtain ⟨a,e,T⟩:=hm
 refine pe_imp (pe_tab (R:=fun d v => ∀ α F,Is X.K α F d v) hg e T hi hs hd) fun σ H Q hw' => ?_
 obtain ⟨e,Ω,ρ,d,Ω',eH,w,rl,q,kk⟩:=hw'
 obtain ⟨⟨d1,Ω1⟩,q1,qa⟩:=Option.bind_eq_some_iff.mp q
 obtain ⟨z,q2,qb⟩:=Option.bind_eq_some_iff.mp qa
 obtain ⟨d2,q3,qc⟩:=Option.bind_eq_some_iff.mp qb
 clear q qa qb
 have e2:=strO_of q2
 dsimp only at e2
 subst e2
 cases qc
 refine ⟨e,Ω,ρ,_,_,eH,w,rl,q1,fun v e1 x1 w1 i1 => ?_⟩
 rw [Is] at i1
 exact ⟨z,d,i1,q3,fun v hv => kk v e1 x1 w1 (hv _ _)⟩
noncomputable def mtO:D -> Option (List D)
 | .mt xs => some xs
 | _ => none
theorem mtO_of {d:D} {xs:List D} (h:mtO d = some xs):d = .mt xs:=by cases d <;> first | cases h; rfl | cases h
theorem mt_is {K:PySem.W.Frag} {α:List Addr} {F H:Hp} {xs:List D} {v:V} (h:Is K α F (.mt xs) v):∃ a vs,v = .ref a /\ SqT K H a vs /\ IsL K α F xs vs:=by
 rw [Is] at h
 obtain ⟨a,vs,e,q,r⟩:=h
 exact ⟨a,vs,e,.inr q,r⟩
noncomputable def ixM (d e:D):Option D:=(mtO d).bind fun xs => match e with
 | .int i => atI xs i
 | _ => none
theorem ixM_read {K:PySem.W.Frag}:∀ x y H Q,(∃ e Ω d₁ d₂ z,e.H = H /\ Wf K C e Ω /\ Is K e.α e.F d₁ x /\ Is K e.α e.F d₂ y /\ ixM d₁ d₂ = some z /\ ∀ v e',Ext e e' -> Wf K C e' Ω -> Is K e'.α e'.F z v -> Q v e'.H) -> rIxT K x y H Q:=by
 rintro x y H Q ⟨e,Ω,d₁,d₂,z,eH,w,i1,i2,q,kk⟩
 subst eH
 obtain ⟨xs,q1,q2⟩:=Option.bind_eq_some_iff.mp q
 have e1:=mtO_of q1
 subst e1
 cases d₂ with
 | int i =>
  obtain ⟨p,vs,rfl,h1,r1⟩:=mt_is (H:=e.H) i1
  rw [Is] at i2
  subst i2
  obtain ⟨v,e2,i3⟩:=atI_is r1 q2
  exact ⟨p,vs,i,v,rfl,rfl,h1,e2,kk v e (Ext.refl e) w i3⟩
 | _ => cases q2
theorem pd_ixM (ha:PD X C a f) (hb:PD X C b g) (hs:PlainIx b:=by intro _ _; rfl):PD X C (.Subscript a b pos) (gOp ixM f g) :=
 pe_imp (pe_ix L2.ix_tup ha hb hs) fun σ H Q hw => op_read ixM_read hw
noncomputable def lenMt:List D -> Option D
 | [d] => (mtO d).bind fun xs => some (.int xs.length)
 | _ => none
theorem callD_lenMt:CallD X C (.builtin "len") lenMt:=by
 intro pins s σ H xs us Q I r hw
 obtain ⟨e,Ω,ds,z,eH,w,i,q,kk⟩:=hw
 subst eH
 match ds,q with
 | [d],q =>
  obtain ⟨v,rfl,iv⟩:=isL_one i
  obtain ⟨ys,q1,q2⟩:=Option.bind_eq_some_iff.mp q
  have e1:=mtO_of q1
  subst e1
  cases q2
  obtain ⟨p,vs,rfl,h1,r1⟩:=mt_is (H:=e.H) iv
  exact call_len_seq pins s σ _ _ us Q I r ⟨p,vs,rfl,.inr h1,kk _ e (Ext.refl e) w (by rw [Is,r1.length])⟩
noncomputable def slMD (d:D) (lo hi:Option Int):Option D:=(mtO d).bind fun xs => if HT.sIx xs.length 0 lo = 0 /\ HT.sIx xs.length xs.length hi = xs.length then none else some (.tup (cutL xs lo hi))
noncomputable def gSlM (f:Den) (lo hi:PDen):Den:=fun ρ Ω => (f ρ Ω).bind fun p => (lo ρ p.2).bind fun l => (hi ρ l.2).bind fun u => (slMD p.1 l.1 u.1).bind fun z => some (z,u.2)
theorem pd_slM {lo hi:Option Expr} {gl gh:PDen} {p2:Pos} (ha:PD X C a f) (hl:PDO X C lo gl) (hh:PDO X C hi gh):PD X C (.Subscript a (.Slice lo hi none p2) pos) (gSlM f gl gh) :=
 pe_imp (pe_slice sl_tup ha hl hh) fun σ H Q hw' => by
  obtain ⟨e,Ω,ρ,d,Ω',eH,w,rl,e1,kk⟩:=hw'
  unfold gSlM at e1
  obtain ⟨⟨d1,Ω1⟩,q1,e1⟩:=Option.bind_eq_some_iff.mp e1
  obtain ⟨⟨l,Ω2⟩,q2,e1⟩:=Option.bind_eq_some_iff.mp e1
  obtain ⟨⟨u,Ω3⟩,q3,e1⟩:=Option.bind_eq_some_iff.mp e1
  obtain ⟨z,q4,e9⟩:=Option.bind_eq_some_iff.mp e1
  clear e1
  obtain ⟨xs,q5,q6⟩:=Option.bind_eq_some_iff.mp q4
  have e5:=mtO_of q5
  dsimp only at e5
  subst e5
  cases e9
  split at q6
  ·cases q6
  ·rename_i hw
   cases q6
   refine ⟨e,Ω,ρ,.mt xs,Ω1,eH,w,rl,q1,fun v e' x' w' i' => ?_⟩
   refine ⟨e',Ω1,ρ,l,Ω2,rfl,w',rl.ext x',q2,fun e2 x2 w2 => ?_⟩
   refine ⟨e2,Ω2,ρ,u,_,rfl,w2,(rl.ext x').ext x2,q3,fun e3 x3 w3 => ?_⟩
   obtain ⟨p,vs,rfl,h1,r1⟩:=mt_is (H:=e3.H) (i'.ext (x2.trans x3))
   refine ⟨p,vs,rfl,h1,by rw [<- r1.length]; exact hw,fun p' hp => ?_⟩
   refine kk _ (e3.new p' _) (((x'.trans x2).trans x3).trans (w3.new_ext hp)) (w3.new hp) ?_
   rw [Is]
   refine ⟨p',_,rfl,upd_same,?_⟩
   unfold cutL cutV
   rw [<- r1.length]
   exact ((r1.drop _).take _).ext (w3.new_ext hp)
noncomputable def gMtS (g:Den):ADen:=fun ρ Ω => (g ρ Ω).bind fun p => (mtO p.1).bind fun xs => some (xs,p.2)
theorem pdi_mt (h:PD X C iter g):PDI X C tg iter (gMtS g):=pi_imp (pi_tup h) fun σ H R hw' => by
 obtain ⟨e,Ω,ρ,ds,Ω',eH,w,rl,q,k⟩:=hw'
 obtain ⟨⟨d,Ω1⟩,q1,qa⟩:=Option.bind_eq_some_iff.mp q
 obtain ⟨xs,q2,qb⟩:=Option.bind_eq_some_iff.mp qa
 have e2:=mtO_of q2
 dsimp only at e2
 subst e2
 cases qb
 refine ⟨e,Ω,ρ,_,_,eH,w,rl,q1,fun v e' x' w' i' => ?_⟩
 obtain ⟨a,vs,rfl,h1,r1⟩:=mt_is (H:=e'.H) i'
 obtain ⟨_,_,_,h2,_⟩:=mt_is (H:=e'.F) i'
 rw [Is] at i'
 obtain ⟨a',vs',ea,kq,r2⟩:=i'
 cases ea
 exact ⟨a,rfl,⟨vs,h1⟩,k e' _ x' w' (walk_tup (.inr kq) r2)⟩
noncomputable def enumS:List D -> Option (List D)
 | [.str z] => some (enumF 0 (signsD z))
 | _ => none
theorem walk_enumS {K:PySem.W.Frag} {e:E4} {z:Str}:Walk K e (Ites z) (enumF 0 (signsD z)):=by
 intro i e2 ff al fh
 have len:(signsD z).length = z.cps.size:=by simp [signsD]
 refine ⟨fun h => by rw [enumF_length,len] at h; exact h,fun d hd => ?_⟩
 rw [enumF_get] at hd
 cases q1:(signsD z)[i]? with
 | none => rw [q1] at hd; cases hd
 | some x =>
  rw [q1] at hd
  cases hd
  have hl:i < z.cps.size:=by rw [<- len]; exact (List.getElem?_eq_some_iff.mp q1).1
  refine ⟨hl,fun v H' ⟨p,c,e1,e2',e4,e3⟩ => ?_⟩
  subst e1 e3
  have ex:x = D.str ⟨#[c]⟩:=by
   unfold signsD at q1
   rw [List.getElem?_map,Array.getElem?_toList,e4] at q1
   exact (Option.some.inj q1).symm
  subst ex
  have nF:e2.F p = none:=by
   cases q:e2.F p with
   | none => rfl
   | some o => rw [fh p o q] at e2'; cases e2'
  have sm:Same e2.F (e2.new p (.tup [.int i,.str ⟨#[c]⟩])).F:=fun b o hb => by
   show upd e2.F p _ b = some o
   rw [upd_ne (fun z => by rw [z,nF] at hb; cases hb)]
   exact hb
  refine ⟨e2.new p (.tup [.int i,.str ⟨#[c]⟩]),rfl,?_,fun C Ω w => ⟨w.new_ext e2',w.new e2'⟩⟩
  unfold pairD
  rw [Is]
  exact ⟨p,_,rfl,upd_same,.cons (by rw [Is]; simp) (.cons (by rw [Is]) .nil)⟩
theorem pdi_enumS {es:List Expr} {kk:Nat} {pt:Pos} (hg:Gl X "enumerate") (hm:X.mg "enumerate" = none) (ha:PDA X C [a] ga) (hs:starEach [a] X.env = [(false,eval a X.env)]:=by rfl) :
  PDI X C (.Tuple es kk pt) (.Call (.Name "enumerate" p) [a] [] pos) (gRng enumS ga) :=
 pi_imp (pi_enumS hg hm ha hs) fun σ H R hw' => by
  obtain ⟨e,Ω,ρ,ds,Ω',eH,w,rl,q,k⟩:=hw'
  unfold gRng at q
  cases q1:ga ρ Ω with
  | none => rw [q1] at q; cases q
  | some p1 =>
   obtain ⟨fs,Ω1⟩:=p1
   rw [q1] at q
   dsimp only at q
   refine ⟨e,Ω,ρ,fs,Ω1,eH,w,rl,q1,fun v e' x' w' i' => ?_⟩
   match fs,q,i' with
   | [.str z],q,i' =>
    have ez:enumS [.str z] = some (enumF 0 (signsD z)):=rfl
    rw [ez] at q
    cases q
    obtain ⟨v1,rfl,iv1⟩:=isL_one i'
    rw [Is] at iv1
    exact ⟨z,by rw [iv1],k e' _ x' w' walk_enumS⟩
noncomputable def lstO:D -> Option (List D)
 | .lst xs => some xs
 | _ => none
theorem lstO_of {d:D} {xs:List D} (h:lstO d = some xs):d = .lst xs:=by cases d <;> first | cases h; rfl | cases h
noncomputable def bLst (is:List Nat):BDen:=fun d ρ => (lstO d).bind fun ds => bNames is ds ρ
theorem pdg_lst {es:List Expr} {k:Nat} {is:List Nat} (hc:X.calm = true) (h:PDGs X C es is)
  (hn:(assignEach es X.env).length = is.length:=by rfl) (hst:(assignEach es X.env).findIdx? (·.1) = none:=by rfl):PDG X C (.Tuple es k pos) (bLst is):=by
 refine pg_imp (pg_lst hc h hn hst) fun v σ H Q hw' => ?_
 obtain ⟨e,Ω,ρ,d,ρ',eH,w,r,il,b,k⟩:=hw'
 subst eH
 obtain ⟨ds,q1,b⟩:=Option.bind_eq_some_iff.mp b
 have e1:=lstO_of q1
 subst e1
 rw [Is] at il
 obtain ⟨a,vs,rfl,e1,i1⟩:=il
 exact ⟨a,vs,rfl,SqL.of (w.fh _ _ e1),by rw [<- i1.length]; exact bNames_len b,e,Ω,ρ,ds,ρ',rfl,w,r,i1,b,k⟩
end
noncomputable def mulS0:D -> D -> Option D
 | .str z,.int k => if 0 <= k /\ k <= 1000 /\ 0 < z.length /\ z.length <= 100 then some (.str (Txt.mul z k)) else none
 | _,_ => none
theorem opD_mulS0 {X:Cx} {C:Cl}:OpD X C (binaryOp .Mult) mulS0:=by
 rintro pins s σ H x y v u Q I rx ry ⟨e,Ω,d₁,d₂,z,eH,w,i1,i2,q,kk⟩
 subst eH
 cases d₁ with
 | str p =>
  cases d₂ with
  | int k =>
   have ez:mulS0 (.str p) (.int k) = if 0 <= k /\ k <= 1000 /\ 0 < p.length /\ p.length <= 100 then some (.str (Txt.mul p k)) else none:=rfl
   rw [ez] at q
   by_cases hk:0 <= k /\ k <= 1000 /\ 0 < p.length /\ p.length <= 100
   ·rw [if_pos hk] at q
    cases q
    rw [Is] at i1
    rw [Is] at i2
    subst i1 i2
    obtain ⟨t,rfl⟩:=rx
    obtain ⟨t2,rfl⟩:=ry
    refine SB.mul ⟨?_,fun n1 n2 => ?_,fun _ _ => ?_⟩ fun t' tk => ⟨.str _,e.H,I.tok tk,⟨t',rfl⟩,kk _ e (Ext.refl e) w (by rw [Is])⟩
    ·have a1:¬ k < -(2 ^ 63:Int):=by omega
     have a2:¬ k ≥ (2:Int) ^ 63:=by omega
     simp only [a1,a2,decide_false,Bool.or_false]
    ·have:(2 ^ 63 - 1) / 1000 <= (2 ^ 63 - 1:Int) / k:=by
      have h1:(2 ^ 63 - 1:Int) / 1000 * k <= 2 ^ 63 - 1:=by
       have:((2:Int) ^ 63 - 1) / 1000 = 9223372036854775:=by decide
       rw [this]; omega
      exact (Int.le_ediv_iff_mul_le (by omega)).mpr h1
     have e2:((2:Int) ^ 63 - 1) / 1000 = 9223372036854775:=by decide
     rw [e2] at this
     have hz:(p.length:Int) <= 100:=by omega
     omega
    ·have h1:p.length * k.toNat <= 100 * 1000:=Nat.mul_le_mul (by omega) (by omega)
     show decide (p.length * k.toNat > sizeLine) = false
     rw [decide_eq_false_iff_not,sizeLine_eq]
     omega
   ·rw [if_neg hk] at q; cases q
  | _ => cases q
 | _ => cases q
end DL
namespace Law
open PySem DL
noncomputable def tcf_BadText:Str -> Bool:=fun c => decide (c = "BadText")
noncomputable def g_BOUNDS:List (Str × D):=[("COUNT",.mt [.int 1,.int 32]),("H",.mt [.int 0,.int 31]),("LENGTH",.mt [.int 1,.int 99]),("N",.mt [.int 0,.int 999999999])]
noncomputable def g_FORMS:D:=.mt [.mt [.str "net",.str "COUNT"],.mt [.str "own",.str "H",.str "BEGINNING"],.mt [.str "come",.str "H",.str "H",.str "LENGTH"],.mt [.str "fall",.str "H",.str "H"],.mt [.str "carry",.str "H",.str "H"],.mt [.str "rest"],.mt [.str "rest",.str "N"],.mt [.str "table",.str "H"],.mt [.str "road",.str "H",.str "ADDRESS"],.mt [.str "way",.str "H",.str "H"],.mt [.str "ties"],.mt [.str "waiting"]]
noncomputable def d_l_cell_at:FDen:=runD 2 2 (sSeq (sIf (gT (gOp ltD (gVar 1) (gCB lenD (gCons (gVar 0) gNil)))) (sRet (gOp ixD (gVar 0) (gVar 1))) sNext) (sRet (gC (.int 0))))
noncomputable def d_l_draws:FDen:=runD 2 5 (sSeq (sOwn 2 gNil) (sSeq (sSet 3 (gCB lenD (gCons (gVar 0) gNil))) (sSeq (sFor (gRng rng1 (gCons (gVar 1) gNil)) (bName 4) (sSeq (sSet 3 (gOp modD (gOp addD (gOp addD (gOp addD (gOp mulD (gVar 3) (gC (.int 1000003))) (gCall d_l_cell_at (gCons (gVar 0) (gCons (gVar 4) gNil)))) (gOp mulD (gC (.int 104729)) (gVar 4))) (gOp mulD (gOp mulD (gC (.int 7919)) (gVar 4)) (gVar 4))) (gC (.int 998244353)))) (sApp 2 (gOp divD (gOp modD (gOp mulD (gOp modD (gOp mulD (gVar 3) (gVar 3)) (gC (.int 998244353))) (gC (.int 48271))) (gC (.int 2147483647))) (gC (.int 13)))))) (sGhost (frz 2) (sRet (gVar 2))))))
noncomputable def d_l_beginning:FDen:=runD 1 7 (sSeq (sSet 1 (gOp ixD (gLst (gCons (gOp modD (gOp divD (gVar 0) (gC (.int 17))) (gC (.int 17))) (gCons (gC (.int 16)) (gCons (gC (.int 0)) (gCons (gOp modD (gOp divD (gVar 0) (gC (.int 17))) (gC (.int 4))) gNil))))) (gOp modD (gVar 0) (gC (.int 4))))) (sSeq (sSet 2 (gOp modD (gOp divD (gVar 0) (gC (.int 68))) (gC (.int 65536)))) (sSeq (sOwn 3 gNil) (sSeq (sFor (gRng rng1 (gCons (gVar 1) gNil)) (bName 4) (sApp 3 (gOp ixD (gC (.str "01")) (gOp modD (gOp divD (gOp divD (gVar 2) (gOp ixD (gLst (gCons (gC (.int 1)) (gCons (gC (.int 2)) (gCons (gC (.int 4)) (gCons (gC (.int 8)) (gCons (gC (.int 16)) (gCons (gC (.int 32)) (gCons (gC (.int 64)) (gCons (gC (.int 128)) gNil))))))))) (gOp modD (gVar 4) (gC (.int 8))))) (gOp ixD (gLst (gCons (gC (.int 1)) (gCons (gC (.int 256)) gNil))) (gOp divD (gVar 4) (gC (.int 8))))) (gC (.int 2)))))) (sSeq (sSet 5 (gC (.int 0))) (sGhost (frz 3) (sSeq (sFor (gSeq (gVar 3)) (bName 6) (sSet 5 (gOp addD (gOp mulD (gC (.int 2)) (gVar 5)) (gCB int1D (gCons (gOp (eqD false) (gVar 6) (gC (.str "1"))) gNil))))) (sRet (gTup (gCons (gTup (gCons (gVar 5) (gCons (gVar 1) gNil))) (gCons (gOp addD (gOp joinD (gC (.str "")) (gVar 3)) (gOp ixD (gLst (gCons (gC (.str "*")) (gCons (gC (.str "")) gNil))) (gCB int1D (gCons (gOp (eqD false) (gVar 1) (gC (.int 16))) gNil)))) gNil)))))))))))
noncomputable def d_l_part:FDen:=runD 2 6 (sSeq (sIf (gT (gOp (eqD false) (gVar 0) (gC (.str "B")))) (sRet (gCall d_l_beginning (gCons (gVar 1) gNil))) sNext) (sSeq (sIf (gT (gOp (eqD false) (gVar 0) (gC (.str "A")))) (sSeq (sSet 2 (gOp ixD (gLst (gCons (gOp modD (gOp divD (gVar 1) (gC (.int 3))) (gC (.int 256))) (gCons (gC (.int 0)) (gCons (gC (.int 255)) gNil)))) (gOp modD (gVar 1) (gC (.int 3))))) (sSeq (sSet 3 (gOp ixD (gLst (gCons (gOp modD (gOp divD (gVar 1) (gC (.int 768))) (gC (.int 256))) (gCons (gC (.int 255)) (gCons (gC (.int 0)) gNil)))) (gOp modD (gOp divD (gVar 1) (gC (.int 5))) (gC (.int 3))))) (sRet (gTup (gCons (gOp addD (gOp mulD (gC (.int 256)) (gVar 2)) (gVar 3)) (gCons (gOp addD (gOp addD (gCB str1D (gCons (gVar 2) gNil)) (gC (.str "."))) (gCB str1D (gCons (gVar 3) gNil))) gNil)))))) sNext) (sSeq (sSet 3 (gDGet (gDisp [("H",(gC (.int 0))),("L",(gC (.int 1))),("C",(gC (.int 1))),("N",(gC (.int 0)))]) (gVar 0))) (sSeq (sSet 4 (gDGet (gDisp [("H",(gC (.int 32))),("L",(gC (.int 99))),("C",(gC (.int 32))),("N",(gOp powD (gC (.int 10)) (gC (.int 9))))]) (gVar 0))) (sSeq (sSet 5 (gOp ixD (gLst (gCons (gOp addD (gVar 3) (gOp modD (gOp divD (gVar 1) (gC (.int 3))) (gVar 4))) (gCons (gVar 3) (gCons (gOp subD (gOp addD (gVar 3) (gVar 4)) (gC (.int 1))) gNil)))) (gOp modD (gVar 1) (gC (.int 3))))) (sRet (gTup (gCons (gVar 5) (gCons (gCB str1D (gCons (gVar 5) gNil)) gNil)))))))))
noncomputable def d_l_row:FDen:=runD 2 11 (sSeq (sSet 2 (gLst (gCons (gC (.str "net C")) (gCons (gC (.str "own HB")) (gCons (gC (.str "come HHL")) (gCons (gC (.str "fall HH")) (gCons (gC (.str "carry HH")) (gCons (gC (.str "rest ")) (gCons (gC (.str "rest N")) (gCons (gC (.str "table H")) (gCons (gC (.str "road HA")) (gCons (gC (.str "way HH")) gNil)))))))))))) (sSeq (sAsg (bLst [3,4]) (gOp splD (gOp ixD (gOp addD (gVar 2) (gLst (gCons (gC (.str "ties ")) (gCons (gC (.str "waiting ")) gNil)))) (gOp modD (gVar 0) (gC (.int 12)))) (gC (.str " ")))) (sSeq (sOwn 5 (gCons (gVar 3) gNil)) (sSeq (sOwn 6 (gCons (gVar 3) gNil)) (sSeq (sFor (gRng enumS (gCons (gVar 4) gNil)) (bTup [7,8]) (sSeq (sAsg (bTup [9,10]) (gCall d_l_part (gCons (gVar 8) (gCons (gOp divD (gVar 1) (gOp ixD (gLst (gCons (gC (.int 1)) (gCons (gC (.int 1009)) (gCons (gC (.int 65537)) gNil)))) (gVar 7))) gNil)))) (sSeq (sApp 5 (gVar 9)) (sApp 6 (gVar 10))))) (sGhost (frz 5) (sGhost (frz 6) (sRet (gTup (gCons (gVar 6) (gCons (gVar 5) (gCons (gVar 4) gNil))))))))))))
noncomputable def d_l_written:FDen:=runD 2 5 (sSeq (sSet 2 (gOp ixD (gLst (gCons (gC (.str "")) (gCons (gC (.str " ")) (gCons (gC (.str "  ")) gNil)))) (gOp modD (gVar 1) (gC (.int 3))))) (sSeq (sFor (gRng enumD (gCons (gVar 0) gNil)) (bTup [3,4]) (sSeq (sSet 2 (gOp addD (gVar 2) (gVar 4))) (sIf (gT (gOp ltD (gOp addD (gVar 3) (gC (.int 1))) (gCB lenD (gCons (gVar 0) gNil)))) (sSet 2 (gOp addD (gVar 2) (gOp mulS0 (gC (.str " ")) (gOp addD (gC (.int 1)) (gOp modD (gOp divD (gVar 1) (gOp ixD (gLst (gCons (gC (.int 3)) (gCons (gC (.int 9)) (gCons (gC (.int 27)) (gCons (gC (.int 81)) gNil))))) (gOp modD (gVar 3) (gC (.int 4))))) (gC (.int 3))))))) sNext))) (sRet (gOp addD (gVar 2) (gOp ixD (gLst (gCons (gC (.str "")) (gCons (gC (.str " ")) (gCons (gC (.str "   ")) gNil)))) (gOp modD (gOp divD (gVar 1) (gC (.int 243))) (gC (.int 3))))))))
noncomputable def d_need_text:FDen:=runD 1 1 (sIf (gNotT (gT (gUn (instD "str") (gVar 0)))) sNever sNext)
noncomputable def r_need_text:XFDen:=runR 1 1 (rIf (gNotT (gT (gUn (instD "str") (gVar 0)))) (rRaiseV "BadText" (pOf (gC (.str "no text")))) rNever)
noncomputable def d_words_of:FDen:=runD 1 1 (sRet (gComp [none] (gSeq (gOp splD (gVar 0) (gC (.str " ")))) (bName 0) (gT (gOp (eqD true) (gVar 0) (gC (.str "")))) (gVar 0)))
noncomputable def d_form_of:FDen:=runD 1 2 (sSeq (sFor (gMtS (gC g_FORMS)) (bName 1) (sIf (gAndT (gT (gOp (eqD false) (gCB lenMt (gCons (gVar 1) gNil)) (gCB lenD (gCons (gVar 0) gNil)))) (gT (gOp (eqD false) (gOp ixM (gVar 1) (gC (.int 0))) (gOp ixD (gVar 0) (gC (.int 0)))))) (sRet (gVar 1)) sNext)) (sRet (gC .non)))
noncomputable def d_are_figures:FDen:=runD 2 2 (sSeq (sIf (gOrT (gT (gOp ltD (gCB lenD (gCons (gVar 0) gNil)) (gC (.int 1)))) (gT (gOp gtD (gCB lenD (gCons (gVar 0) gNil)) (gVar 1)))) (sRet (gC (.bl false))) sNext) (sRet (gAndV (gCB allD (gCons (gComp [none] (gTx (gVar 0)) (bName 0) gTrue (gOp (inSD false) (gVar 0) (gC (.str "0123456789")))) gNil)) (gOp (eqD false) (gCB str1D (gCons (gCB int1S (gCons (gVar 0) gNil)) gNil)) (gVar 0)))))
noncomputable def d_read_number:FDen:=runD 2 2 (sSeq (sIf (gOrT (gNotT (gT (gCall d_are_figures (gCons (gVar 0) (gCons (gC (.int 9)) gNil))))) (gNotT (gT (gChain leD leD (gOp ixM (gVar 1) (gC (.int 0))) (gCB int1S (gCons (gVar 0) gNil)) (gOp ixM (gVar 1) (gC (.int 1))))))) sNever sNext) (sRet (gCB int1S (gCons (gVar 0) gNil))))
noncomputable def r_read_number:XFDen:=runR 2 2 (rIf (gOrT (gNotT (gT (gCall d_are_figures (gCons (gVar 0) (gCons (gC (.int 9)) gNil))))) (gNotT (gT (gChain leD leD (gOp ixM (gVar 1) (gC (.int 0))) (gCB int1S (gCons (gVar 0) gNil)) (gOp ixM (gVar 1) (gC (.int 1))))))) (rRaiseV "BadText" (pFrs (gVar 0))) rNever)
noncomputable def d_read_beginning:FDen:=runD 1 5 (sSeq (sSet 1 (gOp endsD (gVar 0) (gC (.str "*")))) (sSeq (sSet 2 (gIf (gT (gVar 1)) (gSlS (gVar 0) gNoPart (gPart (gNeg (gC (.int 1))))) (gVar 0))) (sSeq (sIf (gOrT (gT (gOp (eqD false) (gVar 1) (gOp (eqD false) (gCB lenD (gCons (gVar 2) gNil)) (gC (.int 16))))) (gT (gOp gtD (gCB lenD (gCons (gVar 2) gNil)) (gC (.int 16))))) sNever sNext) (sSeq (sSet 3 (gC (.int 0))) (sSeq (sFor (gTx (gVar 2)) (bName 4) (sSeq (sIf (gT (gOp (inSD true) (gVar 4) (gC (.str "01")))) sNever sNext) (sSet 3 (gOp addD (gOp mulD (gVar 3) (gC (.int 2))) (gIf (gT (gOp (eqD false) (gVar 4) (gC (.str "1")))) (gC (.int 1)) (gC (.int 0))))))) (sRet (gTup (gCons (gVar 3) (gCons (gCB lenD (gCons (gVar 2) gNil)) gNil)))))))))
noncomputable def r_read_beginning:XFDen:=runR 1 5 (rThen (sSet 1 (gOp endsD (gVar 0) (gC (.str "*")))) (rThen (sSet 2 (gIf (gT (gVar 1)) (gSlS (gVar 0) gNoPart (gPart (gNeg (gC (.int 1))))) (gVar 0))) (rOr (rIf (gOrT (gT (gOp (eqD false) (gVar 1) (gOp (eqD false) (gCB lenD (gCons (gVar 2) gNil)) (gC (.int 16))))) (gT (gOp gtD (gCB lenD (gCons (gVar 2) gNil)) (gC (.int 16))))) (rRaiseV "BadText" (pFrs (gVar 0))) rNever) (rThen (sIf (gOrT (gT (gOp (eqD false) (gVar 1) (gOp (eqD false) (gCB lenD (gCons (gVar 2) gNil)) (gC (.int 16))))) (gT (gOp gtD (gCB lenD (gCons (gVar 2) gNil)) (gC (.int 16))))) sNever sNext) (rThen (sSet 3 (gC (.int 0))) (rFor (gTx (gVar 2)) (bName 4) (sSeq (sIf (gT (gOp (inSD true) (gVar 4) (gC (.str "01")))) sNever sNext) (sSet 3 (gOp addD (gOp mulD (gVar 3) (gC (.int 2))) (gIf (gT (gOp (eqD false) (gVar 4) (gC (.str "1")))) (gC (.int 1)) (gC (.int 0)))))) (rIf (gT (gOp (inSD true) (gVar 4) (gC (.str "01")))) (rRaiseV "BadText" (pFrs (gVar 0))) rNever)))))))
noncomputable def d_is_eight_bits:FDen:=runD 1 1 (sRet (gAndV (gCall d_are_figures (gCons (gVar 0) (gCons (gC (.int 3)) gNil))) (gOp leD (gCB int1S (gCons (gVar 0) gNil)) (gC (.int 255)))))
noncomputable def d_read_address:FDen:=runD 1 2 (sSeq (sSet 1 (gOp splD (gVar 0) (gC (.str ".")))) (sSeq (sIf (gOrT (gT (gOp (eqD true) (gCB lenD (gCons (gVar 1) gNil)) (gC (.int 2)))) (gNotT (gT (gCB allD (gCons (gComp [none] (gSeq (gVar 1)) (bName 0) gTrue (gCall d_is_eight_bits (gCons (gVar 0) gNil))) gNil))))) sNever sNext) (sRet (gOp addD (gOp mulD (gCB int1S (gCons (gOp ixD (gVar 1) (gC (.int 0))) gNil)) (gC (.int 256))) (gCB int1S (gCons (gOp ixD (gVar 1) (gC (.int 1))) gNil))))))
noncomputable def r_read_address:XFDen:=runR 1 2 (rThen (sSet 1 (gOp splD (gVar 0) (gC (.str ".")))) (rIf (gOrT (gT (gOp (eqD true) (gCB lenD (gCons (gVar 1) gNil)) (gC (.int 2)))) (gNotT (gT (gCB allD (gCons (gComp [none] (gSeq (gVar 1)) (bName 0) gTrue (gCall d_is_eight_bits (gCons (gVar 0) gNil))) gNil))))) (rRaiseV "BadText" (pFrs (gVar 0))) rNever))
noncomputable def d_read_part:FDen:=runD 2 2 (sSeq (sIf (gT (gOp (eqD false) (gVar 0) (gC (.str "BEGINNING")))) (sRet (gCall d_read_beginning (gCons (gVar 1) gNil))) sNext) (sSeq (sIf (gT (gOp (eqD false) (gVar 0) (gC (.str "ADDRESS")))) (sRet (gCall d_read_address (gCons (gVar 1) gNil))) sNext) (sRet (gCall d_read_number (gCons (gVar 1) (gCons (gTab g_BOUNDS (gVar 0)) gNil))))))
noncomputable def r_read_part:XFDen:=runR 2 2 (rOr (rIf (gT (gOp (eqD false) (gVar 0) (gC (.str "BEGINNING")))) (rE (rCall r_read_beginning (gCons (gVar 1) gNil))) rNever) (rThen (sIf (gT (gOp (eqD false) (gVar 0) (gC (.str "BEGINNING")))) (sRet (gCall d_read_beginning (gCons (gVar 1) gNil))) sNext) (rOr (rIf (gT (gOp (eqD false) (gVar 0) (gC (.str "ADDRESS")))) (rE (rCall r_read_address (gCons (gVar 1) gNil))) rNever) (rThen (sIf (gT (gOp (eqD false) (gVar 0) (gC (.str "ADDRESS")))) (sRet (gCall d_read_address (gCons (gVar 1) gNil))) sNext) (rE (rCall r_read_number (gCons (gVar 1) (gCons (gTab g_BOUNDS (gVar 0)) gNil))))))))
noncomputable def d_asked_by:FDen:=runD 1 4 (sSeq (sExpr (gCall d_need_text (gCons (gVar 0) gNil))) (sSeq (sSet 1 (gCall d_words_of (gCons (gVar 0) gNil))) (sSeq (sSet 2 (gCall d_form_of (gCons (gVar 1) gNil))) (sSeq (sIf (gT (gOp (isD false) (gVar 2) (gC .non))) (sRet (gC .non)) sNext) (sSeq (sTryU (sSet 3 (gComp [none,none] (gRng zipD (gCons (gSlM (gVar 2) (gPart (gC (.int 1))) gNoPart) (gCons (gSl (gVar 1) (gPart (gC (.int 1))) gNoPart) gNil))) (bTup [0,1]) gTrue (gCall d_read_part (gCons (gVar 0) (gCons (gVar 1) gNil))))) (rE (rComp [none,none] (gRng zipD (gCons (gSlM (gVar 2) (gPart (gC (.int 1))) gNoPart) (gCons (gSl (gVar 1) (gPart (gC (.int 1))) gNoPart) gNil))) (bTup [0,1]) gTrue (gCall d_read_part (gCons (gVar 0) (gCons (gVar 1) gNil))) (rCall r_read_part (gCons (gVar 0) (gCons (gVar 1) gNil))))) tcf_BadText (sRet (gC .non))) (sRet (gOp addTD (gTup (gCons (gOp ixM (gVar 2) (gC (.int 0))) gNil)) (gCB tuple1D (gCons (gVar 3) gNil)))))))))
noncomputable def r_asked_by:XFDen:=runR 1 4 (rE (rCall r_need_text (gCons (gVar 0) gNil)))
noncomputable def d_l_whole:FDen:=runD 1 1 (sRet (gAndV (gUn (instD "int") (gVar 0)) (gNotV (gUn (instD "bool") (gVar 0)))))
noncomputable def d_l_alike:FDen:=runD 2 3 (sSeq (sIf (gOrT (gNotT (gT (gUn (instD "tuple") (gVar 0)))) (gOrT (gT (gOp (eqD true) (gCB lenD (gCons (gVar 0) gNil)) (gCB lenD (gCons (gVar 1) gNil)))) (gT (gOp (eqD true) (gCB list1D (gCons (gVar 0) gNil)) (gVar 1))))) (sRet (gC (.bl false))) sNext) (sSeq (sFor (gTupS (gSlT (gVar 0) (gPart (gC (.int 1))) gNoPart)) (bName 2) (sIf (gT (gUn (instD "tuple") (gVar 2))) (sIf (gNotT (gT (gCB allD (gCons (gComp [none] (gTupS (gVar 2)) (bName 0) gTrue (gCall d_l_whole (gCons (gVar 0) gNil))) gNil)))) (sRet (gC (.bl false))) sNext) (sIf (gNotT (gT (gCall d_l_whole (gCons (gVar 2) gNil)))) (sRet (gC (.bl false))) sNext))) (sRet (gUn (instD "str") (gOp ixD (gVar 0) (gC (.int 0)))))))
noncomputable def d_l_wrong_word:FDen:=runD 2 5 (sSeq (sSet 2 (gLst (gCons (gC (.str "-1")) (gCons (gC (.str "+1")) (gCons (gC (.str "01")) (gCons (gC (.str "1.0")) (gCons (gC (.str "1a")) (gCons (gC (.str "a")) (gCons (gC (.str "1234567890")) (gCons (gC (.str "00")) (gCons (gC (.str "1_0")) gNil))))))))))) (sSeq (sIf (gT (gOp (eqD false) (gVar 0) (gC (.str "B")))) (sSeq (sSet 3 (gLst (gCons (gC (.str "2*")) (gCons (gC (.str "1")) (gCons (gC (.str "0*1")) (gCons (gC (.str "**")) (gCons (gC (.str "00000000000000001")) (gCons (gC (.str "0000000000000000*")) (gCons (gC (.str "01")) (gCons (gC (.str "*0")) (gCons (gC (.str "0x*")) (gCons (gC (.str "1.1")) gNil)))))))))))) (sRet (gOp ixD (gVar 3) (gOp modD (gVar 1) (gC (.int 10)))))) sNext) (sSeq (sIf (gT (gOp (eqD false) (gVar 0) (gC (.str "A")))) (sSeq (sSet 3 (gLst (gCons (gC (.str "0")) (gCons (gC (.str "1.2.3")) (gCons (gC (.str "256.0")) (gCons (gC (.str "0.256")) (gCons (gC (.str "01.0")) (gCons (gC (.str "0.00")) (gCons (gC (.str "a.b")) (gCons (gC (.str ".1")) (gCons (gC (.str "1.")) (gCons (gC (.str "-1.0")) (gCons (gC (.str "0,0")) (gCons (gC (.str "1000.1")) gNil)))))))))))))) (sRet (gOp ixD (gVar 3) (gOp modD (gVar 1) (gC (.int 12)))))) sNext) (sSeq (sSet 4 (gDGet (gDisp [("H",(gLst (gCons (gC (.str "32")) (gCons (gC (.str "100")) gNil)))),("L",(gLst (gCons (gC (.str "0")) (gCons (gC (.str "100")) gNil)))),("C",(gLst (gCons (gC (.str "0")) (gCons (gC (.str "33")) gNil)))),("N",(gLst (gCons (gC (.str "1000000000")) (gCons (gC (.str "0000000001")) gNil))))]) (gVar 0))) (sRet (gOp ixD (gOp addD (gVar 2) (gVar 4)) (gOp modD (gVar 1) (gC (.int 11)))))))))
noncomputable def d_l_spoilt:FDen:=runD 3 4 (sSeq (sSet 3 (gOp modD (gOp divD (gVar 2) (gC (.int 5))) (gCB lenD (gCons (gVar 0) gNil)))) (sSeq (sIf (gAndT (gT (gOp ltD (gOp modD (gVar 2) (gC (.int 5))) (gC (.int 3)))) (gT (gOp gtD (gCB lenD (gCons (gVar 1) gNil)) (gC (.int 0))))) (sSeq (sSet 3 (gOp modD (gOp divD (gVar 2) (gC (.int 5))) (gCB lenD (gCons (gVar 1) gNil)))) (sRet (gOp addD (gOp addD (gSl (gVar 0) gNoPart (gPart (gOp addD (gVar 3) (gC (.int 1))))) (gLst (gCons (gCall d_l_wrong_word (gCons (gOp ixD (gVar 1) (gVar 3)) (gCons (gOp divD (gVar 2) (gC (.int 20))) gNil))) gNil))) (gSl (gVar 0) (gPart (gOp addD (gVar 3) (gC (.int 2)))) gNoPart)))) sNext) (sSeq (sIf (gT (gOp (eqD false) (gOp modD (gVar 2) (gC (.int 5))) (gC (.int 3)))) (sIf (gOrT (gT (gOp (eqD true) (gOp ixD (gVar 0) (gC (.int 0))) (gC (.str "rest")))) (gT (gOp (eqD false) (gCB lenD (gCons (gVar 0) gNil)) (gC (.int 2))))) (sRet (gOp addD (gOp addD (gSl (gVar 0) gNoPart (gPart (gOp addD (gVar 3) (gC (.int 1))))) (gLst (gCons (gOp ixD (gLst (gCons (gC (.str "0")) (gCons (gC (.str "x")) (gCons (gC (.str "*")) (gCons (gC (.str "1.1")) gNil))))) (gOp modD (gOp divD (gVar 2) (gC (.int 20))) (gC (.int 4)))) gNil))) (gSl (gVar 0) (gPart (gOp addD (gVar 3) (gC (.int 1)))) gNoPart))) sNext) sNext) (sSeq (sIf (gAndT (gT (gOp (eqD false) (gOp modD (gVar 2) (gC (.int 5))) (gC (.int 4)))) (gAndT (gT (gOp gtD (gCB lenD (gCons (gVar 1) gNil)) (gC (.int 0)))) (gT (gOp (eqD true) (gOp ixD (gVar 0) (gC (.int 0))) (gC (.str "rest")))))) (sRet (gSl (gVar 0) gNoPart (gPart (gNeg (gC (.int 1)))))) sNext) (sRet (gOp addD (gLst (gCons (gOp addD (gOp ixD (gLst (gCons (gC (.str "Net")) (gCons (gC (.str "nets")) (gCons (gC (.str "own:")) (gCons (gC (.str "comes")) (gCons (gC (.str "")) (gCons (gC (.str "tie")) (gCons (gC (.str "REST")) (gCons (gC (.str "go")) gNil))))))))) (gOp modD (gOp divD (gVar 2) (gC (.int 20))) (gC (.int 8)))) (gC (.str "t"))) gNil)) (gSl (gVar 0) (gPart (gC (.int 1))) gNoPart)))))))
noncomputable def d_law:FDen:=runD 1 8 (sSeq (sSet 1 (gCall d_l_draws (gCons (gVar 0) (gCons (gOp mulD (gC (.int 3)) (gOp addD (gOp addD (gC (.int 1)) (gCB min2D (gCons (gC (.int 40)) (gCons (gCB lenD (gCons (gVar 0) gNil)) gNil)))) (gOp modD (gCall d_l_cell_at (gCons (gVar 0) (gCons (gC (.int 0)) gNil))) (gC (.int 6))))) gNil)))) (sSeq (sFor (gRng rng1 (gCons (gOp divD (gCB lenD (gCons (gVar 1) gNil)) (gC (.int 3))) gNil)) (bName 2) (sSeq (sSet 3 (gOp ixD (gVar 1) (gOp mulD (gC (.int 3)) (gVar 2)))) (sSeq (sAsg (bTup [4,5,6]) (gCall d_l_row (gCons (gVar 3) (gCons (gOp ixD (gVar 1) (gOp addD (gOp mulD (gC (.int 3)) (gVar 2)) (gC (.int 1)))) gNil)))) (sSeq (sSet 7 (gCall d_l_written (gCons (gVar 4) (gCons (gOp ixD (gVar 1) (gOp addD (gOp mulD (gC (.int 3)) (gVar 2)) (gC (.int 2)))) gNil)))) (sSeq (sIf (gNotT (gT (gCall d_l_alike (gCons (gCall d_asked_by (gCons (gVar 7) gNil)) (gCons (gVar 5) gNil))))) (sRet (gC (.bl false))) sNext) (sIf (gT (gOp (eqD false) (gOp modD (gOp divD (gVar 3) (gC (.int 12))) (gC (.int 2))) (gC (.int 1)))) (sSeq (sSet 7 (gCall d_l_written (gCons (gCall d_l_spoilt (gCons (gVar 4) (gCons (gVar 6) (gCons (gOp divD (gOp ixD (gVar 1) (gOp addD (gOp mulD (gC (.int 3)) (gVar 2)) (gC (.int 2)))) (gC (.int 729))) gNil)))) (gCons (gOp divD (gVar 3) (gC (.int 24))) gNil)))) (sIf (gT (gOp (isD true) (gCall d_asked_by (gCons (gVar 7) gNil)) (gC .non))) (sRet (gC (.bl false))) sNext)) sNext)))))) (sRet (gOp (isD false) (gCall d_asked_by (gCons (gOp mulS0 (gC (.str " ")) (gOp modD (gOp ixD (gVar 1) (gC (.int 0))) (gC (.int 4)))) gNil)) (gC .non)))))
end Law
namespace Law
open PySem DL L2
theorem str_ext {a b:Str} (h:a.cps = b.cps):a = b:=by cases a; cases b; cases h; rfl
noncomputable def tx (cs:List Nat):Str:=⟨cs.toArray⟩
theorem tx_app (a b:List Nat):tx a ++ tx b = tx (a ++ b):=str_ext (by show (tx a).cps ++ (tx b).cps = _; simp [tx])
@[simp] theorem tx_len (cs:List Nat):(tx cs).length = cs.length:=by simp [tx,Str.length]
theorem tx_of (x:Str):x = tx x.cps.toList:=str_ext (by simp [tx])
theorem tx_nil:(("":String):Str) = tx []:=by decide +kernel
theorem tx_star:(("*":String):Str) = tx [42]:=by decide +kernel
theorem tx_01:(("01":String):Str) = tx [48,49]:=by decide +kernel
theorem tx_1:(("1":String):Str) = tx [49]:=by decide +kernel
theorem tx_dot:((".":String):Str) = tx [46]:=by decide +kernel
theorem tx_fig:(("0123456789":String):Str) = tx [48,49,50,51,52,53,54,55,56,57]:=by decide +kernel
theorem tx_inj {a b:List Nat} (h:tx a = tx b):a = b:=by
 have:=congrArg (fun x:Str => x.cps.toList) h
 simpa [tx] using this
theorem signs_tx (cs:List Nat):signsD (tx cs) = cs.map fun c => D.str (tx [c]):=by
 unfold signsD tx
 simp
theorem glue_ones:∀ (cs:List Nat) (acc:Array Nat),(cs.map fun c => tx [c]).foldl (fun acc p => acc ++ (tx []).cps ++ p.cps) acc = acc ++ cs.toArray
 | [],acc => by simp
 | c :: cs,acc => by
  rw [List.map_cons,List.foldl_cons,glue_ones cs]
  simp [tx]
theorem join_ones (cs:List Nat):Txt.join (tx []) (cs.map fun c => tx [c]) = tx cs:=by
 cases cs with
 | nil => exact str_ext (by simp [Txt.join,Builtin.Str.glued,tx,Str.empty])
 | cons c cs =>
  refine str_ext ?_
  show ((((c :: cs).map fun c => tx [c]).drop 1).foldl (fun acc p => acc ++ (tx []).cps ++ p.cps) ((((c :: cs).map fun c => tx [c]).headD Str.empty).cps)) = _
  rw [List.map_cons,List.drop_one,List.tail_cons,glue_ones]
  simp [tx]
theorem sum_ones:∀ (cs:List Nat) (a:Nat),(cs.map fun c => tx [c]).foldl (fun (n:Nat) (t:Str) => n + t.length + (tx []).length) a = a + cs.length
 | [],a => by simp
 | c :: cs,a => by
  rw [List.map_cons,List.foldl_cons,sum_ones cs]
  simp
  omega
theorem joinOk_ones {cs:List Nat} (h:cs.length <= 1000):JoinOk (tx []) (cs.map fun c => tx [c]) = true:=by
 unfold JoinOk
 rw [List.foldl_toArray',sum_ones]
 ·unfold Builtin.Str.tooLong
  simp [sizeLine_eq]
  omega
 ·simp
theorem strs_ones:∀ cs:List Nat,strsD (cs.map fun c => D.str (tx [c])) = some (cs.map fun c => tx [c])
 | [] => rfl
 | c :: cs => by
  rw [List.map_cons]
  unfold strsD
  rw [strs_ones cs]
  rfl
theorem joinD_ones {cs:List Nat} (h:cs.length <= 1000):joinD (.str (tx [])) (.lst (cs.map fun c => D.str (tx [c]))) = some (.str (tx cs)):=by
 show (match strsD (cs.map fun c => D.str (tx [c])) with | some zs => grd (JoinOk (tx []) zs = true) (some (D.str (Txt.join (tx []) zs))) | none => none) = _
 rw [strs_ones]
 dsimp only
 rw [grd_pos (joinOk_ones h),join_ones]
theorem addD_tx {a b:List Nat} (h:a.length + b.length <= 100000):addD (.str (tx a)) (.str (tx b)) = some (.str (tx (a ++ b))):=by
 show (if (tx a).length + (tx b).length <= 100000 then some (D.str (tx a ++ tx b)) else none) = _
 rw [if_pos (by simpa using h),tx_app]
theorem contains_tx (cs:List Nat) (c:Nat):Txt.contains (tx cs) (tx [c]) = decide (c ∈ cs):=by
 show (!(Builtin.Str.occurrences (tx cs) ⟨#[c]⟩ 0 (tx cs).length 1).isEmpty) = _
 rw [StrLaws.found_one]
 refine decide_eq_decide.mpr ?_
 simp [tx]
theorem pl_tx {cs:List Nat} (h:∀ c ∈ cs,c < 1000):pl (.str (tx cs)) = true /\ dep (.str (tx cs)) <= 64:=by
 refine ⟨?_,by simp [dep]⟩
 rw [pl]
 show (tx cs).cps.all (· < 0x110000) = true
 simp [tx]
 intro c hc
 have:=h c hc
 omega
theorem eq_tx (neg:Bool) {a b:List Nat} (ha:∀ c ∈ a,c < 1000) (hb:∀ c ∈ b,c < 1000):eqD neg (.str (tx a)) (.str (tx b)) = some (.bl (if a = b then !neg else neg)):=by
 by_cases h:a = b
 ·subst h
  rw [eq_self_pl neg (pl_tx ha).1 (pl_tx ha).2,if_pos rfl]
 ·rw [eq_ne_pl neg (pl_tx ha).1 (pl_tx hb).1 (pl_tx ha).2 (pl_tx hb).2 fun z => h (tx_inj (by injection z)),if_neg h]
theorem ends_tx (a:List Nat) (c d:Nat):Txt.endswith (tx (a ++ [d])) (tx [c]) = decide (d = c):=by
 unfold Txt.endswith Builtin.Str.subAt
 simp [tx,Str.length]
 exact Bool.eq_iff_iff.mpr (by simp)
theorem filter_range {β:Type} (l:List β):∀ n:Nat,List.filterMap (fun i => l[i]?) (List.range n) = l.take n
 | 0 => by simp
 | n + 1 => by
  rw [List.range_succ,List.filterMap_append,filter_range l n,List.take_add_one]
  cases h:l[n]? <;> simp [h]
noncomputable def occStep (s sub:Str) (hi limit:Nat) (st:Array Nat × Nat) (i:Nat):Array Nat × Nat:=if ((st.fst.size < limit /\ st.snd <= i) /\ i + sub.length <= hi) /\ Builtin.Str.subAt s sub i = true then (st.fst.push i,i + sub.length) else st
theorem occ_fold (s sub:Str) (hi limit:Nat):∀ (l:List Nat) (st:Array Nat × Nat),(forIn l st (StrLaws.occBody s sub hi limit)).run = l.foldl (occStep s sub hi limit) st
 | [],st => rfl
 | i :: l,st => by
  rw [List.forIn_cons,List.foldl_cons]
  unfold StrLaws.occBody occStep
  split
  ·exact occ_fold s sub hi limit l _
  ·exact occ_fold s sub hi limit l _
end Law
namespace Law
open PySem DL L2
structure Tq (n:Nat) (cs:List Nat):Prop where
 lt:∀ c ∈ cs,c < 128
 len:cs.length <= n
theorem clipS (v:Int) (n:Nat):max 0 (min (if v < 0 then v + (n:Int) else v) (n:Int)) = ((HT.sIx n 0 (some v):Nat):Int):=by
 show _ = (((if v < 0 then (v + (n:Int)).toNat else min v.toNat n):Nat):Int)
 by_cases hv:v < 0
 ·simp only [if_pos hv]; omega
 ·simp only [if_neg hv]; omega
theorem idx_cut (lo hi:Option Int) (n:Nat):Builtin.Str.strSliceIndices lo hi 1 n = (List.range (HT.sIx n n hi - HT.sIx n 0 lo)).map fun k => HT.sIx n 0 lo + k:=by
 have a:Builtin.Str.strSliceIndices lo hi 1 n = sliceRange ((HT.sIx n 0 lo:Nat):Int) ((HT.sIx n n hi:Nat):Int) 1:=by
  unfold Builtin.Str.strSliceIndices
  simp only [show (1:Int) > 0 by decide,if_true]
  congr 1
  ·cases lo with
   | none => rfl
   | some v => exact clipS v n
  ·cases hi with
   | none => rfl
   | some v => exact clipS v n
 rw [a]
 unfold sliceRange
 simp only [show (1:Int) > 0 by decide,if_true]
 generalize HT.sIx n 0 lo = p
 generalize HT.sIx n n hi = q
 have e:(if (p:Int) < (q:Int) then ((q:Int) - (p:Int) + 1 - 1) / 1 else 0).toNat = q - p:=by
  split
  ·rw [Int.ediv_one]; omega
  ·simp; omega
 rw [e]
 apply List.map_congr_left
 intro k _
 omega
theorem slice_cut (cs:List Nat) (lo hi:Option Int):Txt.slice (tx cs) lo hi = tx (cutL cs lo hi):=by
 have hA:=HT.sIx_le cs.length 0 (Nat.zero_le _) lo
 have hB:=HT.sIx_le cs.length cs.length (Nat.le_refl _) hi
 have fm:∀ p m:Nat,List.filterMap (fun i => cs[i]?) ((List.range m).map fun k => p + k) = (cs.drop p).take m:=fun p m => by
  rw [List.filterMap_map,<- filter_range]
  congr 1
  funext k
  simp [List.getElem?_drop]
 unfold Txt.slice cutL
 rw [tx_len,idx_cut]
 generalize HT.sIx cs.length 0 lo = p at *
 generalize HT.sIx cs.length cs.length hi = q at *
 split
 ·rename_i h
  simp at h
  have e1:p = 0:=by omega
  have e2:q - 0 = cs.length:=by omega
  subst e1
  rw [e2,List.drop_zero,List.take_length]
 ·refine str_ext ?_
  show ((List.map (fun k => p + k) (List.range (q - p))).filterMap fun i => (tx cs).cps[i]?).toArray = _
  have:(fun i:Nat => (tx cs).cps[i]?) = fun i:Nat => cs[i]?:=by funext i; simp [tx]
  rw [this,fm]
  rfl
theorem slS_tx {cs:List Nat} (h:cs.length <= 1000) (lo hi:Option Int):slS (.str (tx cs)) lo hi = some (.str (tx (cutL cs lo hi))):=by
 show grd _ (some (D.str (Txt.slice (tx cs) lo hi))) = _
 rw [grd_pos (by rw [tx_len]; omega),slice_cut]
theorem cut_init (cs:List Nat):cutL cs none (some (-1)) = cs.take (cs.length - 1):=by
 unfold cutL
 have e:HT.sIx cs.length cs.length (some (-1)) = cs.length - 1:=by
  show (if (-1:Int) < 0 then ((-1:Int) + (cs.length:Int)).toNat else min (-1:Int).toNat cs.length) = _
  rw [if_pos (by decide)]; omega
 rw [e,HT.sIx_none,List.drop_zero,Nat.sub_zero]
theorem len_tx {cs:List Nat} (h:cs.length <= 1000):lenD [.str (tx cs)] = some (.int cs.length):=by
 show (if (tx cs).length <= 100000 then some (D.int (tx cs).length) else none) = _
 rw [if_pos (by rw [tx_len]; omega),tx_len]
theorem last_cases (cs:List Nat):cs = [] \/ ∃ a d,cs = a ++ [d]:=by
 by_cases h:cs = []
 ·exact .inl h
 ·exact .inr ⟨cs.dropLast,cs.getLast h,(List.dropLast_concat_getLast h).symm⟩
theorem ends_all (cs:List Nat) (c:Nat):endsD (.str (tx cs)) (.str (tx [c])) = some (.bl (decide (cs.getLast? = some c))):=by
 show some (D.bl (Txt.endswith (tx cs) (tx [c]))) = _
 rcases last_cases cs with rfl | ⟨a,d,rfl⟩
 ·have:Txt.endswith (tx []) (tx [c]) = false:=by
   unfold Txt.endswith
   simp [tx,Str.length]
  rw [this]
  simp
 ·rw [ends_tx]
  simp
theorem occ_size (s sub:Str) (hi limit:Nat):∀ (l:List Nat) (st:Array Nat × Nat),st.1.size <= limit -> (l.foldl (occStep s sub hi limit) st).1.size <= limit
 | [],st,h => h
 | i :: l,st,h => by
  rw [List.foldl_cons]
  refine occ_size s sub hi limit l _ ?_
  unfold occStep
  split
  ·rename_i z
   have:=z.1.1.1
   simp
   omega
  ·exact h
theorem occ_few (s sub:Str) (limit:Nat):(Builtin.Str.occurrences s sub 0 s.length limit).length <= limit:=by
 rw [StrLaws.occ_eq,occ_fold]
 have:=occ_size s sub s.length limit (List.range' 0 (s.length + 1 - 0)) (#[],0) (Nat.zero_le _)
 simpa using this
theorem repr_ok {n:Nat} {cs:List Nat} (h:Tq n cs) (hn:n <= 1000):(reprText (tx cs)).length <= 50000:=by
 have:=StrLaws.reprText_len (tx cs) (fun c hc => by
  have:c ∈ cs:=by simpa [tx] using hc
  have:=h.lt c this
  omega)
 rw [tx_len] at this
 have:=h.len
 omega
theorem frs_ok {n:Nat} {cs:List Nat} (h:Tq n cs) (hn:n <= 1000) {ρ:List Sl} {Ω:List OS} (e:ρ[0]? = some (.dat (.str (tx cs)))):pFrs (gVar 0) ρ Ω = some Ω:=by
 unfold pFrs
 simp [e,repr_ok h hn]
theorem Tq.small {n:Nat} {cs:List Nat} (h:Tq n cs):∀ c ∈ cs,c < 1000:=fun c hc => by have:=h.lt c hc; omega
end Law
namespace Law
open PySem DL L2
noncomputable def spl (c:Nat):List Nat -> List (List Nat)
 | [] => [[]]
 | x :: r => if x = c then [] :: spl c r else match spl c r with
  | p :: ps => (x :: p) :: ps
  | [] => [[x]]
noncomputable def posF (c:Nat):List Nat -> Nat -> List Nat
 | [],_ => []
 | x :: r,k => if x = c then k :: posF c r (k + 1) else posF c r (k + 1)
theorem spl_ne (c:Nat):∀ cs:List Nat,∃ p ps,spl c cs = p :: ps
 | [] => ⟨_,_,rfl⟩
 | x :: r => by
  unfold spl
  split
  ·exact ⟨_,_,rfl⟩
  ·obtain ⟨p,ps,e⟩:=spl_ne c r
   rw [e]
   exact ⟨_,_,rfl⟩
theorem occ_run (c:Nat) (cs:List Nat) (lim:Nat):∀ (r pre:List Nat) (arr:Array Nat) (j:Nat),cs = pre ++ r -> j <= pre.length -> arr.size + r.length < lim ->
  ((List.range' pre.length (r.length + 1)).foldl (occStep (tx cs) (tx [c]) (tx cs).length lim) (arr,j)).1.toList = arr.toList ++ posF c r pre.length
 | [],pre,arr,j,e,hj,hl => by
  have n:occStep (tx cs) (tx [c]) (tx cs).length lim (arr,j) pre.length = (arr,j):=by
   unfold occStep
   rw [if_neg]
   rintro ⟨⟨_,z⟩,_⟩
   rw [e] at z
   simp at z
   omega
  rw [List.length_nil,List.range'_one,List.foldl_cons,n]
  simp [posF]
 | x :: r,pre,arr,j,e,hj,hl => by
  rw [List.length_cons] at hl
  have one:=StrLaws.subAt_one (tx cs) c pre.length
  have one:(pre.length + (tx [c]).length <= (tx cs).length /\ Builtin.Str.subAt (tx cs) (tx [c]) pre.length = true) ↔ cs[pre.length]? = some c:=by simpa [tx] using one
  have at':cs[pre.length]? = some x:=by rw [e]; simp
  have e':cs = (pre ++ [x]) ++ r:=by rw [e]; simp
  have lp:(pre ++ [x]).length = pre.length + 1:=by simp
  rw [List.length_cons,List.range'_succ,List.foldl_cons]
  by_cases hx:x = c
  ·have z:=one.mpr (by rw [at',hx])
   have s1:occStep (tx cs) (tx [c]) (tx cs).length lim (arr,j) pre.length = (arr.push pre.length,pre.length + 1):=by
    unfold occStep
    rw [if_pos ⟨⟨⟨by show arr.size < lim; omega,hj⟩,z.1⟩,z.2⟩]
    rfl
   have ih:=occ_run c cs lim r (pre ++ [x]) (arr.push pre.length) (pre.length + 1) e' (by rw [lp]; exact Nat.le_refl _) (by simp; omega)
   rw [lp] at ih
   rw [s1,ih]
   simp [posF,hx]
  ·have s1:occStep (tx cs) (tx [c]) (tx cs).length lim (arr,j) pre.length = (arr,j):=by
    unfold occStep
    rw [if_neg]
    rintro ⟨⟨_,z1⟩,z2⟩
    have:=one.mp ⟨z1,z2⟩
    rw [at'] at this
    exact hx (Option.some.inj this)
   have ih:=occ_run c cs lim r (pre ++ [x]) arr j e' (by rw [lp]; omega) (by omega)
   rw [lp] at ih
   rw [s1,ih]
   simp [posF,hx]
theorem occ_all (c:Nat) (cs:List Nat):Builtin.Str.occurrences (tx cs) (tx [c]) 0 (tx cs).length ((tx cs).length + 1) = posF c cs 0:=by
 rw [StrLaws.occ_eq,occ_fold]
 have:=occ_run c cs ((tx cs).length + 1) cs [] #[] 0 rfl (Nat.le_refl _) (by simp)
 simpa using this
theorem parts_run (c:Nat) (cs:List Nat):∀ (r pre:List Nat) (a:Nat),cs = pre ++ r -> a <= pre.length -> ∀ p ps,spl c r = p :: ps ->
  ((a :: (posF c r pre.length).map (· + 1)).zip (posF c r pre.length ++ [cs.length])).map (fun z => Builtin.Str.strSub (tx cs) z.1 z.2) = tx ((cs.drop a).take (pre.length - a) ++ p) :: ps.map tx
 | [],pre,a,e,ha,p,ps,h => by
  cases h
  have:Builtin.Str.strSub (tx cs) a cs.length = tx ((cs.drop a).take (pre.length - a) ++ []):=str_ext (by
   rw [e]
   simp [Builtin.Str.strSub,tx])
  simpa [posF] using this
 | x :: r,pre,a,e,ha,p,ps,h => by
  obtain ⟨q,qs,hq⟩:=spl_ne c r
  have e':cs = (pre ++ [x]) ++ r:=by rw [e]; simp
  have lp:(pre ++ [x]).length = pre.length + 1:=by simp
  unfold spl at h
  rw [hq] at h
  by_cases hx:x = c
  ·rw [if_pos hx] at h
   cases h
   have ih:=parts_run c cs r (pre ++ [x]) (pre.length + 1) e' (by rw [lp]; exact Nat.le_refl _) q qs hq
   rw [lp] at ih
   unfold posF
   rw [if_pos hx,List.map_cons,List.cons_append,List.zip_cons_cons,List.map_cons,ih]
   simp [Builtin.Str.strSub,tx]
  ·rw [if_neg hx] at h
   cases h
   have ih:=parts_run c cs r (pre ++ [x]) a e' (by rw [lp]; omega) _ _ hq
   rw [lp] at ih
   unfold posF
   rw [if_neg hx,ih]
   congr 2
   have e1:(cs.drop a).take (pre.length + 1 - a) = (cs.drop a).take (pre.length - a) ++ [x]:=by
    have:pre.length + 1 - a = (pre.length - a) + 1:=by omega
    rw [this,List.take_add_one,List.getElem?_drop,show a + (pre.length - a) = pre.length by omega,e]
    simp
   rw [e1]
   simp
theorem split_spl {c:Nat} {cs:List Nat} (hc:c < 256) (h:∀ x ∈ cs,x < 256):Txt.split (tx cs) (tx [c]) = (spl c cs).map tx:=by
 obtain ⟨p,ps,hp⟩:=spl_ne c cs
 have k1:Builtin.Str.strKind (tx cs) = 1:=by
  unfold Builtin.Str.strKind
  rw [if_pos]
  simp [tx]
  exact h
 have k2:Builtin.Str.strKind (tx [c]) = 1:=by
  unfold Builtin.Str.strKind
  rw [if_pos]
  simp [tx]
  exact hc
 have pt:Builtin.Str.partsBetween (tx cs) (posF c cs 0) 1 = (spl c cs).map tx:=by
  have:=parts_run c cs cs [] 0 rfl (Nat.le_refl _) p ps hp
  unfold Builtin.Str.partsBetween
  rw [hp]
  simp only [tx_len]
  simpa using this
 unfold Txt.split
 rw [k1,k2,occ_all,tx_len [c]]
 cases cs with
 | nil => rfl
 | cons x r =>
  rw [if_neg (by simp)]
  split
  ·rename_i z
   have z:posF c (x :: r) 0 = []:=by simpa using z
   rw [z] at pt
   rw [<- pt]
   unfold Builtin.Str.partsBetween
   simp [Builtin.Str.strSub,tx,Str.length]
  ·exact pt
theorem spl_len (c:Nat):∀ cs:List Nat,(spl c cs).length <= cs.length + 1
 | [] => by simp [spl]
 | x :: r => by
  have ih:=spl_len c r
  obtain ⟨p,ps,e⟩:=spl_ne c r
  unfold spl
  rw [e] at ih ⊢
  split <;> simp at ih ⊢ <;> omega
theorem spl_D {n c:Nat} {cs:List Nat} (h:Tq n cs) (hn:n <= 1000) (hc:c < 128):splD (.str (tx cs)) (.str (tx [c])) = some (.lst ((spl c cs).map fun w => D.str (tx w))):=by
 have hl:=h.len
 have s:=split_spl (c:=c) (cs:=cs) (by omega) fun x hx => by have:=h.lt x hx; omega
 have sl:=spl_len c cs
 have pl:(Builtin.Str.partsBetween (tx cs) (Builtin.Str.occurrences (tx cs) (tx [c]) 0 (tx cs).length ((tx cs).length + 1)) (tx [c]).length).length <= cs.length + 2:=by
  have few:=occ_few (tx cs) (tx [c]) ((tx cs).length + 1)
  unfold Builtin.Str.partsBetween
  simp
  simp at few
  omega
 show grd _ (some (D.lst ((Txt.split (tx cs) (tx [c])).map D.str))) = _
 rw [grd_pos ⟨by simp,by rw [tx_len]; omega,by omega,by rw [s,List.length_map]; omega⟩,s,List.map_map]
 rfl
structure Wd (w:List Nat):Prop where
 ne:w ≠ []
 lt:∀ c ∈ w,c < 128 /\ c ≠ 32
 len:w.length <= 40
theorem spl_app {w:List Nat} (r:List Nat) (h:∀ c ∈ w,c ≠ 32):spl 32 (w ++ 32 :: r) = w :: spl 32 r:=by
 induction w with
 | nil => simp [spl]
 | cons x w ih =>
  have hx:=h x List.mem_cons_self
  rw [List.cons_append]
  conv => lhs; unfold spl
  rw [if_neg hx,ih fun c hc => h c (List.mem_cons_of_mem _ hc)]
theorem spl_one {w:List Nat} (h:∀ c ∈ w,c ≠ 32):spl 32 w = [w]:=by
 induction w with
 | nil => rfl
 | cons x w ih =>
  have hx:=h x List.mem_cons_self
  conv => lhs; unfold spl
  rw [if_neg hx,ih fun c hc => h c (List.mem_cons_of_mem _ hc)]
noncomputable def wds (cs:List Nat):List (List Nat):=(spl 32 cs).filter fun w => decide (w ≠ [])
theorem wds_blank (r:List Nat):wds (32 :: r) = wds r:=by simp [wds,spl]
theorem wds_blanks (n:Nat) (r:List Nat):wds (List.replicate n 32 ++ r) = wds r:=by
 induction n with
 | zero => simp
 | succ n ih => rw [List.replicate_succ,List.cons_append,wds_blank,ih]
theorem wds_nil:wds [] = []:=by simp [wds,spl]
theorem wds_app {w:List Nat} (h:Wd w) (r:List Nat):wds (w ++ 32 :: r) = w :: wds r:=by
 unfold wds
 rw [spl_app r fun c hc => (h.lt c hc).2,List.filter_cons_of_pos (by simpa using h.ne)]
theorem wds_one {w:List Nat} (h:Wd w):wds w = [w]:=by
 unfold wds
 rw [spl_one fun c hc => (h.lt c hc).2,List.filter_cons_of_pos (by simpa using h.ne)]
 rfl
noncomputable def Opn (t:List Nat) (ws:List (List Nat)):Prop:=∀ r,wds (t ++ r) = ws ++ wds r
noncomputable def Cls (t:List Nat) (ws:List (List Nat)):Prop:=wds t = ws /\ ∀ r,wds (t ++ 32 :: r) = ws ++ wds r
theorem Opn.blanks (n:Nat):Opn (List.replicate n 32) []:=fun r => by rw [wds_blanks]; rfl
theorem Opn.word {t:List Nat} {ws:List (List Nat)} (h:Opn t ws) {w:List Nat} (hw:Wd w):Cls (t ++ w) (ws ++ [w]) :=
 ⟨by rw [h,wds_one hw],fun r => by rw [List.append_assoc,h,wds_app hw]; simp⟩
theorem Cls.gap {t:List Nat} {ws:List (List Nat)} (h:Cls t ws) (n:Nat):Opn (t ++ List.replicate (n + 1) 32) ws:=fun r => by
 rw [List.append_assoc,List.replicate_succ,List.cons_append,h.2,wds_blanks]
theorem Cls.fin {t:List Nat} {ws:List (List Nat)} (h:Cls t ws) (n:Nat):wds (t ++ List.replicate n 32) = ws:=by
 cases n with
 | zero => simpa using h.1
 | succ n =>
  have:=h.gap n []
  rw [List.append_nil,wds_nil,List.append_nil] at this
  exact this
theorem comp_ne (Ω:List OS):∀ (ws:List (List Nat)) (x:Sl),(∀ w ∈ ws,∀ c ∈ w,c < 1000) -> compD (bName 0) (gT (gOp (eqD true) (gVar 0) (gC (.str (tx []))))) (gVar 0) (ws.map fun w => D.str (tx w)) [x] Ω = some ((ws.filter fun w => decide (w ≠ [])).map (fun w => D.str (tx w)),Ω)
 | [],x,_ => rfl
 | w :: ws,x,h => by
  have ih:=comp_ne Ω ws (.dat (.str (tx w))) fun v hv => h v (List.mem_cons_of_mem _ hv)
  have eq:=eq_tx true (a:=w) (b:=[]) (h w List.mem_cons_self) (by simp)
  rw [List.map_cons]
  unfold compD
  by_cases q:w = []
  ·subst q
   rw [if_pos rfl] at eq
   rw [List.filter_cons_of_neg (by simp)]
   simp [eq,ih]
  ·rw [if_neg q] at eq
   rw [List.filter_cons_of_pos (by simpa using q)]
   simp [eq,ih]
theorem spl_mem {c:Nat}:∀ {cs w:List Nat},w ∈ spl c cs -> ∀ x ∈ w,x ∈ cs
 | [],w,h,x,hx => by
  simp [spl] at h
  subst h
  cases hx
 | y :: r,w,h,x,hx => by
  obtain ⟨p,ps,e⟩:=spl_ne c r
  unfold spl at h
  rw [e] at h
  split at h
  ·rcases List.mem_cons.mp h with z | z
   ·rw [z] at hx; cases hx
   ·exact List.mem_cons_of_mem _ (spl_mem (by rw [e]; exact z) x hx)
  ·rcases List.mem_cons.mp h with z | z
   ·rw [z] at hx
    rcases List.mem_cons.mp hx with u | u
    ·rw [u]; exact List.mem_cons_self
    ·exact List.mem_cons_of_mem _ (spl_mem (by rw [e]; exact List.mem_cons_self) x u)
   ·exact List.mem_cons_of_mem _ (spl_mem (by rw [e]; exact List.mem_cons_of_mem _ z) x hx)
theorem tx_bl:((" ":String):Str) = tx [32]:=by decide +kernel
theorem words_den {n:Nat} {cs:List Nat} (h:Tq n cs) (hn:n <= 1000) (Ω:List OS):d_words_of [.str (tx cs)] Ω = some (.lst ((wds cs).map fun w => D.str (tx w)),Ω):=by
 have hl:=h.len
 have es:=spl_D h hn (c:=32) (by decide)
 have sl:=spl_len 32 cs
 have ec:=comp_ne Ω (spl 32 cs) .und fun w hw c hc => h.small c (spl_mem hw c hc)
 refine run_rt rfl ?_
 have gi:gSeq (gOp splD (gVar 0) (gC (.str (tx [32])))) [.dat (.str (tx cs))] Ω = some ((spl 32 cs).map (fun w => D.str (tx w)),Ω):=by simp [es]
 have ein:innerD [none] [Sl.dat (D.str (tx cs))] = [.und]:=rfl
 rw [tx_bl,tx_nil,ap_ret]
 show (match gComp [none] _ _ _ _ [Sl.dat (D.str (tx cs))] Ω with | some (d,Ω') => _ | none => _) = _
 rw [ap_comp,gi]
 dsimp only
 rw [if_pos (by rw [List.length_map]; omega),ein,ec]
 rfl
end Law
namespace Law
open PySem DL
section
variable {ρ:List Sl} {Ω:List OS}
@[simp] theorem ap_rE (rx:RDen):rE rx ρ Ω = match rx ρ Ω with | some (c,Ω') => some (c,ρ,Ω') | none => none:=(rfl)
@[simp] theorem ap_rCall (R:XFDen) (g:ADen):rCall R g ρ Ω = match g ρ Ω with | some (ds,Ω1) => R ds Ω1 | none => none:=(rfl)
@[simp] theorem ap_rRaiseV (c:Str) (p:VDen):rRaiseV c p ρ Ω = match p ρ Ω with | some Ω' => some (c,ρ,Ω') | none => none:=(rfl)
@[simp] theorem ap_rIf (p:TDen) (s t:SRDen):rIf p s t ρ Ω = match p ρ Ω with | some (true,Ω') => s ρ Ω' | some (false,Ω') => t ρ Ω' | none => none:=(rfl)
@[simp] theorem ap_rNever:rNever ρ Ω = none:=(rfl)
@[simp] theorem ap_rThen (s:SDen) (r:SRDen):rThen s r ρ Ω = match s ρ Ω with | some (.nx ρ1 Ω1) => r ρ1 Ω1 | _ => none:=(rfl)
@[simp] theorem ap_rOr (r1 r2:SRDen):rOr r1 r2 ρ Ω = match r1 ρ Ω with | some z => some z | none => r2 ρ Ω:=(rfl)
@[simp] theorem ap_never:sNever ρ Ω = none:=(rfl)
theorem ap_runR (n m:Nat) (r:SRDen) (ds:List D):runR n m r ds Ω = if ds.length = n then (match r (ds.map Sl.dat ++ List.replicate (m - n) Sl.und) Ω with
  | some (c,_,Ω') => some (c,Ω')
  | none => none) else none:=(rfl)
end
theorem run_no {n m:Nat} {s:SDen} {ds:List D} {Ω:List OS} (hl:ds.length = n) (h:s (ds.map Sl.dat ++ List.replicate (m - n) Sl.und) Ω = none):runD n m s ds Ω = none:=by
 rw [ap_run,if_pos hl,h]
theorem runR_ex {n m:Nat} {r:SRDen} {ds:List D} {c:Str} {ρ:List Sl} {Ω Ω':List OS} (hl:ds.length = n) (h:r (ds.map Sl.dat ++ List.replicate (m - n) Sl.und) Ω = some (c,ρ,Ω')):runR n m r ds Ω = some (c,Ω'):=by
 rw [ap_runR,if_pos hl,h]
end Law
namespace Law
open PySem DL L2
noncomputable def numL (bs:List Int):Int:=bs.foldl (fun a b => 2 * a + b) 0
noncomputable abbrev Bg:=Int × Int
noncomputable def bD (k:Bg):D:=.tup [.int k.1,.int k.2]
@[simp] theorem atI_0 {β:Type} (a:β) (l:List β):L2.atI (a :: l) 0 = some a:=by
 have:=atI_nat' (a :: l) 0 (by simp)
 simpa using this
@[simp] theorem atI_1 {β:Type} (a b:β) (l:List β):L2.atI (a :: b :: l) 1 = some b:=by
 have:=atI_nat' (a :: b :: l) 1 (by simp)
 simpa using this
end Law
namespace Law
open PySem DL L2
section
variable {ρ:List Sl} {Ω:List OS}
theorem forR_cons (β : BDen) (s : SDen) (r : SRDen) (d : D) (ds : List D) : forR β s r (d :: ds) ρ Ω = match β d ρ with
  | some ρ1 => (match r ρ1 Ω with
    | some z => some z
    | none => (match s ρ1 Ω with
      | some (.nx ρ' Ω') => forR β s r ds ρ' Ω'
      | some (.ct ρ' Ω') => forR β s r ds ρ' Ω'
      | _ => none))
  | none => none := by
  first
  | rfl
  | (rw [forR]; done)
  | (rw [forR]
     cases β d ρ with
     | none => rfl
     | some ρ1 =>
       dsimp only
       cases r ρ1 Ω with
       | some z => rfl
       | none =>
         dsimp only
         cases s ρ1 Ω with
         | none => rfl
         | some o => cases o <;> rfl)
@[simp] theorem ap_rFor (γ:ADen) (β:BDen) (s:SDen) (r:SRDen):rFor γ β s r ρ Ω = match γ ρ Ω with | some (ds,Ω') => forR β s r ds ρ Ω' | none => none:=(rfl)
end
end Law
namespace Law
open PySem DL L2
noncomputable def bit (c:Nat):Int:=if c = 49 then 1 else 0
noncomputable def isB (c:Nat):Bool:=decide (c = 48 \/ c = 49)
noncomputable def sta (cs:List Nat):Bool:=decide (cs.getLast? = some 42)
noncomputable def sgs (cs:List Nat):List Nat:=if sta cs = true then cs.take (cs.length - 1) else cs
noncomputable def bad1 (cs:List Nat):Bool:=(sta cs == decide ((sgs cs).length = 16)) || decide ((sgs cs).length > 16)
noncomputable def fm (cs:List Nat):Option Bg:=if bad1 cs = false /\ (sgs cs).all isB = true then some (numL ((sgs cs).map bit),((sgs cs).length:Int)) else none
theorem sgs_q {n:Nat} {cs:List Nat} (h:Tq n cs):Tq n (sgs cs):=by
 unfold sgs
 split
 ·exact ⟨fun c hc => h.lt c (List.mem_of_mem_take hc),by have:=h.len; simp; omega⟩
 ·exact h
noncomputable def readS:SDen:=(sSeq (sIf (gT (gOp (inSD true) (gVar 4) (gC (.str "01")))) sNever sNext) (sSet 3 (gOp addD (gOp mulD (gVar 3) (gC (.int 2))) (gIf (gT (gOp (eqD false) (gVar 4) (gC (.str "1")))) (gC (.int 1)) (gC (.int 0))))))
noncomputable def readR:SRDen:=(rIf (gT (gOp (inSD true) (gVar 4) (gC (.str "01")))) (rRaiseV "BadText" (pFrs (gVar 0))) rNever)
theorem in01 (c:Nat):inSD true (.str (tx [c])) (.str (tx [48,49])) = some (.bl (!isB c)):=by
 show some (D.bl (!Txt.contains (tx [48,49]) (tx [c]))) = _
 rw [contains_tx]
 simp [isB]
theorem read_one (X0 X1 X2:Sl) (Ω:List OS) (m:Int) {c:Nat} (hc:c < 128) (h:isB c = true):readS [X0,X1,X2,.dat (.int m),.dat (.str (tx [c]))] Ω = some (.nx [X0,X1,X2,.dat (.int (2 * m + bit c)),.dat (.str (tx [c]))] Ω):=by
 have m2:mulD (.int m) (.int 2) = some (.int (2 * m)):=by rw [Int.mul_comm 2 m]; exact mul_i (.inr ⟨by decide,by decide⟩)
 have ei:=in01 c
 rw [h] at ei
 have eq1:=eq_tx false (a:=[c]) (b:=[49]) (by simp; omega) (by simp)
 unfold readS
 rw [tx_01,tx_1]
 refine (seq_nx (ρ':=[X0,X1,X2,.dat (.int m),.dat (.str (tx [c]))]) (Ω':=Ω) (by simp [ei])).trans ?_
 by_cases q:c = 49
 ·subst q
  simp at eq1
  simp [eq1,m2,bit]
 ·have:¬ [c] = [49]:=by simpa using q
  rw [if_neg this] at eq1
  simp [eq1,m2,bit,q]
theorem read_bad (X1 X2 X3:Sl) (Ω:List OS) {n:Nat} {cs:List Nat} (hq:Tq n cs) (hn:n <= 1000) {c:Nat} (h:isB c = false):readS [.dat (.str (tx cs)),X1,X2,X3,.dat (.str (tx [c]))] Ω = none /\ readR [.dat (.str (tx cs)),X1,X2,X3,.dat (.str (tx [c]))] Ω = some (("BadText":Str),[.dat (.str (tx cs)),X1,X2,X3,.dat (.str (tx [c]))],Ω):=by
 have ei:=in01 c
 rw [h] at ei
 have t1:gT (gOp (inSD true) (gVar 4) (gC (.str "01"))) [.dat (.str (tx cs)),X1,X2,X3,.dat (.str (tx [c]))] Ω = some (true,Ω):=by
  rw [tx_01]
  simp [ei]
 constructor
 ·unfold readS
  rw [ap_sSeq,ap_sIf,t1]
  rfl
 ·unfold readR
  rw [ap_rIf,t1]
  show rRaiseV "BadText" (pFrs (gVar 0)) _ Ω = _
  rw [ap_rRaiseV,frs_ok hq hn rfl]
theorem readR_no (X0 X1 X2 X3:Sl) (Ω:List OS) {c:Nat} (h:isB c = true):readR [X0,X1,X2,X3,.dat (.str (tx [c]))] Ω = none:=by
 have ei:=in01 c
 rw [h] at ei
 unfold readR
 rw [tx_01]
 simp [ei]
theorem loop_ok (X0 X1 X2:Sl) (Ω:List OS):∀ (ss:List Nat) (m:Int) (x:Sl),(∀ c ∈ ss,c < 128) -> ss.all isB = true -> ∃ y:Sl,forD (bName 4) readS (ss.map fun c => D.str (tx [c])) [X0,X1,X2,.dat (.int m),x] Ω = some (.nx [X0,X1,X2,.dat (.int ((ss.map bit).foldl (fun a b => 2 * a + b) m)),y] Ω)
 | [],m,x,_,_ => ⟨x,rfl⟩
 | c :: ss,m,x,h,g => by
  rw [List.all_cons,Bool.and_eq_true] at g
  obtain ⟨y,ih⟩:=loop_ok X0 X1 X2 Ω ss (2 * m + bit c) (.dat (.str (tx [c]))) (fun d hd => h d (List.mem_cons_of_mem _ hd)) g.2
  refine ⟨y,?_⟩
  rw [List.map_cons,for_cons,ap_bName]
  dsimp only [List.set]
  rw [read_one X0 X1 X2 Ω m (h c List.mem_cons_self) g.1]
  exact ih
theorem loop_bad {n:Nat} {cs:List Nat} (hq:Tq n cs) (hn:n <= 1000) (X1 X2:Sl) (Ω:List OS):∀ (ss:List Nat) (m:Int) (x:Sl),(∀ c ∈ ss,c < 128) -> ss.all isB = false ->
  forD (bName 4) readS (ss.map fun c => D.str (tx [c])) [.dat (.str (tx cs)),X1,X2,.dat (.int m),x] Ω = none /\ ∃ ρ',forR (bName 4) readS readR (ss.map fun c => D.str (tx [c])) [.dat (.str (tx cs)),X1,X2,.dat (.int m),x] Ω = some (("BadText":Str),ρ',Ω)
 | [],m,x,_,g => by simp at g
 | c :: ss,m,x,h,g => by
  rw [List.map_cons,for_cons,forR_cons,ap_bName]
  dsimp only [List.set]
  by_cases hc:isB c = true
  ·rw [List.all_cons,hc,Bool.true_and] at g
   obtain ⟨i1,ρ',i2⟩:=loop_bad hq hn X1 X2 Ω ss (2 * m + bit c) (.dat (.str (tx [c]))) (fun d hd => h d (List.mem_cons_of_mem _ hd)) g
   rw [read_one (.dat (.str (tx cs))) X1 X2 Ω m (h c List.mem_cons_self) hc,readR_no (.dat (.str (tx cs))) X1 X2 (.dat (.int m)) Ω hc]
   exact ⟨i1,ρ',i2⟩
  ·have hc':isB c = false:=by simpa using hc
   obtain ⟨b1,b2⟩:=read_bad X1 X2 (.dat (.int m)) Ω hq hn hc'
   rw [b1,b2]
   exact ⟨rfl,_,rfl⟩
noncomputable def b1T:TDen:=(gOrT (gT (gOp (eqD false) (gVar 1) (gOp (eqD false) (gCB lenD (gCons (gVar 2) gNil)) (gC (.int 16))))) (gT (gOp gtD (gCB lenD (gCons (gVar 2) gNil)) (gC (.int 16)))))
theorem b1_test {n:Nat} {cs:List Nat} (hq:Tq n cs) (hn:n <= 1000) (X0 X3 X4:Sl) (Ω:List OS):b1T [X0,.dat (.bl (sta cs)),.dat (.str (tx (sgs cs))),X3,X4] Ω = some (bad1 cs,Ω):=by
 have hl:=(sgs_q hq).len
 have el:=len_tx (cs:=sgs cs) (by omega)
 unfold b1T bad1
 have c1:((sgs cs).length > 16) ↔ (16:Int) < ((sgs cs).length:Int):=by omega
 have c2:((sgs cs).length = 16) ↔ ((sgs cs).length:Int) = 16:=by omega
 have e1:decide ((sgs cs).length > 16) = decide ((16:Int) < ((sgs cs).length:Int)):=decide_eq_decide.mpr c1
 have e2:decide ((sgs cs).length = 16) = decide (((sgs cs).length:Int) = 16):=decide_eq_decide.mpr c2
 rw [e1,e2]
 cases hs:sta cs <;> by_cases h16:((sgs cs).length:Int) = 16 <;> simp [el,h16]
theorem rb_head {n:Nat} {cs:List Nat} (hq:Tq n cs) (hn:n <= 1000) (Ω:List OS) (x2 x3 x4:Sl):sSet 1 (gOp endsD (gVar 0) (gC (.str "*"))) [.dat (.str (tx cs)),.und,x2,x3,x4] Ω = some (.nx [.dat (.str (tx cs)),.dat (.bl (sta cs)),x2,x3,x4] Ω) /\
  sSet 2 (gIf (gT (gVar 1)) (gSlS (gVar 0) gNoPart (gPart (gNeg (gC (.int 1))))) (gVar 0)) [.dat (.str (tx cs)),.dat (.bl (sta cs)),x2,x3,x4] Ω = some (.nx [.dat (.str (tx cs)),.dat (.bl (sta cs)),.dat (.str (tx (sgs cs))),x3,x4] Ω):=by
 have hl:=hq.len
 constructor
 ·have:=ends_all cs 42
  rw [tx_star]
  simp [this,sta]
 ·have es:=slS_tx (cs:=cs) (by omega) none (some (-1))
  rw [cut_init] at es
  have gs:gSlS (gVar 0) gNoPart (gPart (gNeg (gC (.int 1)))) [.dat (.str (tx cs)),.dat (.bl (sta cs)),x2,x3,x4] Ω = some (.str (tx (cs.take (cs.length - 1))),Ω):=by
   unfold gSlS
   simp [es]
  cases hs:sta cs with
  | false => simp [sgs,hs]
  | true =>
   rw [hs] at gs
   simp [gs,sgs,hs]
theorem rbeg_yes {n:Nat} {cs:List Nat} (hq:Tq n cs) (hn:n <= 1000) {k:Bg} (hk:fm cs = some k) (Ω:List OS):d_read_beginning [.str (tx cs)] Ω = some (bD k,Ω):=by
 unfold fm at hk
 split at hk
 ·rename_i hg
  cases hk
  have hs:=sgs_q hq
  have hl:=hs.len
  obtain ⟨s1,s2⟩:=rb_head hq hn Ω .und .und .und
  have et:=b1_test hq hn (.dat (.str (tx cs))) .und .und Ω
  rw [hg.1] at et
  obtain ⟨y,el⟩:=loop_ok (.dat (.str (tx cs))) (.dat (.bl (sta cs))) (.dat (.str (tx (sgs cs)))) Ω (sgs cs) 0 .und hs.lt hg.2
  have en:=len_tx (cs:=sgs cs) (by omega)
  refine run_rt rfl ((seq_nx s1).trans ((seq_nx s2).trans ?_))
  refine (seq_nx (ρ':=[.dat (.str (tx cs)),.dat (.bl (sta cs)),.dat (.str (tx (sgs cs))),.und,.und]) (Ω':=Ω) (by rw [ap_sIf,show gOrT _ _ _ _ = _ from et]; rfl)).trans ?_
  refine (seq_nx (ρ':=[.dat (.str (tx cs)),.dat (.bl (sta cs)),.dat (.str (tx (sgs cs))),.dat (.int 0),.und]) (Ω':=Ω) (by simp)).trans ?_
  refine (seq_nx (ρ':=[.dat (.str (tx cs)),.dat (.bl (sta cs)),.dat (.str (tx (sgs cs))),.dat (.int (numL ((sgs cs).map bit))),y]) (Ω':=Ω) ?_).trans ?_
  ·have gt:gTx (gVar 2) [.dat (.str (tx cs)),.dat (.bl (sta cs)),.dat (.str (tx (sgs cs))),.dat (.int 0),.und] Ω = some ((sgs cs).map (fun c => D.str (tx [c])),Ω):=by
    unfold gTx
    simp [signs_tx]
   rw [ap_for,gt]
   exact el
  ·simp [en,bD]
 ·cases hk
theorem rbeg_no {n:Nat} {cs:List Nat} (hq:Tq n cs) (hn:n <= 1000) (hk:fm cs = none) (Ω:List OS):d_read_beginning [.str (tx cs)] Ω = none /\ r_read_beginning [.str (tx cs)] Ω = some (("BadText":Str),Ω):=by
 have hs:=sgs_q hq
 obtain ⟨s1,s2⟩:=rb_head hq hn Ω .und .und .und
 have et:=b1_test hq hn (.dat (.str (tx cs))) .und .und Ω
 cases hb:bad1 cs with
 | true =>
  rw [hb] at et
  constructor
  ·have:∀ t:SDen,sSeq (sSet 1 (gOp endsD (gVar 0) (gC (.str "*")))) (sSeq (sSet 2 (gIf (gT (gVar 1)) (gSlS (gVar 0) gNoPart (gPart (gNeg (gC (.int 1))))) (gVar 0))) (sSeq (sIf b1T sNever sNext) t)) [.dat (.str (tx cs)),.und,.und,.und,.und] Ω = none:=fun t => by
    rw [seq_nx s1,seq_nx s2,ap_sSeq,ap_sIf,et]
    rfl
   exact run_no rfl (this _)
  ·have:∀ t:SRDen,rThen (sSet 1 (gOp endsD (gVar 0) (gC (.str "*")))) (rThen (sSet 2 (gIf (gT (gVar 1)) (gSlS (gVar 0) gNoPart (gPart (gNeg (gC (.int 1))))) (gVar 0))) (rOr (rIf b1T (rRaiseV "BadText" (pFrs (gVar 0))) rNever) t)) [.dat (.str (tx cs)),.und,.und,.und,.und] Ω = some (("BadText":Str),[.dat (.str (tx cs)),.dat (.bl (sta cs)),.dat (.str (tx (sgs cs))),.und,.und],Ω):=fun t => by
    rw [ap_rThen,s1]
    dsimp only
    rw [ap_rThen,s2]
    dsimp only
    rw [ap_rOr,ap_rIf,et]
    dsimp only
    rw [ap_rRaiseV,frs_ok hq hn rfl]
   exact runR_ex rfl (this _)
 | false =>
  rw [hb] at et
  have hall:(sgs cs).all isB = false:=by
   unfold fm at hk
   split at hk
   ·cases hk
   ·rename_i z
    cases h:(sgs cs).all isB with
    | false => rfl
    | true => exact absurd ⟨hb,h⟩ z
  obtain ⟨l1,ρ',l2⟩:=loop_bad hq hn (.dat (.bl (sta cs))) (.dat (.str (tx (sgs cs)))) Ω (sgs cs) 0 .und hs.lt hall
  have gt:gTx (gVar 2) [.dat (.str (tx cs)),.dat (.bl (sta cs)),.dat (.str (tx (sgs cs))),.dat (.int 0),.und] Ω = some ((sgs cs).map (fun c => D.str (tx [c])),Ω):=by
   unfold gTx
   simp [signs_tx]
  have s3:sIf b1T sNever sNext [.dat (.str (tx cs)),.dat (.bl (sta cs)),.dat (.str (tx (sgs cs))),.und,.und] Ω = some (.nx [.dat (.str (tx cs)),.dat (.bl (sta cs)),.dat (.str (tx (sgs cs))),.und,.und] Ω):=by
   rw [ap_sIf,et]
   rfl
  have s4:sSet 3 (gC (.int 0)) [.dat (.str (tx cs)),.dat (.bl (sta cs)),.dat (.str (tx (sgs cs))),.und,.und] Ω = some (.nx [.dat (.str (tx cs)),.dat (.bl (sta cs)),.dat (.str (tx (sgs cs))),.dat (.int 0),.und] Ω):=by simp
  constructor
  ·have:∀ t:SDen,sSeq (sSet 1 (gOp endsD (gVar 0) (gC (.str "*")))) (sSeq (sSet 2 (gIf (gT (gVar 1)) (gSlS (gVar 0) gNoPart (gPart (gNeg (gC (.int 1))))) (gVar 0))) (sSeq (sIf b1T sNever sNext) (sSeq (sSet 3 (gC (.int 0))) (sSeq (sFor (gTx (gVar 2)) (bName 4) readS) t)))) [.dat (.str (tx cs)),.und,.und,.und,.und] Ω = none:=fun t => by
    rw [seq_nx s1,seq_nx s2,seq_nx s3,seq_nx s4,ap_sSeq,ap_for,gt]
    dsimp only
    rw [l1]
   exact run_no rfl (this _)
  ·have:rThen (sSet 1 (gOp endsD (gVar 0) (gC (.str "*")))) (rThen (sSet 2 (gIf (gT (gVar 1)) (gSlS (gVar 0) gNoPart (gPart (gNeg (gC (.int 1))))) (gVar 0))) (rOr (rIf b1T (rRaiseV "BadText" (pFrs (gVar 0))) rNever) (rThen (sIf b1T sNever sNext) (rThen (sSet 3 (gC (.int 0))) (rFor (gTx (gVar 2)) (bName 4) readS readR))))) [.dat (.str (tx cs)),.und,.und,.und,.und] Ω = some (("BadText":Str),ρ',Ω):=by
    rw [ap_rThen,s1]
    dsimp only
    rw [ap_rThen,s2]
    dsimp only
    rw [ap_rOr,ap_rIf,et]
    dsimp only [ap_rNever]
    rw [ap_rNever]
    dsimp only
    rw [ap_rThen,s3]
    dsimp only
    rw [ap_rThen,s4]
    dsimp only
    rw [ap_rFor,gt]
    exact l2
   exact runR_ex rfl this
end Law
namespace Law
open PySem DL L2 PySem.NumText
noncomputable def dg (n:Int):List Nat:=(Str.ofString (toString n)).cps.toList
theorem tx_dg (n:Int):Str.ofString (toString n) = tx (dg n):=tx_of _
theorem dg_nat (m:Nat):dg (m:Int) = (Nat.toDigits 10 m).map Char.toNat:=PySem.W.KIN.signs_num m
theorem dg_fig (m:Nat):∀ c ∈ dg (m:Int),48 <= c /\ c <= 57:=by
 intro c hc
 rw [dg_nat] at hc
 obtain ⟨d,hd,rfl⟩:=List.mem_map.mp hc
 have:=Nat.isDigit_of_mem_toDigits (b:=10) (by decide) (by decide) hd
 simp [Char.isDigit] at this
 have h1:=this.1
 have h2:=this.2
 have a:48 <= d.toNat:=h1
 have b:d.toNat <= 57:=h2
 omega
noncomputable def fgs (w:List Nat):Bool:=w.all fun c => decide (c ∈ [48,49,50,51,52,53,54,55,56,57])
theorem fig_iff (c:Nat):c ∈ [48,49,50,51,52,53,54,55,56,57] ↔ 48 <= c /\ c <= 57:=by
 simp
 omega
theorem fgs_iff {w:List Nat}:fgs w = true ↔ AllDigits w:=by
 unfold fgs
 rw [List.all_eq_true]
 exact ⟨fun h c hc => (fig_iff c).mp (of_decide_eq_true (h c hc)),fun h c hc => decide_eq_true ((fig_iff c).mpr (h c hc))⟩
noncomputable def figB (m:Nat) (w:List Nat):Bool:=(decide (1 <= w.length) && decide (w.length <= m)) && (fgs w && decide (dg (digitsVal w) = w))
theorem digitsVal_lt:∀ (w:List Nat) (a:Nat),(∀ c ∈ w,c < 128) -> w.foldl (fun acc c => acc * 10 + (c - 48)) a <= (a + 100) * 10 ^ w.length * 1
 | [],a,_ => by simp
 | c :: w,a,h => by
  have:=digitsVal_lt w (a * 10 + (c - 48)) fun d hd => h d (List.mem_cons_of_mem _ hd)
  have hc:=h c List.mem_cons_self
  rw [List.foldl_cons]
  refine Nat.le_trans this ?_
  rw [List.length_cons,Nat.pow_succ,Nat.mul_one,Nat.mul_one,Nat.mul_comm (10 ^ w.length) 10,<- Nat.mul_assoc]
  exact Nat.mul_le_mul_right _ (by omega)
theorem comp_fig (Ω:List OS):∀ (w:List Nat) (x:Sl),compD (bName 0) gTrue (gOp (inSD false) (gVar 0) (gC (.str (tx [48,49,50,51,52,53,54,55,56,57])))) (w.map fun c => D.str (tx [c])) [x] Ω = some ((w.map fun c => D.bl (decide (c ∈ [48,49,50,51,52,53,54,55,56,57]))),Ω)
 | [],x => rfl
 | c :: w,x => by
  have ih:=comp_fig Ω w (.dat (.str (tx [c])))
  have ei:inSD false (.str (tx [c])) (.str (tx [48,49,50,51,52,53,54,55,56,57])) = some (.bl (decide (c ∈ [48,49,50,51,52,53,54,55,56,57]))):=by
   show some (D.bl (Txt.contains (tx [48,49,50,51,52,53,54,55,56,57]) (tx [c]))) = _
   rw [contains_tx]
  rw [List.map_cons,List.map_cons]
  unfold compD
  simp only [ap_bName,List.set,ap_true,ap_op,ap_var,ap_c,List.getElem?_cons_zero,ei,ih]
theorem bls_map {β:Type} (f:β -> Bool):∀ w:List β,blsD (w.map fun c => D.bl (f c)) = some (w.map f)
 | [] => rfl
 | c :: w => by
  rw [List.map_cons]
  unfold blsD
  rw [bls_map f w]
  rfl
theorem all_map {β:Type} (f:β -> Bool) (w:List β):allD [.lst (w.map fun c => D.bl (f c))] = some (.bl (w.all f)):=by
 show (match blsD (w.map fun c => D.bl (f c)) with | some bs => some (D.bl (bs.all id)) | none => none) = _
 rw [bls_map]
 simp
theorem log_ok {n:Int} (h:n.natAbs < 2 ^ 64):n.natAbs.log2 < 1920:=by
 by_cases z:n.natAbs = 0
 ·rw [z]; decide
 ·exact (Nat.log2_lt z).mpr (Nat.lt_of_lt_of_le h (Nat.pow_le_pow_right (by decide) (by decide)))
theorem str_num {n:Int} (h:n.natAbs < 2 ^ 64):str1D [.int n] = some (.str (tx (dg n))):=by
 show grd _ (some (D.str (Str.ofString (toString n)))) = _
 rw [grd_pos (log_ok h),tx_dg]
theorem rd_num {w:List Nat} (hd:AllDigits w) (l1:1 <= w.length) (l2:w.length <= 40):PySem.intText? (tx w) = some ((digitsVal w:Nat):Int):=by
 have ne:w ≠ []:=fun z => by rw [z] at l1; simp at l1
 have:=intText_digits (x:=tx w) (by simpa [tx] using hd) (by simpa [tx] using ne) (by rw [tx_len]; omega)
 simpa [tx] using this
theorem int_num {w:List Nat} (hd:AllDigits w) (l1:1 <= w.length) (l2:w.length <= 40):int1S [.str (tx w)] = some (.int (digitsVal w)):=by
 show (match PySem.intText? (tx w) with | some m => grd ((tx w).length <= 640) (some (D.int m)) | none => none) = _
 rw [rd_num hd l1 l2]
 dsimp only
 rw [grd_pos (by rw [tx_len]; omega)]
theorem dv_lt {m:Nat} {w:List Nat} (hm:m <= 9) (l2:w.length <= m) (h:∀ c ∈ w,c < 128):digitsVal w < 2 ^ 40:=by
 have q:=digitsVal_lt w 0 h
 have:10 ^ w.length <= 10 ^ 9:=Nat.pow_le_pow_right (by decide) (by omega)
 unfold digitsVal
 omega
theorem dg_small (m:Nat):∀ c ∈ dg (m:Int),c < 1000:=fun c hc => by have:=dg_fig m c hc; omega
theorem figs_den {n m:Nat} {w:List Nat} (h:Tq n w) (hn:n <= 1000) (hm:m <= 9) (Ω:List OS):d_are_figures [.str (tx w),.int m] Ω = some (.bl (figB m w),Ω):=by
 have hl:=h.len
 have el:=len_tx (cs:=w) (by omega)
 have gt:gTx (gVar 0) [.dat (.str (tx w)),.dat (.int m)] Ω = some (w.map (fun c => D.str (tx [c])),Ω):=by
  unfold gTx
  simp [signs_tx]
 by_cases h1:w.length < 1 \/ w.length > m
 ·have no:figB m w = false:=by
   unfold figB
   rcases h1 with z | z
   ·have:¬ 1 <= w.length:=by omega
    simp [this]
   ·have:¬ w.length <= m:=by omega
    simp [this]
  rw [no]
  refine run_rt rfl (seq_rt ?_)
  rcases h1 with h1 | h1
  ·have:(w.length:Int) < 1:=by omega
   simp [el,this]
  ·by_cases a:(w.length:Int) < 1
   ·simp [el,a]
   ·have b:(m:Int) < w.length:=by omega
    simp [el,a,b]
 ·rw [not_or] at h1
  have a:¬ (w.length:Int) < 1:=by omega
  have b:¬ (m:Int) < w.length:=by omega
  refine run_rt rfl ((seq_nx (ρ':=[.dat (.str (tx w)),.dat (.int m)]) (Ω':=Ω) (by simp [el,a,b])).trans ?_)
  have ec:=comp_fig Ω w .und
  have ea:=all_map (fun c => decide (c ∈ [48,49,50,51,52,53,54,55,56,57])) w
  have g1:gCB allD (gCons (gComp [none] (gTx (gVar 0)) (bName 0) gTrue (gOp (inSD false) (gVar 0) (gC (.str (tx [48,49,50,51,52,53,54,55,56,57]))))) gNil) [.dat (.str (tx w)),.dat (.int m)] Ω = some (.bl (fgs w),Ω):=by
   rw [ap_CB,ap_cons,ap_comp,gt]
   dsimp only
   rw [if_pos (by rw [List.length_map]; omega)]
   have ein:innerD [none] [Sl.dat (D.str (tx w)),Sl.dat (D.int m)] = [.und]:=rfl
   rw [ein,ec]
   dsimp only
   rw [ap_nil]
   dsimp only
   rw [ea]
   rfl
  have l1:1 <= w.length:=by omega
  have l2:w.length <= m:=by omega
  rw [tx_fig]
  cases hd:fgs w with
  | true =>
   rw [hd] at g1
   have dd:=fgs_iff.mp hd
   have ei:=int_num dd l1 (by omega)
   have bd:=dv_lt hm l2 h.lt
   have es:=str_num (n:=((digitsVal w:Nat):Int)) (by omega)
   have eq:=eq_tx false (a:=dg (digitsVal w)) (b:=w) (dg_small _) h.small
   have fb:figB m w = decide (dg (digitsVal w) = w):=by simp [figB,l1,l2,hd]
   rw [fb,ap_ret,ap_andV,g1]
   by_cases q:dg (digitsVal w) = w
   ·rw [if_pos q] at eq
    rw [decide_eq_true q]
    simp [ei,es,eq]
   ·rw [if_neg q] at eq
    rw [decide_eq_false q]
    simp [ei,es,eq]
  | false =>
   rw [hd] at g1
   have fb:figB m w = false:=by simp [figB,hd]
   rw [fb,ap_ret,ap_andV,g1]
theorem figB_of {m:Nat} {w:List Nat} (h:figB m w = true):1 <= w.length /\ w.length <= m /\ AllDigits w /\ dg (digitsVal w) = w:=by
 unfold figB at h
 simp only [Bool.and_eq_true,decide_eq_true_eq] at h
 exact ⟨h.1.1,h.1.2,fgs_iff.mp h.2.1,h.2.2⟩
noncomputable def numR (lo hi:Int) (w:List Nat):Option Int:=if figB 9 w = true /\ lo <= (digitsVal w:Nat) /\ ((digitsVal w:Nat):Int) <= hi then some (digitsVal w:Nat) else none
noncomputable def nmT:TDen:=gOrT (gNotT (gT (gCall d_are_figures (gCons (gVar 0) (gCons (gC (.int 9)) gNil))))) (gNotT (gT (gChain leD leD (gOp ixM (gVar 1) (gC (.int 0))) (gCB int1S (gCons (gVar 0) gNil)) (gOp ixM (gVar 1) (gC (.int 1))))))
@[simp] theorem ixM_0 (a:D) (l:List D):ixM (.mt (a :: l)) (.int 0) = some a:=atI_0 a l
@[simp] theorem ixM_1 (a b:D) (l:List D):ixM (.mt (a :: b :: l)) (.int 1) = some b:=atI_1 a b l
theorem num_test {n:Nat} {w:List Nat} (h:Tq n w) (hn:n <= 1000) (lo hi:Int) (Ω:List OS):nmT [.dat (.str (tx w)),.dat (.mt [.int lo,.int hi])] Ω = some ((numR lo hi w).isNone,Ω):=by
 have f:=figs_den h hn (m:=9) (by decide) Ω
 have f:d_are_figures [.str (tx w),.int 9] Ω = some (.bl (figB 9 w),Ω):=f
 unfold nmT numR
 cases hf:figB 9 w with
 | false =>
  rw [hf] at f
  simp [f]
 | true =>
  rw [hf] at f
  obtain ⟨l1,l2,hd,_⟩:=figB_of hf
  have ei:=int_num hd l1 (by omega)
  by_cases a:lo <= (digitsVal w:Nat)
  ·by_cases b:((digitsVal w:Nat):Int) <= hi
   ·simp [f,ei,a,b]
   ·simp [f,ei,a,b]
  ·simp [f,ei,a]
theorem rnum_yes {n:Nat} {w:List Nat} (h:Tq n w) (hn:n <= 1000) {lo hi v:Int} (hv:numR lo hi w = some v) (Ω:List OS):d_read_number [.str (tx w),.mt [.int lo,.int hi]] Ω = some (.int v,Ω):=by
 have et:=num_test h hn lo hi Ω
 rw [hv] at et
 unfold numR at hv
 split at hv
 ·rename_i z
  cases hv
  obtain ⟨l1,l2,hd,_⟩:=figB_of z.1
  have ei:=int_num hd l1 (by omega)
  have s1:sIf nmT sNever sNext [.dat (.str (tx w)),.dat (.mt [.int lo,.int hi])] Ω = some (.nx [.dat (.str (tx w)),.dat (.mt [.int lo,.int hi])] Ω):=by rw [ap_sIf,et]; rfl
  refine run_rt rfl ((seq_nx s1).trans ?_)
  simp [ei]
 ·cases hv
theorem rnum_no {n:Nat} {w:List Nat} (h:Tq n w) (hn:n <= 1000) {lo hi:Int} (hv:numR lo hi w = none) (Ω:List OS) :
  d_read_number [.str (tx w),.mt [.int lo,.int hi]] Ω = none /\ r_read_number [.str (tx w),.mt [.int lo,.int hi]] Ω = some (("BadText":Str),Ω):=by
 have et:=num_test h hn lo hi Ω
 rw [hv] at et
 constructor
 ·have:∀ t:SDen,sSeq (sIf nmT sNever sNext) t [.dat (.str (tx w)),.dat (.mt [.int lo,.int hi])] Ω = none:=fun t => by
   rw [ap_sSeq,ap_sIf,et]
   rfl
  exact run_no rfl (this _)
 ·have:rIf nmT (rRaiseV "BadText" (pFrs (gVar 0))) rNever [.dat (.str (tx w)),.dat (.mt [.int lo,.int hi])] Ω = some (("BadText":Str),[.dat (.str (tx w)),.dat (.mt [.int lo,.int hi])],Ω):=by
   rw [ap_rIf,et]
   show rRaiseV "BadText" (pFrs (gVar 0)) _ Ω = _
   rw [ap_rRaiseV,frs_ok h hn rfl]
  exact runR_ex rfl this
noncomputable def eB (w:List Nat):Bool:=figB 3 w && decide (digitsVal w <= 255)
theorem eight_den {n:Nat} {w:List Nat} (h:Tq n w) (hn:n <= 1000) (Ω:List OS):d_is_eight_bits [.str (tx w)] Ω = some (.bl (eB w),Ω):=by
 have f:d_are_figures [.str (tx w),.int 3] Ω = some (.bl (figB 3 w),Ω):=figs_den h hn (m:=3) (by decide) Ω
 refine run_rt rfl ?_
 unfold eB
 cases hf:figB 3 w with
 | false =>
  rw [hf] at f
  simp [f]
 | true =>
  rw [hf] at f
  obtain ⟨l1,l2,hd,_⟩:=figB_of hf
  have ei:=int_num hd l1 (by omega)
  have e:decide (((digitsVal w:Nat):Int) <= 255) = decide (digitsVal w <= 255):=decide_eq_decide.mpr (by omega)
  simp [f,ei]
  omega
theorem comp_eight {n:Nat} (hn:n <= 1000) (Ω:List OS):∀ (ws:List (List Nat)) (x:Sl),(∀ w ∈ ws,Tq n w) -> compD (bName 0) gTrue (gCall d_is_eight_bits (gCons (gVar 0) gNil)) (ws.map fun w => D.str (tx w)) [x] Ω = some (ws.map fun w => D.bl (eB w),Ω)
 | [],x,_ => rfl
 | w :: ws,x,h => by
  have ih:=comp_eight hn Ω ws (.dat (.str (tx w))) fun v hv => h v (List.mem_cons_of_mem _ hv)
  have e:=eight_den (h w List.mem_cons_self) hn Ω
  rw [List.map_cons,List.map_cons]
  unfold compD
  simp [e,ih]
noncomputable def rdA (ws:List (List Nat)):Option Int:=match ws with
 | [a,b] => if (eB a && eB b) = true then some (256 * (digitsVal a:Nat) + (digitsVal b:Nat)) else none
 | _ => none
noncomputable def adT:TDen:=gOrT (gT (gOp (eqD true) (gCB lenD (gCons (gVar 1) gNil)) (gC (.int 2)))) (gNotT (gT (gCB allD (gCons (gComp [none] (gSeq (gVar 1)) (bName 0) gTrue (gCall d_is_eight_bits (gCons (gVar 0) gNil))) gNil))))
theorem ad_test {n:Nat} (hn:n <= 1000) {ws:List (List Nat)} (hw:∀ w ∈ ws,Tq n w) (hl:ws.length <= 2000) (X0:Sl) (Ω:List OS):adT [X0,.dat (.lst (ws.map fun w => D.str (tx w)))] Ω = some ((rdA ws).isNone,Ω):=by
 have ec:=comp_eight hn Ω ws .und hw
 have ea:=all_map (fun w => eB w) ws
 have g1:gCB allD (gCons (gComp [none] (gSeq (gVar 1)) (bName 0) gTrue (gCall d_is_eight_bits (gCons (gVar 0) gNil))) gNil) [X0,.dat (.lst (ws.map fun w => D.str (tx w)))] Ω = some (.bl (ws.all fun w => eB w),Ω):=by
  have gi:gSeq (gVar 1) [X0,.dat (.lst (ws.map fun w => D.str (tx w)))] Ω = some (ws.map (fun w => D.str (tx w)),Ω):=by simp
  have ein:innerD [none] [X0,Sl.dat (.lst (ws.map fun w => D.str (tx w)))] = [.und]:=rfl
  rw [ap_CB,ap_cons,ap_comp,gi]
  dsimp only
  rw [if_pos (by rw [List.length_map]; omega),ein,ec]
  dsimp only
  rw [ap_nil]
  dsimp only
  rw [ea]
 unfold adT
 by_cases h2:ws.length = 2
 ·obtain ⟨a,b,rfl⟩:∃ a b,ws = [a,b]:=by
   match ws,h2 with
   | [a,b],_ => exact ⟨a,b,rfl⟩
  have t1:gT (gOp (eqD true) (gCB lenD (gCons (gVar 1) gNil)) (gC (.int 2))) [X0,.dat (.lst ([a,b].map fun w => D.str (tx w)))] Ω = some (false,Ω):=by simp
  rw [ap_orT,t1]
  dsimp only
  rw [ap_notT,ap_T,g1]
  unfold rdA
  cases qa:eB a <;> cases qb:eB b <;> simp [qa,qb]
 ·have t1:gT (gOp (eqD true) (gCB lenD (gCons (gVar 1) gNil)) (gC (.int 2))) [X0,.dat (.lst (ws.map fun w => D.str (tx w)))] Ω = some (true,Ω):=by
   have:¬ (ws.length:Int) = 2:=by omega
   simp [this]
  rw [ap_orT,t1]
  have:rdA ws = none:=by
   unfold rdA
   split
   ·simp at h2
   ·rfl
  rw [this]
  rfl
noncomputable def adR (cs:List Nat):Option Int:=rdA (spl 46 cs)
theorem spl_Tq {n c:Nat} {cs:List Nat} (h:Tq n cs):∀ w ∈ spl c cs,Tq n w:=by
 have aux:∀ cs:List Nat,∀ w ∈ spl c cs,w.length <= cs.length:=by
  intro cs
  induction cs with
  | nil => intro w hw; simp [spl] at hw; simp [hw]
  | cons x r ih =>
   intro w hw
   obtain ⟨p,ps,e⟩:=spl_ne c r
   unfold spl at hw
   rw [e] at hw ih
   split at hw
   ·rcases List.mem_cons.mp hw with z | z
    ·simp [z]
    ·have:=ih w z; simp; omega
   ·rcases List.mem_cons.mp hw with z | z
    ·have:=ih p List.mem_cons_self; rw [z]; simp; omega
    ·have:=ih w (List.mem_cons_of_mem _ z); simp; omega
 exact fun w hw => ⟨fun x hx => h.lt x (spl_mem hw x hx),Nat.le_trans (aux cs w hw) h.len⟩
theorem raddr_yes {n:Nat} {cs:List Nat} (h:Tq n cs) (hn:n <= 1000) {m:Int} (hm:adR cs = some m) (Ω:List OS):d_read_address [.str (tx cs)] Ω = some (.int m,Ω):=by
 have es:=spl_D h hn (c:=46) (by decide)
 have sl:=spl_len 46 cs
 have hl:=h.len
 have et:=ad_test hn (spl_Tq (c:=46) h) (by omega) (.dat (.str (tx cs))) Ω
 unfold adR at hm
 rw [hm] at et
 generalize spl 46 cs = ws at *
 obtain ⟨a,b,rfl,hx,hy,rfl⟩:∃ a b,ws = [a,b] /\ eB a = true /\ eB b = true /\ m = 256 * (digitsVal a:Nat) + (digitsVal b:Nat):=by
  unfold rdA at hm
  split at hm
  ·rename_i a b
   split at hm
   ·rename_i z
    cases hm
    simp only [Bool.and_eq_true] at z
    exact ⟨a,b,rfl,z.1,z.2,rfl⟩
   ·cases hm
  ·cases hm
 unfold eB at hx hy
 simp only [Bool.and_eq_true] at hx hy
 obtain ⟨x1,x2,x3,_⟩:=figB_of hx.1
 obtain ⟨y1,y2,y3,_⟩:=figB_of hy.1
 have ix:=int_num x3 x1 (by omega)
 have iy:=int_num y3 y1 (by omega)
 have mm:mulD (.int ((digitsVal a:Nat):Int)) (.int 256) = some (.int (256 * (digitsVal a:Nat))):=by rw [Int.mul_comm]; exact mul_i (.inr ⟨by decide,by decide⟩)
 refine run_rt rfl ((seq_nx (ρ':=[.dat (.str (tx cs)),.dat (.lst ([a,b].map fun w => D.str (tx w)))]) (Ω':=Ω) (by rw [tx_dot]; simp [es])).trans ?_)
 refine (seq_nx (ρ':=[.dat (.str (tx cs)),.dat (.lst ([a,b].map fun w => D.str (tx w)))]) (Ω':=Ω) (by rw [ap_sIf,show gOrT _ _ _ _ = _ from et]; rfl)).trans ?_
 simp [ix,iy,mm]
theorem raddr_no {n:Nat} {cs:List Nat} (h:Tq n cs) (hn:n <= 1000) (hm:adR cs = none) (Ω:List OS) :
  d_read_address [.str (tx cs)] Ω = none /\ r_read_address [.str (tx cs)] Ω = some (("BadText":Str),Ω):=by
 have es:=spl_D h hn (c:=46) (by decide)
 have sl:=spl_len 46 cs
 have hl:=h.len
 have et:=ad_test hn (spl_Tq (c:=46) h) (by omega) (.dat (.str (tx cs))) Ω
 unfold adR at hm
 rw [hm] at et
 have s1:sSet 1 (gOp splD (gVar 0) (gC (.str "."))) [.dat (.str (tx cs)),.und] Ω = some (.nx [.dat (.str (tx cs)),.dat (.lst ((spl 46 cs).map fun w => D.str (tx w)))] Ω):=by rw [tx_dot]; simp [es]
 constructor
 ·have:∀ t:SDen,sSeq (sSet 1 (gOp splD (gVar 0) (gC (.str ".")))) (sSeq (sIf adT sNever sNext) t) [.dat (.str (tx cs)),.und] Ω = none:=fun t => by
   rw [seq_nx s1,ap_sSeq,ap_sIf,et]
   rfl
  exact run_no rfl (this _)
 ·have:rThen (sSet 1 (gOp splD (gVar 0) (gC (.str ".")))) (rIf adT (rRaiseV "BadText" (pFrs (gVar 0))) rNever) [.dat (.str (tx cs)),.und] Ω = some (("BadText":Str),[.dat (.str (tx cs)),.dat (.lst ((spl 46 cs).map fun w => D.str (tx w)))],Ω):=by
   rw [ap_rThen,s1]
   dsimp only
   rw [ap_rIf,et]
   show rRaiseV "BadText" (pFrs (gVar 0)) _ Ω = _
   rw [ap_rRaiseV,frs_ok h hn rfl]
  exact runR_ex rfl this
end Law
namespace Law
open PySem DL L2
noncomputable def longK (k:Nat):Str:=if k = 66 then "BEGINNING" else if k = 65 then "ADDRESS" else if k = 67 then "COUNT" else if k = 72 then "H" else if k = 76 then "LENGTH" else "N"
noncomputable def loK (k:Nat):Int:=if k = 67 then 1 else if k = 76 then 1 else 0
noncomputable def hiK (k:Nat):Int:=if k = 67 then 32 else if k = 72 then 31 else if k = 76 then 99 else 999999999
noncomputable def Kd (k:Nat):Prop:=k = 66 \/ k = 65 \/ k = 67 \/ k = 72 \/ k = 76 \/ k = 78
noncomputable def rp (k:Nat) (w:List Nat):Option D:=if k = 66 then (fm w).map bD else if k = 65 then (adR w).map D.int else (numR (loK k) (hiK k) w).map D.int
theorem eqS (neg:Bool) {a b:Str} (ha:pl (.str a) = true) (hb:pl (.str b) = true):eqD neg (.str a) (.str b) = some (.bl (if a = b then !neg else neg)):=by
 by_cases h:a = b
 ·subst h
  rw [eq_self_pl neg ha (by simp [dep]),if_pos rfl]
 ·rw [eq_ne_pl neg ha hb (by simp [dep]) (by simp [dep]) (fun z => h (by injection z)),if_neg h]
theorem pl_str {x:Str} (h:x.cps.all (· < 0x110000) = true):pl (.str x) = true:=by rw [pl]; exact h
theorem eqK {k:Nat} (hk:Kd k):eqD false (.str (longK k)) (.str "BEGINNING") = some (.bl (decide (k = 66))) /\ eqD false (.str (longK k)) (.str "ADDRESS") = some (.bl (decide (k = 65))):=by
 rcases hk with rfl | rfl | rfl | rfl | rfl | rfl <;> refine ⟨(eqS false (pl_str (by decide +kernel)) (pl_str (by decide +kernel))).trans ?_,(eqS false (pl_str (by decide +kernel)) (pl_str (by decide +kernel))).trans ?_⟩ <;> first | rw [if_pos (by decide +kernel)]; rfl | rw [if_neg (by decide +kernel)]; rfl
theorem tabK {k:Nat} (hk:Kd k) (h1:k ≠ 66) (h2:k ≠ 65):PyProof.Rows.KTD.datumAt (longK k) g_BOUNDS = some (.mt [.int (loK k),.int (hiK k)]):=by
 rcases hk with rfl | rfl | rfl | rfl | rfl | rfl
 ·exact absurd rfl h1
 ·exact absurd rfl h2
 all_goals
  unfold g_BOUNDS
  simp only [PyProof.Rows.KTD.datumAt]
  first
   | rw [if_pos (by decide +kernel)]; rfl
   | rw [if_neg (by decide +kernel),if_pos (by decide +kernel)]; rfl
   | rw [if_neg (by decide +kernel),if_neg (by decide +kernel),if_pos (by decide +kernel)]; rfl
   | rw [if_neg (by decide +kernel),if_neg (by decide +kernel),if_neg (by decide +kernel),if_pos (by decide +kernel)]; rfl
theorem part_yes {n k:Nat} {w:List Nat} (hk:Kd k) (h:Tq n w) (hn:n <= 1000) {v:D} (hv:rp k w = some v) (Ω:List OS):d_read_part [.str (longK k),.str (tx w)] Ω = some (v,Ω):=by
 obtain ⟨e1,e2⟩:=eqK hk
 unfold rp at hv
 by_cases h1:k = 66
 ·rw [if_pos h1] at hv
  obtain ⟨b,hb,rfl⟩:=Option.map_eq_some_iff.mp hv
  have q:=rbeg_yes h hn hb Ω
  rw [decide_eq_true h1] at e1
  exact run_rt rfl (by simp [e1,q])
 ·rw [if_neg h1] at hv
  by_cases h2:k = 65
  ·rw [if_pos h2] at hv
   obtain ⟨b,hb,rfl⟩:=Option.map_eq_some_iff.mp hv
   have q:=raddr_yes h hn hb Ω
   rw [decide_eq_false h1] at e1
   rw [decide_eq_true h2] at e2
   exact run_rt rfl (by simp [e1,e2,q])
  ·rw [if_neg h2] at hv
   obtain ⟨b,hb,rfl⟩:=Option.map_eq_some_iff.mp hv
   have q:=rnum_yes h hn hb Ω
   have gt:∀ ρ:List Sl,ρ[0]? = some (.dat (.str (longK k))) -> gTab g_BOUNDS (gVar 0) ρ Ω = some (.mt [.int (loK k),.int (hiK k)],Ω):=fun ρ e => by
    unfold gTab
    simp [e,strO,tabK hk h1 h2]
   rw [decide_eq_false h1] at e1
   rw [decide_eq_false h2] at e2
   exact run_rt rfl (by simp [e1,e2,gt,q])
theorem part_no {n k:Nat} {w:List Nat} (hk:Kd k) (h:Tq n w) (hn:n <= 1000) (hv:rp k w = none) (Ω:List OS):d_read_part [.str (longK k),.str (tx w)] Ω = none /\ r_read_part [.str (longK k),.str (tx w)] Ω = some (("BadText":Str),Ω):=by
 obtain ⟨e1,e2⟩:=eqK hk
 unfold rp at hv
 by_cases h1:k = 66
 ·rw [if_pos h1] at hv
  obtain ⟨q1,q2⟩:=rbeg_no h hn (Option.map_eq_none_iff.mp hv) Ω
  rw [decide_eq_true h1] at e1
  exact ⟨run_no rfl (by simp [e1,q1]),runR_ex (ρ:=[.dat (.str (longK k)),.dat (.str (tx w))]) rfl (by simp [e1,q2])⟩
 ·rw [if_neg h1] at hv
  by_cases h2:k = 65
  ·rw [if_pos h2] at hv
   obtain ⟨q1,q2⟩:=raddr_no h hn (Option.map_eq_none_iff.mp hv) Ω
   rw [decide_eq_false h1] at e1
   rw [decide_eq_true h2] at e2
   exact ⟨run_no rfl (by simp [e1,e2,q1]),runR_ex (ρ:=[.dat (.str (longK k)),.dat (.str (tx w))]) rfl (by simp [e1,e2,q2])⟩
  ·rw [if_neg h2] at hv
   obtain ⟨q1,q2⟩:=rnum_no h hn (Option.map_eq_none_iff.mp hv) Ω
   have gt:∀ ρ:List Sl,ρ[0]? = some (.dat (.str (longK k))) -> gTab g_BOUNDS (gVar 0) ρ Ω = some (.mt [.int (loK k),.int (hiK k)],Ω):=fun ρ e => by
    unfold gTab
    simp [e,strO,tabK hk h1 h2]
   rw [decide_eq_false h1] at e1
   rw [decide_eq_false h2] at e2
   exact ⟨run_no rfl (by simp [e1,e2,gt,q1]),runR_ex (ρ:=[.dat (.str (longK k)),.dat (.str (tx w))]) rfl (by simp [e1,e2,gt,q2])⟩
noncomputable abbrev Fo:=List Nat × List Nat
noncomputable def FL:List Fo:=[([110,101,116],[67]),([111,119,110],[72,66]),([99,111,109,101],[72,72,76]),([102,97,108,108],[72,72]),([99,97,114,114,121],[72,72]),([114,101,115,116],[]),([114,101,115,116],[78]),([116,97,98,108,101],[72]),([114,111,97,100],[72,65]),([119,97,121],[72,72]),([116,105,101,115],[]),([119,97,105,116,105,110,103],[])]
noncomputable def formD (f:Fo):D:=.mt (.str (tx f.1) :: f.2.map fun k => .str (longK k))
theorem forms_eq:g_FORMS = .mt (FL.map formD):=by
 have a1:(("net":String):Str) = tx [110,101,116]:=by decide +kernel
 have a2:(("own":String):Str) = tx [111,119,110]:=by decide +kernel
 have a3:(("come":String):Str) = tx [99,111,109,101]:=by decide +kernel
 have a4:(("fall":String):Str) = tx [102,97,108,108]:=by decide +kernel
 have a5:(("carry":String):Str) = tx [99,97,114,114,121]:=by decide +kernel
 have a6:(("rest":String):Str) = tx [114,101,115,116]:=by decide +kernel
 have a7:(("table":String):Str) = tx [116,97,98,108,101]:=by decide +kernel
 have a8:(("road":String):Str) = tx [114,111,97,100]:=by decide +kernel
 have a9:(("way":String):Str) = tx [119,97,121]:=by decide +kernel
 have aa:(("ties":String):Str) = tx [116,105,101,115]:=by decide +kernel
 have ab:(("waiting":String):Str) = tx [119,97,105,116,105,110,103]:=by decide +kernel
 unfold g_FORMS FL formD
 rw [a1,a2,a3,a4,a5,a6,a7,a8,a9,aa,ab]
 rfl
noncomputable def fits (ws:List (List Nat)) (f:Fo):Bool:=decide (f.2.length + 1 = ws.length) && decide (f.1 = ws.headD [])
noncomputable def foB:SDen:=sIf (gAndT (gT (gOp (eqD false) (gCB lenMt (gCons (gVar 1) gNil)) (gCB lenD (gCons (gVar 0) gNil)))) (gT (gOp (eqD false) (gOp ixM (gVar 1) (gC (.int 0))) (gOp ixD (gVar 0) (gC (.int 0)))))) (sRet (gVar 1)) sNext
theorem lenMt_f (f:Fo):lenMt [formD f] = some (.int (f.2.length + 1:Nat)):=by simp [lenMt,formD,mtO]
theorem ixM_f (f:Fo):ixM (formD f) (.int 0) = some (.str (tx f.1)):=ixM_0 _ _
theorem fo_one {ws:List (List Nat)} (hw:∀ w ∈ ws,∀ c ∈ w,c < 1000) {f:Fo} (hf:∀ c ∈ f.1,c < 1000) (Ω:List OS) :
  foB [.dat (.lst (ws.map fun w => D.str (tx w))),.dat (formD f)] Ω = if fits ws f = true then some (.rt (formD f) Ω) else some (.nx [.dat (.lst (ws.map fun w => D.str (tx w))),.dat (formD f)] Ω):=by
 have e1:=lenMt_f f
 have e2:=ixM_f f
 unfold foB fits
 by_cases h:f.2.length + 1 = ws.length
 ·cases ws with
  | nil => simp at h
  | cons w r =>
   have h':((f.2.length + 1:Nat):Int) = ((w :: r).length:Nat):=by rw [h]
   have eq:=eq_tx false (a:=f.1) (b:=w) hf (hw w List.mem_cons_self)
   have h3:f.2.length = r.length:=by simpa using h
   by_cases q:f.1 = w
   ·rw [if_pos q] at eq
    subst q
    simp [e1,e2,eq,h3]
   ·rw [if_neg q] at eq
    simp [e1,e2,eq,q,h3]
 ·have h':¬ ((f.2.length:Int) + 1 = (ws.length:Int)):=by omega
  simp [e1,h,h']
theorem fo_loop {ws:List (List Nat)} (hw:∀ w ∈ ws,∀ c ∈ w,c < 1000) (Ω:List OS):∀ (fs:List Fo) (x:Sl),(∀ f ∈ fs,∀ c ∈ f.1,c < 1000) ->
  (∀ f,fs.find? (fits ws) = some f -> forD (bName 1) foB (fs.map formD) [.dat (.lst (ws.map fun w => D.str (tx w))),x] Ω = some (.rt (formD f) Ω)) /\
  (fs.find? (fits ws) = none -> ∃ y,forD (bName 1) foB (fs.map formD) [.dat (.lst (ws.map fun w => D.str (tx w))),x] Ω = some (.nx [.dat (.lst (ws.map fun w => D.str (tx w))),y] Ω))
 | [],x,_ => ⟨fun f h => by simp at h,fun _ => ⟨x,rfl⟩⟩
 | f :: fs,x,hf => by
  obtain ⟨i1,i2⟩:=fo_loop hw Ω fs (.dat (formD f)) fun g hg => hf g (List.mem_cons_of_mem _ hg)
  have e:=fo_one hw (hf f List.mem_cons_self) Ω
  rw [List.map_cons,for_cons,ap_bName]
  dsimp only [List.set]
  rw [e,List.find?_cons]
  cases q:fits ws f with
  | true =>
   refine ⟨fun g hg => ?_,fun hg => by simp at hg⟩
   have hg:f = g:=by simpa using hg
   rw [<- hg]
   rfl
  | false => exact ⟨fun g hg => i1 g hg,fun hg => i2 hg⟩
theorem FL_small:∀ f ∈ FL,∀ c ∈ f.1,c < 1000:=by decide
theorem FL_kinds:∀ f ∈ FL,∀ k ∈ f.2,Kd k:=by
 unfold Kd
 decide
theorem form_some {ws:List (List Nat)} (hw:∀ w ∈ ws,∀ c ∈ w,c < 1000) {f:Fo} (h:FL.find? (fits ws) = some f) (Ω:List OS):d_form_of [.lst (ws.map fun w => D.str (tx w))] Ω = some (formD f,Ω):=by
 have e:=(fo_loop hw Ω FL .und FL_small).1 f h
 refine run_rt rfl (seq_rt ?_)
 have gi:gMtS (gC g_FORMS) [.dat (.lst (ws.map fun w => D.str (tx w))),.und] Ω = some (FL.map formD,Ω):=by
  rw [forms_eq]
  rfl
 show sFor _ _ foB [.dat (.lst (ws.map fun w => D.str (tx w))),.und] Ω = _
 rw [ap_for,gi]
 exact e
theorem form_none {ws:List (List Nat)} (hw:∀ w ∈ ws,∀ c ∈ w,c < 1000) (h:FL.find? (fits ws) = none) (Ω:List OS):d_form_of [.lst (ws.map fun w => D.str (tx w))] Ω = some (.non,Ω):=by
 obtain ⟨y,e⟩:=(fo_loop hw Ω FL .und FL_small).2 h
 have gi:gMtS (gC g_FORMS) [.dat (.lst (ws.map fun w => D.str (tx w))),.und] Ω = some (FL.map formD,Ω):=by
  rw [forms_eq]
  rfl
 have s1:sFor (gMtS (gC g_FORMS)) (bName 1) foB [.dat (.lst (ws.map fun w => D.str (tx w))),.und] Ω = some (.nx [.dat (.lst (ws.map fun w => D.str (tx w))),y] Ω):=by
  rw [ap_for,gi]
  exact e
 exact run_rt rfl ((seq_nx s1).trans (by simp))
noncomputable def mapR:List (Nat × List Nat) -> Option (List D)
 | [] => some []
 | p :: r => match rp p.1 p.2 with
  | some v => match mapR r with
   | some vs => some (v :: vs)
   | none => none
  | none => none
noncomputable def askR (ws:List (List Nat)):D:=match FL.find? (fits ws) with
 | none => .non
 | some f => match mapR (f.2.zip ws.tail) with
  | some vs => .tup (.str (tx f.1) :: vs)
  | none => .non
noncomputable def pD (p:Nat × List Nat):D:=pairD (.str (longK p.1)) (.str (tx p.2))
noncomputable def apG:Den:=gCall d_read_part (gCons (gVar 0) (gCons (gVar 1) gNil))
noncomputable def apR:RDen:=rCall r_read_part (gCons (gVar 0) (gCons (gVar 1) gNil))
theorem bT2 (a b:D) (x y:Sl):bTup [0,1] (pairD a b) [x,y] = some [.dat a,.dat b]:=rfl
theorem mapR_cons (p:Nat × List Nat) (r:List (Nat × List Nat)):mapR (p :: r) = match rp p.1 p.2 with | some v => (match mapR r with | some vs => some (v :: vs) | none => none) | none => none:=rfl
theorem ask_ok (Ω:List OS):∀ (ps:List (Nat × List Nat)) (x y:Sl) (vs:List D),(∀ p ∈ ps,Kd p.1 /\ Tq 1000 p.2) -> mapR ps = some vs -> compD (bTup [0,1]) gTrue apG (ps.map pD) [x,y] Ω = some (vs,Ω)
 | [],x,y,vs,_,h => by cases h; rfl
 | p :: ps,x,y,vs,hp,h => by
  rw [mapR_cons] at h
  cases q:rp p.1 p.2 with
  | none => rw [q] at h; cases h
  | some v =>
   rw [q] at h
   dsimp only at h
   cases q2:mapR ps with
   | none => rw [q2] at h; cases h
   | some us =>
    rw [q2] at h
    cases h
    have e:=part_yes (hp p List.mem_cons_self).1 (hp p List.mem_cons_self).2 (Nat.le_refl _) q Ω
    have ih:=ask_ok Ω ps (.dat (.str (longK p.1))) (.dat (.str (tx p.2))) us (fun r hr => hp r (List.mem_cons_of_mem _ hr)) q2
    have eg:apG [.dat (.str (longK p.1)),.dat (.str (tx p.2))] Ω = some (v,Ω):=by unfold apG; simp [e]
    rw [List.map_cons,comp_cons,show pD p = pairD (.str (longK p.1)) (.str (tx p.2)) from rfl,bT2]
    simp [eg,ih]
theorem compR_cons (β:BDen) (p:TDen) (g:Den) (r:RDen) (d:D) (ds:List D) (ρ:List Sl) (Ω:List OS):compR β p g r (d :: ds) ρ Ω = match β d ρ with
 | some ρ1 => (match p ρ1 Ω with
  | some (true,Ω1) => (match r ρ1 Ω1 with
   | some z => some z
   | none => (match g ρ1 Ω1 with
    | some (_,Ω2) => compR β p g r ds ρ1 Ω2
    | none => none))
  | some (false,Ω1) => compR β p g r ds ρ1 Ω1
  | none => none)
 | none => none:=by first | (rw [compR]; done) | (rw [compR]; rfl)
theorem runR_no {n m:Nat} {r:SRDen} {ds:List D} {Ω:List OS} (hl:ds.length = n) (h:r (ds.map Sl.dat ++ List.replicate (m - n) Sl.und) Ω = none):runR n m r ds Ω = none:=by
 rw [ap_runR,if_pos hl,h]
theorem num_quiet {n:Nat} {w:List Nat} (h:Tq n w) (hn:n <= 1000) {lo hi v:Int} (hv:numR lo hi w = some v) (Ω:List OS):r_read_number [.str (tx w),.mt [.int lo,.int hi]] Ω = none:=by
 have et:=num_test h hn lo hi Ω
 rw [hv] at et
 have:rIf nmT (rRaiseV "BadText" (pFrs (gVar 0))) rNever [.dat (.str (tx w)),.dat (.mt [.int lo,.int hi])] Ω = none:=by
  rw [ap_rIf,et]
  rfl
 exact runR_no rfl this
theorem addr_quiet {n:Nat} {cs:List Nat} (h:Tq n cs) (hn:n <= 1000) {m:Int} (hm:adR cs = some m) (Ω:List OS):r_read_address [.str (tx cs)] Ω = none:=by
 have es:=spl_D h hn (c:=46) (by decide)
 have sl:=spl_len 46 cs
 have hl:=h.len
 have et:=ad_test hn (spl_Tq (c:=46) h) (by omega) (.dat (.str (tx cs))) Ω
 unfold adR at hm
 rw [hm] at et
 have s1:sSet 1 (gOp splD (gVar 0) (gC (.str "."))) [.dat (.str (tx cs)),.und] Ω = some (.nx [.dat (.str (tx cs)),.dat (.lst ((spl 46 cs).map fun w => D.str (tx w)))] Ω):=by rw [tx_dot]; simp [es]
 have:rThen (sSet 1 (gOp splD (gVar 0) (gC (.str ".")))) (rIf adT (rRaiseV "BadText" (pFrs (gVar 0))) rNever) [.dat (.str (tx cs)),.und] Ω = none:=by
  rw [ap_rThen,s1]
  dsimp only
  rw [ap_rIf,et]
  rfl
 exact runR_no rfl this
theorem loopR_ok (X0 X1 X2:Sl) (Ω:List OS):∀ (ss:List Nat) (m:Int) (x:Sl),(∀ c ∈ ss,c < 128) -> ss.all isB = true -> forR (bName 4) readS readR (ss.map fun c => D.str (tx [c])) [X0,X1,X2,.dat (.int m),x] Ω = none
 | [],m,x,_,_ => rfl
 | c :: ss,m,x,h,g => by
  rw [List.all_cons,Bool.and_eq_true] at g
  have ih:=loopR_ok X0 X1 X2 Ω ss (2 * m + bit c) (.dat (.str (tx [c]))) (fun d hd => h d (List.mem_cons_of_mem _ hd)) g.2
  rw [List.map_cons,forR_cons,ap_bName]
  dsimp only [List.set]
  rw [readR_no X0 X1 X2 (.dat (.int m)) Ω g.1,read_one X0 X1 X2 Ω m (h c List.mem_cons_self) g.1]
  exact ih
theorem beg_quiet {n:Nat} {cs:List Nat} (hq:Tq n cs) (hn:n <= 1000) {k:Bg} (hk:fm cs = some k) (Ω:List OS):r_read_beginning [.str (tx cs)] Ω = none:=by
 unfold fm at hk
 split at hk
 ·rename_i hg
  have hs:=sgs_q hq
  obtain ⟨s1,s2⟩:=rb_head hq hn Ω .und .und .und
  have et:=b1_test hq hn (.dat (.str (tx cs))) .und .und Ω
  rw [hg.1] at et
  have el:=loopR_ok (.dat (.str (tx cs))) (.dat (.bl (sta cs))) (.dat (.str (tx (sgs cs)))) Ω (sgs cs) 0 .und hs.lt hg.2
  have gt:gTx (gVar 2) [.dat (.str (tx cs)),.dat (.bl (sta cs)),.dat (.str (tx (sgs cs))),.dat (.int 0),.und] Ω = some ((sgs cs).map (fun c => D.str (tx [c])),Ω):=by
   unfold gTx
   simp [signs_tx]
  have s3:sIf b1T sNever sNext [.dat (.str (tx cs)),.dat (.bl (sta cs)),.dat (.str (tx (sgs cs))),.und,.und] Ω = some (.nx [.dat (.str (tx cs)),.dat (.bl (sta cs)),.dat (.str (tx (sgs cs))),.und,.und] Ω):=by
   rw [ap_sIf,et]
   rfl
  have s4:sSet 3 (gC (.int 0)) [.dat (.str (tx cs)),.dat (.bl (sta cs)),.dat (.str (tx (sgs cs))),.und,.und] Ω = some (.nx [.dat (.str (tx cs)),.dat (.bl (sta cs)),.dat (.str (tx (sgs cs))),.dat (.int 0),.und] Ω):=by simp
  have:rThen (sSet 1 (gOp endsD (gVar 0) (gC (.str "*")))) (rThen (sSet 2 (gIf (gT (gVar 1)) (gSlS (gVar 0) gNoPart (gPart (gNeg (gC (.int 1))))) (gVar 0))) (rOr (rIf b1T (rRaiseV "BadText" (pFrs (gVar 0))) rNever) (rThen (sIf b1T sNever sNext) (rThen (sSet 3 (gC (.int 0))) (rFor (gTx (gVar 2)) (bName 4) readS readR))))) [.dat (.str (tx cs)),.und,.und,.und,.und] Ω = none:=by
   rw [ap_rThen,s1]
   dsimp only
   rw [ap_rThen,s2]
   dsimp only
   rw [ap_rOr,ap_rIf,et]
   dsimp only [ap_rNever]
   rw [ap_rNever]
   dsimp only
   rw [ap_rThen,s3]
   dsimp only
   rw [ap_rThen,s4]
   dsimp only
   rw [ap_rFor,gt]
   exact el
  exact runR_no rfl this
 ·cases hk
theorem part_quiet {n k:Nat} {w:List Nat} (hk:Kd k) (h:Tq n w) (hn:n <= 1000) {v:D} (hv:rp k w = some v) (Ω:List OS):r_read_part [.str (longK k),.str (tx w)] Ω = none:=by
 obtain ⟨e1,e2⟩:=eqK hk
 have py:=part_yes hk h hn hv Ω
 unfold rp at hv
 by_cases h1:k = 66
 ·rw [if_pos h1] at hv
  obtain ⟨b,hb,rfl⟩:=Option.map_eq_some_iff.mp hv
  have q:=beg_quiet h hn hb Ω
  have q2:=rbeg_yes h hn hb Ω
  rw [decide_eq_true h1] at e1
  exact runR_no rfl (by simp [e1,q,q2])
 ·rw [if_neg h1] at hv
  rw [decide_eq_false h1] at e1
  by_cases h2:k = 65
  ·rw [if_pos h2] at hv
   obtain ⟨b,hb,rfl⟩:=Option.map_eq_some_iff.mp hv
   have q:=addr_quiet h hn hb Ω
   have q2:=raddr_yes h hn hb Ω
   rw [decide_eq_true h2] at e2
   exact runR_no rfl (by simp [e1,e2,q,q2])
  ·rw [if_neg h2] at hv
   obtain ⟨b,hb,rfl⟩:=Option.map_eq_some_iff.mp hv
   have q:=num_quiet h hn hb Ω
   rw [decide_eq_false h2] at e2
   have gt:∀ ρ:List Sl,ρ[0]? = some (.dat (.str (longK k))) -> gTab g_BOUNDS (gVar 0) ρ Ω = some (.mt [.int (loK k),.int (hiK k)],Ω):=fun ρ e => by
    unfold gTab
    simp [e,strO,tabK hk h1 h2]
   exact runR_no rfl (by simp [e1,e2,gt,q])
theorem ask_bad (Ω:List OS):∀ (ps:List (Nat × List Nat)) (x y:Sl),(∀ p ∈ ps,Kd p.1 /\ Tq 1000 p.2) -> mapR ps = none -> compD (bTup [0,1]) gTrue apG (ps.map pD) [x,y] Ω = none /\ compR (bTup [0,1]) gTrue apG apR (ps.map pD) [x,y] Ω = some (("BadText":Str),Ω)
 | [],x,y,_,h => by cases h
 | p :: ps,x,y,hp,h => by
  rw [mapR_cons] at h
  obtain ⟨kd,tq⟩:=hp p List.mem_cons_self
  rw [List.map_cons,comp_cons,compR_cons,show pD p = pairD (.str (longK p.1)) (.str (tx p.2)) from rfl,bT2]
  dsimp only
  rw [ap_true]
  dsimp only
  cases q:rp p.1 p.2 with
  | none =>
   obtain ⟨e1,e2⟩:=part_no kd tq (Nat.le_refl _) q Ω
   have eg:apG [.dat (.str (longK p.1)),.dat (.str (tx p.2))] Ω = none:=by unfold apG; simp [e1]
   have er:apR [.dat (.str (longK p.1)),.dat (.str (tx p.2))] Ω = some (("BadText":Str),Ω):=by unfold apR; simp [e2]
   rw [eg,er]
   exact ⟨rfl,rfl⟩
  | some v =>
   rw [q] at h
   dsimp only at h
   cases q2:mapR ps with
   | some us => rw [q2] at h; cases h
   | none =>
    have e:=part_yes kd tq (Nat.le_refl _) q Ω
    have e2:=part_quiet kd tq (Nat.le_refl _) q Ω
    obtain ⟨i1,i2⟩:=ask_bad Ω ps (.dat (.str (longK p.1))) (.dat (.str (tx p.2))) (fun r hr => hp r (List.mem_cons_of_mem _ hr)) q2
    have eg:apG [.dat (.str (longK p.1)),.dat (.str (tx p.2))] Ω = some (v,Ω):=by unfold apG; simp [e]
    have er:apR [.dat (.str (longK p.1)),.dat (.str (tx p.2))] Ω = none:=by unfold apR; simp [e2]
    rw [eg,er]
    dsimp only
    rw [i1,i2]
    exact ⟨rfl,rfl⟩
end Law
namespace Law
open PySem DL L2
theorem run_nx {n m:Nat} {s:SDen} {ds:List D} {ρ:List Sl} {Ω Ω':List OS} (hl:ds.length = n) (h:s (ds.map Sl.dat ++ List.replicate (m - n) Sl.und) Ω = some (.nx ρ Ω')):runD n m s ds Ω = some (.non,Ω'):=by
 rw [ap_run,if_pos hl,h]
theorem need_den (z:Str) (Ω:List OS):d_need_text [.str z] Ω = some (.non,Ω):=run_nx (ρ:=[.dat (.str z)]) rfl (by simp [instD,tyD])
theorem wds_Tq {n:Nat} {cs:List Nat} (h:Tq n cs):∀ w ∈ wds cs,Tq n w:=fun w hw => spl_Tq h w (List.mem_filter.mp hw).1
theorem FL_len:∀ f ∈ FL,f.2.length <= 3:=by decide
theorem sl_form (f:Fo):slMD (formD f) (some 1) none = some (.tup (f.2.map fun k => D.str (longK k))):=by
 unfold slMD formD mtO
 rw [Option.bind_some]
 have e:cutL (D.str (tx f.1) :: f.2.map fun k => D.str (longK k)) (some ((1:Nat):Int)) none = f.2.map fun k => D.str (longK k):=by rw [cut_from]; rfl
 have e':cutL (D.str (tx f.1) :: f.2.map fun k => D.str (longK k)) (some 1) none = f.2.map fun k => D.str (longK k):=e
 rw [if_neg,e']
 intro z
 have z:=z.1
 have:HT.sIx (D.str (tx f.1) :: f.2.map fun k => D.str (longK k)).length 0 (some ((1:Nat):Int)) = 0:=z
 rw [HT.sIx_nat] at this
 simp at this
theorem zip_pD:∀ (ks:List Nat) (ws:List (List Nat)),List.zipWith pairD (ks.map fun k => D.str (longK k)) (ws.map fun w => D.str (tx w)) = (ks.zip ws).map pD
 | [],_ => by simp
 | _ :: _,[] => by simp
 | k :: ks,w :: ws => by
  have:=zip_pD ks ws
  simp only [List.map_cons,List.zipWith_cons_cons,List.zip_cons_cons,this]
  rfl
noncomputable def apZ:ADen:=gRng zipD (gCons (gSlM (gVar 2) (gPart (gC (.int 1))) gNoPart) (gCons (gSl (gVar 1) (gPart (gC (.int 1))) gNoPart) gNil))
theorem zip_den (X0 X3:Sl) (f:Fo) (ws:List (List Nat)) (Ω:List OS):apZ [X0,.dat (.lst (ws.map fun w => D.str (tx w))),.dat (formD f),X3] Ω = some ((f.2.zip ws.tail).map pD,Ω):=by
 have e1:gSlM (gVar 2) (gPart (gC (.int 1))) gNoPart [X0,.dat (.lst (ws.map fun w => D.str (tx w))),.dat (formD f),X3] Ω = some (.tup (f.2.map fun k => D.str (longK k)),Ω):=by
  unfold gSlM
  simp [sl_form]
 have e2:cutL (ws.map fun w => D.str (tx w)) (some ((1:Nat):Int)) none = ws.tail.map fun w => D.str (tx w):=by rw [cut_from,<- List.map_drop,List.drop_one]
 have e2':cutL (ws.map fun w => D.str (tx w)) (some 1) none = ws.tail.map fun w => D.str (tx w):=e2
 have e3:gSl (gVar 1) (gPart (gC (.int 1))) gNoPart [X0,.dat (.lst (ws.map fun w => D.str (tx w))),.dat (formD f),X3] Ω = some (.lst (ws.tail.map fun w => D.str (tx w)),Ω):=by simp [e2']
 unfold apZ
 rw [ap_rng,ap_cons,e1]
 dsimp only
 rw [ap_cons,e3]
 dsimp only
 rw [ap_nil]
 show (match some (List.zipWith pairD _ _) with | some es => some (es,Ω) | none => none) = _
 rw [zip_pD]
theorem asked_den {cs:List Nat} (h:Tq 1000 cs) (Ω:List OS):d_asked_by [.str (tx cs)] Ω = some (askR (wds cs),Ω):=by
 have hw:=wds_Tq h
 have hs:∀ w ∈ wds cs,∀ c ∈ w,c < 1000:=fun w hx => (hw w hx).small
 have ew:=words_den h (Nat.le_refl _) Ω
 have en:=need_den (tx cs) Ω
 generalize wds cs = ws at *
 refine run_rt rfl ((seq_nx (ρ':=[.dat (.str (tx cs)),.und,.und,.und]) (Ω':=Ω) (by simp [en])).trans ?_)
 refine (seq_nx (ρ':=[.dat (.str (tx cs)),.dat (.lst (ws.map fun w => D.str (tx w))),.und,.und]) (Ω':=Ω) (by simp [ew])).trans ?_
 unfold askR
 cases q:FL.find? (fits ws) with
 | none =>
  have ef:=form_none hs q Ω
  refine (seq_nx (ρ':=[.dat (.str (tx cs)),.dat (.lst (ws.map fun w => D.str (tx w))),.dat .non,.und]) (Ω':=Ω) (by simp [ef])).trans ?_
  exact seq_rt (by simp [isD,isNone])
 | some f =>
  have hf:f ∈ FL:=List.mem_of_find?_eq_some q
  have ef:=form_some hs q Ω
  have l3:=FL_len f hf
  refine (seq_nx (ρ':=[.dat (.str (tx cs)),.dat (.lst (ws.map fun w => D.str (tx w))),.dat (formD f),.und]) (Ω':=Ω) (by simp [ef])).trans ?_
  have en:isD false (formD f) .non = some (.bl false):=rfl
  refine (seq_nx (ρ':=[.dat (.str (tx cs)),.dat (.lst (ws.map fun w => D.str (tx w))),.dat (formD f),.und]) (Ω':=Ω) (by simp [en])).trans ?_
  have hp:∀ p ∈ f.2.zip ws.tail,Kd p.1 /\ Tq 1000 p.2:=fun p hp => by
   obtain ⟨a,b⟩:=p
   have:=List.of_mem_zip hp
   exact ⟨FL_kinds f hf a this.1,hw b (List.mem_of_mem_tail this.2)⟩
  have ez:=zip_den (.dat (.str (tx cs))) .und f ws Ω
  have lz:((f.2.zip ws.tail).map pD).length <= 100000:=by simp; omega
  have ein:innerD [none,none] [Sl.dat (D.str (tx cs)),Sl.dat (D.lst (ws.map fun w => D.str (tx w))),Sl.dat (formD f),Sl.und] = [.und,.und]:=rfl
  dsimp only
  cases q2:mapR (f.2.zip ws.tail) with
  | some vs =>
   have e:=ask_ok Ω (f.2.zip ws.tail) .und .und vs hp q2
   have lv:vs.length <= 3:=by
    have:∀ (ps:List (Nat × List Nat)) (vs:List D),mapR ps = some vs -> vs.length = ps.length:=by
     intro ps
     induction ps with
     | nil => intro vs h; cases h; rfl
     | cons p ps ih =>
      intro vs h
      rw [mapR_cons] at h
      cases a:rp p.1 p.2 with
      | none => rw [a] at h; cases h
      | some v =>
       rw [a] at h
       dsimp only at h
       cases b:mapR ps with
       | none => rw [b] at h; cases h
       | some us => rw [b] at h; cases h; rw [List.length_cons,List.length_cons,ih us b]
    have:=this _ _ q2
    simp at this
    omega
   have s5:∀ r t:SDen,∀ rr:SRDen,sTryU (sSet 3 (gComp [none,none] apZ (bTup [0,1]) gTrue apG)) rr tcf_BadText t [.dat (.str (tx cs)),.dat (.lst (ws.map fun w => D.str (tx w))),.dat (formD f),.und] Ω = some (.nx [.dat (.str (tx cs)),.dat (.lst (ws.map fun w => D.str (tx w))),.dat (formD f),.dat (.lst vs)] Ω):=fun r t rr => by
    have:sSet 3 (gComp [none,none] apZ (bTup [0,1]) gTrue apG) [.dat (.str (tx cs)),.dat (.lst (ws.map fun w => D.str (tx w))),.dat (formD f),.und] Ω = some (.nx [.dat (.str (tx cs)),.dat (.lst (ws.map fun w => D.str (tx w))),.dat (formD f),.dat (.lst vs)] Ω):=by
     rw [ap_set,ap_comp,ez]
     dsimp only
     rw [if_pos lz,ein,e]
     rfl
    unfold sTryU
    rw [this]
   refine (seq_nx (s5 sNext _ _)).trans ?_
   have e6:=ixM_f f
   have e7:addTD (.tup [.str (tx f.1)]) (.tup vs) = some (.tup (.str (tx f.1) :: vs)):=by
    show (if _ then _ else _) = _
    rw [if_pos (by show 1 + vs.length <= 100000; omega)]
    rfl
   have e8:tuple1D [.lst vs] = some (.tup vs):=rfl
   simp [e6,e7,e8]
  | none =>
   obtain ⟨e1,e2⟩:=ask_bad Ω (f.2.zip ws.tail) .und .und hp q2
   have s5:sTryU (sSet 3 (gComp [none,none] apZ (bTup [0,1]) gTrue apG)) (rE (rComp [none,none] apZ (bTup [0,1]) gTrue apG apR)) tcf_BadText (sRet (gC .non)) [.dat (.str (tx cs)),.dat (.lst (ws.map fun w => D.str (tx w))),.dat (formD f),.und] Ω = some (.rt .non Ω):=by
    have a:sSet 3 (gComp [none,none] apZ (bTup [0,1]) gTrue apG) [.dat (.str (tx cs)),.dat (.lst (ws.map fun w => D.str (tx w))),.dat (formD f),.und] Ω = none:=by
     rw [ap_set,ap_comp,ez]
     dsimp only
     rw [if_pos lz,ein,e1]
    have b:rE (rComp [none,none] apZ (bTup [0,1]) gTrue apG apR) [.dat (.str (tx cs)),.dat (.lst (ws.map fun w => D.str (tx w))),.dat (formD f),.und] Ω = some (("BadText":Str),[.dat (.str (tx cs)),.dat (.lst (ws.map fun w => D.str (tx w))),.dat (formD f),.und],Ω):=by
     have c:rComp [none,none] apZ (bTup [0,1]) gTrue apG apR [.dat (.str (tx cs)),.dat (.lst (ws.map fun w => D.str (tx w))),.dat (formD f),.und] Ω = some (("BadText":Str),Ω):=by
      unfold rComp
      rw [ez]
      dsimp only
      rw [if_pos lz,ein,e2]
     rw [ap_rE,c]
    unfold sTryU
    rw [a,b]
    dsimp only
    rw [if_pos (by decide +kernel)]
    rfl
   exact seq_rt s5
end Law
namespace Law
open PySem DL L2 PySem.NumText
theorem txi {a b:List Nat}:tx a = tx b ↔ a = b:=⟨tx_inj,fun h => by rw [h]⟩
theorem dg_ok {m k:Nat} (hk:0 < k) (h:m < 10 ^ k):figB k (dg (m:Int)) = true /\ digitsVal (dg (m:Int)) = m:=by
 have e:=dg_nat m
 have v:digitsVal (dg (m:Int)) = m:=by rw [e]; exact PySem.W.KIN.val_back m
 have l1:1 <= (dg (m:Int)).length:=by rw [e,List.length_map]; exact Nat.length_toDigits_pos
 have l2:(dg (m:Int)).length <= k:=by rw [e,List.length_map]; exact (Nat.length_toDigits_le_iff (by decide) hk).mpr h
 refine ⟨?_,v⟩
 have f:fgs (dg (m:Int)) = true:=fgs_iff.mpr (dg_fig m)
 unfold figB
 rw [f,v]
 simp [l1,l2]
theorem dg_Wd {m k:Nat} (hk:0 < k) (h9:k <= 9) (h:m < 10 ^ k):Wd (dg (m:Int)):=by
 obtain ⟨l1,l2,_,_⟩:=figB_of (dg_ok hk h).1
 refine ⟨fun z => by rw [z] at l1; simp at l1,fun c hc => ?_,by omega⟩
 have:=dg_fig m c hc
 omega
theorem spl_two {c:Nat} {a b:List Nat} (ha:∀ x ∈ a,x ≠ c) (hb:∀ x ∈ b,x ≠ c):spl c (a ++ c :: b) = [a,b]:=by
 have one:∀ b:List Nat,(∀ x ∈ b,x ≠ c) -> spl c b = [b]:=by
  intro b
  induction b with
  | nil => intro _; rfl
  | cons x b ih =>
   intro h
   conv => lhs; unfold spl
   rw [if_neg (h x List.mem_cons_self),ih fun y hy => h y (List.mem_cons_of_mem _ hy)]
 induction a with
 | nil =>
  rw [List.nil_append]
  conv => lhs; unfold spl
  rw [if_pos rfl,one b hb]
 | cons x a ih =>
  rw [List.cons_append]
  conv => lhs; unfold spl
  rw [if_neg (ha x List.mem_cons_self),ih fun y hy => ha y (List.mem_cons_of_mem _ hy)]
theorem addr_word {x y:Nat} (hx:x < 256) (hy:y < 256):adR (dg (x:Int) ++ 46 :: dg (y:Int)) = some (256 * (x:Int) + (y:Int)) /\ Wd (dg (x:Int) ++ 46 :: dg (y:Int)):=by
 obtain ⟨f1,v1⟩:=dg_ok (m:=x) (k:=3) (by decide) (by omega)
 obtain ⟨f2,v2⟩:=dg_ok (m:=y) (k:=3) (by decide) (by omega)
 have w1:=dg_Wd (m:=x) (k:=3) (by decide) (by decide) (by omega)
 have w2:=dg_Wd (m:=y) (k:=3) (by decide) (by decide) (by omega)
 obtain ⟨_,l1,_⟩:=figB_of f1
 obtain ⟨_,l2,_⟩:=figB_of f2
 constructor
 ·unfold adR
  rw [spl_two (fun z hz => by have:=dg_fig x z hz; omega) (fun z hz => by have:=dg_fig y z hz; omega)]
  unfold rdA eB
  have a1:x <= 255:=by omega
  have a2:y <= 255:=by omega
  simp [f1,f2,v1,v2,a1,a2]
 ·refine ⟨by simp,fun c hc => ?_,by simp; omega⟩
  rcases List.mem_append.mp hc with z | z
  ·exact w1.lt c z
  ·rcases List.mem_cons.mp z with z | z
   ·omega
   ·exact w2.lt c z
noncomputable def Bs (ss:List Nat):Prop:=∀ c ∈ ss,c = 48 \/ c = 49
noncomputable def begW (ss:List Nat):List Nat:=ss ++ (if ss.length = 16 then [] else [42])
theorem beg_word {ss:List Nat} (h:Bs ss) (hl:ss.length <= 16):fm (begW ss) = some (numL (ss.map bit),(ss.length:Int)) /\ Wd (begW ss):=by
 have al:ss.all isB = true:=List.all_eq_true.mpr fun c hc => by
  rcases h c hc with rfl | rfl <;> rfl
 constructor
 ·by_cases h16:ss.length = 16
  ·have e:begW ss = ss:=by simp [begW,h16]
   have st:sta ss = false:=by
    unfold sta
    rcases last_cases ss with rfl | ⟨a,d,rfl⟩
    ·simp at h16
    ·have:=h d (by simp)
     have:¬ d = 42:=by omega
     simp [this]
   have sg:sgs ss = ss:=by simp [sgs,st]
   rw [e]
   unfold fm bad1
   rw [sg,st,al,h16]
   simp [h16]
  ·have e:begW ss = ss ++ [42]:=by simp [begW,h16]
   have st:sta (ss ++ [42]) = true:=by simp [sta]
   have sg:sgs (ss ++ [42]) = ss:=by simp [sgs,st]
   rw [e]
   unfold fm bad1
   rw [sg,st,al]
   have:¬ ss.length > 16:=by omega
   simp [h16]
   omega
 ·refine ⟨fun z => ?_,fun c hc => ?_,?_⟩
  ·by_cases h16:ss.length = 16
   ·have e:begW ss = ss:=by simp [begW,h16]
    rw [e] at z
    rw [z] at h16
    cases h16
   ·have e:begW ss = ss ++ [42]:=by simp [begW,h16]
    rw [e] at z
    simp at z
  ·unfold begW at hc
   rcases List.mem_append.mp hc with z | z
   ·have:=h c z; omega
   ·split at z
    ·cases z
    ·have:=List.mem_singleton.mp z; omega
  ·unfold begW
   split <;> simp <;> omega
noncomputable def bsG:Den:=gOp modD (gOp divD (gOp divD (gVar 2) (gOp ixD (gLst (gCons (gC (.int 1)) (gCons (gC (.int 2)) (gCons (gC (.int 4)) (gCons (gC (.int 8)) (gCons (gC (.int 16)) (gCons (gC (.int 32)) (gCons (gC (.int 64)) (gCons (gC (.int 128)) gNil))))))))) (gOp modD (gVar 4) (gC (.int 8))))) (gOp ixD (gLst (gCons (gC (.int 1)) (gCons (gC (.int 256)) gNil))) (gOp divD (gVar 4) (gC (.int 8))))) (gC (.int 2))
theorem bsG_den (X0 X1 X3 X5 X6:Sl) (b:Int) {k:Nat} (hk:k < 16) (Ω:List OS):∃ x:Int,bsG [X0,X1,.dat (.int b),X3,.dat (.int k),X5,X6] Ω = some (.int (x % 2),Ω):=by
 have:∀ (p q:Int),(0 < p /\ p < 1073741824) -> (0 < q /\ q < 1073741824) -> ixD (.lst [.int 1,.int 2,.int 4,.int 8,.int 16,.int 32,.int 64,.int 128]) (.int ((k:Int) % 8)) = some (.int p) -> ixD (.lst [.int 1,.int 256]) (.int ((k:Int) / 8)) = some (.int q) -> ∃ x:Int,bsG [X0,X1,.dat (.int b),X3,.dat (.int k),X5,X6] Ω = some (.int (x % 2),Ω):=fun p q hp hq e1 e2 => by
  refine ⟨b / p / q,?_⟩
  have d1:divD (.int b) (.int p) = some (.int (b / p)):=by simp [hp]
  have d2:divD (.int (b / p)) (.int q) = some (.int (b / p / q)):=by simp [hq]
  unfold bsG
  simp only [ap_op,ap_var,ap_lst,ap_cons,ap_c,ap_nil,List.getElem?_cons_zero,List.getElem?_cons_succ]
  simp [e1,e2,d1,d2]
 rcases (by omega:k = 0 \/ k = 1 \/ k = 2 \/ k = 3 \/ k = 4 \/ k = 5 \/ k = 6 \/ k = 7 \/ k = 8 \/ k = 9 \/ k = 10 \/ k = 11 \/ k = 12 \/ k = 13 \/ k = 14 \/ k = 15) with rfl | rfl | rfl | rfl | rfl | rfl | rfl | rfl | rfl | rfl | rfl | rfl | rfl | rfl | rfl | rfl
 ·exact this 1 1 (by decide) (by decide) rfl rfl
 ·exact this 2 1 (by decide) (by decide) rfl rfl
 ·exact this 4 1 (by decide) (by decide) rfl rfl
 ·exact this 8 1 (by decide) (by decide) rfl rfl
 ·exact this 16 1 (by decide) (by decide) rfl rfl
 ·exact this 32 1 (by decide) (by decide) rfl rfl
 ·exact this 64 1 (by decide) (by decide) rfl rfl
 ·exact this 128 1 (by decide) (by decide) rfl rfl
 ·exact this 1 256 (by decide) (by decide) rfl rfl
 ·exact this 2 256 (by decide) (by decide) rfl rfl
 ·exact this 4 256 (by decide) (by decide) rfl rfl
 ·exact this 8 256 (by decide) (by decide) rfl rfl
 ·exact this 16 256 (by decide) (by decide) rfl rfl
 ·exact this 32 256 (by decide) (by decide) rfl rfl
 ·exact this 64 256 (by decide) (by decide) rfl rfl
 ·exact this 128 256 (by decide) (by decide) rfl rfl
noncomputable def bsL:SDen:=sApp 3 (gOp ixD (gC (.str "01")) bsG)
theorem bs_step (X0 X1 X5 X6:Sl) (b:Int) {k:Nat} (hk:k < 16) (fs:List Nat) (hf:fs.length < 1000) (Ω:List OS):∃ c:Nat,(c = 48 \/ c = 49) /\ bsL [X0,X1,.dat (.int b),.own (fs.map fun c => D.str (tx [c])),.dat (.int k),X5,X6] Ω = some (.nx [X0,X1,.dat (.int b),.own ((fs ++ [c]).map fun c => D.str (tx [c])),.dat (.int k),X5,X6] Ω):=by
 obtain ⟨x,e⟩:=bsG_den X0 X1 (.own (fs.map fun c => D.str (tx [c]))) X5 X6 b hk Ω
 have hb:fs.length < 100000:=by omega
 unfold bsL
 rcases (by omega:x % 2 = 0 \/ x % 2 = 1) with z | z
 ·rw [z] at e
  have i0:ixD (.str (tx [48,49])) (.int 0) = some (.str (tx [48])):=rfl
  refine ⟨48,.inl rfl,?_⟩
  rw [tx_01,ap_app,ap_op,ap_c]
  dsimp only
  rw [e]
  simp [i0,hb]
 ·rw [z] at e
  have i0:ixD (.str (tx [48,49])) (.int 1) = some (.str (tx [49])):=rfl
  refine ⟨49,.inr rfl,?_⟩
  rw [tx_01,ap_app,ap_op,ap_c]
  dsimp only
  rw [e]
  simp [i0,hb]
theorem upD_cons (lo:Int) (n:Nat):upD lo (n + 1) = D.int lo :: upD (lo + 1) n:=by
 unfold upD
 rw [List.range_succ_eq_map,List.map_cons,List.map_map]
 congr 1
 ·simp
 ·apply List.map_congr_left
  intro k _
  show D.int (lo + ((k + 1:Nat):Int)) = D.int (lo + 1 + (k:Int))
  congr 1
  omega
theorem bs_loop (X0 X1 X5 X6:Sl) (b:Int) (Ω:List OS):∀ (n lo:Nat) (fs:List Nat) (x:Sl),lo + n <= 16 -> fs.length = lo -> Bs fs -> ∃ (gs:List Nat) (y:Sl),gs.length = lo + n /\ Bs gs /\
  forD (bName 4) bsL (upD lo n) [X0,X1,.dat (.int b),.own (fs.map fun c => D.str (tx [c])),x,X5,X6] Ω = some (.nx [X0,X1,.dat (.int b),.own (gs.map fun c => D.str (tx [c])),y,X5,X6] Ω)
 | 0,lo,fs,x,_,hf,hb => ⟨fs,x,by omega,hb,rfl⟩
 | n + 1,lo,fs,x,hl,hf,hb => by
  obtain ⟨c,hc,e⟩:=bs_step X0 X1 X5 X6 b (k:=lo) (by omega) fs (by omega) Ω
  obtain ⟨gs,y,h1,h2,h3⟩:=bs_loop X0 X1 X5 X6 b Ω n (lo + 1) (fs ++ [c]) (.dat (.int lo)) (by omega) (by simp; omega) (by
   intro d hd
   rcases List.mem_append.mp hd with z | z
   ·exact hb d z
   ·rw [List.mem_singleton.mp z]; exact hc)
  refine ⟨gs,y,by omega,h2,?_⟩
  have cs:upD (lo:Int) (n + 1) = .int lo :: upD ((lo + 1:Nat):Int) n:=by rw [upD_cons]; rfl
  rw [cs,for_cons]
  show (match bsL [X0,X1,.dat (.int b),.own (fs.map fun c => D.str (tx [c])),.dat (.int lo),X5,X6] Ω with | some (.nx ρ' Ω') => forD (bName 4) bsL (upD ((lo + 1:Nat):Int) n) ρ' Ω' | some (.ct ρ' Ω') => forD (bName 4) bsL (upD ((lo + 1:Nat):Int) n) ρ' Ω' | some (.bk ρ' Ω') => some (.nx ρ' Ω') | some (.rt d Ω') => some (.rt d Ω') | none => none) = _
  rw [e]
  exact h3
noncomputable def vaL:SDen:=sSet 5 (gOp addD (gOp mulD (gC (.int 2)) (gVar 5)) (gCB int1D (gCons (gOp (eqD false) (gVar 6) (gC (.str "1"))) gNil)))
theorem va_loop (X0 X1 X2 X3 X4:Sl) (Ω:List OS):∀ (ss:List Nat) (m:Int) (x:Sl),Bs ss -> ∃ y:Sl,forD (bName 6) vaL (ss.map fun c => D.str (tx [c])) [X0,X1,X2,X3,X4,.dat (.int m),x] Ω = some (.nx [X0,X1,X2,X3,X4,.dat (.int ((ss.map bit).foldl (fun a b => 2 * a + b) m)),y] Ω)
 | [],m,x,_ => ⟨x,rfl⟩
 | c :: ss,m,x,h => by
  obtain ⟨y,ih⟩:=va_loop X0 X1 X2 X3 X4 Ω ss (2 * m + bit c) (.dat (.str (tx [c]))) fun d hd => h d (List.mem_cons_of_mem _ hd)
  refine ⟨y,?_⟩
  have m2:mulD (.int 2) (.int m) = some (.int (2 * m)):=mul_i (.inl ⟨by decide,by decide⟩)
  have st:vaL [X0,X1,X2,X3,X4,.dat (.int m),.dat (.str (tx [c]))] Ω = some (.nx [X0,X1,X2,X3,X4,.dat (.int (2 * m + bit c)),.dat (.str (tx [c]))] Ω):=by
   unfold vaL
   rw [tx_1]
   rcases h c List.mem_cons_self with rfl | rfl
   ·have eq:eqD false (.str (tx [48])) (.str (tx [49])) = some (.bl false):=eq_tx false (a:=[48]) (b:=[49]) (by simp) (by simp)
    simp [eq,m2,bit]
   ·have eq:eqD false (.str (tx [49])) (.str (tx [49])) = some (.bl true):=eq_tx false (a:=[49]) (b:=[49]) (by simp) (by simp)
    simp [eq,m2,bit]
  rw [List.map_cons,for_cons,ap_bName]
  dsimp only [List.set]
  rw [st]
  exact ih
theorem beg_den {c:Int} (hc:0 <= c) (Ω:List OS):∃ ss:List Nat,Bs ss /\ ss.length <= 16 /\ d_l_beginning [.int c] Ω = some (.tup [bD (numL (ss.map bit),(ss.length:Int)),.str (tx (begW ss))],Ω):=by
 obtain ⟨s,hs,es⟩:∃ s:Nat,s <= 16 /\ ixD (.lst [.int (c / 17 % 17),.int 16,.int 0,.int (c / 17 % 4)]) (.int (c % 4)) = some (.int s):=by
  rcases (by omega:c % 4 = 0 \/ c % 4 = 1 \/ c % 4 = 2 \/ c % 4 = 3) with z | z | z | z <;> rw [z]
  ·exact ⟨(c / 17 % 17).toNat,by omega,by rw [show (((c / 17 % 17).toNat:Nat):Int) = c / 17 % 17 by omega]; rfl⟩
  ·exact ⟨16,by omega,rfl⟩
  ·exact ⟨0,by omega,rfl⟩
  ·exact ⟨(c / 17 % 4).toNat,by omega,by rw [show (((c / 17 % 4).toNat:Nat):Int) = c / 17 % 4 by omega]; rfl⟩
 obtain ⟨ss,y,l1,bs,e3⟩:=bs_loop (.dat (.int c)) (.dat (.int s)) .und .und (c / 68 % 65536) Ω s 0 [] .und (by omega) rfl (fun _ h => by cases h)
 obtain ⟨y2,e5⟩:=va_loop (.dat (.int c)) (.dat (.int s)) (.dat (.int (c / 68 % 65536))) (.dat (.lst (ss.map fun c => D.str (tx [c])))) y Ω ss 0 .und bs
 have l1:ss.length = s:=by omega
 refine ⟨ss,bs,by omega,run_rt rfl ?_⟩
 refine (seq_nx (ρ':=[.dat (.int c),.dat (.int s),.und,.und,.und,.und,.und]) (Ω':=Ω) (by
  simp only [ap_set,ap_op,ap_lst,ap_cons,ap_nil,ap_c,ap_var]
  simp only [List.map_cons,List.map_nil,List.cons_append,List.nil_append,List.getElem?_cons_zero]
  simp
  rw [show L2.atI [D.int (c / 17 % 17),.int 16,.int 0,.int (c / 17 % 4)] (c % 4) = some (.int s) from es])).trans ?_
 refine (seq_nx (ρ':=[.dat (.int c),.dat (.int s),.dat (.int (c / 68 % 65536)),.und,.und,.und,.und]) (Ω':=Ω) (by simp)).trans ?_
 refine (seq_nx (ρ':=[.dat (.int c),.dat (.int s),.dat (.int (c / 68 % 65536)),.own [],.und,.und,.und]) (Ω':=Ω) (by simp)).trans ?_
 have er:rng1 [.int (s:Int)] = some (upD 0 s):=by rw [rng_1 (by omega) (by omega)]; rfl
 refine (seq_nx (ρ':=[.dat (.int c),.dat (.int s),.dat (.int (c / 68 % 65536)),.own (ss.map fun c => D.str (tx [c])),y,.und,.und]) (Ω':=Ω) ?_).trans ?_
 ·have:gRng rng1 (gCons (gVar 1) gNil) [.dat (.int c),.dat (.int s),.dat (.int (c / 68 % 65536)),.own [],.und,.und,.und] Ω = some (upD 0 s,Ω):=by simp [er]
  rw [ap_for,this]
  exact e3
 refine (seq_nx (ρ':=[.dat (.int c),.dat (.int s),.dat (.int (c / 68 % 65536)),.own (ss.map fun c => D.str (tx [c])),y,.dat (.int 0),.und]) (Ω':=Ω) (by simp)).trans ?_
 rw [ap_ghost]
 show sSeq _ _ [.dat (.int c),.dat (.int s),.dat (.int (c / 68 % 65536)),.dat (.lst (ss.map fun c => D.str (tx [c]))),y,.dat (.int 0),.und] Ω = _
 refine (seq_nx (ρ':=[.dat (.int c),.dat (.int s),.dat (.int (c / 68 % 65536)),.dat (.lst (ss.map fun c => D.str (tx [c]))),y,.dat (.int (numL (ss.map bit))),y2]) (Ω':=Ω) ?_).trans ?_
 ·rw [ap_for]
  have:gSeq (gVar 3) [.dat (.int c),.dat (.int s),.dat (.int (c / 68 % 65536)),.dat (.lst (ss.map fun c => D.str (tx [c]))),y,.dat (.int 0),.und] Ω = some (ss.map (fun c => D.str (tx [c])),Ω):=by simp
  rw [this]
  exact e5
 have ej:=joinD_ones (cs:=ss) (by omega)
 have ea:addD (.str (tx ss)) (.str (tx (if ss.length = 16 then [] else [42]))) = some (.str (tx (begW ss))):=addD_tx (by split <;> simp <;> omega)
 rw [tx_nil,tx_star]
 by_cases h16:s = 16
 ·subst h16
  rw [if_pos l1] at ea
  have i1:L2.atI [D.str (tx [42]),D.str (tx [])] 1 = some (.str (tx [])):=atI_1 _ _ _
  simp [ej,ea,bD,l1]
 ·have h16':¬ ((s:Int) = 16):=by omega
  rw [if_neg (by omega)] at ea
  simp [ej,ea,bD,l1,h16']
end Law
namespace Law
open PySem DL L2 PySem.NumText
noncomputable def Vl (v:D):Prop:=(∃ n,v = .int n) \/ ∃ k,v = bD k
theorem t_H:(("H":String):Str) = tx [72]:=by decide +kernel
theorem t_L:(("L":String):Str) = tx [76]:=by decide +kernel
theorem t_C:(("C":String):Str) = tx [67]:=by decide +kernel
theorem t_N:(("N":String):Str) = tx [78]:=by decide +kernel
theorem t_A:(("A":String):Str) = tx [65]:=by decide +kernel
theorem t_B:(("B":String):Str) = tx [66]:=by decide +kernel
noncomputable def Nd (k:Nat):Prop:=k = 67 \/ k = 72 \/ k = 76 \/ k = 78
theorem disp_ix {ρ:List Sl} {Ω:List OS} {kgs:List (Str × Den)} {gk:Den} {kvs:List (Key × D)} {z:Str} {d:D} (h1:dispP kgs ρ (Ω ++ [.dK []]) = some (kvs,Ω ++ [.dK []])) (h2:∀ Ω',gk ρ Ω' = some (.str z,Ω')) (h3:valD (mergeD [] kvs) (.inr z) = some d) :
  gDGet (gDisp kgs) gk ρ Ω = some (d,Ω ++ [.dK (mergeD [] kvs)]):=by
 have e:gDisp kgs ρ Ω = some (.obj Ω.length,Ω ++ [.dK (mergeD [] kvs)]):=by
  unfold gDisp
  rw [h1]
  simp
 rw [ap_dget,e]
 dsimp only
 rw [h2]
 simp [lookO,keyD,h3]
noncomputable def d4 (a b c d:D) (k:Nat):D:=if k = 72 then a else if k = 76 then b else if k = 67 then c else d
theorem val4 {k:Nat} (hk:Nd k) (a b c d:D):valD (mergeD [] [(Sum.inr (tx [72]),a),(Sum.inr (tx [76]),b),(Sum.inr (tx [67]),c),(Sum.inr (tx [78]),d)]) (.inr (tx [k]):Key) = some (d4 a b c d k):=by
 rcases hk with rfl | rfl | rfl | rfl <;> simp [mergeD,putD,valD,txi,d4]
theorem disp4 {k:Nat} (hk:Nd k) {ρ:List Sl} (e0:ρ[0]? = some (.dat (.str (tx [k])))) (ga gb gc gd:Den) (a b c d:D) (ha:∀ Ω,ga ρ Ω = some (a,Ω)) (hb:∀ Ω,gb ρ Ω = some (b,Ω)) (hc:∀ Ω,gc ρ Ω = some (c,Ω)) (hd:∀ Ω,gd ρ Ω = some (d,Ω)) (Ω:List OS) :
  ∃ Ω',gDGet (gDisp [("H",ga),("L",gb),("C",gc),("N",gd)]) (gVar 0) ρ Ω = some (d4 a b c d k,Ω'):=by
 refine ⟨_,disp_ix (kvs:=[(Sum.inr (tx [72]),a),(Sum.inr (tx [76]),b),(Sum.inr (tx [67]),c),(Sum.inr (tx [78]),d)]) ?_ (fun Ω' => by simp [e0]) (val4 hk a b c d)⟩
 rw [t_H,t_L,t_C,t_N]
 simp [dispP,ha,hb,hc,hd]
theorem pick3 (a b c:D) {i:Int} (hi:i = 0 \/ i = 1 \/ i = 2):L2.atI [a,b,c] i = some (if i = 0 then a else if i = 1 then b else c):=by
 rcases hi with rfl | rfl | rfl <;> rfl
theorem num_word {k:Nat} (hk:Nd k) {n:Int} (h0:loK k <= n) (h1:n <= hiK k):rp k (dg n) = some (.int n) /\ Wd (dg n):=by
 have b0:0 <= n:=by
  have:0 <= loK k:=by rcases hk with rfl | rfl | rfl | rfl <;> decide
  omega
 have b1:n <= 999999999:=by
  have:hiK k <= 999999999:=by rcases hk with rfl | rfl | rfl | rfl <;> decide
  omega
 obtain ⟨m,rfl⟩:=Int.eq_ofNat_of_zero_le b0
 obtain ⟨f,v⟩:=dg_ok (m:=m) (k:=9) (by decide) (by omega)
 refine ⟨?_,dg_Wd (m:=m) (k:=9) (by decide) (by decide) (by omega)⟩
 have e1:¬ k = 66:=by rcases hk with rfl | rfl | rfl | rfl <;> decide
 have e2:¬ k = 65:=by rcases hk with rfl | rfl | rfl | rfl <;> decide
 unfold rp numR
 rw [if_neg e1,if_neg e2,if_pos ⟨f,by rw [v]; exact h0,by rw [v]; exact h1⟩,v]
 rfl
theorem Kd.split {k:Nat} (h:Kd k):k = 66 \/ k = 65 \/ Nd k:=by
 rcases h with h | h | h | h | h | h
 ·exact .inl h
 ·exact .inr (.inl h)
 ·exact .inr (.inr (.inl h))
 ·exact .inr (.inr (.inr (.inl h)))
 ·exact .inr (.inr (.inr (.inr (.inl h))))
 ·exact .inr (.inr (.inr (.inr (.inr h))))
theorem eq_k {k:Nat} (hk:Kd k) (j:Nat) (hj:j < 1000):eqD false (.str (tx [k])) (.str (tx [j])) = some (.bl (decide (k = j))):=by
 have hk':k < 1000:=by rcases hk with rfl | rfl | rfl | rfl | rfl | rfl <;> decide
 rw [eq_tx false (a:=[k]) (b:=[j]) (by simpa using hk') (by simpa using hj)]
 by_cases q:k = j
 ·simp [q]
 ·simp [q]
theorem lpart_den {k:Nat} (hk:Kd k) {c:Int} (hc:0 <= c) (Ω:List OS):∃ (v:D) (w:List Nat) (Ω':List OS),rp k w = some v /\ Wd w /\ Vl v /\ d_l_part [.str (tx [k]),.int c] Ω = some (.tup [v,.str (tx w)],Ω'):=by
 have q1:=eq_k hk 66 (by decide)
 have q2:=eq_k hk 65 (by decide)
 rcases hk.split with rfl | rfl | nk
 ·obtain ⟨ss,bs,hl,e⟩:=beg_den hc Ω
  obtain ⟨f,w⟩:=beg_word bs hl
  refine ⟨bD (numL (ss.map bit),(ss.length:Int)),begW ss,Ω,?_,w,.inr ⟨_,rfl⟩,run_rt rfl (seq_rt ?_)⟩
  ·unfold rp
   rw [if_pos rfl,f]
   rfl
  ·rw [t_B]
   simp at q1
   simp [q1,e]
 ·obtain ⟨h,hh,eh⟩:∃ h:Nat,h < 256 /\ L2.atI [D.int (c / 3 % 256),.int 0,.int 255] (c % 3) = some (.int (h:Nat)):=by
   rw [pick3 _ _ _ (by omega)]
   split
   ·exact ⟨(c / 3 % 256).toNat,by omega,by rw [show (((c / 3 % 256).toNat:Nat):Int) = c / 3 % 256 by omega]⟩
   ·split
    ·exact ⟨0,by omega,rfl⟩
    ·exact ⟨255,by omega,rfl⟩
  obtain ⟨l,hl,el⟩:∃ l:Nat,l < 256 /\ L2.atI [D.int (c / 768 % 256),.int 255,.int 0] (c / 5 % 3) = some (.int (l:Nat)):=by
   rw [pick3 _ _ _ (by omega)]
   split
   ·exact ⟨(c / 768 % 256).toNat,by omega,by rw [show (((c / 768 % 256).toNat:Nat):Int) = c / 768 % 256 by omega]⟩
   ·split
    ·exact ⟨255,by omega,rfl⟩
    ·exact ⟨0,by omega,rfl⟩
  obtain ⟨ar,aw⟩:=addr_word hh hl
  have sh:=str_num (n:=(h:Int)) (by omega)
  have sl:=str_num (n:=(l:Int)) (by omega)
  have mm:mulD (.int 256) (.int (h:Int)) = some (.int (256 * (h:Int))):=mul_i (.inl ⟨by decide,by decide⟩)
  obtain ⟨_,lh,_⟩:=figB_of (dg_ok (m:=h) (k:=3) (by decide) (by omega)).1
  obtain ⟨_,ll,_⟩:=figB_of (dg_ok (m:=l) (k:=3) (by decide) (by omega)).1
  have a1:addD (.str (tx (dg h))) (.str (tx [46])) = some (.str (tx (dg h ++ [46]))):=addD_tx (by simp; omega)
  have a2:addD (.str (tx (dg h ++ [46]))) (.str (tx (dg l))) = some (.str (tx (dg h ++ 46 :: dg l))):=by
   rw [addD_tx (by simp; omega)]
   simp
  refine ⟨.int (256 * (h:Int) + (l:Int)),dg h ++ 46 :: dg l,Ω,?_,aw,.inl ⟨_,rfl⟩,run_rt rfl ?_⟩
  ·unfold rp
   rw [if_neg (by decide),if_pos rfl,ar]
   rfl
  ·rw [t_B,t_A,tx_dot]
   simp at q1 q2
   simp [q1,q2,eh,el,sh,sl,mm,a1,a2]
 ·have e1:¬ k = 66:=by rcases nk with rfl | rfl | rfl | rfl <;> decide
  have e2:¬ k = 65:=by rcases nk with rfl | rfl | rfl | rfl <;> decide
  rw [decide_eq_false e1] at q1
  rw [decide_eq_false e2] at q2
  obtain ⟨Ω1,g1⟩:=disp4 nk (ρ:=[.dat (.str (tx [k])),.dat (.int c),.und,.und,.und,.und]) rfl (gC (.int 0)) (gC (.int 1)) (gC (.int 1)) (gC (.int 0)) _ _ _ _ (fun _ => rfl) (fun _ => rfl) (fun _ => rfl) (fun _ => rfl) Ω
  have lo:d4 (.int 0) (.int 1) (.int 1) (.int 0) k = .int (loK k):=by rcases nk with rfl | rfl | rfl | rfl <;> rfl
  rw [lo] at g1
  have pw:powD (.int 10) (.int 9) = some (.int 1000000000):=by first | rfl | simp [powD] | decide
  obtain ⟨Ω2,g2⟩:=disp4 nk (ρ:=[.dat (.str (tx [k])),.dat (.int c),.und,.dat (.int (loK k)),.und,.und]) rfl (gC (.int 32)) (gC (.int 99)) (gC (.int 32)) (gOp powD (gC (.int 10)) (gC (.int 9))) _ _ _ (.int 1000000000) (fun _ => rfl) (fun _ => rfl) (fun _ => rfl) (fun _ => by simp [pw]) Ω1
  have hi:d4 (.int 32) (.int 99) (.int 32) (.int 1000000000) k = .int (hiK k - loK k + 1):=by rcases nk with rfl | rfl | rfl | rfl <;> rfl
  rw [hi] at g2
  have mp:0 < hiK k - loK k + 1 /\ hiK k - loK k + 1 < 1073741824:=by rcases nk with rfl | rfl | rfl | rfl <;> decide
  obtain ⟨n,h0,h1,en⟩:∃ n:Int,loK k <= n /\ n <= hiK k /\ L2.atI [D.int (loK k + c / 3 % (hiK k - loK k + 1)),.int (loK k),.int (loK k + (hiK k - loK k + 1) - 1)] (c % 3) = some (.int n):=by
   have m0:=Int.emod_nonneg (c / 3) (by omega:hiK k - loK k + 1 ≠ 0)
   have m1:=Int.emod_lt_of_pos (c / 3) mp.1
   rw [pick3 _ _ _ (by omega)]
   split
   ·exact ⟨_,by omega,by omega,rfl⟩
   ·split
    ·exact ⟨_,by omega,by omega,rfl⟩
    ·exact ⟨_,by omega,by omega,rfl⟩
  obtain ⟨r1,r2⟩:=num_word nk h0 h1
  have hb:hiK k <= 999999999:=by rcases nk with rfl | rfl | rfl | rfl <;> decide
  have lb:0 <= loK k:=by rcases nk with rfl | rfl | rfl | rfl <;> decide
  have sn:=str_num (n:=n) (by omega)
  have md:modD (.int (c / 3)) (.int (hiK k - loK k + 1)) = some (.int (c / 3 % (hiK k - loK k + 1))):=by simp; omega
  refine ⟨.int n,dg n,Ω2,r1,r2,.inl ⟨_,rfl⟩,run_rt rfl ?_⟩
  rw [t_B,t_A]
  refine (seq_nx (ρ':=[.dat (.str (tx [k])),.dat (.int c),.und,.und,.und,.und]) (Ω':=Ω) (by simp [q1])).trans ?_
  refine (seq_nx (ρ':=[.dat (.str (tx [k])),.dat (.int c),.und,.und,.und,.und]) (Ω':=Ω) (by simp [q2])).trans ?_
  refine (seq_nx (ρ':=[.dat (.str (tx [k])),.dat (.int c),.und,.dat (.int (loK k)),.und,.und]) (Ω':=Ω1) (by rw [ap_set,g1]; rfl)).trans ?_
  refine (seq_nx (ρ':=[.dat (.str (tx [k])),.dat (.int c),.und,.dat (.int (loK k)),.dat (.int (hiK k - loK k + 1)),.und]) (Ω':=Ω2) (by rw [ap_set,g2]; rfl)).trans ?_
  refine (seq_nx (ρ':=[.dat (.str (tx [k])),.dat (.int c),.und,.dat (.int (loK k)),.dat (.int (hiK k - loK k + 1)),.dat (.int n)]) (Ω':=Ω2) (by simp [md,en])).trans ?_
  simp [sn]
end Law
namespace Law
open PySem DL L2
noncomputable def rowT (f:Fo):D:=.str (tx (f.1 ++ 32 :: f.2))
theorem rows_eq:[D.str "net C",.str "own HB",.str "come HHL",.str "fall HH",.str "carry HH",.str "rest ",.str "rest N",.str "table H",.str "road HA",.str "way HH"] ++ [.str "ties ",.str "waiting "] = FL.map rowT:=by
 have a1:(("net C":String):Str) = tx [110,101,116,32,67]:=by decide +kernel
 have a2:(("own HB":String):Str) = tx [111,119,110,32,72,66]:=by decide +kernel
 have a3:(("come HHL":String):Str) = tx [99,111,109,101,32,72,72,76]:=by decide +kernel
 have a4:(("fall HH":String):Str) = tx [102,97,108,108,32,72,72]:=by decide +kernel
 have a5:(("carry HH":String):Str) = tx [99,97,114,114,121,32,72,72]:=by decide +kernel
 have a6:(("rest ":String):Str) = tx [114,101,115,116,32]:=by decide +kernel
 have a7:(("rest N":String):Str) = tx [114,101,115,116,32,78]:=by decide +kernel
 have a8:(("table H":String):Str) = tx [116,97,98,108,101,32,72]:=by decide +kernel
 have a9:(("road HA":String):Str) = tx [114,111,97,100,32,72,65]:=by decide +kernel
 have aa:(("way HH":String):Str) = tx [119,97,121,32,72,72]:=by decide +kernel
 have ab:(("ties ":String):Str) = tx [116,105,101,115,32]:=by decide +kernel
 have ac:(("waiting ":String):Str) = tx [119,97,105,116,105,110,103,32]:=by decide +kernel
 rw [a1,a2,a3,a4,a5,a6,a7,a8,a9,aa,ab,ac]
 rfl
theorem FL_text:∀ f ∈ FL,(∀ c ∈ f.1,c < 128 /\ c ≠ 32) /\ (∀ c ∈ f.2,c < 128 /\ c ≠ 32) /\ f.1 ≠ [] /\ f.1.length <= 7:=by decide
theorem row_ix {c:Int} (hc:0 <= c):∃ f ∈ FL,L2.atI (FL.map rowT) (c % 12) = some (rowT f):=by
 have hl:(c % 12).toNat < FL.length:=by show _ < 12; omega
 refine ⟨FL[(c % 12).toNat],List.getElem_mem hl,?_⟩
 have e:(c % 12) = (((c % 12).toNat:Nat):Int):=by omega
 have a:L2.atI (FL.map rowT) (((c % 12).toNat:Nat):Int) = some (rowT FL[(c % 12).toNat]):=by
  rw [atI_map,atI_nat' _ _ hl]
  rfl
 rw [<- e] at a
 exact a
theorem row_spl {f:Fo} (hf:f ∈ FL):splD (rowT f) (.str (tx [32])) = some (.lst [.str (tx f.1),.str (tx f.2)]):=by
 obtain ⟨h1,h2,_,h3⟩:=FL_text f hf
 have h4:=FL_len f hf
 have q:Tq 1000 (f.1 ++ 32 :: f.2):=⟨fun c hc => by
  rcases List.mem_append.mp hc with z | z
  ·exact (h1 c z).1
  ·rcases List.mem_cons.mp z with z | z
   ·omega
   ·exact (h2 c z).1,by simp; omega⟩
 have:=spl_D q (Nat.le_refl _) (c:=32) (by decide)
 rw [spl_two (fun c hc => (h1 c hc).2) (fun c hc => (h2 c hc).2)] at this
 exact this
noncomputable def rwB:SDen:=(sSeq (sAsg (bTup [9,10]) (gCall d_l_part (gCons (gVar 8) (gCons (gOp divD (gVar 1) (gOp ixD (gLst (gCons (gC (.int 1)) (gCons (gC (.int 1009)) (gCons (gC (.int 65537)) gNil)))) (gVar 7))) gNil)))) (sSeq (sApp 5 (gVar 9)) (sApp 6 (gVar 10))))
theorem enumF_cons (lo:Nat) (d:D) (ds:List D):enumF lo (d :: ds) = pairD (.int lo) d :: enumF (lo + 1) ds:=rfl
theorem row_loop {o:Int} (ho:0 <= o) (X0 X2 X3 X4:Sl):∀ (ks:List Nat) (lo:Nat) (due:List D) (wd:List (List Nat)) (y7 y8 y9 y10:Sl) (Ω:List OS),lo + ks.length <= 3 -> due.length + ks.length <= 10 -> wd.length + ks.length <= 10 -> (∀ k ∈ ks,Kd k) ->
  ∃ (vs:List D) (ws:List (List Nat)) (z7 z8 z9 z10:Sl) (Ω':List OS),ws.length = ks.length /\ mapR (ks.zip ws) = some vs /\ (∀ w ∈ ws,Wd w) /\ (∀ v ∈ vs,Vl v) /\
   forD (bTup [7,8]) rwB (enumF lo (ks.map fun k => D.str (tx [k]))) [X0,.dat (.int o),X2,X3,X4,.own due,.own (wd.map fun w => D.str (tx w)),y7,y8,y9,y10] Ω = some (.nx [X0,.dat (.int o),X2,X3,X4,.own (due ++ vs),.own ((wd ++ ws).map fun w => D.str (tx w)),z7,z8,z9,z10] Ω')
 | [],lo,due,wd,y7,y8,y9,y10,Ω,_,_,_,_ => ⟨[],[],y7,y8,y9,y10,Ω,rfl,rfl,fun _ h => (by cases h),fun _ h => (by cases h),by rw [List.append_nil,List.append_nil]; rfl⟩
 | k :: ks,lo,due,wd,y7,y8,y9,y10,Ω,hl,hd,hw,hk => by
  rw [List.length_cons] at hl hd hw
  obtain ⟨p,hp,ep⟩:∃ p:Int,(0 < p /\ p < 1073741824) /\ L2.atI [D.int 1,.int 1009,.int 65537] (lo:Int) = some (.int p):=by
   rw [pick3 _ _ _ (by omega)]
   split
   ·exact ⟨1,by decide,rfl⟩
   ·split
    ·exact ⟨1009,by decide,rfl⟩
    ·exact ⟨65537,by decide,rfl⟩
  have dv:divD (.int o) (.int p) = some (.int (o / p)):=by simp [hp]
  obtain ⟨v,w,Ω1,r1,r2,r3,e⟩:=lpart_den (hk k List.mem_cons_self) (c:=o / p) (Int.ediv_nonneg ho (by omega)) Ω
  obtain ⟨vs,ws,z7,z8,z9,z10,Ω',h1,h2,h3,h4,h5⟩:=row_loop ho X0 X2 X3 X4 ks (lo + 1) (due ++ [v]) (wd ++ [w]) (.dat (.int lo)) (.dat (.str (tx [k]))) (.dat v) (.dat (.str (tx w))) Ω1 (by omega) (by simp; omega) (by simp; omega) fun j hj => hk j (List.mem_cons_of_mem _ hj)
  refine ⟨v :: vs,w :: ws,z7,z8,z9,z10,Ω',by simp [h1],?_,?_,?_,?_⟩
  ·rw [List.zip_cons_cons,mapR_cons]
   dsimp only
   rw [r1,h2]
  ·intro x hx
   rcases List.mem_cons.mp hx with z | z
   ·rw [z]; exact r2
   ·exact h3 x z
  ·intro x hx
   rcases List.mem_cons.mp hx with z | z
   ·rw [z]; exact r3
   ·exact h4 x z
  ·rw [List.map_cons,enumF_cons,for_cons]
   have eb:bTup [7,8] (pairD (.int lo) (.str (tx [k]))) [X0,.dat (.int o),X2,X3,X4,.own due,.own (wd.map fun w => D.str (tx w)),y7,y8,y9,y10] = some [X0,.dat (.int o),X2,X3,X4,.own due,.own (wd.map fun w => D.str (tx w)),.dat (.int lo),.dat (.str (tx [k])),y9,y10]:=rfl
   rw [eb]
   dsimp only
   have hb1:due.length < 100000:=by omega
   have hb2:wd.length < 100000:=by omega
   have st:rwB [X0,.dat (.int o),X2,X3,X4,.own due,.own (wd.map fun w => D.str (tx w)),.dat (.int lo),.dat (.str (tx [k])),y9,y10] Ω = some (.nx [X0,.dat (.int o),X2,X3,X4,.own (due ++ [v]),.own ((wd ++ [w]).map fun w => D.str (tx w)),.dat (.int lo),.dat (.str (tx [k])),.dat v,.dat (.str (tx w))] Ω1):=by
    unfold rwB
    refine (seq_nx (ρ':=[X0,.dat (.int o),X2,X3,X4,.own due,.own (wd.map fun w => D.str (tx w)),.dat (.int lo),.dat (.str (tx [k])),.dat v,.dat (.str (tx w))]) (Ω':=Ω1) (by simp [ep,dv,e,bNames])).trans ?_
    simp [hb1,hb2]
   rw [st]
   simpa using h5
theorem row_den {c o:Int} (hc:0 <= c) (ho:0 <= o) (Ω:List OS):∃ (f:Fo) (vs:List D) (ws:List (List Nat)) (Ω':List OS),f ∈ FL /\ ws.length = f.2.length /\ mapR (f.2.zip ws) = some vs /\ (∀ w ∈ ws,Wd w) /\ (∀ v ∈ vs,Vl v) /\
  d_l_row [.int c,.int o] Ω = some (.tup [.lst ((f.1 :: ws).map fun w => D.str (tx w)),.lst (.str (tx f.1) :: vs),.str (tx f.2)],Ω'):=by
 obtain ⟨f,hf,ef⟩:=row_ix hc
 have h4:=FL_len f hf
 have es:=row_spl hf
 obtain ⟨vs,ws,z7,z8,z9,z10,Ω',h1,h2,h3,h5,e⟩:=row_loop ho (.dat (.int c)) (.dat (.lst [D.str "net C",.str "own HB",.str "come HHL",.str "fall HH",.str "carry HH",.str "rest ",.str "rest N",.str "table H",.str "road HA",.str "way HH"])) (.dat (.str (tx f.1))) (.dat (.str (tx f.2))) f.2 0 [.str (tx f.1)] [f.1] .und .und .und .und Ω (by omega) (by simp; omega) (by simp; omega) (FL_kinds f hf)
 refine ⟨f,vs,ws,Ω',hf,h1,h2,h3,h5,run_rt rfl ?_⟩
 refine (seq_nx (ρ':=[.dat (.int c),.dat (.int o),.dat (.lst [D.str "net C",.str "own HB",.str "come HHL",.str "fall HH",.str "carry HH",.str "rest ",.str "rest N",.str "table H",.str "road HA",.str "way HH"]),.und,.und,.und,.und,.und,.und,.und,.und]) (Ω':=Ω) (by simp)).trans ?_
 refine (seq_nx (ρ':=[.dat (.int c),.dat (.int o),.dat (.lst [D.str "net C",.str "own HB",.str "come HHL",.str "fall HH",.str "carry HH",.str "rest ",.str "rest N",.str "table H",.str "road HA",.str "way HH"]),.dat (.str (tx f.1)),.dat (.str (tx f.2)),.und,.und,.und,.und,.und,.und]) (Ω':=Ω) ?_).trans ?_
 ·have g1:gOp ixD (gOp addD (gVar 2) (gLst (gCons (gC (.str "ties ")) (gCons (gC (.str "waiting ")) gNil)))) (gOp modD (gVar 0) (gC (.int 12))) [.dat (.int c),.dat (.int o),.dat (.lst [D.str "net C",.str "own HB",.str "come HHL",.str "fall HH",.str "carry HH",.str "rest ",.str "rest N",.str "table H",.str "road HA",.str "way HH"]),.und,.und,.und,.und,.und,.und,.und,.und] Ω = some (rowT f,Ω):=by
   have a:addD (.lst [D.str "net C",.str "own HB",.str "come HHL",.str "fall HH",.str "carry HH",.str "rest ",.str "rest N",.str "table H",.str "road HA",.str "way HH"]) (.lst [.str "ties ",.str "waiting "]) = some (.lst (FL.map rowT)):=by
    rw [add_lst,rows_eq]
    rfl
   have b:ixD (.lst (FL.map rowT)) (.int (c % 12)) = some (rowT f):=ef
   have m:modD (.int c) (.int 12) = some (.int (c % 12)):=by simp
   simp only [ap_op,ap_var,ap_lst,ap_cons,ap_c,ap_nil,List.getElem?_cons_zero,List.getElem?_cons_succ]
   rw [if_pos (by decide)]
   dsimp only
   rw [a]
   dsimp only
   rw [m]
   dsimp only
   rw [b]
  have g2:∀ z,gOp ixD (gOp addD (gVar 2) (gLst (gCons (gC (.str "ties ")) (gCons (gC (.str "waiting ")) gNil)))) (gOp modD (gVar 0) (gC (.int 12))) z Ω = some (rowT f,Ω) -> gOp splD (gOp ixD (gOp addD (gVar 2) (gLst (gCons (gC (.str "ties ")) (gCons (gC (.str "waiting ")) gNil)))) (gOp modD (gVar 0) (gC (.int 12)))) (gC (.str " ")) z Ω = some (.lst [.str (tx f.1),.str (tx f.2)],Ω):=fun z h => by
   rw [tx_bl,ap_op,h]
   simp only [ap_c,es]
  rw [ap_asg,g2 _ g1]
  rfl
 refine (seq_nx (ρ':=[.dat (.int c),.dat (.int o),.dat (.lst [D.str "net C",.str "own HB",.str "come HHL",.str "fall HH",.str "carry HH",.str "rest ",.str "rest N",.str "table H",.str "road HA",.str "way HH"]),.dat (.str (tx f.1)),.dat (.str (tx f.2)),.own [.str (tx f.1)],.und,.und,.und,.und,.und]) (Ω':=Ω) (by simp)).trans ?_
 refine (seq_nx (ρ':=[.dat (.int c),.dat (.int o),.dat (.lst [D.str "net C",.str "own HB",.str "come HHL",.str "fall HH",.str "carry HH",.str "rest ",.str "rest N",.str "table H",.str "road HA",.str "way HH"]),.dat (.str (tx f.1)),.dat (.str (tx f.2)),.own [.str (tx f.1)],.own [.str (tx f.1)],.und,.und,.und,.und]) (Ω':=Ω) (by simp)).trans ?_
 refine (seq_nx (ρ':=[.dat (.int c),.dat (.int o),.dat (.lst [D.str "net C",.str "own HB",.str "come HHL",.str "fall HH",.str "carry HH",.str "rest ",.str "rest N",.str "table H",.str "road HA",.str "way HH"]),.dat (.str (tx f.1)),.dat (.str (tx f.2)),.own ([.str (tx f.1)] ++ vs),.own (([f.1] ++ ws).map fun w => D.str (tx w)),z7,z8,z9,z10]) (Ω':=Ω') ?_).trans ?_
 ·have gi:∀ ρ:List Sl,ρ[4]? = some (.dat (.str (tx f.2))) -> gRng enumS (gCons (gVar 4) gNil) ρ Ω = some (enumF 0 (f.2.map fun k => D.str (tx [k])),Ω):=fun ρ h => by
   simp [h,enumS,signs_tx]
  rw [ap_for,gi _ rfl]
  exact e
 rw [ap_ghost]
 show sGhost _ _ [.dat (.int c),.dat (.int o),_,.dat (.str (tx f.1)),.dat (.str (tx f.2)),.dat (.lst ([.str (tx f.1)] ++ vs)),.own (([f.1] ++ ws).map fun w => D.str (tx w)),z7,z8,z9,z10] Ω' = _
 rw [ap_ghost]
 show sRet _ [.dat (.int c),.dat (.int o),_,.dat (.str (tx f.1)),.dat (.str (tx f.2)),.dat (.lst ([.str (tx f.1)] ++ vs)),.dat (.lst (([f.1] ++ ws).map fun w => D.str (tx w))),z7,z8,z9,z10] Ω' = _
 simp
end Law
namespace Law
open PySem DL L2
theorem mul_bl (n:Nat):Txt.mul (tx [32]) (n:Int) = tx (List.replicate n 32):=by
 unfold Txt.mul
 rcases n with _ | _ | n
 ·rfl
 ·rfl
 ·rw [if_neg (by omega),if_neg (by simp; omega)]
  have e:(((n + 1 + 1:Nat):Int)).toNat = n + 2:=by omega
  rw [e]
  refine str_ext ?_
  have:∀ (k:Nat) (acc:Array Nat),(List.replicate k (tx [32]).cps).foldl (· ++ ·) acc = acc ++ (List.replicate k 32).toArray:=by
   intro k
   induction k with
   | zero => intro acc; simp
   | succ k ih =>
    intro acc
    rw [List.replicate_succ,List.foldl_cons,ih,List.replicate_succ]
    apply Array.ext'
    simp [tx]
  show (List.replicate (n + 2) (tx [32]).cps).foldl (· ++ ·) #[] = _
  rw [this]
  simp [tx]
theorem mul_den {n:Nat} (h:n <= 1000):mulS0 (.str (tx [32])) (.int (n:Int)) = some (.str (tx (List.replicate n 32))):=by
 show (if _ then _ else _) = _
 rw [if_pos ⟨by omega,by omega,by simp,by simp⟩,mul_bl]
theorem t_e:(("":String):Str) = tx []:=by decide +kernel
theorem t_1:((" ":String):Str) = tx [32]:=by decide +kernel
theorem t_2:(("  ":String):Str) = tx [32,32]:=by decide +kernel
theorem t_3:(("   ":String):Str) = tx [32,32,32]:=by decide +kernel
noncomputable def wrB:SDen:=(sSeq (sSet 2 (gOp addD (gVar 2) (gVar 4))) (sIf (gT (gOp ltD (gOp addD (gVar 3) (gC (.int 1))) (gCB lenD (gCons (gVar 0) gNil)))) (sSet 2 (gOp addD (gVar 2) (gOp mulS0 (gC (.str " ")) (gOp addD (gC (.int 1)) (gOp modD (gOp divD (gVar 1) (gOp ixD (gLst (gCons (gC (.int 3)) (gCons (gC (.int 9)) (gCons (gC (.int 27)) (gCons (gC (.int 81)) gNil))))) (gOp modD (gVar 3) (gC (.int 4))))) (gC (.int 3))))))) sNext))
structure Tl (t:List Nat) (n:Nat):Prop where
 lt:∀ c ∈ t,c < 128
 len:t.length <= n
theorem Tl.word {t w:List Nat} {n:Nat} (h:Tl t n) (hw:Wd w):Tl (t ++ w) (n + 40):=⟨fun c hc => by
 rcases List.mem_append.mp hc with z | z
 ·exact h.lt c z
 ·exact (hw.lt c z).1,by have:=h.len; have:=hw.len; simp; omega⟩
theorem Tl.gap {t:List Nat} {n:Nat} (h:Tl t n) {k:Nat} (hk:k <= 3):Tl (t ++ List.replicate k 32) (n + 3):=⟨fun c hc => by
 rcases List.mem_append.mp hc with z | z
 ·exact h.lt c z
 ·rw [(List.mem_replicate.mp z).2]; decide,by have:=h.len; simp; omega⟩
theorem pick4 (a b c d:D) {i:Int} (hi:i = 0 \/ i = 1 \/ i = 2 \/ i = 3):L2.atI [a,b,c,d] i = some (if i = 0 then a else if i = 1 then b else if i = 2 then c else d):=by
 rcases hi with rfl | rfl | rfl | rfl <;> rfl
theorem wr_step {W:List (List Nat)} {c:Int} (hc:0 <= c) {lo:Nat} {t w:List Nat} {n:Nat} (ht:Tl t n) (hn:n <= 900) (hw:Wd w) (Ω:List OS) :
  (lo + 1 < W.length -> ∃ k,k <= 2 /\ wrB [.dat (.lst (W.map fun w => D.str (tx w))),.dat (.int c),.dat (.str (tx t)),.dat (.int lo),.dat (.str (tx w))] Ω = some (.nx [.dat (.lst (W.map fun w => D.str (tx w))),.dat (.int c),.dat (.str (tx ((t ++ w) ++ List.replicate (k + 1) 32))),.dat (.int lo),.dat (.str (tx w))] Ω)) /\
  (¬ lo + 1 < W.length -> wrB [.dat (.lst (W.map fun w => D.str (tx w))),.dat (.int c),.dat (.str (tx t)),.dat (.int lo),.dat (.str (tx w))] Ω = some (.nx [.dat (.lst (W.map fun w => D.str (tx w))),.dat (.int c),.dat (.str (tx (t ++ w))),.dat (.int lo),.dat (.str (tx w))] Ω)):=by
 have l1:=ht.len
 have l2:=hw.len
 have a1:addD (.str (tx t)) (.str (tx w)) = some (.str (tx (t ++ w))):=addD_tx (by omega)
 have s1:sSet 2 (gOp addD (gVar 2) (gVar 4)) [.dat (.lst (W.map fun w => D.str (tx w))),.dat (.int c),.dat (.str (tx t)),.dat (.int lo),.dat (.str (tx w))] Ω = some (.nx [.dat (.lst (W.map fun w => D.str (tx w))),.dat (.int c),.dat (.str (tx (t ++ w))),.dat (.int lo),.dat (.str (tx w))] Ω):=by simp [a1]
 unfold wrB
 rw [seq_nx s1]
 constructor
 ·intro h
  have h':(lo:Int) + 1 < (W.length:Int):=by omega
  obtain ⟨p,hp,ep⟩:∃ p:Int,(0 < p /\ p < 1073741824) /\ L2.atI [D.int 3,.int 9,.int 27,.int 81] ((lo:Int) % 4) = some (.int p):=by
   rw [pick4 _ _ _ _ (by omega)]
   split
   ·exact ⟨3,by decide,rfl⟩
   ·split
    ·exact ⟨9,by decide,rfl⟩
    ·split
     ·exact ⟨27,by decide,rfl⟩
     ·exact ⟨81,by decide,rfl⟩
  have dv:divD (.int c) (.int p) = some (.int (c / p)):=by simp [hp]
  obtain ⟨k,hk,ek⟩:∃ k:Nat,k <= 2 /\ 1 + c / p % 3 = ((k + 1:Nat):Int):=⟨(c / p % 3).toNat,by omega,by omega⟩
  have mm:=mul_den (n:=k + 1) (by omega)
  rw [<- ek] at mm
  have a2:addD (.str (tx (t ++ w))) (.str (tx (List.replicate (k + 1) 32))) = some (.str (tx ((t ++ w) ++ List.replicate (k + 1) 32))):=addD_tx (by simp; omega)
  refine ⟨k,hk,?_⟩
  rw [tx_bl]
  simp [h',ep,dv,mm,a2]
 ·intro h
  have h':¬ (lo:Int) + 1 < (W.length:Int):=by omega
  simp [h']
theorem wr_loop {W:List (List Nat)} (hW:∀ w ∈ W,Wd w) (hl:W.length <= 6) {c:Int} (hc:0 <= c) (Ω:List OS):∀ (rest ws:List (List Nat)) (t:List Nat) (y3 y4:Sl),rest ≠ [] -> W = ws ++ rest -> Opn t ws -> Tl t (2 + 43 * ws.length) ->
  ∃ (t':List Nat) (z3 z4:Sl),Cls t' W /\ Tl t' 400 /\ forD (bTup [3,4]) wrB (enumF ws.length (rest.map fun w => D.str (tx w))) [.dat (.lst (W.map fun w => D.str (tx w))),.dat (.int c),.dat (.str (tx t)),y3,y4] Ω = some (.nx [.dat (.lst (W.map fun w => D.str (tx w))),.dat (.int c),.dat (.str (tx t')),z3,z4] Ω)
 | [],_,_,_,_,h,_,_,_ => absurd rfl h
 | w :: rest,ws,t,y3,y4,_,e,ho,ht => by
  have hw:Wd w:=hW w (by rw [e]; simp)
  have lw:W.length = ws.length + (rest.length + 1):=by rw [e]; simp
  obtain ⟨s1,s2⟩:=wr_step (W:=W) hc (lo:=ws.length) ht (by omega) hw Ω
  have eb:bTup [3,4] (pairD (.int (ws.length:Nat)) (.str (tx w))) [.dat (.lst (W.map fun w => D.str (tx w))),.dat (.int c),.dat (.str (tx t)),y3,y4] = some [.dat (.lst (W.map fun w => D.str (tx w))),.dat (.int c),.dat (.str (tx t)),.dat (.int (ws.length:Nat)),.dat (.str (tx w))]:=rfl
  rw [List.map_cons,enumF_cons,for_cons,eb]
  dsimp only
  have cl:=ho.word hw
  have tw:=ht.word hw
  cases rest with
  | nil =>
   rw [s2 (by rw [lw]; simp)]
   have ew:W = ws ++ [w]:=e
   exact ⟨t ++ w,_,_,by rw [ew]; exact cl,⟨tw.lt,by have:=tw.len; omega⟩,rfl⟩
  | cons w2 rest =>
   obtain ⟨k,hk,s1⟩:=s1 (by rw [lw]; simp)
   rw [s1]
   have tg:=tw.gap (k:=k + 1) (by omega)
   have op:=cl.gap k
   have e':W = (ws ++ [w]) ++ (w2 :: rest):=by rw [e]; simp
   obtain ⟨t',z3,z4,h1,h2,h3⟩:=wr_loop hW hl hc Ω (w2 :: rest) (ws ++ [w]) ((t ++ w) ++ List.replicate (k + 1) 32) (.dat (.int (ws.length:Nat))) (.dat (.str (tx w))) (by simp) e' op ⟨tg.lt,by have:=tg.len; simp at this ⊢; omega⟩
   rw [List.length_append,List.length_singleton] at h3
   exact ⟨t',z3,z4,h1,h2,h3⟩
theorem written_den {W:List (List Nat)} (hW:∀ w ∈ W,Wd w) (hne:W ≠ []) (hl:W.length <= 6) {c:Int} (hc:0 <= c) (Ω:List OS):∃ t:List Nat,Tq 1000 t /\ wds t = W /\ d_l_written [.lst (W.map fun w => D.str (tx w)),.int c] Ω = some (.str (tx t),Ω):=by
 obtain ⟨a,ha,ea⟩:∃ a:Nat,a <= 2 /\ L2.atI [D.str (tx []),.str (tx [32]),.str (tx [32,32])] (c % 3) = some (.str (tx (List.replicate a 32))):=by
  rw [pick3 _ _ _ (by omega)]
  split
  ·exact ⟨0,by decide,rfl⟩
  ·split
   ·exact ⟨1,by decide,rfl⟩
   ·exact ⟨2,by decide,rfl⟩
 obtain ⟨b,hb,eb⟩:∃ b:Nat,b <= 3 /\ L2.atI [D.str (tx []),.str (tx [32]),.str (tx [32,32,32])] (c / 243 % 3) = some (.str (tx (List.replicate b 32))):=by
  rw [pick3 _ _ _ (by omega)]
  split
  ·exact ⟨0,by decide,rfl⟩
  ·split
   ·exact ⟨1,by decide,rfl⟩
   ·exact ⟨3,by decide,rfl⟩
 obtain ⟨t,z3,z4,h1,h2,h3⟩:=wr_loop hW hl hc Ω W [] (List.replicate a 32) .und .und hne rfl (Opn.blanks a) ⟨fun c hc => by rw [(List.mem_replicate.mp hc).2]; decide,by simp; omega⟩
 have tg:=h2.gap hb
 have a2:addD (.str (tx t)) (.str (tx (List.replicate b 32))) = some (.str (tx (t ++ List.replicate b 32))):=addD_tx (by have:=h2.len; simp; omega)
 refine ⟨t ++ List.replicate b 32,⟨tg.lt,by have:=tg.len; omega⟩,h1.fin b,run_rt rfl ?_⟩
 refine (seq_nx (ρ':=[.dat (.lst (W.map fun w => D.str (tx w))),.dat (.int c),.dat (.str (tx (List.replicate a 32))),.und,.und]) (Ω':=Ω) (by rw [t_e,t_1,t_2]; simp [ea])).trans ?_
 refine (seq_nx (ρ':=[.dat (.lst (W.map fun w => D.str (tx w))),.dat (.int c),.dat (.str (tx t)),z3,z4]) (Ω':=Ω) ?_).trans ?_
 ·have gi:gRng enumD (gCons (gVar 0) gNil) [.dat (.lst (W.map fun w => D.str (tx w))),.dat (.int c),.dat (.str (tx (List.replicate a 32))),.und,.und] Ω = some (enumF 0 (W.map fun w => D.str (tx w)),Ω):=by simp [enumD]
  rw [ap_for,gi]
  exact h3
 rw [t_e,t_1,t_3]
 simp [eb,a2]
end Law
namespace Law
open PySem DL L2
theorem whole_den (n:Int) (Ω:List OS):d_l_whole [.int n] Ω = some (.bl true,Ω):=run_rt rfl (by simp [instD,tyD])
theorem comp_whole (Ω:List OS):∀ (ns:List Int) (x:Sl),compD (bName 0) gTrue (gCall d_l_whole (gCons (gVar 0) gNil)) (ns.map D.int) [x] Ω = some (ns.map fun _ => D.bl true,Ω)
 | [],x => rfl
 | n :: ns,x => by
  have ih:=comp_whole Ω ns (.dat (.int n))
  have e:=whole_den n Ω
  rw [List.map_cons,List.map_cons,comp_cons]
  simp [e,ih]
theorem pl_Vl {v:D} (h:Vl v):pl v = true /\ dep v <= 2:=by
 rcases h with ⟨n,rfl⟩ | ⟨k,rfl⟩
 ·simp [pl,dep]
 ·simp [bD,pl,plL,dep,depL]
theorem pl_Vls:∀ {vs:List D},(∀ v ∈ vs,Vl v) -> plL vs = true /\ depL vs <= 3
 | [],_ => by simp [plL,depL]
 | v :: vs,h => by
  obtain ⟨i1,i2⟩:=pl_Vls fun u hu => h u (List.mem_cons_of_mem _ hu)
  obtain ⟨a,b⟩:=pl_Vl (h v List.mem_cons_self)
  refine ⟨by simp [plL,a,i1],?_⟩
  simp [depL]
  omega
noncomputable def akB:SDen:=(sIf (gT (gUn (instD "tuple") (gVar 2))) (sIf (gNotT (gT (gCB allD (gCons (gComp [none] (gTupS (gVar 2)) (bName 0) gTrue (gCall d_l_whole (gCons (gVar 0) gNil))) gNil)))) (sRet (gC (.bl false))) sNext) (sIf (gNotT (gT (gCall d_l_whole (gCons (gVar 2) gNil)))) (sRet (gC (.bl false))) sNext))
theorem ak_one (X0 X1:Sl) {v:D} (h:Vl v) (Ω:List OS):akB [X0,X1,.dat v] Ω = some (.nx [X0,X1,.dat v] Ω):=by
 unfold akB
 rcases h with ⟨n,rfl⟩ | ⟨k,rfl⟩
 ·have e:=whole_den n Ω
  simp [instD,tyD,e]
 ·have ec:=comp_whole Ω [k.1,k.2] .und
  have gi:gTupS (gVar 2) [X0,X1,.dat (bD k)] Ω = some ([D.int k.1,D.int k.2],Ω):=rfl
  have ein:innerD [none] [X0,X1,Sl.dat (bD k)] = [.und]:=rfl
  have g1:gComp [none] (gTupS (gVar 2)) (bName 0) gTrue (gCall d_l_whole (gCons (gVar 0) gNil)) [X0,X1,.dat (bD k)] Ω = some (.lst [.bl true,.bl true],Ω):=by
   rw [ap_comp,gi]
   dsimp only
   rw [if_pos (by simp),ein,show [D.int k.1,D.int k.2] = [k.1,k.2].map D.int from rfl,ec]
   rfl
  have it:instD "tuple" (bD k) = some (.bl true):=rfl
  have al:allD [.lst [.bl true,.bl true]] = some (.bl true):=rfl
  have t1:gT (gUn (instD "tuple") (gVar 2)) [X0,X1,.dat (bD k)] Ω = some (true,Ω):=by simp [it]
  rw [ap_sIf,t1]
  dsimp only
  rw [ap_sIf,ap_notT,ap_T,ap_CB,ap_cons,g1]
  dsimp only
  rw [ap_nil]
  dsimp only
  rw [al]
  rfl
theorem ak_loop (X0 X1:Sl) (Ω:List OS):∀ (vs:List D) (x:Sl),(∀ v ∈ vs,Vl v) -> ∃ y,forD (bName 2) akB vs [X0,X1,x] Ω = some (.nx [X0,X1,y] Ω)
 | [],x,_ => ⟨x,rfl⟩
 | v :: vs,x,h => by
  obtain ⟨y,ih⟩:=ak_loop X0 X1 Ω vs (.dat v) fun u hu => h u (List.mem_cons_of_mem _ hu)
  refine ⟨y,?_⟩
  rw [for_cons,ap_bName]
  dsimp only [List.set]
  rw [ak_one X0 X1 (h v List.mem_cons_self) Ω]
  exact ih
theorem alike_den {a:List Nat} (ha:∀ c ∈ a,c < 1000) {vs:List D} (hv:∀ v ∈ vs,Vl v) (hl:vs.length <= 10) (Ω:List OS):d_l_alike [.tup (.str (tx a) :: vs),.lst (.str (tx a) :: vs)] Ω = some (.bl true,Ω):=by
 obtain ⟨p1,p2⟩:=pl_Vls hv
 obtain ⟨q1,q2⟩:=pl_tx ha
 have eq:eqD true (.lst (.str (tx a) :: vs)) (.lst (.str (tx a) :: vs)) = some (.bl false):=by
  refine eq_self_pl true ?_ ?_
  ·rw [pl]; simp [plL,q1,p1]
  ·have d0:dep (.str (tx a)) = 0 \/ dep (.str (tx a)) <= 1:=by simp [dep]
   rw [dep]
   simp [depL]
   omega
 obtain ⟨y,el⟩:=ak_loop (.dat (.tup (.str (tx a) :: vs))) (.dat (.lst (.str (tx a) :: vs))) Ω vs .und hv
 have ll:lenD [.tup (.str (tx a) :: vs)] = some (.int ((vs.length + 1:Nat):Int)):=rfl
 have l2:lenD [.lst (.str (tx a) :: vs)] = some (.int ((vs.length + 1:Nat):Int)):=rfl
 have ls:list1D [.tup (.str (tx a) :: vs)] = some (.lst (.str (tx a) :: vs)):=rfl
 have it:instD "tuple" (.tup (.str (tx a) :: vs)) = some (.bl true):=rfl
 refine run_rt rfl ((seq_nx (ρ':=[.dat (.tup (.str (tx a) :: vs)),.dat (.lst (.str (tx a) :: vs)),.und]) (Ω':=Ω) (by simp [it,ll,l2,ls,eq])).trans ?_)
 refine (seq_nx (ρ':=[.dat (.tup (.str (tx a) :: vs)),.dat (.lst (.str (tx a) :: vs)),y]) (Ω':=Ω) ?_).trans ?_
 ·have e2:cutL (D.str (tx a) :: vs) (some ((1:Nat):Int)) none = vs:=by rw [cut_from]; rfl
  have gi:gTupS (gSlT (gVar 0) (gPart (gC (.int 1))) gNoPart) [.dat (.tup (.str (tx a) :: vs)),.dat (.lst (.str (tx a) :: vs)),.und] Ω = some (vs,Ω):=by
   show some (cutL (D.str (tx a) :: vs) (some 1) none,Ω) = _
   rw [show cutL (D.str (tx a) :: vs) (some 1) none = vs from e2]
  rw [ap_for,gi]
  exact el
 have ix:ixD (.tup (.str (tx a) :: vs)) (.int 0) = some (.str (tx a)):=atI_0 _ _
 have iz:instD "str" (.str (tx a)) = some (.bl true):=rfl
 simp only [ap_ret,ap_un,ap_op,ap_var,ap_c,List.getElem?_cons_zero,ix,iz]
noncomputable def WB:List (List Nat):=[[50,42],[49],[48,42,49],[42,42],[48,48,48,48,48,48,48,48,48,48,48,48,48,48,48,48,49],[48,48,48,48,48,48,48,48,48,48,48,48,48,48,48,48,42],[48,49],[42,48],[48,120,42],[49,46,49]]
noncomputable def WA:List (List Nat):=[[48],[49,46,50,46,51],[50,53,54,46,48],[48,46,50,53,54],[48,49,46,48],[48,46,48,48],[97,46,98],[46,49],[49,46],[45,49,46,48],[48,44,48],[49,48,48,48,46,49]]
noncomputable def WN:List (List Nat):=[[45,49],[43,49],[48,49],[49,46,48],[49,97],[97],[49,50,51,52,53,54,55,56,57,48],[48,48],[49,95,48]]
noncomputable def WK (k:Nat):List (List Nat):=if k = 72 then [[51,50],[49,48,48]] else if k = 76 then [[48],[49,48,48]] else if k = 67 then [[48],[51,51]] else [[49,48,48,48,48,48,48,48,48,48],[48,48,48,48,48,48,48,48,48,49]]
noncomputable def okW (w:List Nat):Bool:=!w.isEmpty && (w.all (fun c => decide (c < 128) && decide (c ≠ 32)) && decide (w.length <= 40))
theorem okW_of {w:List Nat} (h:okW w = true):Wd w:=by
 unfold okW at h
 simp only [Bool.and_eq_true,List.all_eq_true,decide_eq_true_eq] at h
 exact ⟨fun z => by rw [z] at h; simp at h,h.2.1,h.2.2⟩
theorem WB_bad:∀ w ∈ WB,(fm w).isNone = true /\ okW w = true:=by decide +kernel
theorem WA_bad:∀ w ∈ WA,(adR w).isNone = true /\ okW w = true:=by decide +kernel
theorem WN_bad:∀ k ∈ [67,72,76,78],∀ w ∈ WN ++ WK k,(numR (loK k) (hiK k) w).isNone = true /\ okW w = true:=by decide +kernel
noncomputable def sW (L:List (List Nat)):List D:=L.map fun w => D.str (tx w)
theorem sW_of {l:List Str} {L:List (List Nat)} (h:l = L.map tx):l.map D.str = sW L:=by
 rw [h,List.map_map]
 rfl
theorem lN:[D.str "-1",.str "+1",.str "01",.str "1.0",.str "1a",.str "a",.str "1234567890",.str "00",.str "1_0"] = sW WN:=sW_of (l:=["-1","+1","01","1.0","1a","a","1234567890","00","1_0"]) (by decide +kernel)
theorem lB:[D.str "2*",.str "1",.str "0*1",.str "**",.str "00000000000000001",.str "0000000000000000*",.str "01",.str "*0",.str "0x*",.str "1.1"] = sW WB:=sW_of (l:=["2*","1","0*1","**","00000000000000001","0000000000000000*","01","*0","0x*","1.1"]) (by decide +kernel)
theorem lA:[D.str "0",.str "1.2.3",.str "256.0",.str "0.256",.str "01.0",.str "0.00",.str "a.b",.str ".1",.str "1.",.str "-1.0",.str "0,0",.str "1000.1"] = sW WA:=sW_of (l:=["0","1.2.3","256.0","0.256","01.0","0.00","a.b",".1","1.","-1.0","0,0","1000.1"]) (by decide +kernel)
theorem lKH:[D.str "32",.str "100"] = sW (WK 72):=sW_of (l:=["32","100"]) (by decide +kernel)
theorem lKL:[D.str "0",.str "100"] = sW (WK 76):=sW_of (l:=["0","100"]) (by decide +kernel)
theorem lKC:[D.str "0",.str "33"] = sW (WK 67):=sW_of (l:=["0","33"]) (by decide +kernel)
theorem lKN:[D.str "1000000000",.str "0000000001"] = sW (WK 78):=sW_of (l:=["1000000000","0000000001"]) (by decide +kernel)
theorem pick_any {β:Type} (L:List β) (g:β -> D) {m:Int} (hm:(L.length:Int) = m) (h0:0 < m) (c:Int):∃ x ∈ L,L2.atI (L.map g) (c % m) = some (g x):=by
 have b0:=Int.emod_nonneg c (by omega:m ≠ 0)
 have b1:=Int.emod_lt_of_pos c h0
 have hl:(c % m).toNat < L.length:=by omega
 have e:(((c % m).toNat:Nat):Int) = c % m:=by omega
 have a:L2.atI (L.map g) (((c % m).toNat:Nat):Int) = some (g L[(c % m).toNat]):=by
  rw [atI_map,atI_nat' _ _ hl]
  rfl
 rw [e] at a
 exact ⟨_,List.getElem_mem hl,a⟩
theorem rp_B {w:List Nat} (h:(fm w).isNone = true):rp 66 w = none:=by
 have:fm w = none:=by simpa using h
 unfold rp
 rw [if_pos rfl,this]
 rfl
theorem rp_A {w:List Nat} (h:(adR w).isNone = true):rp 65 w = none:=by
 have:adR w = none:=by simpa using h
 unfold rp
 rw [if_neg (by decide),if_pos rfl,this]
 rfl
theorem rp_N {k:Nat} (hk:Nd k) {w:List Nat} (h:(numR (loK k) (hiK k) w).isNone = true):rp k w = none:=by
 have:numR (loK k) (hiK k) w = none:=by simpa using h
 have e1:¬ k = 66:=by rcases hk with rfl | rfl | rfl | rfl <;> decide
 have e2:¬ k = 65:=by rcases hk with rfl | rfl | rfl | rfl <;> decide
 unfold rp
 rw [if_neg e1,if_neg e2,this]
 rfl
theorem wrong_den {k:Nat} (hk:Kd k) (c:Int) (Ω:List OS):∃ (w:List Nat) (Ω':List OS),rp k w = none /\ Wd w /\ d_l_wrong_word [.str (tx [k]),.int c] Ω = some (.str (tx w),Ω'):=by
 have q1:=eq_k hk 66 (by decide)
 have q2:=eq_k hk 65 (by decide)
 have s1:∀ t:SDen,sSeq (sSet 2 (gLst (gCons (gC (.str "-1")) (gCons (gC (.str "+1")) (gCons (gC (.str "01")) (gCons (gC (.str "1.0")) (gCons (gC (.str "1a")) (gCons (gC (.str "a")) (gCons (gC (.str "1234567890")) (gCons (gC (.str "00")) (gCons (gC (.str "1_0")) gNil))))))))))) t [.dat (.str (tx [k])),.dat (.int c),.und,.und,.und] Ω = t [.dat (.str (tx [k])),.dat (.int c),.dat (.lst (sW WN)),.und,.und] Ω:=fun t => by
  refine seq_nx ?_
  rw [<- lN]
  simp
 have T1:∀ (ρ:List Sl) (Ω:List OS),ρ[0]? = some (.dat (.str (tx [k]))) -> gT (gOp (eqD false) (gVar 0) (gC (.str "B"))) ρ Ω = some (decide (k = 66),Ω):=fun ρ Ω h => by
  rw [t_B]
  simp [h,q1]
 have T2:∀ (ρ:List Sl) (Ω:List OS),ρ[0]? = some (.dat (.str (tx [k]))) -> gT (gOp (eqD false) (gVar 0) (gC (.str "A"))) ρ Ω = some (decide (k = 65),Ω):=fun ρ Ω h => by
  rw [t_A]
  simp [h,q2]
 rcases hk.split with rfl | rfl | nk
 ·obtain ⟨w,hw,e⟩:=pick_any WB (fun w => D.str (tx w)) (m:=10) rfl (by decide) c
  obtain ⟨b1,b2⟩:=WB_bad w hw
  refine ⟨w,Ω,rp_B b1,okW_of b2,run_rt rfl ((s1 _).trans (seq_rt ?_))⟩
  have g:gLst (gCons (gC (.str "2*")) (gCons (gC (.str "1")) (gCons (gC (.str "0*1")) (gCons (gC (.str "**")) (gCons (gC (.str "00000000000000001")) (gCons (gC (.str "0000000000000000*")) (gCons (gC (.str "01")) (gCons (gC (.str "*0")) (gCons (gC (.str "0x*")) (gCons (gC (.str "1.1")) gNil)))))))))) [.dat (.str (tx [66])),.dat (.int c),.dat (.lst (sW WN)),.und,.und] Ω = some (.lst (sW WB),Ω):=by
   rw [<- lB]
   simp
  have e:ixD (.lst (sW WB)) (.int (c % 10)) = some (.str (tx w)):=e
  have m:modD (.int c) (.int 10) = some (.int (c % 10)):=by simp
  rw [ap_sIf,T1 _ _ rfl]
  refine (seq_nx (ρ':=[.dat (.str (tx [66])),.dat (.int c),.dat (.lst (sW WN)),.dat (.lst (sW WB)),.und]) (Ω':=Ω) (by rw [ap_set,g]; rfl)).trans ?_
  simp only [ap_ret,ap_op,ap_var,ap_c,List.getElem?_cons_zero,List.getElem?_cons_succ,m,e]
 ·obtain ⟨w,hw,e⟩:=pick_any WA (fun w => D.str (tx w)) (m:=12) rfl (by decide) c
  obtain ⟨b1,b2⟩:=WA_bad w hw
  refine ⟨w,Ω,rp_A b1,okW_of b2,run_rt rfl ((s1 _).trans ((seq_nx (ρ':=[.dat (.str (tx [65])),.dat (.int c),.dat (.lst (sW WN)),.und,.und]) (Ω':=Ω) (by rw [ap_sIf,T1 _ _ rfl]; rfl)).trans (seq_rt ?_)))⟩
  have g:gLst (gCons (gC (.str "0")) (gCons (gC (.str "1.2.3")) (gCons (gC (.str "256.0")) (gCons (gC (.str "0.256")) (gCons (gC (.str "01.0")) (gCons (gC (.str "0.00")) (gCons (gC (.str "a.b")) (gCons (gC (.str ".1")) (gCons (gC (.str "1.")) (gCons (gC (.str "-1.0")) (gCons (gC (.str "0,0")) (gCons (gC (.str "1000.1")) gNil)))))))))))) [.dat (.str (tx [65])),.dat (.int c),.dat (.lst (sW WN)),.und,.und] Ω = some (.lst (sW WA),Ω):=by
   rw [<- lA]
   simp
  have e:ixD (.lst (sW WA)) (.int (c % 12)) = some (.str (tx w)):=e
  have m:modD (.int c) (.int 12) = some (.int (c % 12)):=by simp
  rw [ap_sIf,T2 _ _ rfl]
  refine (seq_nx (ρ':=[.dat (.str (tx [65])),.dat (.int c),.dat (.lst (sW WN)),.dat (.lst (sW WA)),.und]) (Ω':=Ω) (by rw [ap_set,g]; rfl)).trans ?_
  simp only [ap_ret,ap_op,ap_var,ap_c,List.getElem?_cons_zero,List.getElem?_cons_succ,m,e]
 ·have e1:¬ k = 66:=by rcases nk with rfl | rfl | rfl | rfl <;> decide
  have e2:¬ k = 65:=by rcases nk with rfl | rfl | rfl | rfl <;> decide
  have kl:k ∈ [67,72,76,78]:=by rcases nk with rfl | rfl | rfl | rfl <;> decide
  have l2:(WK k).length = 2:=by rcases nk with rfl | rfl | rfl | rfl <;> rfl
  obtain ⟨w,hw,e⟩:=pick_any (WN ++ WK k) (fun w => D.str (tx w)) (m:=11) (by rw [List.length_append,l2]; rfl) (by decide) c
  obtain ⟨b1,b2⟩:=WN_bad k kl w hw
  obtain ⟨Ω1,g1⟩:=disp4 nk (ρ:=[.dat (.str (tx [k])),.dat (.int c),.dat (.lst (sW WN)),.und,.und]) rfl (gLst (gCons (gC (.str "32")) (gCons (gC (.str "100")) gNil))) (gLst (gCons (gC (.str "0")) (gCons (gC (.str "100")) gNil))) (gLst (gCons (gC (.str "0")) (gCons (gC (.str "33")) gNil))) (gLst (gCons (gC (.str "1000000000")) (gCons (gC (.str "0000000001")) gNil))) (.lst (sW (WK 72))) (.lst (sW (WK 76))) (.lst (sW (WK 67))) (.lst (sW (WK 78))) (fun _ => by rw [<- lKH]; simp) (fun _ => by rw [<- lKL]; simp) (fun _ => by rw [<- lKC]; simp) (fun _ => by rw [<- lKN]; simp) Ω
  have dk:d4 (.lst (sW (WK 72))) (.lst (sW (WK 76))) (.lst (sW (WK 67))) (.lst (sW (WK 78))) k = .lst (sW (WK k)):=by rcases nk with rfl | rfl | rfl | rfl <;> rfl
  rw [dk] at g1
  have ad:addD (.lst (sW WN)) (.lst (sW (WK k))) = some (.lst (sW (WN ++ WK k))):=by
   rw [add_lst,if_pos]
   ·unfold sW
    rw [List.map_append]
   ·unfold sW
    rw [List.length_map,List.length_map,l2]
    decide
  have e:ixD (.lst (sW (WN ++ WK k))) (.int (c % 11)) = some (.str (tx w)):=e
  have m:modD (.int c) (.int 11) = some (.int (c % 11)):=by simp
  refine ⟨w,Ω1,rp_N nk b1,okW_of b2,run_rt rfl ((s1 _).trans ?_)⟩
  refine (seq_nx (ρ':=[.dat (.str (tx [k])),.dat (.int c),.dat (.lst (sW WN)),.und,.und]) (Ω':=Ω) (by rw [ap_sIf,T1 _ _ rfl,decide_eq_false e1]; rfl)).trans ?_
  refine (seq_nx (ρ':=[.dat (.str (tx [k])),.dat (.int c),.dat (.lst (sW WN)),.und,.und]) (Ω':=Ω) (by rw [ap_sIf,T2 _ _ rfl,decide_eq_false e2]; rfl)).trans ?_
  refine (seq_nx (ρ':=[.dat (.str (tx [k])),.dat (.int c),.dat (.lst (sW WN)),.und,.dat (.lst (sW (WK k)))]) (Ω':=Ω1) (by rw [ap_set,g1]; rfl)).trans ?_
  simp only [ap_ret,ap_op,ap_var,ap_c,List.getElem?_cons_zero,List.getElem?_cons_succ,m,ad,e]
end Law
namespace Law
open PySem DL L2
theorem find_len (f:Fo) (a:List Nat) (r:List (List Nat)):fits (a :: r) f = (decide (f.2.length = r.length) && decide (f.1 = a)):=by
 unfold fits
 have:decide (f.2.length + 1 = (a :: r).length) = decide (f.2.length = r.length):=decide_eq_decide.mpr (by simp)
 rw [this]
 rfl
theorem find_at (a:List Nat) (r:List (List Nat)):FL.find? (fits (a :: r)) = FL.find? fun g => decide (g.2.length = r.length) && decide (g.1 = a):=by
 congr 1
 funext g
 exact find_len g a r
theorem find_self:∀ f ∈ FL,(FL.find? fun g => decide (g.2.length = f.2.length) && decide (g.1 = f.1)) = some f:=by decide
noncomputable def restW:List Nat:=[114,101,115,116]
theorem find_more:∀ f ∈ FL,(f.1 ≠ restW \/ f.2.length = 1) -> (FL.find? fun g => decide (g.2.length = f.2.length + 1) && decide (g.1 = f.1)) = none:=by decide
theorem find_less:∀ f ∈ FL,0 < f.2.length -> f.1 ≠ restW -> (FL.find? fun g => decide (g.2.length = f.2.length - 1) && decide (g.1 = f.1)) = none:=by decide
noncomputable def WF:List (List Nat):=[[78,101,116],[110,101,116,115],[111,119,110,58],[99,111,109,101,115],[],[116,105,101],[82,69,83,84],[103,111]]
theorem WF_bad:∀ z ∈ WF,okW (z ++ [116]) = true /\ ∀ f ∈ FL,f.1 ≠ z ++ [116]:=by decide
noncomputable def W4:List (List Nat):=[[48],[120],[42],[49,46,49]]
theorem W4_ok:∀ w ∈ W4,okW w = true:=by decide
theorem lF:[D.str "Net",.str "nets",.str "own:",.str "comes",.str "",.str "tie",.str "REST",.str "go"] = sW WF:=sW_of (l:=["Net","nets","own:","comes","","tie","REST","go"]) (by decide +kernel)
theorem l4:[D.str "0",.str "x",.str "*",.str "1.1"] = sW W4:=sW_of (l:=["0","x","*","1.1"]) (by decide +kernel)
theorem ask_find {ws:List (List Nat)} (h:FL.find? (fits ws) = none):askR ws = .non:=by unfold askR; rw [h]
theorem mapR_bad:∀ {ps:List (Nat × List Nat)} {p:Nat × List Nat},p ∈ ps -> rp p.1 p.2 = none -> mapR ps = none
 | q :: ps,p,h,e => by
  rw [mapR_cons]
  rcases List.mem_cons.mp h with z | z
  ·rw [<- z,e]
  ·rw [mapR_bad z e]
   cases rp q.1 q.2 <;> rfl
theorem ask_part {f:Fo} (hf:f ∈ FL) {r:List (List Nat)} (hl:r.length = f.2.length) {p:Nat × List Nat} (hp:p ∈ f.2.zip r) (e:rp p.1 p.2 = none):askR (f.1 :: r) = .non:=by
 unfold askR
 rw [find_at,hl,find_self f hf]
 dsimp only [List.tail_cons]
 rw [mapR_bad hp e]
theorem cut_init1 {β:Type} (xs:List β):cutL xs none (some (-1)) = xs.take (xs.length - 1):=by
 unfold cutL
 have e:HT.sIx xs.length xs.length (some (-1)) = xs.length - 1:=by
  show (if (-1:Int) < 0 then ((-1:Int) + (xs.length:Int)).toNat else min (-1:Int).toNat xs.length) = _
  rw [if_pos (by decide)]; omega
 rw [e,HT.sIx_none,List.drop_zero,Nat.sub_zero]
theorem FL_Wd {f:Fo} (hf:f ∈ FL):Wd f.1:=by
 obtain ⟨h1,_,h2,h3⟩:=FL_text f hf
 exact ⟨h2,h1,by omega⟩
theorem sW_take (L:List (List Nat)) (n:Nat):(sW L).take n = sW (L.take n):=by unfold sW; rw [List.map_take]
theorem sW_drop (L:List (List Nat)) (n:Nat):(sW L).drop n = sW (L.drop n):=by unfold sW; rw [List.map_drop]
theorem sW_app (L M:List (List Nat)):sW L ++ sW M = sW (L ++ M):=by unfold sW; rw [List.map_append]
theorem sW_len (L:List (List Nat)):(sW L).length = L.length:=by unfold sW; rw [List.length_map]
theorem add_sW {L M:List (List Nat)} (h:L.length + M.length <= 1000):addD (.lst (sW L)) (.lst (sW M)) = some (.lst (sW (L ++ M))):=by
 rw [add_lst,if_pos (by rw [sW_len,sW_len]; omega),sW_app]
theorem cut_to_i {β:Type} (xs:List β) (i:Int) (k:Nat) (h:i = (k:Int)):cutL xs none (some i) = xs.take k:=by rw [h,cut_to]
theorem cut_from_i {β:Type} (xs:List β) (i:Int) (k:Nat) (h:i = (k:Int)):cutL xs (some i) none = xs.drop k:=by rw [h,cut_from]
structure Spo (f:Fo) (ws:List (List Nat)):Prop where
 hf:f ∈ FL
 hw:∀ w ∈ ws,Wd w
 hl:ws.length = f.2.length
noncomputable abbrev spR (f:Fo) (ws:List (List Nat)) (c:Int) (x:Sl):List Sl:=[.dat (.lst (sW (f.1 :: ws))),.dat (.str (tx f.2)),.dat (.int c),x]
noncomputable def Good (W:List (List Nat)):Prop:=(∀ w ∈ W,Wd w) /\ W ≠ [] /\ W.length <= 6 /\ askR W = .non
theorem t_rest:(("rest":String):Str) = tx restW:=by decide +kernel
theorem neR {f:Fo} (hf:f ∈ FL):eqD true (.str (tx f.1)) (.str (tx restW)) = some (.bl (decide (f.1 ≠ restW))):=by
 obtain ⟨h1,_⟩:=FL_text f hf
 rw [eq_tx true (a:=f.1) (b:=restW) (fun c hc => by have:=(h1 c hc).1; omega) (by decide)]
 by_cases q:f.1 = restW
 ·rw [if_pos q,decide_eq_false (by simp [q])]
  rfl
 ·rw [if_neg q,decide_eq_true q]
theorem kind_ix {f:Fo} (hf:f ∈ FL) {a:Nat} (ha:a < f.2.length):ixD (.str (tx f.2)) (.int (a:Int)) = some (.str (tx [f.2[a]])):=by
 have h4:=FL_len f hf
 show (if (tx f.2).length <= 100000 then (L2.atI (tx f.2).cps.toList (a:Int)).map fun c => D.str ⟨#[c]⟩ else none) = _
 rw [if_pos (by rw [tx_len]; omega),show (tx f.2).cps.toList = f.2 by simp [tx],atI_nat' _ _ ha]
 rfl
theorem spoA {f:Fo} {ws:List (List Nat)} (s:Spo f ws) {c:Int} (hc:0 <= c) (h0:0 < f.2.length) (x:Sl) (Ω:List OS):∃ (W:List (List Nat)) (Ω':List OS),Good W /\
  sSeq (sSet 3 (gOp modD (gOp divD (gVar 2) (gC (.int 5))) (gCB lenD (gCons (gVar 1) gNil)))) (sRet (gOp addD (gOp addD (gSl (gVar 0) gNoPart (gPart (gOp addD (gVar 3) (gC (.int 1))))) (gLst (gCons (gCall d_l_wrong_word (gCons (gOp ixD (gVar 1) (gVar 3)) (gCons (gOp divD (gVar 2) (gC (.int 20))) gNil))) gNil))) (gSl (gVar 0) (gPart (gOp addD (gVar 3) (gC (.int 2)))) gNoPart))) (spR f ws c x) Ω = some (.rt (.lst (sW W)) Ω'):=by
 obtain ⟨hf,hw,hl⟩:=s
 have h4:=FL_len f hf
 obtain ⟨a,ha,ea⟩:∃ a:Nat,a < f.2.length /\ c / 5 % (f.2.length:Int) = (a:Int):=by
  have b0:=Int.emod_nonneg (c / 5) (by omega:(f.2.length:Int) ≠ 0)
  have b1:=Int.emod_lt_of_pos (c / 5) (by omega:(0:Int) < (f.2.length:Int))
  exact ⟨(c / 5 % (f.2.length:Int)).toNat,by omega,by omega⟩
 have kd:Kd f.2[a]:=FL_kinds f hf _ (List.getElem_mem ha)
 obtain ⟨w,Ω',r1,r2,e⟩:=wrong_den kd (c / 20) Ω
 have ln:=len_tx (cs:=f.2) (by omega)
 have md:modD (.int (c / 5)) (.int (f.2.length:Int)) = some (.int (a:Int)):=by
  rw [<- ea]
  have:(0:Int) < (f.2.length:Int) /\ (f.2.length:Int) < 1073741824:=by omega
  have ne:f.2 ≠ []:=fun z => by rw [z] at h0; cases h0
  simp [this,ne]
 have kx:=kind_ix hf ha
 have c1:=cut_to_i (sW (f.1 :: ws)) ((a:Int) + 1) (a + 1) (by omega)
 have c2:=cut_from_i (sW (f.1 :: ws)) ((a:Int) + 2) (a + 2) (by omega)
 rw [sW_take] at c1
 rw [sW_drop] at c2
 have l1:(f.1 :: ws).length <= 4:=by simp; omega
 have a1:addD (.lst (sW ((f.1 :: ws).take (a + 1)))) (.lst [.str (tx w)]) = some (.lst (sW ((f.1 :: ws).take (a + 1) ++ [w]))):=add_sW (M:=[w]) (by simp; omega)
 have a2:addD (.lst (sW ((f.1 :: ws).take (a + 1) ++ [w]))) (.lst (sW ((f.1 :: ws).drop (a + 2)))) = some (.lst (sW (((f.1 :: ws).take (a + 1) ++ [w]) ++ (f.1 :: ws).drop (a + 2)))):=add_sW (by simp; omega)
 have eW:((f.1 :: ws).take (a + 1) ++ [w]) ++ (f.1 :: ws).drop (a + 2) = f.1 :: (ws.take a ++ [w] ++ ws.drop (a + 1)):=by simp
 refine ⟨f.1 :: (ws.take a ++ [w] ++ ws.drop (a + 1)),Ω',⟨?_,by simp,by simp; omega,?_⟩,?_⟩
 ·intro u hu
  rcases List.mem_cons.mp hu with z | z
  ·rw [z]; exact FL_Wd hf
  ·rcases List.mem_append.mp z with z | z
   ·rcases List.mem_append.mp z with z | z
    ·exact hw u (List.mem_of_mem_take z)
    ·rw [List.mem_singleton.mp z]; exact r2
   ·exact hw u (List.mem_of_mem_drop z)
 ·refine ask_part (p:=(f.2[a],w)) hf (by simp; omega) ?_ r1
  refine List.mem_of_getElem? (i:=a) ?_
  rw [List.getElem?_zip_eq_some]
  refine ⟨List.getElem?_eq_getElem ha,?_⟩
  rw [List.append_assoc,List.getElem?_append_right (by simp; omega)]
  simp
  have:min a ws.length = a:=by omega
  rw [this]
  simp
 ·refine (seq_nx (ρ':=spR f ws c (.dat (.int (a:Int)))) (Ω':=Ω) (by simp [ln,md])).trans ?_
  rw [<- eW]
  generalize (f.1 :: ws).take (a + 1) = A at *
  generalize (f.1 :: ws).drop (a + 2) = B at *
  simp [-add_lst,c1,c2,kx,e,a1,a2]
theorem spoB {f:Fo} {ws:List (List Nat)} (s:Spo f ws) {a:Nat} (ha:a <= f.2.length) (c:Int) (h:f.1 ≠ restW \/ f.2.length = 1) (Ω:List OS):∃ W:List (List Nat),Good W /\
  sRet (gOp addD (gOp addD (gSl (gVar 0) gNoPart (gPart (gOp addD (gVar 3) (gC (.int 1))))) (gLst (gCons (gOp ixD (gLst (gCons (gC (.str "0")) (gCons (gC (.str "x")) (gCons (gC (.str "*")) (gCons (gC (.str "1.1")) gNil))))) (gOp modD (gOp divD (gVar 2) (gC (.int 20))) (gC (.int 4)))) gNil))) (gSl (gVar 0) (gPart (gOp addD (gVar 3) (gC (.int 1)))) gNoPart)) (spR f ws c (.dat (.int (a:Int)))) Ω = some (.rt (.lst (sW W)) Ω):=by
 obtain ⟨hf,hw,hl⟩:=s
 have h4:=FL_len f hf
 obtain ⟨w,hm,e⟩:=pick_any W4 (fun w => D.str (tx w)) (m:=4) rfl (by decide) (c / 20)
 have e:L2.atI (sW W4) (c / 20 % 4) = some (.str (tx w)):=e
 rw [<- l4] at e
 have c1:=cut_to_i (sW (f.1 :: ws)) ((a:Int) + 1) (a + 1) (by omega)
 have c2:=cut_from_i (sW (f.1 :: ws)) ((a:Int) + 1) (a + 1) (by omega)
 rw [sW_take] at c1
 rw [sW_drop] at c2
 have a1:addD (.lst (sW ((f.1 :: ws).take (a + 1)))) (.lst [.str (tx w)]) = some (.lst (sW ((f.1 :: ws).take (a + 1) ++ [w]))):=add_sW (M:=[w]) (by simp; omega)
 have a2:addD (.lst (sW ((f.1 :: ws).take (a + 1) ++ [w]))) (.lst (sW ((f.1 :: ws).drop (a + 1)))) = some (.lst (sW (((f.1 :: ws).take (a + 1) ++ [w]) ++ (f.1 :: ws).drop (a + 1)))):=add_sW (by simp; omega)
 have eW:((f.1 :: ws).take (a + 1) ++ [w]) ++ (f.1 :: ws).drop (a + 1) = f.1 :: (ws.take a ++ [w] ++ ws.drop a):=by simp
 have lW:(ws.take a ++ [w] ++ ws.drop a).length = f.2.length + 1:=by simp; omega
 refine ⟨f.1 :: (ws.take a ++ [w] ++ ws.drop a),⟨?_,by simp,by rw [List.length_cons,lW]; omega,?_⟩,?_⟩
 ·intro u hu
  rcases List.mem_cons.mp hu with z | z
  ·rw [z]; exact FL_Wd hf
  ·rcases List.mem_append.mp z with z | z
   ·rcases List.mem_append.mp z with z | z
    ·exact hw u (List.mem_of_mem_take z)
    ·rw [List.mem_singleton.mp z]; exact okW_of (W4_ok w hm)
   ·exact hw u (List.mem_of_mem_drop z)
 ·refine ask_find ?_
  rw [find_at,lW]
  exact find_more f hf h
 ·rw [<- eW]
  generalize (f.1 :: ws).take (a + 1) = A at *
  generalize (f.1 :: ws).drop (a + 1) = B at *
  simp [-add_lst,c1,c2,e,a1,a2]
theorem spoC {f:Fo} {ws:List (List Nat)} (s:Spo f ws) (h0:0 < f.2.length) (hr:f.1 ≠ restW) (c:Int) (x:Sl) (Ω:List OS):∃ W:List (List Nat),Good W /\
  sRet (gSl (gVar 0) gNoPart (gPart (gNeg (gC (.int 1))))) (spR f ws c x) Ω = some (.rt (.lst (sW W)) Ω):=by
 obtain ⟨hf,hw,hl⟩:=s
 have h4:=FL_len f hf
 have c1:=cut_init1 (sW (f.1 :: ws))
 have eW:(f.1 :: ws).take ((f.1 :: ws).length - 1) = f.1 :: ws.take (f.2.length - 1):=by
  obtain ⟨k,hk⟩:∃ k,ws.length = k + 1:=⟨ws.length - 1,by omega⟩
  rw [List.length_cons,hk,<- hl,hk]
  rfl
 rw [sW_len,sW_take,eW] at c1
 have lW:(ws.take (f.2.length - 1)).length = f.2.length - 1:=by simp; omega
 refine ⟨f.1 :: ws.take (f.2.length - 1),⟨?_,by simp,by rw [List.length_cons,lW]; omega,?_⟩,?_⟩
 ·intro u hu
  rcases List.mem_cons.mp hu with z | z
  ·rw [z]; exact FL_Wd hf
  ·exact hw u (List.mem_of_mem_take z)
 ·refine ask_find ?_
  rw [find_at,lW]
  exact find_less f hf h0 hr
 ·generalize f.1 :: ws.take (f.2.length - 1) = A at *
  simp [c1]
theorem spoD {f:Fo} {ws:List (List Nat)} (s:Spo f ws) (c:Int) (x:Sl) (Ω:List OS):∃ W:List (List Nat),Good W /\
  sRet (gOp addD (gLst (gCons (gOp addD (gOp ixD (gLst (gCons (gC (.str "Net")) (gCons (gC (.str "nets")) (gCons (gC (.str "own:")) (gCons (gC (.str "comes")) (gCons (gC (.str "")) (gCons (gC (.str "tie")) (gCons (gC (.str "REST")) (gCons (gC (.str "go")) gNil))))))))) (gOp modD (gOp divD (gVar 2) (gC (.int 20))) (gC (.int 8)))) (gC (.str "t"))) gNil)) (gSl (gVar 0) (gPart (gC (.int 1))) gNoPart)) (spR f ws c x) Ω = some (.rt (.lst (sW W)) Ω):=by
 obtain ⟨hf,hw,hl⟩:=s
 have h4:=FL_len f hf
 obtain ⟨z,hz,e⟩:=pick_any WF (fun w => D.str (tx w)) (m:=8) rfl (by decide) (c / 20)
 have e:L2.atI (sW WF) (c / 20 % 8) = some (.str (tx z)):=e
 rw [<- lF] at e
 obtain ⟨o1,o2⟩:=WF_bad z hz
 have wz:=okW_of o1
 have c2:=cut_from_i (sW (f.1 :: ws)) 1 1 rfl
 rw [sW_drop] at c2
 have c2:cutL (sW (f.1 :: ws)) (some 1) none = sW ws:=c2
 have tt:(("t":String):Str) = tx [116]:=by decide +kernel
 have a0:addD (.str (tx z)) (.str (tx [116])) = some (.str (tx (z ++ [116]))):=addD_tx (by have:=wz.len; simp at this ⊢; omega)
 have a1:addD (.lst [.str (tx (z ++ [116]))]) (.lst (sW ws)) = some (.lst (sW ((z ++ [116]) :: ws))):=add_sW (L:=[z ++ [116]]) (by simp; omega)
 refine ⟨(z ++ [116]) :: ws,⟨?_,by simp,by simp; omega,?_⟩,?_⟩
 ·intro u hu
  rcases List.mem_cons.mp hu with q | q
  ·rw [q]; exact wz
  ·exact hw u q
 ·refine ask_find ?_
  rw [find_at,List.find?_eq_none]
  intro g hg
  have:=o2 g hg
  simp [this]
 ·rw [tt]
  simp [-add_lst,e,c2,a0,a1]
theorem spoilt_den {f:Fo} {ws:List (List Nat)} (s:Spo f ws) {c:Int} (hc:0 <= c) (Ω:List OS):∃ (W:List (List Nat)) (Ω':List OS),Good W /\ d_l_spoilt [.lst (sW (f.1 :: ws)),.str (tx f.2),.int c] Ω = some (.lst (sW W),Ω'):=by
 have h4:=FL_len f s.hf
 have hl:=s.hl
 obtain ⟨a,ha,ea⟩:∃ a:Nat,a <= f.2.length /\ c / 5 % ((f.2.length + 1:Nat):Int) = (a:Int):=by
  have b0:=Int.emod_nonneg (c / 5) (by omega:((f.2.length + 1:Nat):Int) ≠ 0)
  have b1:=Int.emod_lt_of_pos (c / 5) (by omega:(0:Int) < ((f.2.length + 1:Nat):Int))
  exact ⟨(c / 5 % ((f.2.length + 1:Nat):Int)).toNat,by omega,by omega⟩
 have l1:lenD [.lst (sW (f.1 :: ws))] = some (.int ((f.2.length + 1:Nat):Int)):=by
  show some (D.int ((sW (f.1 :: ws)).length:Nat)) = _
  rw [sW_len,List.length_cons,hl]
 have md:modD (.int (c / 5)) (.int ((f.2.length + 1:Nat):Int)) = some (.int (a:Int)):=by
  rw [<- ea]
  have:(0:Int) < ((f.2.length + 1:Nat):Int) /\ ((f.2.length + 1:Nat):Int) < 1073741824:=by omega
  generalize ((f.2.length + 1:Nat):Int) = m at *
  simp [this]
 have ln:=len_tx (cs:=f.2) (by omega)
 have ix0:ixD (.lst (sW (f.1 :: ws))) (.int 0) = some (.str (tx f.1)):=atI_0 _ _
 have ner:=neR s.hf
 have s1:∀ t:SDen,sSeq (sSet 3 (gOp modD (gOp divD (gVar 2) (gC (.int 5))) (gCB lenD (gCons (gVar 0) gNil)))) t (spR f ws c .und) Ω = t (spR f ws c (.dat (.int (a:Int)))) Ω:=fun t => by
  refine seq_nx ?_
  have d5:divD (.int c) (.int 5) = some (.int (c / 5)):=by simp
  have g:gOp modD (gOp divD (gVar 2) (gC (.int 5))) (gCB lenD (gCons (gVar 0) gNil)) (spR f ws c .und) Ω = some (.int (a:Int),Ω):=by
   simp only [ap_op,ap_var,ap_c,ap_CB,ap_cons,ap_nil,spR,List.getElem?_cons_zero,List.getElem?_cons_succ,d5,l1,md]
  rw [ap_set,g]
  rfl
 by_cases hA:c % 5 < 3 /\ 0 < f.2.length
 ·obtain ⟨W,Ω',g,e⟩:=spoA s hc hA.2 (.dat (.int (a:Int))) Ω
  refine ⟨W,Ω',g,run_rt rfl ((s1 _).trans (seq_rt ?_))⟩
  have t:gAndT (gT (gOp ltD (gOp modD (gVar 2) (gC (.int 5))) (gC (.int 3)))) (gT (gOp gtD (gCB lenD (gCons (gVar 1) gNil)) (gC (.int 0)))) (spR f ws c (.dat (.int (a:Int)))) Ω = some (true,Ω):=by
   have h2:(0:Int) < (f.2.length:Int):=by omega
   simp [hA.1,ln]
   omega
  rw [ap_sIf,t]
  exact e
 ·have tA:gAndT (gT (gOp ltD (gOp modD (gVar 2) (gC (.int 5))) (gC (.int 3)))) (gT (gOp gtD (gCB lenD (gCons (gVar 1) gNil)) (gC (.int 0)))) (spR f ws c (.dat (.int (a:Int)))) Ω = some (false,Ω):=by
   by_cases q:c % 5 < 3
   ·have h2:f.2.length = 0:=by omega
    simp [q,ln,h2]
   ·simp [q]
  have sA:∀ t u:SDen,sSeq (sIf (gAndT (gT (gOp ltD (gOp modD (gVar 2) (gC (.int 5))) (gC (.int 3)))) (gT (gOp gtD (gCB lenD (gCons (gVar 1) gNil)) (gC (.int 0))))) u sNext) t (spR f ws c (.dat (.int (a:Int)))) Ω = t (spR f ws c (.dat (.int (a:Int)))) Ω:=fun t u => seq_nx (by rw [ap_sIf,tA]; rfl)
  have t2:gOrT (gT (gOp (eqD true) (gOp ixD (gVar 0) (gC (.int 0))) (gC (.str "rest")))) (gT (gOp (eqD false) (gCB lenD (gCons (gVar 0) gNil)) (gC (.int 2)))) (spR f ws c (.dat (.int (a:Int)))) Ω = some (decide (f.1 ≠ restW \/ f.2.length = 1),Ω):=by
   have e2:eqD false (.int ((f.2.length + 1:Nat):Int)) (.int 2) = some (.bl (decide (f.2.length = 1))):=by
    simp
    omega
   rw [t_rest]
   simp only [ap_orT,ap_T,ap_op,ap_var,ap_c,ap_CB,ap_cons,ap_nil,spR,List.getElem?_cons_zero,List.getElem?_cons_succ,ix0,ner,l1,e2]
   by_cases q:f.1 ≠ restW
   ·rw [decide_eq_true q,show decide (f.1 ≠ restW \/ f.2.length = 1) = true from decide_eq_true (Or.inl q)]
   ·rw [decide_eq_false q]
    dsimp only
    have:(f.1 ≠ restW \/ f.2.length = 1) ↔ f.2.length = 1:=⟨fun z => z.resolve_left q,.inr⟩
    rw [decide_eq_decide.mpr this]
  by_cases hB:c % 5 = 3 /\ (f.1 ≠ restW \/ f.2.length = 1)
  ·obtain ⟨W,g,e⟩:=spoB s ha c hB.2 Ω
   refine ⟨W,Ω,g,run_rt rfl ((s1 _).trans ((sA _ _).trans (seq_rt ?_)))⟩
   have t1:gT (gOp (eqD false) (gOp modD (gVar 2) (gC (.int 5))) (gC (.int 3))) (spR f ws c (.dat (.int (a:Int)))) Ω = some (true,Ω):=by simp [hB.1]
   rw [ap_sIf,t1]
   dsimp only
   rw [ap_sIf,t2,decide_eq_true hB.2]
   exact e
  ·have sB:∀ t u:SDen,sSeq (sIf (gT (gOp (eqD false) (gOp modD (gVar 2) (gC (.int 5))) (gC (.int 3)))) (sIf (gOrT (gT (gOp (eqD true) (gOp ixD (gVar 0) (gC (.int 0))) (gC (.str "rest")))) (gT (gOp (eqD false) (gCB lenD (gCons (gVar 0) gNil)) (gC (.int 2))))) u sNext) sNext) t (spR f ws c (.dat (.int (a:Int)))) Ω = t (spR f ws c (.dat (.int (a:Int)))) Ω:=fun t u => by
    refine seq_nx ?_
    by_cases q:c % 5 = 3
    ·have t1:gT (gOp (eqD false) (gOp modD (gVar 2) (gC (.int 5))) (gC (.int 3))) (spR f ws c (.dat (.int (a:Int)))) Ω = some (true,Ω):=by simp [q]
     rw [ap_sIf,t1]
     dsimp only
     rw [ap_sIf,t2,decide_eq_false (fun z => hB ⟨q,z⟩)]
     rfl
    ·have t1:gT (gOp (eqD false) (gOp modD (gVar 2) (gC (.int 5))) (gC (.int 3))) (spR f ws c (.dat (.int (a:Int)))) Ω = some (false,Ω):=by simp [q]
     rw [ap_sIf,t1]
     rfl
   have t3:gAndT (gT (gOp (eqD false) (gOp modD (gVar 2) (gC (.int 5))) (gC (.int 4)))) (gAndT (gT (gOp gtD (gCB lenD (gCons (gVar 1) gNil)) (gC (.int 0)))) (gT (gOp (eqD true) (gOp ixD (gVar 0) (gC (.int 0))) (gC (.str "rest"))))) (spR f ws c (.dat (.int (a:Int)))) Ω = some (decide (c % 5 = 4 /\ 0 < f.2.length /\ f.1 ≠ restW),Ω):=by
    have e2:gtD (.int (f.2.length:Int)) (.int 0) = some (.bl (decide (0 < f.2.length))):=by
     simp
    have m5:modD (.int c) (.int 5) = some (.int (c % 5)):=by simp
    have e4:eqD false (.int (c % 5)) (.int 4) = some (.bl (decide (c % 5 = 4))):=by simp
    rw [t_rest]
    simp only [ap_andT,ap_T,ap_op,ap_var,ap_c,ap_CB,ap_cons,ap_nil,spR,List.getElem?_cons_zero,List.getElem?_cons_succ,ix0,ner,ln,e2,m5,e4]
    by_cases q1:c % 5 = 4
    ·rw [decide_eq_true q1]
     dsimp only
     by_cases q2:0 < f.2.length
     ·rw [decide_eq_true q2]
      dsimp only
      by_cases q3:f.1 ≠ restW
      ·rw [decide_eq_true q3,show decide (c % 5 = 4 /\ 0 < f.2.length /\ f.1 ≠ restW) = true from decide_eq_true ⟨q1,q2,q3⟩]
      ·rw [decide_eq_false q3,show decide (c % 5 = 4 /\ 0 < f.2.length /\ f.1 ≠ restW) = false from decide_eq_false (fun z => q3 z.2.2)]
     ·rw [decide_eq_false q2,show decide (c % 5 = 4 /\ 0 < f.2.length /\ f.1 ≠ restW) = false from decide_eq_false (fun z => q2 z.2.1)]
    ·rw [decide_eq_false q1,show decide (c % 5 = 4 /\ 0 < f.2.length /\ f.1 ≠ restW) = false from decide_eq_false (fun z => q1 z.1)]
   by_cases hC:c % 5 = 4 /\ 0 < f.2.length /\ f.1 ≠ restW
   ·obtain ⟨W,g,e⟩:=spoC s hC.2.1 hC.2.2 c (.dat (.int (a:Int))) Ω
    refine ⟨W,Ω,g,run_rt rfl ((s1 _).trans ((sA _ _).trans ((sB _ _).trans (seq_rt ?_))))⟩
    rw [ap_sIf,t3,decide_eq_true hC]
    exact e
   ·obtain ⟨W,g,e⟩:=spoD s c (.dat (.int (a:Int))) Ω
    refine ⟨W,Ω,g,run_rt rfl ((s1 _).trans ((sA _ _).trans ((sB _ _).trans ((seq_nx (ρ':=spR f ws c (.dat (.int (a:Int)))) (Ω':=Ω) (by rw [ap_sIf,t3,decide_eq_false hC]; rfl)).trans e))))⟩
end Law
namespace Law
open PySem DL
section
variable {ρ:List Sl} {Ω Ω1 Ω2:List OS} {p q:TDen} {s t:SDen} {f g:Den} {b:Bool}
theorem o2 {r:D -> D -> Option D} {x y z:D} (hf:f ρ Ω = some (x,Ω)) (hg:g ρ Ω = some (y,Ω)) (h:r x y = some z):gOp r f g ρ Ω = some (z,Ω):=by
 rw [ap_op,hf]
 dsimp only
 rw [hg]
 dsimp only
 rw [h]
theorem set_d {i:Nat} {d:D} (h:f ρ Ω = some (d,Ω)):sSet i f ρ Ω = some (.nx (ρ.set i (.dat d)) Ω):=by rw [ap_set,h]
theorem cl {F:FDen} {ga:ADen} {ds:List D} {d:D} (hg:ga ρ Ω = some (ds,Ω)) (h:F ds Ω = some (d,Ω)):gCall F ga ρ Ω = some (d,Ω):=by
 rw [ap_call,hg]
 exact h
end
theorem cellS (ns:List Int) (k:Nat) (Ω:List OS):∃ c,d_l_cell_at [.scr ns,.int k] Ω = some (.int c,Ω):=by
 by_cases h:k < ns.length
 ·have h1:(k:Int) < (ns.length:Int):=by omega
  have h2:L2.atI ns (k:Int) = some ns[k]:=atI_nat' _ _ h
  exact ⟨ns[k],run_rt rfl (seq_rt (by simp [h1,h2]))⟩
 ·have h1:¬ (k:Int) < (ns.length:Int):=by omega
  exact ⟨0,run_rt rfl ((seq_nx (ρ':=[.dat (.scr ns),.dat (.int k)]) (Ω':=Ω) (by simp [h1])).trans (by simp))⟩
noncomputable def drB:SDen:=(sSeq (sSet 3 (gOp modD (gOp addD (gOp addD (gOp addD (gOp mulD (gVar 3) (gC (.int 1000003))) (gCall d_l_cell_at (gCons (gVar 0) (gCons (gVar 4) gNil)))) (gOp mulD (gC (.int 104729)) (gVar 4))) (gOp mulD (gOp mulD (gC (.int 7919)) (gVar 4)) (gVar 4))) (gC (.int 998244353)))) (sApp 2 (gOp divD (gOp modD (gOp mulD (gOp modD (gOp mulD (gVar 3) (gVar 3)) (gC (.int 998244353))) (gC (.int 48271))) (gC (.int 2147483647))) (gC (.int 13)))))
theorem draw_loop (ns:List Int) (X1:Sl) (Ω:List OS):∀ (n lo:Nat) (fs:List Int) (m:Int) (x:Sl),fs.length + n <= 1000 -> lo + n <= 1000 -> (∀ x ∈ fs,0 <= x) -> ∃ (gs:List Int) (m':Int) (y:Sl),gs.length = fs.length + n /\ (∀ x ∈ gs,0 <= x) /\
  forD (bName 4) drB (upD lo n) [.dat (.scr ns),X1,.own (fs.map D.int),.dat (.int m),x] Ω = some (.nx [.dat (.scr ns),X1,.own (gs.map D.int),.dat (.int m'),y] Ω)
 | 0,lo,fs,m,x,_,_,h => ⟨fs,m,x,by simp,h,rfl⟩
 | n + 1,lo,fs,m,x,hl,hlo,h => by
  obtain ⟨c,hc⟩:=cellS ns lo Ω
  obtain ⟨k,hk⟩:∃ k:Int,k = (m * 1000003 + c + 104729 * (lo:Int) + 7919 * (lo:Int) * (lo:Int)) % 998244353:=⟨_,rfl⟩
  have k0:0 <= k:=by rw [hk]; exact Int.emod_nonneg _ (by decide)
  have k1:k < 998244353:=by rw [hk]; exact Int.emod_lt_of_pos _ (by decide)
  have e1:mulD (.int m) (.int 1000003) = some (.int (m * 1000003)):=mul_i (.inr ⟨by decide,by decide⟩)
  have e2:mulD (.int 104729) (.int (lo:Int)) = some (.int (104729 * (lo:Int))):=mul_i (.inl ⟨by decide,by decide⟩)
  have e3:mulD (.int 7919) (.int (lo:Int)) = some (.int (7919 * (lo:Int))):=mul_i (.inl ⟨by decide,by decide⟩)
  have e4:mulD (.int (7919 * (lo:Int))) (.int (lo:Int)) = some (.int (7919 * (lo:Int) * (lo:Int))):=grd_pos (.inr ⟨by omega,by omega⟩)
  have e5:mulD (.int k) (.int k) = some (.int (k * k)):=mul_i (.inl ⟨by omega,by omega⟩)
  have e6:mulD (.int (k * k % 998244353)) (.int 48271) = some (.int (k * k % 998244353 * 48271)):=mul_i (.inr ⟨by decide,by decide⟩)
  obtain ⟨gs,m',y,h1,h2,h3⟩:=draw_loop ns X1 Ω n (lo + 1) (fs ++ [k * k % 998244353 * 48271 % 2147483647 / 13]) k (.dat (.int lo)) (by simp; omega) (by omega) (by
   intro x hx
   rcases List.mem_append.mp hx with z | z
   ·exact h x z
   ·rw [List.mem_singleton.mp z]
    have:=Int.emod_nonneg (k * k % 998244353 * 48271) (by decide:(2147483647:Int) ≠ 0)
    omega)
  refine ⟨gs,m',y,by simp at h1 ⊢; omega,h2,?_⟩
  have hb:fs.length < 100000:=by omega
  have cs:upD (lo:Int) (n + 1) = .int lo :: upD ((lo + 1:Nat):Int) n:=by
   rw [upD_cons]; rfl
  have s1:sSet 3 (gOp modD (gOp addD (gOp addD (gOp addD (gOp mulD (gVar 3) (gC (.int 1000003))) (gCall d_l_cell_at (gCons (gVar 0) (gCons (gVar 4) gNil)))) (gOp mulD (gC (.int 104729)) (gVar 4))) (gOp mulD (gOp mulD (gC (.int 7919)) (gVar 4)) (gVar 4))) (gC (.int 998244353))) [.dat (.scr ns),X1,.own (fs.map D.int),.dat (.int m),.dat (.int lo)] Ω = some (.nx [.dat (.scr ns),X1,.own (fs.map D.int),.dat (.int k),.dat (.int lo)] Ω):=by
   rw [hk]
   exact set_d (o2 (o2 (o2 (o2 (o2 rfl rfl e1) (cl rfl hc) rfl) (o2 rfl rfl e2) rfl) (o2 (o2 rfl rfl e3) rfl e4) rfl) rfl (by simp))
  rw [<- h3,cs,for_cons]
  have eb:bName 4 (.int lo) [.dat (.scr ns),X1,.own (fs.map D.int),.dat (.int m),x] = some [.dat (.scr ns),X1,.own (fs.map D.int),.dat (.int m),.dat (.int lo)]:=rfl
  rw [eb]
  dsimp only
  have s2:drB [.dat (.scr ns),X1,.own (fs.map D.int),.dat (.int m),.dat (.int lo)] Ω = some (.nx [.dat (.scr ns),X1,.own ((fs ++ [k * k % 998244353 * 48271 % 2147483647 / 13]).map D.int),.dat (.int k),.dat (.int lo)] Ω):=by
   have s3:gOp divD (gOp modD (gOp mulD (gOp modD (gOp mulD (gVar 3) (gVar 3)) (gC (.int 998244353))) (gC (.int 48271))) (gC (.int 2147483647))) (gC (.int 13)) [.dat (.scr ns),X1,.own (fs.map D.int),.dat (.int k),.dat (.int lo)] Ω = some (.int (k * k % 998244353 * 48271 % 2147483647 / 13),Ω):=o2 (o2 (o2 (o2 (o2 rfl rfl e5) rfl (by simp:modD (.int (k * k)) (.int 998244353) = some (.int (k * k % 998244353)))) rfl e6) rfl (by simp:modD (.int (k * k % 998244353 * 48271)) (.int 2147483647) = some (.int (k * k % 998244353 * 48271 % 2147483647)))) rfl (by simp)
   refine (seq_nx s1).trans ?_
   rw [ap_app,s3]
   simp [hb]
  rw [s2]
theorem draws_den (ns:List Int) {m:Nat} (hm:m <= 1000) (Ω:List OS):∃ xs:List Int,xs.length = m /\ (∀ x ∈ xs,0 <= x) /\ d_l_draws [.scr ns,.int m] Ω = some (.lst (xs.map D.int),Ω):=by
 obtain ⟨gs,k,y,h1,h2,h3⟩:=draw_loop ns (.dat (.int m)) Ω m 0 [] ns.length .und (by simpa using hm) (by omega) (fun x hx => absurd hx List.not_mem_nil)
 refine ⟨gs,by simpa using h1,h2,run_rt rfl ?_⟩
 refine (seq_nx (ρ':=[.dat (.scr ns),.dat (.int m),.own [],.und,.und]) (Ω':=Ω) (by simp)).trans ?_
 refine (seq_nx (ρ':=[.dat (.scr ns),.dat (.int m),.own [],.dat (.int ns.length),.und]) (Ω':=Ω) (by simp)).trans ?_
 have er:rng1 [.int (m:Int)] = some (upD 0 m):=by
  rw [rng_1 (by omega) (by omega)]; rfl
 refine (seq_nx (ρ':=[.dat (.scr ns),.dat (.int m),.own (gs.map D.int),.dat (.int k),y]) (Ω':=Ω) ?_).trans ?_
 ·rw [ap_for]
  have:gRng rng1 (gCons (gVar 1) gNil) [.dat (.scr ns),.dat (.int m),.own [],.dat (.int ns.length),.und] Ω = some (upD 0 m,Ω):=by simp [er]
  rw [this]
  exact h3
 simp [frz]
end Law
namespace Law
open PySem DL L2
theorem mapR_len:∀ {ps:List (Nat × List Nat)} {vs:List D},mapR ps = some vs -> vs.length = ps.length
 | [],vs,h => by cases h; rfl
 | p :: ps,vs,h => by
  rw [mapR_cons] at h
  cases a:rp p.1 p.2 with
  | none => rw [a] at h; cases h
  | some v =>
   rw [a] at h
   dsimp only at h
   cases b:mapR ps with
   | none => rw [b] at h; cases h
   | some us => rw [b] at h; cases h; rw [List.length_cons,List.length_cons,mapR_len b]
theorem cn {f:Den} {g:ADen} {ρ:List Sl} {Ω Ω1 Ω2:List OS} {x:D} {xs:List D} (h1:f ρ Ω = some (x,Ω1)) (h2:g ρ Ω1 = some (xs,Ω2)):gCons f g ρ Ω = some (x :: xs,Ω2):=by rw [ap_cons,h1]; dsimp only; rw [h2]
theorem clw {F:FDen} {ga:ADen} {ρ:List Sl} {Ω Ω1 Ω2:List OS} {ds:List D} {d:D} (hg:ga ρ Ω = some (ds,Ω1)) (h:F ds Ω1 = some (d,Ω2)):gCall F ga ρ Ω = some (d,Ω2):=by rw [ap_call,hg]; exact h
noncomputable def lwB:SDen:=(sSeq (sSet 3 (gOp ixD (gVar 1) (gOp mulD (gC (.int 3)) (gVar 2)))) (sSeq (sAsg (bTup [4,5,6]) (gCall d_l_row (gCons (gVar 3) (gCons (gOp ixD (gVar 1) (gOp addD (gOp mulD (gC (.int 3)) (gVar 2)) (gC (.int 1)))) gNil)))) (sSeq (sSet 7 (gCall d_l_written (gCons (gVar 4) (gCons (gOp ixD (gVar 1) (gOp addD (gOp mulD (gC (.int 3)) (gVar 2)) (gC (.int 2)))) gNil)))) (sSeq (sIf (gNotT (gT (gCall d_l_alike (gCons (gCall d_asked_by (gCons (gVar 7) gNil)) (gCons (gVar 5) gNil))))) (sRet (gC (.bl false))) sNext) (sIf (gT (gOp (eqD false) (gOp modD (gOp divD (gVar 3) (gC (.int 12))) (gC (.int 2))) (gC (.int 1)))) (sSeq (sSet 7 (gCall d_l_written (gCons (gCall d_l_spoilt (gCons (gVar 4) (gCons (gVar 6) (gCons (gOp divD (gOp ixD (gVar 1) (gOp addD (gOp mulD (gC (.int 3)) (gVar 2)) (gC (.int 2)))) (gC (.int 729))) gNil)))) (gCons (gOp divD (gVar 3) (gC (.int 24))) gNil)))) (sIf (gT (gOp (isD true) (gCall d_asked_by (gCons (gVar 7) gNil)) (gC .non))) (sRet (gC (.bl false))) sNext)) sNext)))))
theorem turn (X0:Sl) {xs:List Int} (hx:∀ x ∈ xs,0 <= x) {k:Nat} (hk:3 * k + 2 < xs.length) (hl:xs.length <= 1000) (x3 x4 x5 x6 x7:Sl) (Ω:List OS):∃ (y3 y4 y5 y6 y7:Sl) (Ω':List OS),
  lwB [X0,.dat (.lst (xs.map D.int)),.dat (.int k),x3,x4,x5,x6,x7] Ω = some (.nx [X0,.dat (.lst (xs.map D.int)),.dat (.int k),y3,y4,y5,y6,y7] Ω'):=by
 have ix:∀ j:Nat,(hj:j < xs.length) -> ixD (.lst (xs.map D.int)) (.int (j:Int)) = some (.int xs[j]):=fun j hj => by
  show L2.atI (xs.map D.int) (j:Int) = _
  rw [atI_map,atI_nat' _ _ hj]
  rfl
 have i0:=ix (3 * k) (by omega)
 have i1:=ix (3 * k + 1) (by omega)
 have i2:=ix (3 * k + 2) hk
 have n0:0 <= xs[3 * k]:=hx _ (List.getElem_mem _)
 have n1:0 <= xs[3 * k + 1]:=hx _ (List.getElem_mem _)
 have n2:0 <= xs[3 * k + 2]:=hx _ (List.getElem_mem _)
 generalize xs[3 * k] = c at *
 generalize xs[3 * k + 1] = o at *
 generalize xs[3 * k + 2] = t at *
 have mm:mulD (.int 3) (.int (k:Int)) = some (.int ((3 * k:Nat):Int)):=by
  rw [mul_i (.inl ⟨by decide,by decide⟩)]
  simp
 have a1:addD (.int ((3 * k:Nat):Int)) (.int 1) = some (.int ((3 * k + 1:Nat):Int)):=by simp
 have a2:addD (.int ((3 * k:Nat):Int)) (.int 2) = some (.int ((3 * k + 2:Nat):Int)):=by simp
 have G:∀ (ρ:List Sl) (Ω:List OS),ρ[1]? = some (.dat (.lst (xs.map D.int))) -> ρ[2]? = some (.dat (.int k)) -> gOp ixD (gVar 1) (gOp mulD (gC (.int 3)) (gVar 2)) ρ Ω = some (.int c,Ω) /\ gOp ixD (gVar 1) (gOp addD (gOp mulD (gC (.int 3)) (gVar 2)) (gC (.int 1))) ρ Ω = some (.int o,Ω) /\ gOp ixD (gVar 1) (gOp addD (gOp mulD (gC (.int 3)) (gVar 2)) (gC (.int 2))) ρ Ω = some (.int t,Ω):=fun ρ Ω h1 h2 => by
  simp only [ap_op,ap_var,ap_c,h1,h2,mm,a1,a2,i0,i1,i2]
  exact ⟨trivial,trivial,trivial⟩
 obtain ⟨f,vs,ws,Ω1,hf,h1,h2,h3,h5,er⟩:=row_den n0 n1 Ω
 have h4:=FL_len f hf
 have er:d_l_row [.int c,.int o] Ω = some (.tup [.lst (sW (f.1 :: ws)),.lst (.str (tx f.1) :: vs),.str (tx f.2)],Ω1):=er
 have hW:∀ w ∈ f.1 :: ws,Wd w:=fun w hw => by
  rcases List.mem_cons.mp hw with z | z
  ·rw [z]; exact FL_Wd hf
  ·exact h3 w z
 obtain ⟨t1,q1,w1,e1⟩:=written_den hW (by simp) (by simp; omega) n2 Ω1
 have e1:d_l_written [.lst (sW (f.1 :: ws)),.int t] Ω1 = some (.str (tx t1),Ω1):=e1
 have ea:=asked_den q1 Ω1
 have av:askR (wds t1) = .tup (.str (tx f.1) :: vs):=by
  rw [w1]
  unfold askR
  rw [find_at,h1,find_self f hf]
  dsimp only [List.tail_cons]
  rw [h2]
 rw [av] at ea
 have lv:vs.length <= 10:=by
  have:=mapR_len h2
  simp at this
  omega
 have el:=alike_den (FL_small f hf) h5 lv Ω1
 unfold lwB
 obtain ⟨g0,_,_⟩:=G [X0,.dat (.lst (xs.map D.int)),.dat (.int k),x3,x4,x5,x6,x7] Ω rfl rfl
 have s1:sSet 3 (gOp ixD (gVar 1) (gOp mulD (gC (.int 3)) (gVar 2))) [X0,.dat (.lst (xs.map D.int)),.dat (.int k),x3,x4,x5,x6,x7] Ω = some (.nx [X0,.dat (.lst (xs.map D.int)),.dat (.int k),.dat (.int c),x4,x5,x6,x7] Ω):=by
  rw [ap_set,g0]
  rfl
 obtain ⟨_,g1,_⟩:=G [X0,.dat (.lst (xs.map D.int)),.dat (.int k),.dat (.int c),x4,x5,x6,x7] Ω rfl rfl
 have s2:sAsg (bTup [4,5,6]) (gCall d_l_row (gCons (gVar 3) (gCons (gOp ixD (gVar 1) (gOp addD (gOp mulD (gC (.int 3)) (gVar 2)) (gC (.int 1)))) gNil))) [X0,.dat (.lst (xs.map D.int)),.dat (.int k),.dat (.int c),x4,x5,x6,x7] Ω = some (.nx [X0,.dat (.lst (xs.map D.int)),.dat (.int k),.dat (.int c),.dat (.lst (sW (f.1 :: ws))),.dat (.lst (.str (tx f.1) :: vs)),.dat (.str (tx f.2)),x7] Ω1):=by
  have:gCall d_l_row (gCons (gVar 3) (gCons (gOp ixD (gVar 1) (gOp addD (gOp mulD (gC (.int 3)) (gVar 2)) (gC (.int 1)))) gNil)) [X0,.dat (.lst (xs.map D.int)),.dat (.int k),.dat (.int c),x4,x5,x6,x7] Ω = some (.tup [.lst (sW (f.1 :: ws)),.lst (.str (tx f.1) :: vs),.str (tx f.2)],Ω1):=clw (cn rfl (cn g1 rfl)) er
  rw [ap_asg,this]
  rfl
 obtain ⟨_,_,g2⟩:=G [X0,.dat (.lst (xs.map D.int)),.dat (.int k),.dat (.int c),.dat (.lst (sW (f.1 :: ws))),.dat (.lst (.str (tx f.1) :: vs)),.dat (.str (tx f.2)),x7] Ω1 rfl rfl
 have s3:sSet 7 (gCall d_l_written (gCons (gVar 4) (gCons (gOp ixD (gVar 1) (gOp addD (gOp mulD (gC (.int 3)) (gVar 2)) (gC (.int 2)))) gNil))) [X0,.dat (.lst (xs.map D.int)),.dat (.int k),.dat (.int c),.dat (.lst (sW (f.1 :: ws))),.dat (.lst (.str (tx f.1) :: vs)),.dat (.str (tx f.2)),x7] Ω1 = some (.nx [X0,.dat (.lst (xs.map D.int)),.dat (.int k),.dat (.int c),.dat (.lst (sW (f.1 :: ws))),.dat (.lst (.str (tx f.1) :: vs)),.dat (.str (tx f.2)),.dat (.str (tx t1))] Ω1):=by
  have:gCall d_l_written (gCons (gVar 4) (gCons (gOp ixD (gVar 1) (gOp addD (gOp mulD (gC (.int 3)) (gVar 2)) (gC (.int 2)))) gNil)) [X0,.dat (.lst (xs.map D.int)),.dat (.int k),.dat (.int c),.dat (.lst (sW (f.1 :: ws))),.dat (.lst (.str (tx f.1) :: vs)),.dat (.str (tx f.2)),x7] Ω1 = some (.str (tx t1),Ω1):=clw (cn rfl (cn g2 rfl)) e1
  rw [ap_set,this]
  rfl
 have s4:sIf (gNotT (gT (gCall d_l_alike (gCons (gCall d_asked_by (gCons (gVar 7) gNil)) (gCons (gVar 5) gNil))))) (sRet (gC (.bl false))) sNext [X0,.dat (.lst (xs.map D.int)),.dat (.int k),.dat (.int c),.dat (.lst (sW (f.1 :: ws))),.dat (.lst (.str (tx f.1) :: vs)),.dat (.str (tx f.2)),.dat (.str (tx t1))] Ω1 = some (.nx [X0,.dat (.lst (xs.map D.int)),.dat (.int k),.dat (.int c),.dat (.lst (sW (f.1 :: ws))),.dat (.lst (.str (tx f.1) :: vs)),.dat (.str (tx f.2)),.dat (.str (tx t1))] Ω1):=by
  have c1:gCall d_asked_by (gCons (gVar 7) gNil) [X0,.dat (.lst (xs.map D.int)),.dat (.int k),.dat (.int c),.dat (.lst (sW (f.1 :: ws))),.dat (.lst (.str (tx f.1) :: vs)),.dat (.str (tx f.2)),.dat (.str (tx t1))] Ω1 = some (.tup (.str (tx f.1) :: vs),Ω1):=ea
  have c2:gCall d_l_alike (gCons (gCall d_asked_by (gCons (gVar 7) gNil)) (gCons (gVar 5) gNil)) [X0,.dat (.lst (xs.map D.int)),.dat (.int k),.dat (.int c),.dat (.lst (sW (f.1 :: ws))),.dat (.lst (.str (tx f.1) :: vs)),.dat (.str (tx f.2)),.dat (.str (tx t1))] Ω1 = some (.bl true,Ω1):=clw (cn c1 (cn rfl rfl)) el
  rw [ap_sIf,ap_notT,ap_T,c2]
  rfl
 rw [seq_nx s1,seq_nx s2,seq_nx s3,seq_nx s4]
 have t5:gT (gOp (eqD false) (gOp modD (gOp divD (gVar 3) (gC (.int 12))) (gC (.int 2))) (gC (.int 1))) [X0,.dat (.lst (xs.map D.int)),.dat (.int k),.dat (.int c),.dat (.lst (sW (f.1 :: ws))),.dat (.lst (.str (tx f.1) :: vs)),.dat (.str (tx f.2)),.dat (.str (tx t1))] Ω1 = some (decide (c / 12 % 2 = 1),Ω1):=by
  have b1:divD (.int c) (.int 12) = some (.int (c / 12)):=by simp
  have b2:modD (.int (c / 12)) (.int 2) = some (.int (c / 12 % 2)):=by simp
  have b3:eqD false (.int (c / 12 % 2)) (.int 1) = some (.bl (decide (c / 12 % 2 = 1))):=by simp
  simp only [ap_T,ap_op,ap_var,ap_c,List.getElem?_cons_zero,List.getElem?_cons_succ,b1,b2,b3]
 rw [ap_sIf,t5]
 by_cases q:c / 12 % 2 = 1
 ·rw [decide_eq_true q]
  dsimp only
  obtain ⟨W,Ω2,⟨w1',w2',w3',w4'⟩,es⟩:=spoilt_den ⟨hf,h3,h1⟩ (c:=t / 729) (by omega) Ω1
  obtain ⟨t2,q2,w2,e2⟩:=written_den w1' w2' w3' (c:=c / 24) (by omega) Ω2
  have e2:d_l_written [.lst (sW W),.int (c / 24)] Ω2 = some (.str (tx t2),Ω2):=e2
  have eb:=asked_den q2 Ω2
  rw [w2,w4'] at eb
  obtain ⟨_,_,g3⟩:=G [X0,.dat (.lst (xs.map D.int)),.dat (.int k),.dat (.int c),.dat (.lst (sW (f.1 :: ws))),.dat (.lst (.str (tx f.1) :: vs)),.dat (.str (tx f.2)),.dat (.str (tx t1))] Ω1 rfl rfl
  have b1:divD (.int t) (.int 729) = some (.int (t / 729)):=by simp
  have b2:divD (.int c) (.int 24) = some (.int (c / 24)):=by simp
  have c0:gOp divD (gOp ixD (gVar 1) (gOp addD (gOp mulD (gC (.int 3)) (gVar 2)) (gC (.int 2)))) (gC (.int 729)) [X0,.dat (.lst (xs.map D.int)),.dat (.int k),.dat (.int c),.dat (.lst (sW (f.1 :: ws))),.dat (.lst (.str (tx f.1) :: vs)),.dat (.str (tx f.2)),.dat (.str (tx t1))] Ω1 = some (.int (t / 729),Ω1):=o2 g3 rfl b1
  have c1:gCall d_l_spoilt (gCons (gVar 4) (gCons (gVar 6) (gCons (gOp divD (gOp ixD (gVar 1) (gOp addD (gOp mulD (gC (.int 3)) (gVar 2)) (gC (.int 2)))) (gC (.int 729))) gNil))) [X0,.dat (.lst (xs.map D.int)),.dat (.int k),.dat (.int c),.dat (.lst (sW (f.1 :: ws))),.dat (.lst (.str (tx f.1) :: vs)),.dat (.str (tx f.2)),.dat (.str (tx t1))] Ω1 = some (.lst (sW W),Ω2):=clw (cn rfl (cn rfl (cn c0 rfl))) es
  have c2:gCall d_l_written (gCons (gCall d_l_spoilt (gCons (gVar 4) (gCons (gVar 6) (gCons (gOp divD (gOp ixD (gVar 1) (gOp addD (gOp mulD (gC (.int 3)) (gVar 2)) (gC (.int 2)))) (gC (.int 729))) gNil)))) (gCons (gOp divD (gVar 3) (gC (.int 24))) gNil)) [X0,.dat (.lst (xs.map D.int)),.dat (.int k),.dat (.int c),.dat (.lst (sW (f.1 :: ws))),.dat (.lst (.str (tx f.1) :: vs)),.dat (.str (tx f.2)),.dat (.str (tx t1))] Ω1 = some (.str (tx t2),Ω2):=by
   have c3:gOp divD (gVar 3) (gC (.int 24)) [X0,.dat (.lst (xs.map D.int)),.dat (.int k),.dat (.int c),.dat (.lst (sW (f.1 :: ws))),.dat (.lst (.str (tx f.1) :: vs)),.dat (.str (tx f.2)),.dat (.str (tx t1))] Ω2 = some (.int (c / 24),Ω2):=o2 rfl rfl b2
   exact clw (cn c1 (cn c3 rfl)) e2
  have s5:sSet 7 (gCall d_l_written (gCons (gCall d_l_spoilt (gCons (gVar 4) (gCons (gVar 6) (gCons (gOp divD (gOp ixD (gVar 1) (gOp addD (gOp mulD (gC (.int 3)) (gVar 2)) (gC (.int 2)))) (gC (.int 729))) gNil)))) (gCons (gOp divD (gVar 3) (gC (.int 24))) gNil))) [X0,.dat (.lst (xs.map D.int)),.dat (.int k),.dat (.int c),.dat (.lst (sW (f.1 :: ws))),.dat (.lst (.str (tx f.1) :: vs)),.dat (.str (tx f.2)),.dat (.str (tx t1))] Ω1 = some (.nx [X0,.dat (.lst (xs.map D.int)),.dat (.int k),.dat (.int c),.dat (.lst (sW (f.1 :: ws))),.dat (.lst (.str (tx f.1) :: vs)),.dat (.str (tx f.2)),.dat (.str (tx t2))] Ω2):=by
   rw [ap_set,c2]
   rfl
  rw [seq_nx s5]
  have c4:gCall d_asked_by (gCons (gVar 7) gNil) [X0,.dat (.lst (xs.map D.int)),.dat (.int k),.dat (.int c),.dat (.lst (sW (f.1 :: ws))),.dat (.lst (.str (tx f.1) :: vs)),.dat (.str (tx f.2)),.dat (.str (tx t2))] Ω2 = some (.non,Ω2):=eb
  have c5:gT (gOp (isD true) (gCall d_asked_by (gCons (gVar 7) gNil)) (gC .non)) [X0,.dat (.lst (xs.map D.int)),.dat (.int k),.dat (.int c),.dat (.lst (sW (f.1 :: ws))),.dat (.lst (.str (tx f.1) :: vs)),.dat (.str (tx f.2)),.dat (.str (tx t2))] Ω2 = some (false,Ω2):=by
   rw [ap_T,ap_op,c4]
   rfl
  rw [ap_sIf,c5]
  exact ⟨_,_,_,_,_,_,rfl⟩
 ·rw [decide_eq_false q]
  exact ⟨_,_,_,_,_,_,rfl⟩
theorem turns (X0:Sl) {xs:List Int} (hx:∀ x ∈ xs,0 <= x) (hl:xs.length <= 1000):∀ (n lo:Nat) (x2 x3 x4 x5 x6 x7:Sl) (Ω:List OS),3 * (lo + n) <= xs.length -> ∃ (y2 y3 y4 y5 y6 y7:Sl) (Ω':List OS),
  forD (bName 2) lwB (upD lo n) [X0,.dat (.lst (xs.map D.int)),x2,x3,x4,x5,x6,x7] Ω = some (.nx [X0,.dat (.lst (xs.map D.int)),y2,y3,y4,y5,y6,y7] Ω')
 | 0,lo,x2,x3,x4,x5,x6,x7,Ω,_ => ⟨x2,x3,x4,x5,x6,x7,Ω,rfl⟩
 | n + 1,lo,x2,x3,x4,x5,x6,x7,Ω,h => by
  obtain ⟨y3,y4,y5,y6,y7,Ω1,e⟩:=turn X0 hx (k:=lo) (by omega) hl x3 x4 x5 x6 x7 Ω
  obtain ⟨z2,z3,z4,z5,z6,z7,Ω2,ih⟩:=turns X0 hx hl n (lo + 1) (.dat (.int lo)) y3 y4 y5 y6 y7 Ω1 (by omega)
  have cs:upD (lo:Int) (n + 1) = .int lo :: upD ((lo + 1:Nat):Int) n:=by rw [upD_cons]; rfl
  refine ⟨z2,z3,z4,z5,z6,z7,Ω2,?_⟩
  rw [cs,for_cons,ap_bName]
  dsimp only [List.set]
  rw [e]
  exact ih
theorem holds:∀ ns:List Int,ns.length <= 63 -> ∃ Ω,d_law [.scr ns] [] = some (.bl true,Ω):=by
 intro ns hn
 obtain ⟨c0,hc0⟩:=cellS ns 0 []
 have hc0:d_l_cell_at [.scr ns,.int 0] [] = some (.int c0,[]):=hc0
 obtain ⟨m,hm,hm1,hm2⟩:∃ m:Nat,(m:Int) = 1 + (if (ns.length:Int) < 40 then (ns.length:Int) else 40) + c0 % 6 /\ 1 <= m /\ m <= 60:=by
  refine ⟨(1 + (if (ns.length:Int) < 40 then (ns.length:Int) else 40) + c0 % 6).toNat,?_⟩
  split <;> omega
 obtain ⟨xs,l1,hx,ex⟩:=draws_den ns (m:=3 * m) (by omega) []
 have e1:sSet 1 (gCall d_l_draws (gCons (gVar 0) (gCons (gOp mulD (gC (.int 3)) (gOp addD (gOp addD (gC (.int 1)) (gCB min2D (gCons (gC (.int 40)) (gCons (gCB lenD (gCons (gVar 0) gNil)) gNil)))) (gOp modD (gCall d_l_cell_at (gCons (gVar 0) (gCons (gC (.int 0)) gNil))) (gC (.int 6))))) gNil))) [.dat (.scr ns),.und,.und,.und,.und,.und,.und,.und] [] = some (.nx [.dat (.scr ns),.dat (.lst (xs.map D.int)),.und,.und,.und,.und,.und,.und] []):=by
  have mu:mulD (.int 3) (.int (m:Int)) = some (.int ((3 * m:Nat):Int)):=by
   rw [mul_i (.inl ⟨by decide,by decide⟩)]
   simp
  rw [hm] at mu
  have ex:d_l_draws [.scr ns,.int (3 * (m:Int))] [] = some (.lst (xs.map D.int),[]):=by
   rw [<- ex]
   simp
  generalize xs.map D.int = zs at *
  simp [hc0,mu,ex]
 obtain ⟨y2,y3,y4,y5,y6,y7,Ω',et⟩:=turns (.dat (.scr ns)) hx (by omega) m 0 .und .und .und .und .und .und [] (by omega)
 have e2:sFor (gRng rng1 (gCons (gOp divD (gCB lenD (gCons (gVar 1) gNil)) (gC (.int 3))) gNil)) (bName 2) lwB [.dat (.scr ns),.dat (.lst (xs.map D.int)),.und,.und,.und,.und,.und,.und] [] = some (.nx [.dat (.scr ns),.dat (.lst (xs.map D.int)),y2,y3,y4,y5,y6,y7] Ω'):=by
  have ln:lenD [.lst (xs.map D.int)] = some (.int ((3 * m:Nat):Int)):=by
   show some (D.int ((xs.map D.int).length:Nat)) = _
   rw [List.length_map,l1]
  have dv:divD (.int ((3 * m:Nat):Int)) (.int 3) = some (.int (m:Int)):=by
   simp
  have er:rng1 [.int (m:Int)] = some (upD 0 m):=by rw [rng_1 (by omega) (by omega)]; rfl
  have gi:gRng rng1 (gCons (gOp divD (gCB lenD (gCons (gVar 1) gNil)) (gC (.int 3))) gNil) [.dat (.scr ns),.dat (.lst (xs.map D.int)),.und,.und,.und,.und,.und,.und] [] = some (upD 0 m,[]):=by
   simp only [ap_rng,ap_cons,ap_op,ap_CB,ap_var,ap_c,ap_nil,List.getElem?_cons_zero,List.getElem?_cons_succ,ln,dv,er]
  rw [ap_for,gi]
  exact et
 obtain ⟨x0,r0,rfl⟩:∃ x r,xs = x :: r:=by
  cases xs with
  | nil => simp at l1; omega
  | cons x r => exact ⟨x,r,rfl⟩
 obtain ⟨b,hb,eb⟩:∃ b:Nat,b <= 3 /\ x0 % 4 = (b:Int):=⟨(x0 % 4).toNat,by omega,by omega⟩
 have mb:=mul_den (n:=b) (by omega)
 rw [<- eb] at mb
 have tq:Tq 1000 (List.replicate b 32):=⟨fun c hc => by rw [(List.mem_replicate.mp hc).2]; decide,by simp; omega⟩
 have ea:=asked_den tq Ω'
 have wb:wds (List.replicate b 32) = []:=by
  have:=wds_blanks b []
  rw [List.append_nil,wds_nil] at this
  exact this
 rw [wb] at ea
 have an:askR [] = .non:=ask_find (by decide)
 rw [an] at ea
 refine ⟨Ω',run_rt rfl ((seq_nx e1).trans ((seq_nx e2).trans ?_))⟩
 rw [tx_bl]
 simp [mb,ea,isD,isNone]
end Law
namespace Law
open PySem PySem.Spec PyProof.Rows L2 DL
set_option maxHeartbeats 4000000
seal PD PDA PDS PDB PDT PDI PDG RD RDS RDB PV
noncomputable def top (i:Nat):Stmt:=PySem.Challenge.pw_posthouse_k53_rows_read.main.body.getD i (.Pass ⟨0,0,0,0⟩)
noncomputable abbrev s_l_cell_at:Stmt:=top 21
noncomputable abbrev s_l_draws:Stmt:=top 23
noncomputable abbrev s_l_beginning:Stmt:=top 24
noncomputable abbrev s_l_part:Stmt:=top 25
noncomputable abbrev s_l_row:Stmt:=top 27
noncomputable abbrev s_l_written:Stmt:=top 29
noncomputable abbrev s_need_text:Stmt:=top 14
noncomputable abbrev s_words_of:Stmt:=top 15
noncomputable abbrev s_form_of:Stmt:=top 16
noncomputable abbrev s_are_figures:Stmt:=top 7
noncomputable abbrev s_read_number:Stmt:=top 17
noncomputable abbrev s_read_beginning:Stmt:=top 6
noncomputable abbrev s_is_eight_bits:Stmt:=top 8
noncomputable abbrev s_read_address:Stmt:=top 9
noncomputable abbrev s_read_part:Stmt:=top 18
noncomputable abbrev s_asked_by:Stmt:=top 19
noncomputable abbrev s_l_whole:Stmt:=top 22
noncomputable abbrev s_l_alike:Stmt:=top 30
noncomputable abbrev s_l_wrong_word:Stmt:=top 26
noncomputable abbrev s_l_spoilt:Stmt:=top 28
noncomputable abbrev s_law:Stmt:=top 31
section
variable {P:Program} {w:World} {K:PySem.W.Frag} {mg:Str -> Option Value} {base:Heap} {C:Cl}
theorem kit_bool:∀ t ∈ ["NoneType","bool","int","str","tuple","list"],PySem.W.kitOne K (.type t) (.type "bool") = some (decide (t = "bool") || (decide (t = "bool") && decide ("bool" = "int"))):=by
 intro t ht
 simp only [List.mem_cons,List.not_mem_nil,or_false] at ht
 rcases ht with rfl | rfl | rfl | rfl | rfl | rfl <;> rfl
theorem kit_int:∀ t ∈ ["NoneType","bool","int","str","tuple","list"],PySem.W.kitOne K (.type t) (.type "int") = some (decide (t = "int") || (decide (t = "bool") && decide ("int" = "int"))):=by
 intro t ht
 simp only [List.mem_cons,List.not_mem_nil,or_false] at ht
 rcases ht with rfl | rfl | rfl | rfl | rfl | rfl <;> rfl
theorem kit_str:∀ t ∈ ["NoneType","bool","int","str","tuple","list"],PySem.W.kitOne K (.type t) (.type "str") = some (decide (t = "str") || (decide (t = "bool") && decide ("str" = "int"))):=by
 intro t ht
 simp only [List.mem_cons,List.not_mem_nil,or_false] at ht
 rcases ht with rfl | rfl | rfl | rfl | rfl | rfl <;> rfl
theorem kit_tuple:∀ t ∈ ["NoneType","bool","int","str","tuple","list"],PySem.W.kitOne K (.type t) (.type "tuple") = some (decide (t = "tuple") || (decide (t = "bool") && decide ("tuple" = "int"))):=by
 intro t ht
 simp only [List.mem_cons,List.not_mem_nil,or_false] at ht
 rcases ht with rfl | rfl | rfl | rfl | rfl | rfl <;> rfl
theorem sc_l_cell_at:FnScope ["_law_script","_law_k"] ["_law_script","_law_k"] (defScope s_l_cell_at):=⟨rfl,rfl,rfl,by decide +kernel,rfl,by decide +kernel,by decide +kernel⟩
theorem ok_l_cell_at (T:TF K mg "_law_cell_at" s_l_cell_at) (b_len:mg "len" = none):Fn P w K mg base C 1 "_law_cell_at" d_l_cell_at :=
 fn_F T sc_l_cell_at rfl rfl (fun _ _ _ _ _ _ us hl => len2 us hl (fun _ _ => rfl)) fun f cdv A outer sh H E hr =>
  have nd:(cxOf CX0 P w K mg base ["_law_script","_law_k"] "_law_cell_at" (defScope s_l_cell_at) f cdv A outer sh H E).nox.N.Nodup:=sc_l_cell_at.nd
  (pdb_cons (pds_if (pdt_cmp opD_lt (pd_var (pv 1)) (pd_callB callD_len rfl b_len PySem.boot_len (pda_cons (pd_var (pv 0)) pda_nil)) (nomark _)) (pdb_one (pds_ret (pd_ix (pd_var (pv 0)) (pd_var (pv 1))))) pdb_nil) (pdb_one (pds_ret pd_int)))
theorem sc_l_draws:FnScope ["_law_script","_law_many","_law_found","_law_kept","_law_k"] ["_law_script","_law_many"] (defScope s_l_draws):=⟨rfl,rfl,rfl,by decide +kernel,rfl,by decide +kernel,by decide +kernel⟩
theorem ok_l_draws (T:TF K mg "_law_draws" s_l_draws) (b_len:mg "len" = none) (b_range:mg "range" = none) (G_l_cell_at:Fn P w K mg base C 1 "_law_cell_at" d_l_cell_at):Fn P w K mg base C 2 "_law_draws" d_l_draws :=
 fn_F T sc_l_draws rfl rfl (fun _ _ _ _ _ _ us hl => len2 us hl (fun _ _ => rfl)) fun f cdv A outer sh H E hr =>
  have nd:(cxOf CX0 P w K mg base ["_law_script","_law_many","_law_found","_law_kept","_law_k"] "_law_draws" (defScope s_l_draws) f cdv A outer sh H E).nox.N.Nodup:=sc_l_draws.nd
  (pdb_cons (pds_own (i:=2) nd rfl (by first | exact Or.inl rfl | exact Or.inr rfl) pda_nil) (pdb_cons (pds_set (i:=3) nd rfl (by first | exact Or.inl rfl | exact Or.inr rfl) (pd_callB callD_len rfl b_len PySem.boot_len (pda_cons (pd_var (pv 0)) pda_nil))) (pdb_cons (pds_for PassesOwn.never rfl (pdi_range1 rfl b_range (pda_cons (pd_var (pv 1)) pda_nil)) (pdg_name nd rfl (by first | exact Or.inl rfl | exact Or.inr rfl)) (pdb_cons (pds_set (i:=3) nd rfl (by first | exact Or.inl rfl | exact Or.inr rfl) (pd_op opD_mod (pd_op opD_add (pd_op opD_add (pd_op opD_add (pd_op opD_mul (pd_var (pv 3)) pd_int) (pd_callF G_l_cell_at (hr.mono (by decide)) rfl (pda_cons (pd_var (pv 0)) (pda_cons (pd_var (pv 4)) pda_nil)))) (pd_op opD_mul pd_int (pd_var (pv 4)))) (pd_op opD_mul (pd_op opD_mul pd_int (pd_var (pv 4))) (pd_var (pv 4)))) pd_int)) (pdb_one (pds_app (pv 2) (pd_op opD_div (pd_op opD_mod (pd_op opD_mul (pd_op opD_mod (pd_op opD_mul (pd_var (pv 3)) (pd_var (pv 3))) pd_int) pd_int) pd_int) pd_int))))) (pdb_ghost (ghost_frz 2) (pdb_one (pds_ret (pd_var (pv 2))))))))
theorem sc_l_beginning:FnScope ["_law_cell","_law_size","_law_bits","_law_signs","_law_k","_law_value","_law_sign"] ["_law_cell"] (defScope s_l_beginning):=⟨rfl,rfl,rfl,by decide +kernel,rfl,by decide +kernel,by decide +kernel⟩
theorem ok_l_beginning (T:TF K mg "_law_beginning" s_l_beginning) (b_int:mg "int" = none) (b_range:mg "range" = none):Fn P w K mg base C 1 "_law_beginning" d_l_beginning :=
 fn_F T sc_l_beginning rfl rfl (fun _ _ _ _ _ _ us hl => len1 us hl (fun _ => rfl)) fun f cdv A outer sh H E hr =>
  have nd:(cxOf CX0 P w K mg base ["_law_cell","_law_size","_law_bits","_law_signs","_law_k","_law_value","_law_sign"] "_law_beginning" (defScope s_l_beginning) f cdv A outer sh H E).nox.N.Nodup:=sc_l_beginning.nd
  (pdb_cons (pds_set (i:=1) nd rfl (by first | exact Or.inl rfl | exact Or.inr rfl) (pd_ix (pd_lst (pda_cons (pd_op opD_mod (pd_op opD_div (pd_var (pv 0)) pd_int) pd_int) (pda_cons pd_int (pda_cons pd_int (pda_cons (pd_op opD_mod (pd_op opD_div (pd_var (pv 0)) pd_int) pd_int) pda_nil))))) (pd_op opD_mod (pd_var (pv 0)) pd_int))) (pdb_cons (pds_set (i:=2) nd rfl (by first | exact Or.inl rfl | exact Or.inr rfl) (pd_op opD_mod (pd_op opD_div (pd_var (pv 0)) pd_int) pd_int)) (pdb_cons (pds_own (i:=3) nd rfl (by first | exact Or.inl rfl | exact Or.inr rfl) pda_nil) (pdb_cons (pds_for PassesOwn.never rfl (pdi_range1 rfl b_range (pda_cons (pd_var (pv 1)) pda_nil)) (pdg_name nd rfl (by first | exact Or.inl rfl | exact Or.inr rfl)) (pdb_one (pds_app (pv 3) (pd_ix pd_str (pd_op opD_mod (pd_op opD_div (pd_op opD_div (pd_var (pv 2)) (pd_ix (pd_lst (pda_cons pd_int (pda_cons pd_int (pda_cons pd_int (pda_cons pd_int (pda_cons pd_int (pda_cons pd_int (pda_cons pd_int (pda_cons pd_int pda_nil))))))))) (pd_op opD_mod (pd_var (pv 4)) pd_int))) (pd_ix (pd_lst (pda_cons pd_int (pda_cons pd_int pda_nil))) (pd_op opD_div (pd_var (pv 4)) pd_int))) pd_int))))) (pdb_cons (pds_set (i:=5) nd rfl (by first | exact Or.inl rfl | exact Or.inr rfl) pd_int) (pdb_ghost (ghost_frz 3) (pdb_cons (pds_for PassesOwn.never rfl (pdi_list (pd_var (pv 3))) (pdg_name nd rfl (by first | exact Or.inl rfl | exact Or.inr rfl)) (pdb_one (pds_set (i:=5) nd rfl (by first | exact Or.inl rfl | exact Or.inr rfl) (pd_op opD_add (pd_op opD_mul pd_int (pd_var (pv 5))) (pd_callTy callD_int rfl b_int boot_int (pda_cons (pd_cmp (opD_eq hr.units) (pd_var (pv 6)) pd_str (nomark _)) pda_nil)))))) (pdb_one (pds_ret (pd_tup (pda_cons (pd_tup (pda_cons (pd_var (pv 5)) (pda_cons (pd_var (pv 1)) pda_nil))) (pda_cons (pd_op opD_add (pd_join pd_str (pd_var (pv 3))) (pd_ix (pd_lst (pda_cons pd_str (pda_cons pd_str pda_nil))) (pd_callTy callD_int rfl b_int boot_int (pda_cons (pd_cmp (opD_eq hr.units) (pd_var (pv 1)) pd_int (nomark _)) pda_nil)))) pda_nil))))))))))))
theorem sc_l_part:FnScope ["_law_kind","_law_cell","_law_high","_law_low","_law_many","_law_number"] ["_law_kind","_law_cell"] (defScope s_l_part):=⟨rfl,rfl,rfl,by decide +kernel,rfl,by decide +kernel,by decide +kernel⟩
theorem ok_l_part (T:TF K mg "_law_part" s_l_part) (b_str:mg "str" = none) (G_l_beginning:Fn P w K mg base C 1 "_law_beginning" d_l_beginning):Fn P w K mg base C 2 "_law_part" d_l_part :=
 fn_F T sc_l_part rfl rfl (fun _ _ _ _ _ _ us hl => len2 us hl (fun _ _ => rfl)) fun f cdv A outer sh H E hr =>
  have nd:(cxOf CX0 P w K mg base ["_law_kind","_law_cell","_law_high","_law_low","_law_many","_law_number"] "_law_part" (defScope s_l_part) f cdv A outer sh H E).nox.N.Nodup:=sc_l_part.nd
  (pdb_cons (pds_if (pdt_cmp (opD_eq hr.units) (pd_var (pv 0)) pd_str (nomark _)) (pdb_one (pds_ret (pd_callF G_l_beginning (hr.mono (by decide)) rfl (pda_cons (pd_var (pv 1)) pda_nil)))) pdb_nil) (pdb_cons (pds_if (pdt_cmp (opD_eq hr.units) (pd_var (pv 0)) pd_str (nomark _)) (pdb_cons (pds_set (i:=2) nd rfl (by first | exact Or.inl rfl | exact Or.inr rfl) (pd_ix (pd_lst (pda_cons (pd_op opD_mod (pd_op opD_div (pd_var (pv 1)) pd_int) pd_int) (pda_cons pd_int (pda_cons pd_int pda_nil)))) (pd_op opD_mod (pd_var (pv 1)) pd_int))) (pdb_cons (pds_set (i:=3) nd rfl (by first | exact Or.inl rfl | exact Or.inr rfl) (pd_ix (pd_lst (pda_cons (pd_op opD_mod (pd_op opD_div (pd_var (pv 1)) pd_int) pd_int) (pda_cons pd_int (pda_cons pd_int pda_nil)))) (pd_op opD_mod (pd_op opD_div (pd_var (pv 1)) pd_int) pd_int))) (pdb_one (pds_ret (pd_tup (pda_cons (pd_op opD_add (pd_op opD_mul pd_int (pd_var (pv 2))) (pd_var (pv 3))) (pda_cons (pd_op opD_add (pd_op opD_add (pd_callTy callD_str rfl b_str boot_str (pda_cons (pd_var (pv 2)) pda_nil)) pd_str) (pd_callTy callD_str rfl b_str boot_str (pda_cons (pd_var (pv 3)) pda_nil))) pda_nil))))))) pdb_nil) (pdb_cons (pds_set (i:=3) nd rfl (by first | exact Or.inl rfl | exact Or.inr rfl) (pd_dget (hu_of hr) (pd_disp (PDP.cons pd_int (PDP.cons pd_int (PDP.cons pd_int (PDP.cons pd_int PDP.nil)))) (by intro z; cases z) (Nat.le_of_ble_eq_true rfl)) (pd_var (pv 0)) (fun _ _ => rfl))) (pdb_cons (pds_set (i:=4) nd rfl (by first | exact Or.inl rfl | exact Or.inr rfl) (pd_dget (hu_of hr) (pd_disp (PDP.cons pd_int (PDP.cons pd_int (PDP.cons pd_int (PDP.cons (pd_op opD_pow pd_int pd_int) PDP.nil)))) (by intro z; cases z) (Nat.le_of_ble_eq_true rfl)) (pd_var (pv 0)) (fun _ _ => rfl))) (pdb_cons (pds_set (i:=5) nd rfl (by first | exact Or.inl rfl | exact Or.inr rfl) (pd_ix (pd_lst (pda_cons (pd_op opD_add (pd_var (pv 3)) (pd_op opD_mod (pd_op opD_div (pd_var (pv 1)) pd_int) (pd_var (pv 4)))) (pda_cons (pd_var (pv 3)) (pda_cons (pd_op opD_sub (pd_op opD_add (pd_var (pv 3)) (pd_var (pv 4))) pd_int) pda_nil)))) (pd_op opD_mod (pd_var (pv 1)) pd_int))) (pdb_one (pds_ret (pd_tup (pda_cons (pd_var (pv 5)) (pda_cons (pd_callTy callD_str rfl b_str boot_str (pda_cons (pd_var (pv 5)) pda_nil)) pda_nil))))))))))
theorem sc_l_row:FnScope ["_law_cell","_law_other","_law_forms","_law_first","_law_kinds","_law_due","_law_words","_law_k","_law_kind","_law_value","_law_text"] ["_law_cell","_law_other"] (defScope s_l_row):=⟨rfl,rfl,rfl,by decide +kernel,rfl,by decide +kernel,by decide +kernel⟩
theorem ok_l_row (T:TF K mg "_law_row" s_l_row) (b_enumerate:mg "enumerate" = none) (G_l_part:Fn P w K mg base C 2 "_law_part" d_l_part):Fn P w K mg base C 3 "_law_row" d_l_row :=
 fn_F T sc_l_row rfl rfl (fun _ _ _ _ _ _ us hl => len2 us hl (fun _ _ => rfl)) fun f cdv A outer sh H E hr =>
  have nd:(cxOf CX0 P w K mg base ["_law_cell","_law_other","_law_forms","_law_first","_law_kinds","_law_due","_law_words","_law_k","_law_kind","_law_value","_law_text"] "_law_row" (defScope s_l_row) f cdv A outer sh H E).nox.N.Nodup:=sc_l_row.nd
  (pdb_cons (pds_set (i:=2) nd rfl (by first | exact Or.inl rfl | exact Or.inr rfl) (pd_lst (pda_cons pd_str (pda_cons pd_str (pda_cons pd_str (pda_cons pd_str (pda_cons pd_str (pda_cons pd_str (pda_cons pd_str (pda_cons pd_str (pda_cons pd_str (pda_cons pd_str pda_nil)))))))))))) (pdb_cons (pds_asg (pd_split (pd_ix (pd_op opD_add (pd_var (pv 2)) (pd_lst (pda_cons pd_str (pda_cons pd_str pda_nil)))) (pd_op opD_mod (pd_var (pv 0)) pd_int)) pd_str) (pdg_lst rfl (pdgs_cons (i:=3) nd rfl (by first | exact Or.inl rfl | exact Or.inr rfl) (pdgs_cons (i:=4) nd rfl (by first | exact Or.inl rfl | exact Or.inr rfl) pdgs_nil)))) (pdb_cons (pds_own (i:=5) nd rfl (by first | exact Or.inl rfl | exact Or.inr rfl) (pda_cons (pd_var (pv 3)) pda_nil)) (pdb_cons (pds_own (i:=6) nd rfl (by first | exact Or.inl rfl | exact Or.inr rfl) (pda_cons (pd_var (pv 3)) pda_nil)) (pdb_cons (pds_for PassesOwn.never rfl (pdi_enumS rfl b_enumerate (pda_cons (pd_var (pv 4)) pda_nil)) (pdg_tup rfl (pdgs_cons (i:=7) nd rfl (by first | exact Or.inl rfl | exact Or.inr rfl) (pdgs_cons (i:=8) nd rfl (by first | exact Or.inl rfl | exact Or.inr rfl) pdgs_nil))) (pdb_cons (pds_asg (pd_callF G_l_part (hr.mono (by decide)) rfl (pda_cons (pd_var (pv 8)) (pda_cons (pd_op opD_div (pd_var (pv 1)) (pd_ix (pd_lst (pda_cons pd_int (pda_cons pd_int (pda_cons pd_int pda_nil)))) (pd_var (pv 7)))) pda_nil))) (pdg_tup rfl (pdgs_cons (i:=9) nd rfl (by first | exact Or.inl rfl | exact Or.inr rfl) (pdgs_cons (i:=10) nd rfl (by first | exact Or.inl rfl | exact Or.inr rfl) pdgs_nil)))) (pdb_cons (pds_app (pv 5) (pd_var (pv 9))) (pdb_one (pds_app (pv 6) (pd_var (pv 10))))))) (pdb_ghost (ghost_frz 5) (pdb_ghost (ghost_frz 6) (pdb_one (pds_ret (pd_tup (pda_cons (pd_var (pv 6)) (pda_cons (pd_var (pv 5)) (pda_cons (pd_var (pv 4)) pda_nil)))))))))))))
theorem sc_l_written:FnScope ["_law_words","_law_cell","_law_text","_law_k","_law_word"] ["_law_words","_law_cell"] (defScope s_l_written):=⟨rfl,rfl,rfl,by decide +kernel,rfl,by decide +kernel,by decide +kernel⟩
theorem ok_l_written (T:TF K mg "_law_written" s_l_written) (b_enumerate:mg "enumerate" = none) (b_len:mg "len" = none):Fn P w K mg base C 1 "_law_written" d_l_written :=
 fn_F T sc_l_written rfl rfl (fun _ _ _ _ _ _ us hl => len2 us hl (fun _ _ => rfl)) fun f cdv A outer sh H E hr =>
  have nd:(cxOf CX0 P w K mg base ["_law_words","_law_cell","_law_text","_law_k","_law_word"] "_law_written" (defScope s_l_written) f cdv A outer sh H E).nox.N.Nodup:=sc_l_written.nd
  (pdb_cons (pds_set (i:=2) nd rfl (by first | exact Or.inl rfl | exact Or.inr rfl) (pd_ix (pd_lst (pda_cons pd_str (pda_cons pd_str (pda_cons pd_str pda_nil)))) (pd_op opD_mod (pd_var (pv 1)) pd_int))) (pdb_cons (pds_for PassesOwn.never rfl (pdi_enum rfl b_enumerate (pda_cons (pd_var (pv 0)) pda_nil)) (pdg_tup rfl (pdgs_cons (i:=3) nd rfl (by first | exact Or.inl rfl | exact Or.inr rfl) (pdgs_cons (i:=4) nd rfl (by first | exact Or.inl rfl | exact Or.inr rfl) pdgs_nil))) (pdb_cons (pds_set (i:=2) nd rfl (by first | exact Or.inl rfl | exact Or.inr rfl) (pd_op opD_add (pd_var (pv 2)) (pd_var (pv 4)))) (pdb_one (pds_if (pdt_cmp opD_lt (pd_op opD_add (pd_var (pv 3)) pd_int) (pd_callB callD_len rfl b_len PySem.boot_len (pda_cons (pd_var (pv 0)) pda_nil)) (nomark _)) (pdb_one (pds_set (i:=2) nd rfl (by first | exact Or.inl rfl | exact Or.inr rfl) (pd_op opD_add (pd_var (pv 2)) (pd_op opD_mulS0 pd_str (pd_op opD_add pd_int (pd_op opD_mod (pd_op opD_div (pd_var (pv 1)) (pd_ix (pd_lst (pda_cons pd_int (pda_cons pd_int (pda_cons pd_int (pda_cons pd_int pda_nil))))) (pd_op opD_mod (pd_var (pv 3)) pd_int))) pd_int)))))) pdb_nil)))) (pdb_one (pds_ret (pd_op opD_add (pd_var (pv 2)) (pd_ix (pd_lst (pda_cons pd_str (pda_cons pd_str (pda_cons pd_str pda_nil)))) (pd_op opD_mod (pd_op opD_div (pd_var (pv 1)) pd_int) pd_int)))))))
theorem sc_need_text:FnScope ["thing"] ["thing"] (defScope s_need_text):=⟨rfl,rfl,rfl,by decide +kernel,rfl,by decide +kernel,by decide +kernel⟩
theorem ok_need_text {f:Addr} {fd:FuncData} (F:FunV K "need_text" "need_text" s_need_text .none f fd) {C_BadText:Addr} (hC_BadText:C "BadText" = some C_BadText) (O_BadText:OwnCls "BadText" C_BadText bmVE "ValueError.__new__" mg base) (b_isinstance:mg "isinstance" = none) (b_str:mg "str" = none):FnOk P w K mg base (CXr P w) 1 f fd ["thing"] (spX K C d_need_text r_need_text) :=
 fn_DX F sc_need_text rfl rfl (fun cdv A outer sh H E hr =>
  have nd:(cxOf (CXr P w) P w K mg base ["thing"] "need_text" (defScope s_need_text) f cdv A outer sh H E).nox.N.Nodup:=sc_need_text.nd
  (pdb_one (pds_if (pdt_not (pdt_val (pd_isinst (pd_var (pv 0)) (pe_bltn rfl b_str boot_str rfl) rfl b_isinstance boot_isinstance kit_str))) (pdb_one pds_never) pdb_nil)))
  fun cdv A outer sh H E hr =>
  have nd:(cxOf (CXr P w) P w K mg base ["thing"] "need_text" (defScope s_need_text) f cdv A outer sh H E).N.Nodup:=sc_need_text.nd
  (rdb_one (rds_if (pdt_not (pdt_val (pd_isinst (pd_var (pv 0)) (pe_bltn rfl b_str boot_str rfl) rfl b_isinstance boot_isinstance kit_str))) (rdb_one (rds_raiseV throwOk_def hC_BadText O_BadText PySem.F.excBase_ValueError hr.hd rfl (pv_of pd_str))) rdb_never))
theorem sc_words_of:FnScope ["row"] ["row"] (defScope s_words_of):=⟨rfl,rfl,rfl,by decide +kernel,rfl,by decide +kernel,by decide +kernel⟩
theorem ok_words_of (T:TF K mg "words_of" s_words_of):Fn P w K mg base C 1 "words_of" d_words_of :=
 fn_F T sc_words_of rfl rfl (fun _ _ _ _ _ _ us hl => len1 us hl (fun _ => rfl)) fun f cdv A outer sh H E hr =>
  have nd:(cxOf CX0 P w K mg base ["row"] "words_of" (defScope s_words_of) f cdv A outer sh H E).nox.N.Nodup:=sc_words_of.nd
  (pdb_one (pds_ret (pd_compN rfl (compOk_of (oN:=["row"]) (osc:=defScope s_words_of) (N:=["word"]) (μ:=[none]) rfl rfl (by decide +kernel)) (pdi_list (pd_split (pd_var (pv 0)) pd_str)) (fun _ _ _ _ => (pdg_name (show List.Nodup (["word"]:List Str) by decide +kernel) rfl (by first | exact Or.inl rfl | exact Or.inr rfl))) (fun _ _ _ _ => (pdts_one (pdt_cmp (opD_ne hr.units) (pd_var (pv 0)) pd_str (nomark _)))) (fun _ _ _ _ => (pd_var (pv 0))))))
theorem sc_form_of:FnScope ["words","form"] ["words"] (defScope s_form_of):=⟨rfl,rfl,rfl,by decide +kernel,rfl,by decide +kernel,by decide +kernel⟩
theorem ok_form_of (T:TF K mg "form_of" s_form_of) (c_FORMS:GlobM K mg "FORMS" g_FORMS) (b_len:mg "len" = none):Fn P w K mg base C 1 "form_of" d_form_of :=
 fn_F T sc_form_of rfl rfl (fun _ _ _ _ _ _ us hl => len1 us hl (fun _ => rfl)) fun f cdv A outer sh H E hr =>
  have nd:(cxOf CX0 P w K mg base ["words","form"] "form_of" (defScope s_form_of) f cdv A outer sh H E).nox.N.Nodup:=sc_form_of.nd
  (pdb_cons (pds_for PassesOwn.never rfl (pdi_mt (pd_globM rfl c_FORMS)) (pdg_name nd rfl (by first | exact Or.inl rfl | exact Or.inr rfl)) (pdb_one (pds_if (PDW.pt (pdw_and (pdt_cmp (opD_eq hr.units) (pd_callB callD_lenMt rfl b_len PySem.boot_len (pda_cons (pd_var (pv 1)) pda_nil)) (pd_callB callD_len rfl b_len PySem.boot_len (pda_cons (pd_var (pv 0)) pda_nil)) (nomark _)) (pdw_and1 (pdt_cmp (opD_eq hr.units) (pd_ixM (pd_var (pv 1)) pd_int) (pd_ix (pd_var (pv 0)) pd_int) (nomark _))))) (pdb_one (pds_ret (pd_var (pv 1)))) pdb_nil))) (pdb_one (pds_ret pd_non)))
theorem sc_are_figures:FnScope ["part","most"] ["part","most"] (defScope s_are_figures):=⟨rfl,rfl,rfl,by decide +kernel,rfl,by decide +kernel,by decide +kernel⟩
theorem ok_are_figures (T:TF K mg "are_figures" s_are_figures) {t_FIGURES:Tok} (c_FIGURES:mg "FIGURES" = some (.str "0123456789" t_FIGURES)) (b_all:mg "all" = none) (b_int:mg "int" = none) (b_len:mg "len" = none) (b_str:mg "str" = none):Fn P w K mg base C 1 "are_figures" d_are_figures :=
 fn_F T sc_are_figures rfl rfl (fun _ _ _ _ _ _ us hl => len2 us hl (fun _ _ => rfl)) fun f cdv A outer sh H E hr =>
  have nd:(cxOf CX0 P w K mg base ["part","most"] "are_figures" (defScope s_are_figures) f cdv A outer sh H E).nox.N.Nodup:=sc_are_figures.nd
  (pdb_cons (pds_if (PDW.pt (pdw_or (pdt_cmp opD_lt (pd_callB callD_len rfl b_len PySem.boot_len (pda_cons (pd_var (pv 0)) pda_nil)) pd_int (nomark _)) (pdw_or1 (pdt_cmp opD_gt (pd_callB callD_len rfl b_len PySem.boot_len (pda_cons (pd_var (pv 0)) pda_nil)) (pd_var (pv 1)) (nomark _))))) (pdb_one (pds_ret pd_bl)) pdb_nil) (pdb_one (pds_ret (pd_and (pd_callB (callD_all hr.hd) rfl b_all boot_all (pda_cons (pd_compN rfl (compOk_of (oN:=["part","most"]) (osc:=defScope s_are_figures) (N:=["sign"]) (μ:=[none]) rfl rfl (by decide +kernel)) (pdi_text (pd_var (pv 0))) (fun _ _ _ _ => (pdg_name (show List.Nodup (["sign"]:List Str) by decide +kernel) rfl (by first | exact Or.inl rfl | exact Or.inr rfl))) (fun _ _ _ _ => pdts_nil) (fun _ _ _ _ => (pd_cmp opD_inS (pd_var (pv 0)) (pd_globS rfl c_FIGURES) rfl))) pda_nil)) (pd_one (pd_cmp (opD_eq hr.units) (pd_callTy callD_str rfl b_str boot_str (pda_cons (pd_callTy callD_intS rfl b_int boot_int (pda_cons (pd_var (pv 0)) pda_nil)) pda_nil)) (pd_var (pv 0)) (nomark _)))))))
theorem sc_read_number:FnScope ["word","bounds"] ["word","bounds"] (defScope s_read_number):=⟨rfl,rfl,rfl,by decide +kernel,rfl,by decide +kernel,by decide +kernel⟩
theorem ok_read_number {f:Addr} {fd:FuncData} (F:FunV K "read_number" "read_number" s_read_number .none f fd) {C_BadText:Addr} (hC_BadText:C "BadText" = some C_BadText) (O_BadText:OwnCls "BadText" C_BadText bmVE "ValueError.__new__" mg base) {t_MOST_FIGURES:Tok} (c_MOST_FIGURES:mg "MOST_FIGURES" = some (.int 9 t_MOST_FIGURES)) (b_int:mg "int" = none) (G_are_figures:Fn P w K mg base C 1 "are_figures" d_are_figures):FnOk P w K mg base (CXr P w) 2 f fd ["word","bounds"] (spX K C d_read_number r_read_number) :=
 fn_DX F sc_read_number rfl rfl (fun cdv A outer sh H E hr =>
  have nd:(cxOf (CXr P w) P w K mg base ["word","bounds"] "read_number" (defScope s_read_number) f cdv A outer sh H E).nox.N.Nodup:=sc_read_number.nd
  (pdb_cons (pds_if (PDW.pt (pdw_or (pdt_not (pdt_val (pd_callF G_are_figures (hr.mono (by decide)) rfl (pda_cons (pd_var (pv 0)) (pda_cons (pd_globI rfl c_MOST_FIGURES) pda_nil))))) (pdw_or1 (pdt_not (pdt_chain opD_le opD_le (pd_ixM (pd_var (pv 1)) pd_int) (pd_callTy callD_intS rfl b_int boot_int (pda_cons (pd_var (pv 0)) pda_nil)) (pd_ixM (pd_var (pv 1)) pd_int)))))) (pdb_one pds_never) pdb_nil) (pdb_one (pds_ret (pd_callTy callD_intS rfl b_int boot_int (pda_cons (pd_var (pv 0)) pda_nil))))))
  fun cdv A outer sh H E hr =>
  have nd:(cxOf (CXr P w) P w K mg base ["word","bounds"] "read_number" (defScope s_read_number) f cdv A outer sh H E).N.Nodup:=sc_read_number.nd
  (rdb_here (rds_if (PDW.pt (pdw_or (pdt_not (pdt_val (pd_callF G_are_figures (hr.mono (by decide)) rfl (pda_cons (pd_var (pv 0)) (pda_cons (pd_globI rfl c_MOST_FIGURES) pda_nil))))) (pdw_or1 (pdt_not (pdt_chain opD_le opD_le (pd_ixM (pd_var (pv 1)) pd_int) (pd_callTy callD_intS rfl b_int boot_int (pda_cons (pd_var (pv 0)) pda_nil)) (pd_ixM (pd_var (pv 1)) pd_int)))))) (rdb_one (rds_raiseV throwOk_def hC_BadText O_BadText PySem.F.excBase_ValueError hr.hd rfl (pv_frs (pd_var (pv 0))))) rdb_never))
theorem sc_read_beginning:FnScope ["text","starred","signs","bits","sign"] ["text"] (defScope s_read_beginning):=⟨rfl,rfl,rfl,by decide +kernel,rfl,by decide +kernel,by decide +kernel⟩
theorem ok_read_beginning {f:Addr} {fd:FuncData} (F:FunV K "read_beginning" "read_beginning" s_read_beginning .none f fd) {C_BadText:Addr} (hC_BadText:C "BadText" = some C_BadText) (O_BadText:OwnCls "BadText" C_BadText bmVE "ValueError.__new__" mg base) {t_WIDTH:Tok} (c_WIDTH:mg "WIDTH" = some (.int 16 t_WIDTH)) (b_len:mg "len" = none):FnOk P w K mg base (CXr P w) 1 f fd ["text"] (spX K C d_read_beginning r_read_beginning) :=
 fn_DX F sc_read_beginning rfl rfl (fun cdv A outer sh H E hr =>
  have nd:(cxOf (CXr P w) P w K mg base ["text","starred","signs","bits","sign"] "read_beginning" (defScope s_read_beginning) f cdv A outer sh H E).nox.N.Nodup:=sc_read_beginning.nd
  (pdb_cons (pds_set (i:=1) nd rfl (by first | exact Or.inl rfl | exact Or.inr rfl) (pd_ends (pd_var (pv 0)) pd_str)) (pdb_cons (pds_set (i:=2) nd rfl (by first | exact Or.inl rfl | exact Or.inr rfl) (pd_if (pdt_val (pd_var (pv 1))) (pd_slS (pd_var (pv 0)) pdo_none (pdo_some (pd_neg pd_int))) (pd_var (pv 0)))) (pdb_cons (pds_if (PDW.pt (pdw_or (pdt_cmp (opD_eq hr.units) (pd_var (pv 1)) (pd_cmp (opD_eq hr.units) (pd_callB callD_len rfl b_len PySem.boot_len (pda_cons (pd_var (pv 2)) pda_nil)) (pd_globI rfl c_WIDTH) (nomark _)) (nomark _)) (pdw_or1 (pdt_cmp opD_gt (pd_callB callD_len rfl b_len PySem.boot_len (pda_cons (pd_var (pv 2)) pda_nil)) (pd_globI rfl c_WIDTH) (nomark _))))) (pdb_one pds_never) pdb_nil) (pdb_cons (pds_set (i:=3) nd rfl (by first | exact Or.inl rfl | exact Or.inr rfl) pd_int) (pdb_cons (pds_for PassesOwn.never rfl (pdi_text (pd_var (pv 2))) (pdg_name nd rfl (by first | exact Or.inl rfl | exact Or.inr rfl)) (pdb_cons (pds_if (pdt_cmp opD_notinS (pd_var (pv 4)) pd_str rfl) (pdb_one pds_never) pdb_nil) (pdb_one (pds_set (i:=3) nd rfl (by first | exact Or.inl rfl | exact Or.inr rfl) (pd_op opD_add (pd_op opD_mul (pd_var (pv 3)) pd_int) (pd_if (pdt_cmp (opD_eq hr.units) (pd_var (pv 4)) pd_str (nomark _)) pd_int pd_int)))))) (pdb_one (pds_ret (pd_tup (pda_cons (pd_var (pv 3)) (pda_cons (pd_callB callD_len rfl b_len PySem.boot_len (pda_cons (pd_var (pv 2)) pda_nil)) pda_nil)))))))))))
  fun cdv A outer sh H E hr =>
  have nd:(cxOf (CXr P w) P w K mg base ["text","starred","signs","bits","sign"] "read_beginning" (defScope s_read_beginning) f cdv A outer sh H E).N.Nodup:=sc_read_beginning.nd
  (rdb_next (pds_set (i:=1) nd rfl (by first | exact Or.inl rfl | exact Or.inr rfl) (pd_ends (pd_var (pv 0)) pd_str)) (rdb_next (pds_set (i:=2) nd rfl (by first | exact Or.inl rfl | exact Or.inr rfl) (pd_if (pdt_val (pd_var (pv 1))) (pd_slS (pd_var (pv 0)) pdo_none (pdo_some (pd_neg pd_int))) (pd_var (pv 0)))) (rdb_or (rdb_here (rds_if (PDW.pt (pdw_or (pdt_cmp (opD_eq hr.units) (pd_var (pv 1)) (pd_cmp (opD_eq hr.units) (pd_callB callD_len rfl b_len PySem.boot_len (pda_cons (pd_var (pv 2)) pda_nil)) (pd_globI rfl c_WIDTH) (nomark _)) (nomark _)) (pdw_or1 (pdt_cmp opD_gt (pd_callB callD_len rfl b_len PySem.boot_len (pda_cons (pd_var (pv 2)) pda_nil)) (pd_globI rfl c_WIDTH) (nomark _))))) (rdb_one (rds_raiseV throwOk_def hC_BadText O_BadText PySem.F.excBase_ValueError hr.hd rfl (pv_frs (pd_var (pv 0))))) rdb_never)) (rdb_next (pds_if (PDW.pt (pdw_or (pdt_cmp (opD_eq hr.units) (pd_var (pv 1)) (pd_cmp (opD_eq hr.units) (pd_callB callD_len rfl b_len PySem.boot_len (pda_cons (pd_var (pv 2)) pda_nil)) (pd_globI rfl c_WIDTH) (nomark _)) (nomark _)) (pdw_or1 (pdt_cmp opD_gt (pd_callB callD_len rfl b_len PySem.boot_len (pda_cons (pd_var (pv 2)) pda_nil)) (pd_globI rfl c_WIDTH) (nomark _))))) (pdb_one pds_never) pdb_nil) (rdb_next (pds_set (i:=3) nd rfl (by first | exact Or.inl rfl | exact Or.inr rfl) pd_int) (rdb_here (rds_for passes_def rfl (pdi_text (pd_var (pv 2))) (pdg_name nd rfl (by first | exact Or.inl rfl | exact Or.inr rfl)) (pdb_cons (pds_if (pdt_cmp opD_notinS (pd_var (pv 4)) pd_str rfl) (pdb_one pds_never) pdb_nil) (pdb_one (pds_set (i:=3) nd rfl (by first | exact Or.inl rfl | exact Or.inr rfl) (pd_op opD_add (pd_op opD_mul (pd_var (pv 3)) pd_int) (pd_if (pdt_cmp (opD_eq hr.units) (pd_var (pv 4)) pd_str (nomark _)) pd_int pd_int))))) (rdb_here (rds_if (pdt_cmp opD_notinS (pd_var (pv 4)) pd_str rfl) (rdb_one (rds_raiseV throwOk_def hC_BadText O_BadText PySem.F.excBase_ValueError hr.hd rfl (pv_frs (pd_var (pv 0))))) rdb_never)))))))))
theorem sc_is_eight_bits:FnScope ["part"] ["part"] (defScope s_is_eight_bits):=⟨rfl,rfl,rfl,by decide +kernel,rfl,by decide +kernel,by decide +kernel⟩
theorem ok_is_eight_bits (T:TF K mg "is_eight_bits" s_is_eight_bits) (b_int:mg "int" = none) (G_are_figures:Fn P w K mg base C 1 "are_figures" d_are_figures):Fn P w K mg base C 2 "is_eight_bits" d_is_eight_bits :=
 fn_F T sc_is_eight_bits rfl rfl (fun _ _ _ _ _ _ us hl => len1 us hl (fun _ => rfl)) fun f cdv A outer sh H E hr =>
  have nd:(cxOf CX0 P w K mg base ["part"] "is_eight_bits" (defScope s_is_eight_bits) f cdv A outer sh H E).nox.N.Nodup:=sc_is_eight_bits.nd
  (pdb_one (pds_ret (pd_and (pd_callF G_are_figures (hr.mono (by decide)) rfl (pda_cons (pd_var (pv 0)) (pda_cons pd_int pda_nil))) (pd_one (pd_cmp opD_le (pd_callTy callD_intS rfl b_int boot_int (pda_cons (pd_var (pv 0)) pda_nil)) pd_int (nomark _))))))
theorem sc_read_address:FnScope ["text","parts"] ["text"] (defScope s_read_address):=⟨rfl,rfl,rfl,by decide +kernel,rfl,by decide +kernel,by decide +kernel⟩
theorem ok_read_address {f:Addr} {fd:FuncData} (F:FunV K "read_address" "read_address" s_read_address .none f fd) {C_BadText:Addr} (hC_BadText:C "BadText" = some C_BadText) (O_BadText:OwnCls "BadText" C_BadText bmVE "ValueError.__new__" mg base) (b_all:mg "all" = none) (b_int:mg "int" = none) (b_len:mg "len" = none) (G_is_eight_bits:Fn P w K mg base C 2 "is_eight_bits" d_is_eight_bits):FnOk P w K mg base (CXr P w) 3 f fd ["text"] (spX K C d_read_address r_read_address) :=
 fn_DX F sc_read_address rfl rfl (fun cdv A outer sh H E hr =>
  have nd:(cxOf (CXr P w) P w K mg base ["text","parts"] "read_address" (defScope s_read_address) f cdv A outer sh H E).nox.N.Nodup:=sc_read_address.nd
  (pdb_cons (pds_set (i:=1) nd rfl (by first | exact Or.inl rfl | exact Or.inr rfl) (pd_split (pd_var (pv 0)) pd_str)) (pdb_cons (pds_if (PDW.pt (pdw_or (pdt_cmp (opD_ne hr.units) (pd_callB callD_len rfl b_len PySem.boot_len (pda_cons (pd_var (pv 1)) pda_nil)) pd_int (nomark _)) (pdw_or1 (pdt_not (pdt_val (pd_callB (callD_all hr.hd) rfl b_all boot_all (pda_cons (pd_compN rfl (compOk_of (oN:=["text","parts"]) (osc:=defScope s_read_address) (N:=["part"]) (μ:=[none]) rfl rfl (by decide +kernel)) (pdi_list (pd_var (pv 1))) (fun _ _ _ _ => (pdg_name (show List.Nodup (["part"]:List Str) by decide +kernel) rfl (by first | exact Or.inl rfl | exact Or.inr rfl))) (fun _ _ _ _ => pdts_nil) (fun _ _ _ _ => (pd_callF G_is_eight_bits (hr.mono (by decide)) rfl (pda_cons (pd_var (pv 0)) pda_nil)))) pda_nil))))))) (pdb_one pds_never) pdb_nil) (pdb_one (pds_ret (pd_op opD_add (pd_op opD_mul (pd_callTy callD_intS rfl b_int boot_int (pda_cons (pd_ix (pd_var (pv 1)) pd_int) pda_nil)) pd_int) (pd_callTy callD_intS rfl b_int boot_int (pda_cons (pd_ix (pd_var (pv 1)) pd_int) pda_nil))))))))
  fun cdv A outer sh H E hr =>
  have nd:(cxOf (CXr P w) P w K mg base ["text","parts"] "read_address" (defScope s_read_address) f cdv A outer sh H E).N.Nodup:=sc_read_address.nd
  (rdb_next (pds_set (i:=1) nd rfl (by first | exact Or.inl rfl | exact Or.inr rfl) (pd_split (pd_var (pv 0)) pd_str)) (rdb_here (rds_if (PDW.pt (pdw_or (pdt_cmp (opD_ne hr.units) (pd_callB callD_len rfl b_len PySem.boot_len (pda_cons (pd_var (pv 1)) pda_nil)) pd_int (nomark _)) (pdw_or1 (pdt_not (pdt_val (pd_callB (callD_all hr.hd) rfl b_all boot_all (pda_cons (pd_compN rfl (compOk_of (oN:=["text","parts"]) (osc:=defScope s_read_address) (N:=["part"]) (μ:=[none]) rfl rfl (by decide +kernel)) (pdi_list (pd_var (pv 1))) (fun _ _ _ _ => (pdg_name (show List.Nodup (["part"]:List Str) by decide +kernel) rfl (by first | exact Or.inl rfl | exact Or.inr rfl))) (fun _ _ _ _ => pdts_nil) (fun _ _ _ _ => (pd_callF G_is_eight_bits (hr.mono (by decide)) rfl (pda_cons (pd_var (pv 0)) pda_nil)))) pda_nil))))))) (rdb_one (rds_raiseV throwOk_def hC_BadText O_BadText PySem.F.excBase_ValueError hr.hd rfl (pv_frs (pd_var (pv 0))))) rdb_never)))
theorem sc_read_part:FnScope ["kind","word"] ["kind","word"] (defScope s_read_part):=⟨rfl,rfl,rfl,by decide +kernel,rfl,by decide +kernel,by decide +kernel⟩
theorem ok_read_part {f:Addr} {fd:FuncData} (F:FunV K "read_part" "read_part" s_read_part .none f fd) (c_BOUNDS:GlobT K mg "BOUNDS" g_BOUNDS) (G_read_beginning:FnX P w K mg base C 1 "read_beginning" d_read_beginning r_read_beginning) (G_read_address:FnX P w K mg base C 3 "read_address" d_read_address r_read_address) (G_read_number:FnX P w K mg base C 2 "read_number" d_read_number r_read_number):FnOk P w K mg base (CXr P w) 4 f fd ["kind","word"] (spX K C d_read_part r_read_part) :=
 fn_DX F sc_read_part rfl rfl (fun cdv A outer sh H E hr =>
  have nd:(cxOf (CXr P w) P w K mg base ["kind","word"] "read_part" (defScope s_read_part) f cdv A outer sh H E).nox.N.Nodup:=sc_read_part.nd
  (pdb_cons (pds_if (pdt_cmp (opD_eq hr.units) (pd_var (pv 0)) pd_str (nomark _)) (pdb_one (pds_ret (pd_callX G_read_beginning (hr.mono (by decide)) rfl (pda_cons (pd_var (pv 1)) pda_nil)))) pdb_nil) (pdb_cons (pds_if (pdt_cmp (opD_eq hr.units) (pd_var (pv 0)) pd_str (nomark _)) (pdb_one (pds_ret (pd_callX G_read_address (hr.mono (by decide)) rfl (pda_cons (pd_var (pv 1)) pda_nil)))) pdb_nil) (pdb_one (pds_ret (pd_callX G_read_number (hr.mono (by decide)) rfl (pda_cons (pd_var (pv 1)) (pda_cons (pd_tab rfl c_BOUNDS (pd_var (pv 0)) (fun _ _ => rfl)) pda_nil))))))))
  fun cdv A outer sh H E hr =>
  have nd:(cxOf (CXr P w) P w K mg base ["kind","word"] "read_part" (defScope s_read_part) f cdv A outer sh H E).N.Nodup:=sc_read_part.nd
  (rdb_or (rdb_here (rds_if (pdt_cmp (opD_eq hr.units) (pd_var (pv 0)) pd_str (nomark _)) (rdb_one (rds_ret (rd_call flyOk_def G_read_beginning (hr.mono (by decide)) rfl (pda_cons (pd_var (pv 1)) pda_nil)))) rdb_never)) (rdb_next (pds_if (pdt_cmp (opD_eq hr.units) (pd_var (pv 0)) pd_str (nomark _)) (pdb_one (pds_ret (pd_callX G_read_beginning (hr.mono (by decide)) rfl (pda_cons (pd_var (pv 1)) pda_nil)))) pdb_nil) (rdb_or (rdb_here (rds_if (pdt_cmp (opD_eq hr.units) (pd_var (pv 0)) pd_str (nomark _)) (rdb_one (rds_ret (rd_call flyOk_def G_read_address (hr.mono (by decide)) rfl (pda_cons (pd_var (pv 1)) pda_nil)))) rdb_never)) (rdb_next (pds_if (pdt_cmp (opD_eq hr.units) (pd_var (pv 0)) pd_str (nomark _)) (pdb_one (pds_ret (pd_callX G_read_address (hr.mono (by decide)) rfl (pda_cons (pd_var (pv 1)) pda_nil)))) pdb_nil) (rdb_one (rds_ret (rd_call flyOk_def G_read_number (hr.mono (by decide)) rfl (pda_cons (pd_var (pv 1)) (pda_cons (pd_tab rfl c_BOUNDS (pd_var (pv 0)) (fun _ _ => rfl)) pda_nil)))))))))
theorem sc_asked_by:FnScope ["row","words","form","parts"] ["row"] (defScope s_asked_by):=⟨rfl,rfl,rfl,by decide +kernel,rfl,by decide +kernel,by decide +kernel⟩
theorem ok_asked_by {f:Addr} {fd:FuncData} (F:FunV K "asked_by" "asked_by" s_asked_by .none f fd) {C_BadText:Addr} (m_BadText:mg "BadText" = some (.ref C_BadText)) (tc_BadText:∀ c,tcf_BadText c = true -> ∃ Ca,C c = some Ca /\ PySem.W.exmOne K (.ref Ca) (.ref C_BadText) = some true) (b_tuple:mg "tuple" = none) (b_zip:mg "zip" = none) (G_need_text:FnX P w K mg base C 1 "need_text" d_need_text r_need_text) (G_words_of:Fn P w K mg base C 1 "words_of" d_words_of) (G_form_of:Fn P w K mg base C 1 "form_of" d_form_of) (G_read_part:FnX P w K mg base C 4 "read_part" d_read_part r_read_part):FnOk P w K mg base (CXr P w) 5 f fd ["row"] (spX K C d_asked_by r_asked_by) :=
 fn_DX F sc_asked_by rfl rfl (fun cdv A outer sh H E hr =>
  have nd:(cxOf (CXr P w) P w K mg base ["row","words","form","parts"] "asked_by" (defScope s_asked_by) f cdv A outer sh H E).nox.N.Nodup:=sc_asked_by.nd
  (pdb_cons (pds_expr (pd_callX G_need_text (hr.mono (by decide)) rfl (pda_cons (pd_var (pv 0)) pda_nil))) (pdb_cons (pds_set (i:=1) nd rfl (by first | exact Or.inl rfl | exact Or.inr rfl) (pd_callF G_words_of (hr.mono (by decide)) rfl (pda_cons (pd_var (pv 0)) pda_nil))) (pdb_cons (pds_set (i:=2) nd rfl (by first | exact Or.inl rfl | exact Or.inr rfl) (pd_callF G_form_of (hr.mono (by decide)) rfl (pda_cons (pd_var (pv 1)) pda_nil))) (pdb_cons (pds_if (pdt_cmp opD_is (pd_var (pv 2)) pd_non (nomark _)) (pdb_one (pds_ret pd_non)) pdb_nil) (pdb_cons (pds_tryA (fun pn E => (pdb_one (pds_compN (i:=3) nd rfl (by first | exact Or.inl rfl | exact Or.inr rfl) rfl (compOk_of (oN:=["row","words","form","parts"]) (osc:=defScope s_asked_by) (N:=["kind","word"]) (μ:=[none,none]) rfl rfl (by decide +kernel)) (pdi_zip rfl b_zip (pda_cons (pd_slM (pd_var (pv 2)) (pdo_some pd_int) pdo_none) (pda_cons (pd_sl (pd_var (pv 1)) (pdo_some pd_int) pdo_none) pda_nil))) (fun _ _ _ _ => (pdg_tup rfl (pdgs_cons (i:=0) (show List.Nodup (["kind","word"]:List Str) by decide +kernel) rfl (by first | exact Or.inl rfl | exact Or.inr rfl) (pdgs_cons (i:=1) (show List.Nodup (["kind","word"]:List Str) by decide +kernel) rfl (by first | exact Or.inl rfl | exact Or.inr rfl) pdgs_nil)))) (fun _ _ _ _ => pdts_nil) (fun _ _ _ _ => (pd_callX G_read_part (hr.mono (by decide)) rfl (pda_cons (pd_var (pv 0)) (pda_cons (pd_var (pv 1)) pda_nil))))))) (fun pn E XW hX => (rdb_one (rds_compN hX rfl rfl rfl (compOk_of (oN:=["row","words","form","parts"]) (osc:=defScope s_asked_by) (N:=["kind","word"]) (μ:=[none,none]) rfl rfl (by decide +kernel)) (pdi_zip rfl b_zip (pda_cons (pd_slM (pd_var (pv 2)) (pdo_some pd_int) pdo_none) (pda_cons (pd_sl (pd_var (pv 1)) (pdo_some pd_int) pdo_none) pda_nil))) (fun _ _ _ _ _ => (pdg_tup rfl (pdgs_cons (i:=0) (show List.Nodup (["kind","word"]:List Str) by decide +kernel) rfl (by first | exact Or.inl rfl | exact Or.inr rfl) (pdgs_cons (i:=1) (show List.Nodup (["kind","word"]:List Str) by decide +kernel) rfl (by first | exact Or.inl rfl | exact Or.inr rfl) pdgs_nil)))) (fun _ _ _ _ _ => pdts_nil) (fun _ _ _ _ _ => (pd_callX G_read_part (hr.mono (by decide)) rfl (pda_cons (pd_var (pv 0)) (pda_cons (pd_var (pv 1)) pda_nil)))) (fun _ _ _ _ _ _ hY => (rd_call hY G_read_part (hr.mono (by decide)) rfl (pda_cons (pd_var (pv 0)) (pda_cons (pd_var (pv 1)) pda_nil))))))) (fun v pn => (pdb_one (pds_ret pd_non))) tc_BadText rfl rfl rfl m_BadText) (pdb_one (pds_ret (pd_op opD_addT (pd_tup (pda_cons (pd_ixM (pd_var (pv 2)) pd_int) pda_nil)) (pd_callTy callD_tuple rfl b_tuple boot_tuple (pda_cons (pd_var (pv 3)) pda_nil)))))))))))
  fun cdv A outer sh H E hr =>
  have nd:(cxOf (CXr P w) P w K mg base ["row","words","form","parts"] "asked_by" (defScope s_asked_by) f cdv A outer sh H E).N.Nodup:=sc_asked_by.nd
  (rdb_here (rds_expr (rd_call flyOk_def G_need_text (hr.mono (by decide)) rfl (pda_cons (pd_var (pv 0)) pda_nil))))
theorem sc_l_whole:FnScope ["_law_found"] ["_law_found"] (defScope s_l_whole):=⟨rfl,rfl,rfl,by decide +kernel,rfl,by decide +kernel,by decide +kernel⟩
theorem ok_l_whole (T:TF K mg "_law_whole" s_l_whole) (b_bool:mg "bool" = none) (b_int:mg "int" = none) (b_isinstance:mg "isinstance" = none):Fn P w K mg base C 1 "_law_whole" d_l_whole :=
 fn_F T sc_l_whole rfl rfl (fun _ _ _ _ _ _ us hl => len1 us hl (fun _ => rfl)) fun f cdv A outer sh H E hr =>
  have nd:(cxOf CX0 P w K mg base ["_law_found"] "_law_whole" (defScope s_l_whole) f cdv A outer sh H E).nox.N.Nodup:=sc_l_whole.nd
  (pdb_one (pds_ret (pd_and (pd_isinst (pd_var (pv 0)) (pe_bltn rfl b_int boot_int rfl) rfl b_isinstance boot_isinstance kit_int) (pd_one (pd_not (pd_isinst (pd_var (pv 0)) (pe_bltn rfl b_bool boot_bool rfl) rfl b_isinstance boot_isinstance kit_bool))))))
theorem sc_l_alike:FnScope ["_law_found","_law_due","_law_part_here"] ["_law_found","_law_due"] (defScope s_l_alike):=⟨rfl,rfl,rfl,by decide +kernel,rfl,by decide +kernel,by decide +kernel⟩
theorem ok_l_alike (T:TF K mg "_law_alike" s_l_alike) (b_all:mg "all" = none) (b_isinstance:mg "isinstance" = none) (b_len:mg "len" = none) (b_list:mg "list" = none) (b_str:mg "str" = none) (b_tuple:mg "tuple" = none) (G_l_whole:Fn P w K mg base C 1 "_law_whole" d_l_whole):Fn P w K mg base C 2 "_law_alike" d_l_alike :=
 fn_F T sc_l_alike rfl rfl (fun _ _ _ _ _ _ us hl => len2 us hl (fun _ _ => rfl)) fun f cdv A outer sh H E hr =>
  have nd:(cxOf CX0 P w K mg base ["_law_found","_law_due","_law_part_here"] "_law_alike" (defScope s_l_alike) f cdv A outer sh H E).nox.N.Nodup:=sc_l_alike.nd
  (pdb_cons (pds_if (PDW.pt (pdw_or (pdt_not (pdt_val (pd_isinst (pd_var (pv 0)) (pe_bltn rfl b_tuple boot_tuple rfl) rfl b_isinstance boot_isinstance kit_tuple))) (pdw_or (pdt_cmp (opD_ne hr.units) (pd_callB callD_len rfl b_len PySem.boot_len (pda_cons (pd_var (pv 0)) pda_nil)) (pd_callB callD_len rfl b_len PySem.boot_len (pda_cons (pd_var (pv 1)) pda_nil)) (nomark _)) (pdw_or1 (pdt_cmp (opD_ne hr.units) (pd_callTy callD_list rfl b_list boot_list (pda_cons (pd_var (pv 0)) pda_nil)) (pd_var (pv 1)) (nomark _)))))) (pdb_one (pds_ret pd_bl)) pdb_nil) (pdb_cons (pds_for PassesOwn.never rfl (pdi_tup (pd_slT (pd_var (pv 0)) (pdo_some pd_int) pdo_none)) (pdg_name nd rfl (by first | exact Or.inl rfl | exact Or.inr rfl)) (pdb_one (pds_if (pdt_val (pd_isinst (pd_var (pv 2)) (pe_bltn rfl b_tuple boot_tuple rfl) rfl b_isinstance boot_isinstance kit_tuple)) (pdb_one (pds_if (pdt_not (pdt_val (pd_callB (callD_all hr.hd) rfl b_all boot_all (pda_cons (pd_compN rfl (compOk_of (oN:=["_law_found","_law_due","_law_part_here"]) (osc:=defScope s_l_alike) (N:=["_law_number"]) (μ:=[none]) rfl rfl (by decide +kernel)) (pdi_tup (pd_var (pv 2))) (fun _ _ _ _ => (pdg_name (show List.Nodup (["_law_number"]:List Str) by decide +kernel) rfl (by first | exact Or.inl rfl | exact Or.inr rfl))) (fun _ _ _ _ => pdts_nil) (fun _ _ _ _ => (pd_callF G_l_whole (hr.mono (by decide)) rfl (pda_cons (pd_var (pv 0)) pda_nil)))) pda_nil)))) (pdb_one (pds_ret pd_bl)) pdb_nil)) (pdb_one (pds_if (pdt_not (pdt_val (pd_callF G_l_whole (hr.mono (by decide)) rfl (pda_cons (pd_var (pv 2)) pda_nil)))) (pdb_one (pds_ret pd_bl)) pdb_nil))))) (pdb_one (pds_ret (pd_isinst (pd_ix (pd_var (pv 0)) pd_int) (pe_bltn rfl b_str boot_str rfl) rfl b_isinstance boot_isinstance kit_str)))))
theorem sc_l_wrong_word:FnScope ["_law_kind","_law_cell","_law_numbers","_law_some","_law_bounds"] ["_law_kind","_law_cell"] (defScope s_l_wrong_word):=⟨rfl,rfl,rfl,by decide +kernel,rfl,by decide +kernel,by decide +kernel⟩
theorem ok_l_wrong_word (T:TF K mg "_law_wrong_word" s_l_wrong_word):Fn P w K mg base C 1 "_law_wrong_word" d_l_wrong_word :=
 fn_F T sc_l_wrong_word rfl rfl (fun _ _ _ _ _ _ us hl => len2 us hl (fun _ _ => rfl)) fun f cdv A outer sh H E hr =>
  have nd:(cxOf CX0 P w K mg base ["_law_kind","_law_cell","_law_numbers","_law_some","_law_bounds"] "_law_wrong_word" (defScope s_l_wrong_word) f cdv A outer sh H E).nox.N.Nodup:=sc_l_wrong_word.nd
  (pdb_cons (pds_set (i:=2) nd rfl (by first | exact Or.inl rfl | exact Or.inr rfl) (pd_lst (pda_cons pd_str (pda_cons pd_str (pda_cons pd_str (pda_cons pd_str (pda_cons pd_str (pda_cons pd_str (pda_cons pd_str (pda_cons pd_str (pda_cons pd_str pda_nil))))))))))) (pdb_cons (pds_if (pdt_cmp (opD_eq hr.units) (pd_var (pv 0)) pd_str (nomark _)) (pdb_cons (pds_set (i:=3) nd rfl (by first | exact Or.inl rfl | exact Or.inr rfl) (pd_lst (pda_cons pd_str (pda_cons pd_str (pda_cons pd_str (pda_cons pd_str (pda_cons pd_str (pda_cons pd_str (pda_cons pd_str (pda_cons pd_str (pda_cons pd_str (pda_cons pd_str pda_nil)))))))))))) (pdb_one (pds_ret (pd_ix (pd_var (pv 3)) (pd_op opD_mod (pd_var (pv 1)) pd_int))))) pdb_nil) (pdb_cons (pds_if (pdt_cmp (opD_eq hr.units) (pd_var (pv 0)) pd_str (nomark _)) (pdb_cons (pds_set (i:=3) nd rfl (by first | exact Or.inl rfl | exact Or.inr rfl) (pd_lst (pda_cons pd_str (pda_cons pd_str (pda_cons pd_str (pda_cons pd_str (pda_cons pd_str (pda_cons pd_str (pda_cons pd_str (pda_cons pd_str (pda_cons pd_str (pda_cons pd_str (pda_cons pd_str (pda_cons pd_str pda_nil)))))))))))))) (pdb_one (pds_ret (pd_ix (pd_var (pv 3)) (pd_op opD_mod (pd_var (pv 1)) pd_int))))) pdb_nil) (pdb_cons (pds_set (i:=4) nd rfl (by first | exact Or.inl rfl | exact Or.inr rfl) (pd_dget (hu_of hr) (pd_disp (PDP.cons (pd_lst (pda_cons pd_str (pda_cons pd_str pda_nil))) (PDP.cons (pd_lst (pda_cons pd_str (pda_cons pd_str pda_nil))) (PDP.cons (pd_lst (pda_cons pd_str (pda_cons pd_str pda_nil))) (PDP.cons (pd_lst (pda_cons pd_str (pda_cons pd_str pda_nil))) PDP.nil)))) (by intro z; cases z) (Nat.le_of_ble_eq_true rfl)) (pd_var (pv 0)) (fun _ _ => rfl))) (pdb_one (pds_ret (pd_ix (pd_op opD_add (pd_var (pv 2)) (pd_var (pv 4))) (pd_op opD_mod (pd_var (pv 1)) pd_int))))))))
theorem sc_l_spoilt:FnScope ["_law_words","_law_kinds","_law_cell","_law_at"] ["_law_words","_law_kinds","_law_cell"] (defScope s_l_spoilt):=⟨rfl,rfl,rfl,by decide +kernel,rfl,by decide +kernel,by decide +kernel⟩
theorem ok_l_spoilt (T:TF K mg "_law_spoilt" s_l_spoilt) (b_len:mg "len" = none) (G_l_wrong_word:Fn P w K mg base C 1 "_law_wrong_word" d_l_wrong_word):Fn P w K mg base C 2 "_law_spoilt" d_l_spoilt :=
 fn_F T sc_l_spoilt rfl rfl (fun _ _ _ _ _ _ us hl => len3 us hl (fun _ _ _ => rfl)) fun f cdv A outer sh H E hr =>
  have nd:(cxOf CX0 P w K mg base ["_law_words","_law_kinds","_law_cell","_law_at"] "_law_spoilt" (defScope s_l_spoilt) f cdv A outer sh H E).nox.N.Nodup:=sc_l_spoilt.nd
  (pdb_cons (pds_set (i:=3) nd rfl (by first | exact Or.inl rfl | exact Or.inr rfl) (pd_op opD_mod (pd_op opD_div (pd_var (pv 2)) pd_int) (pd_callB callD_len rfl b_len PySem.boot_len (pda_cons (pd_var (pv 0)) pda_nil)))) (pdb_cons (pds_if (PDW.pt (pdw_and (pdt_cmp opD_lt (pd_op opD_mod (pd_var (pv 2)) pd_int) pd_int (nomark _)) (pdw_and1 (pdt_cmp opD_gt (pd_callB callD_len rfl b_len PySem.boot_len (pda_cons (pd_var (pv 1)) pda_nil)) pd_int (nomark _))))) (pdb_cons (pds_set (i:=3) nd rfl (by first | exact Or.inl rfl | exact Or.inr rfl) (pd_op opD_mod (pd_op opD_div (pd_var (pv 2)) pd_int) (pd_callB callD_len rfl b_len PySem.boot_len (pda_cons (pd_var (pv 1)) pda_nil)))) (pdb_one (pds_ret (pd_op opD_add (pd_op opD_add (pd_sl (pd_var (pv 0)) pdo_none (pdo_some (pd_op opD_add (pd_var (pv 3)) pd_int))) (pd_lst (pda_cons (pd_callF G_l_wrong_word (hr.mono (by decide)) rfl (pda_cons (pd_ix (pd_var (pv 1)) (pd_var (pv 3))) (pda_cons (pd_op opD_div (pd_var (pv 2)) pd_int) pda_nil))) pda_nil))) (pd_sl (pd_var (pv 0)) (pdo_some (pd_op opD_add (pd_var (pv 3)) pd_int)) pdo_none))))) pdb_nil) (pdb_cons (pds_if (pdt_cmp (opD_eq hr.units) (pd_op opD_mod (pd_var (pv 2)) pd_int) pd_int (nomark _)) (pdb_one (pds_if (PDW.pt (pdw_or (pdt_cmp (opD_ne hr.units) (pd_ix (pd_var (pv 0)) pd_int) pd_str (nomark _)) (pdw_or1 (pdt_cmp (opD_eq hr.units) (pd_callB callD_len rfl b_len PySem.boot_len (pda_cons (pd_var (pv 0)) pda_nil)) pd_int (nomark _))))) (pdb_one (pds_ret (pd_op opD_add (pd_op opD_add (pd_sl (pd_var (pv 0)) pdo_none (pdo_some (pd_op opD_add (pd_var (pv 3)) pd_int))) (pd_lst (pda_cons (pd_ix (pd_lst (pda_cons pd_str (pda_cons pd_str (pda_cons pd_str (pda_cons pd_str pda_nil))))) (pd_op opD_mod (pd_op opD_div (pd_var (pv 2)) pd_int) pd_int)) pda_nil))) (pd_sl (pd_var (pv 0)) (pdo_some (pd_op opD_add (pd_var (pv 3)) pd_int)) pdo_none)))) pdb_nil)) pdb_nil) (pdb_cons (pds_if (PDW.pt (pdw_and (pdt_cmp (opD_eq hr.units) (pd_op opD_mod (pd_var (pv 2)) pd_int) pd_int (nomark _)) (pdw_and (pdt_cmp opD_gt (pd_callB callD_len rfl b_len PySem.boot_len (pda_cons (pd_var (pv 1)) pda_nil)) pd_int (nomark _)) (pdw_and1 (pdt_cmp (opD_ne hr.units) (pd_ix (pd_var (pv 0)) pd_int) pd_str (nomark _)))))) (pdb_one (pds_ret (pd_sl (pd_var (pv 0)) pdo_none (pdo_some (pd_neg pd_int))))) pdb_nil) (pdb_one (pds_ret (pd_op opD_add (pd_lst (pda_cons (pd_op opD_add (pd_ix (pd_lst (pda_cons pd_str (pda_cons pd_str (pda_cons pd_str (pda_cons pd_str (pda_cons pd_str (pda_cons pd_str (pda_cons pd_str (pda_cons pd_str pda_nil))))))))) (pd_op opD_mod (pd_op opD_div (pd_var (pv 2)) pd_int) pd_int)) pd_str) pda_nil)) (pd_sl (pd_var (pv 0)) (pdo_some pd_int) pdo_none))))))))
theorem sc_law:FnScope ["_law_script","_law_draws_here","_law_k","_law_cell","_law_words","_law_due","_law_kinds","_law_text"] ["_law_script"] (defScope s_law):=⟨rfl,rfl,rfl,by decide +kernel,rfl,by decide +kernel,by decide +kernel⟩
end
theorem law_fn {P:Program} {w:World} {K:PySem.W.Frag} {mg:Str -> Option Value} {base:Heap} {C:Cl} {f:Addr} {fd:FuncData} (F:Fun K "law" "law" s_law f fd) (b_len:mg "len" = none) (b_min:mg "min" = none) (b_range:mg "range" = none) (G_l_draws:Fn P w K mg base C 2 "_law_draws" d_l_draws) (G_l_cell_at:Fn P w K mg base C 1 "_law_cell_at" d_l_cell_at) (G_l_row:Fn P w K mg base C 3 "_law_row" d_l_row) (G_l_written:Fn P w K mg base C 1 "_law_written" d_l_written) (G_l_alike:Fn P w K mg base C 2 "_law_alike" d_l_alike) (G_asked_by:FnX P w K mg base C 5 "asked_by" d_asked_by r_asked_by) (G_l_spoilt:Fn P w K mg base C 2 "_law_spoilt" d_l_spoilt):FnOk P w K mg base CX0 6 f fd ["_law_script"] (spD K C d_law) :=
 fn_D F sc_law rfl rfl fun cdv A outer sh H E hr =>
  have nd:(cxOf CX0 P w K mg base ["_law_script","_law_draws_here","_law_k","_law_cell","_law_words","_law_due","_law_kinds","_law_text"] "law" (defScope s_law) f cdv A outer sh H E).nox.N.Nodup:=sc_law.nd
  (pdb_cons (pds_set (i:=1) nd rfl (by first | exact Or.inl rfl | exact Or.inr rfl) (pd_callF G_l_draws (hr.mono (by decide)) rfl (pda_cons (pd_var (pv 0)) (pda_cons (pd_op opD_mul pd_int (pd_op opD_add (pd_op opD_add pd_int (pd_callB (callD_min rfl) rfl b_min boot_min (pda_cons pd_int (pda_cons (pd_callB callD_len rfl b_len PySem.boot_len (pda_cons (pd_var (pv 0)) pda_nil)) pda_nil)))) (pd_op opD_mod (pd_callF G_l_cell_at (hr.mono (by decide)) rfl (pda_cons (pd_var (pv 0)) (pda_cons pd_int pda_nil))) pd_int))) pda_nil)))) (pdb_cons (pds_for PassesOwn.never rfl (pdi_range1 rfl b_range (pda_cons (pd_op opD_div (pd_callB callD_len rfl b_len PySem.boot_len (pda_cons (pd_var (pv 1)) pda_nil)) pd_int) pda_nil)) (pdg_name nd rfl (by first | exact Or.inl rfl | exact Or.inr rfl)) (pdb_cons (pds_set (i:=3) nd rfl (by first | exact Or.inl rfl | exact Or.inr rfl) (pd_ix (pd_var (pv 1)) (pd_op opD_mul pd_int (pd_var (pv 2))))) (pdb_cons (pds_asg (pd_callF G_l_row (hr.mono (by decide)) rfl (pda_cons (pd_var (pv 3)) (pda_cons (pd_ix (pd_var (pv 1)) (pd_op opD_add (pd_op opD_mul pd_int (pd_var (pv 2))) pd_int)) pda_nil))) (pdg_tup rfl (pdgs_cons (i:=4) nd rfl (by first | exact Or.inl rfl | exact Or.inr rfl) (pdgs_cons (i:=5) nd rfl (by first | exact Or.inl rfl | exact Or.inr rfl) (pdgs_cons (i:=6) nd rfl (by first | exact Or.inl rfl | exact Or.inr rfl) pdgs_nil))))) (pdb_cons (pds_set (i:=7) nd rfl (by first | exact Or.inl rfl | exact Or.inr rfl) (pd_callF G_l_written (hr.mono (by decide)) rfl (pda_cons (pd_var (pv 4)) (pda_cons (pd_ix (pd_var (pv 1)) (pd_op opD_add (pd_op opD_mul pd_int (pd_var (pv 2))) pd_int)) pda_nil)))) (pdb_cons (pds_if (pdt_not (pdt_val (pd_callF G_l_alike (hr.mono (by decide)) rfl (pda_cons (pd_callX G_asked_by (hr.mono (by decide)) rfl (pda_cons (pd_var (pv 7)) pda_nil)) (pda_cons (pd_var (pv 5)) pda_nil))))) (pdb_one (pds_ret pd_bl)) pdb_nil) (pdb_one (pds_if (pdt_cmp (opD_eq hr.units) (pd_op opD_mod (pd_op opD_div (pd_var (pv 3)) pd_int) pd_int) pd_int (nomark _)) (pdb_cons (pds_set (i:=7) nd rfl (by first | exact Or.inl rfl | exact Or.inr rfl) (pd_callF G_l_written (hr.mono (by decide)) rfl (pda_cons (pd_callF G_l_spoilt (hr.mono (by decide)) rfl (pda_cons (pd_var (pv 4)) (pda_cons (pd_var (pv 6)) (pda_cons (pd_op opD_div (pd_ix (pd_var (pv 1)) (pd_op opD_add (pd_op opD_mul pd_int (pd_var (pv 2))) pd_int)) pd_int) pda_nil)))) (pda_cons (pd_op opD_div (pd_var (pv 3)) pd_int) pda_nil)))) (pdb_one (pds_if (pdt_cmp opD_isnot (pd_callX G_asked_by (hr.mono (by decide)) rfl (pda_cons (pd_var (pv 7)) pda_nil)) pd_non (nomark _)) (pdb_one (pds_ret pd_bl)) pdb_nil))) pdb_nil))))))) (pdb_one (pds_ret (pd_cmp opD_is (pd_callX G_asked_by (hr.mono (by decide)) rfl (pda_cons (pd_op opD_mulS0 pd_str (pd_op opD_mod (pd_ix (pd_var (pv 1)) pd_int) pd_int)) pda_nil)) pd_non (nomark _))))))
theorem all_mk {P:Program} {w:World} {K:PySem.W.Frag} {h:Heap} {mg:Str -> Option Value} {fa f_l_cell_at f_l_draws f_l_beginning f_l_part f_l_row f_l_written f_need_text f_words_of f_form_of f_are_figures f_read_number f_read_beginning f_is_eight_bits f_read_address f_read_part f_asked_by f_l_whole f_l_alike f_l_wrong_word f_l_spoilt f_law C_BadText:Addr} (X:K.In h) (G:h.Ns mainGlobals mg) (hfa:mg "law" = some (.ref fa))
  {t_FIGURES:Tok} {t_MOST_FIGURES:Tok} {t_WIDTH:Tok}
  (q_l_cell_at:DG K "_law_cell_at" s_l_cell_at f_l_cell_at)
  (q_l_draws:DG K "_law_draws" s_l_draws f_l_draws)
  (q_l_beginning:DG K "_law_beginning" s_l_beginning f_l_beginning)
  (q_l_part:DG K "_law_part" s_l_part f_l_part)
  (q_l_row:DG K "_law_row" s_l_row f_l_row)
  (q_l_written:DG K "_law_written" s_l_written f_l_written)
  (q_need_text:DG K "need_text" s_need_text f_need_text)
  (q_words_of:DG K "words_of" s_words_of f_words_of)
  (q_form_of:DG K "form_of" s_form_of f_form_of)
  (q_are_figures:DG K "are_figures" s_are_figures f_are_figures)
  (q_read_number:DG K "read_number" s_read_number f_read_number)
  (q_read_beginning:DG K "read_beginning" s_read_beginning f_read_beginning)
  (q_is_eight_bits:DG K "is_eight_bits" s_is_eight_bits f_is_eight_bits)
  (q_read_address:DG K "read_address" s_read_address f_read_address)
  (q_read_part:DG K "read_part" s_read_part f_read_part)
  (q_asked_by:DG K "asked_by" s_asked_by f_asked_by)
  (q_l_whole:DG K "_law_whole" s_l_whole f_l_whole)
  (q_l_alike:DG K "_law_alike" s_l_alike f_l_alike)
  (q_l_wrong_word:DG K "_law_wrong_word" s_l_wrong_word f_l_wrong_word)
  (q_l_spoilt:DG K "_law_spoilt" s_l_spoilt f_l_spoilt)
  (q_law:DG K "law" s_law f_law)
  (e_BadText:EK K "BadText" C_BadText)
  (ex_BadText_BadText:PySem.W.exmOne K (.ref C_BadText) (.ref C_BadText) = some true)
  (z_all:PySem.W.nsIn K mainGlobals "all" = some none)
  (z_bool:PySem.W.nsIn K mainGlobals "bool" = some none)
  (z_enumerate:PySem.W.nsIn K mainGlobals "enumerate" = some none)
  (z_int:PySem.W.nsIn K mainGlobals "int" = some none)
  (z_isinstance:PySem.W.nsIn K mainGlobals "isinstance" = some none)
  (z_len:PySem.W.nsIn K mainGlobals "len" = some none)
  (z_list:PySem.W.nsIn K mainGlobals "list" = some none)
  (z_min:PySem.W.nsIn K mainGlobals "min" = some none)
  (z_range:PySem.W.nsIn K mainGlobals "range" = some none)
  (z_str:PySem.W.nsIn K mainGlobals "str" = some none)
  (z_tuple:PySem.W.nsIn K mainGlobals "tuple" = some none)
  (z_zip:PySem.W.nsIn K mainGlobals "zip" = some none)
  (v_BOUNDS:tabOk K "BOUNDS" g_BOUNDS = true)
  (v_FIGURES:PySem.W.nsIn K mainGlobals "FIGURES" = some (some (.str "0123456789" t_FIGURES)))
  (v_FORMS:globOk K "FORMS" g_FORMS = true)
  (v_MOST_FIGURES:PySem.W.nsIn K mainGlobals "MOST_FIGURES" = some (some (.int 9 t_MOST_FIGURES)))
  (v_WIDTH:PySem.W.nsIn K mainGlobals "WIDTH" = some (some (.int 16 t_WIDTH))) :
  ∃ fd:FuncData,(∀ (s:Shared) (v:Value),BindsTo s fd ⟨[v],[]⟩ [("_law_script",v)]) /\ ∀ base:Heap,K.In base -> base.Ns mainGlobals mg -> FnOk P w K mg base CX0 6 fa fd ["_law_script"] (spC K d_law):=by
 have e:=hfa.symm.trans (PySem.W.mg_of X G q_law.a)
 cases e
 obtain ⟨C,eC⟩:∃ C:Cl,C = (clAdd C0 "BadText" C_BadText):=⟨_,rfl⟩
 have hC_BadText:C "BadText" = some C_BadText:=by rw [eC]; exact clAdd_same
 clear eC
 have tc_BadText:∀ c,tcf_BadText c = true -> ∃ Ca,C c = some Ca /\ PySem.W.exmOne K (.ref Ca) (.ref C_BadText) = some true:=fun c hc => by
  simp only [tcf_BadText,Bool.or_eq_true,decide_eq_true_eq] at hc
  rcases hc with rfl
  ·exact ⟨C_BadText,hC_BadText,ex_BadText_BadText⟩
 obtain ⟨fd,F,hF⟩:=q_law.law (x:="_law_script") fun _ _ _ _ _ _ us hl => len1 us hl (fun _ => rfl)
 refine ⟨fd,hF,fun base KB _ => ?_⟩
 have O_BadText:=own_in KB e_BadText.ow (PySem.W.mg_of X G e_BadText.a)
 have b_all:=PySem.W.mg_none_of X G z_all
 have b_bool:=PySem.W.mg_none_of X G z_bool
 have b_enumerate:=PySem.W.mg_none_of X G z_enumerate
 have b_int:=PySem.W.mg_none_of X G z_int
 have b_isinstance:=PySem.W.mg_none_of X G z_isinstance
 have b_len:=PySem.W.mg_none_of X G z_len
 have b_list:=PySem.W.mg_none_of X G z_list
 have b_min:=PySem.W.mg_none_of X G z_min
 have b_range:=PySem.W.mg_none_of X G z_range
 have b_str:=PySem.W.mg_none_of X G z_str
 have b_tuple:=PySem.W.mg_none_of X G z_tuple
 have b_zip:=PySem.W.mg_none_of X G z_zip
 have G_l_cell_at:Fn P w K mg base C _ _ _:=ok_l_cell_at (q_l_cell_at.tf X G) b_len
 have G_l_draws:Fn P w K mg base C _ _ _:=ok_l_draws (q_l_draws.tf X G) b_len b_range G_l_cell_at
 have G_l_beginning:Fn P w K mg base C _ _ _:=ok_l_beginning (q_l_beginning.tf X G) b_int b_range
 have G_l_part:Fn P w K mg base C _ _ _:=ok_l_part (q_l_part.tf X G) b_str G_l_beginning
 have G_l_row:Fn P w K mg base C _ _ _:=ok_l_row (q_l_row.tf X G) b_enumerate G_l_part
 have G_l_written:Fn P w K mg base C _ _ _:=ok_l_written (q_l_written.tf X G) b_enumerate b_len
 have G_need_text:FnX P w K mg base C _ _ _ _:=fnx_mk X G q_need_text (ps:=["thing"]) (fun _ _ _ _ _ _ us hl => len1 us hl (fun _ => rfl)) fun _ F => ok_need_text F hC_BadText O_BadText b_isinstance b_str
 have G_words_of:Fn P w K mg base C _ _ _:=ok_words_of (q_words_of.tf X G)
 have G_form_of:Fn P w K mg base C _ _ _:=ok_form_of (q_form_of.tf X G) (globM_of X G v_FORMS) b_len
 have G_are_figures:Fn P w K mg base C _ _ _:=ok_are_figures (q_are_figures.tf X G) (PySem.W.mg_of X G v_FIGURES) b_all b_int b_len b_str
 have G_read_number:FnX P w K mg base C _ _ _ _:=fnx_mk X G q_read_number (ps:=["word","bounds"]) (fun _ _ _ _ _ _ us hl => len2 us hl (fun _ _ => rfl)) fun _ F => ok_read_number F hC_BadText O_BadText (PySem.W.mg_of X G v_MOST_FIGURES) b_int G_are_figures
 have G_read_beginning:FnX P w K mg base C _ _ _ _:=fnx_mk X G q_read_beginning (ps:=["text"]) (fun _ _ _ _ _ _ us hl => len1 us hl (fun _ => rfl)) fun _ F => ok_read_beginning F hC_BadText O_BadText (PySem.W.mg_of X G v_WIDTH) b_len
 have G_is_eight_bits:Fn P w K mg base C _ _ _:=ok_is_eight_bits (q_is_eight_bits.tf X G) b_int G_are_figures
 have G_read_address:FnX P w K mg base C _ _ _ _:=fnx_mk X G q_read_address (ps:=["text"]) (fun _ _ _ _ _ _ us hl => len1 us hl (fun _ => rfl)) fun _ F => ok_read_address F hC_BadText O_BadText b_all b_int b_len G_is_eight_bits
 have G_read_part:FnX P w K mg base C _ _ _ _:=fnx_mk X G q_read_part (ps:=["kind","word"]) (fun _ _ _ _ _ _ us hl => len2 us hl (fun _ _ => rfl)) fun _ F => ok_read_part F (globT_of X G v_BOUNDS) G_read_beginning G_read_address G_read_number
 have G_asked_by:FnX P w K mg base C _ _ _ _:=fnx_mk X G q_asked_by (ps:=["row"]) (fun _ _ _ _ _ _ us hl => len1 us hl (fun _ => rfl)) fun _ F => ok_asked_by F (PySem.W.mg_of X G e_BadText.a) tc_BadText b_tuple b_zip G_need_text G_words_of G_form_of G_read_part
 have G_l_whole:Fn P w K mg base C _ _ _:=ok_l_whole (q_l_whole.tf X G) b_bool b_int b_isinstance
 have G_l_alike:Fn P w K mg base C _ _ _:=ok_l_alike (q_l_alike.tf X G) b_all b_isinstance b_len b_list b_str b_tuple G_l_whole
 have G_l_wrong_word:Fn P w K mg base C _ _ _:=ok_l_wrong_word (q_l_wrong_word.tf X G)
 have G_l_spoilt:Fn P w K mg base C _ _ _:=ok_l_spoilt (q_l_spoilt.tf X G) b_len G_l_wrong_word
 exact (law_fn (C:=C) F b_len b_min b_range G_l_draws G_l_cell_at G_l_row G_l_written G_l_alike G_asked_by G_l_spoilt).imp fun vs H Q E h => h _
theorem walk {l:PySem.W.OpenLaw} {q:Program} {loose:List Str} {XP:(Str -> Option Value) -> Heap -> Prop} {YP:World -> Heap -> Prop} {d:DefRec} {K:Params -> PySem.W.Frag} (hn:l.most = some 63) (hdf:d.params.defaults = [])
  (hY:∀ (w:World) (h:Heap),YP w h -> (K w.params).In h) (holds:∀ ns:List Int,ns.length <= 63 -> ∃ Ω,d_law [.scr ns] [] = some (.bl true,Ω))
  (F:∀ (w:World) (mg:Str -> Option Value) (fa:Addr) (h:Heap),(K w.params).In h -> h.Ns mainGlobals mg -> mg d.name = some (.ref fa) ->
   ∃ fd:FuncData,(∀ (s:Shared) (u:Value),BindsTo s fd ⟨[u],[]⟩ [("_law_script",u)]) /\ ∀ base:Heap,(K w.params).In base -> base.Ns mainGlobals mg -> FnOk l.prog w (K w.params) mg base CX0 6 fa fd ["_law_script"] (spC (K w.params) d_law)) :
  PySem.W.WalkO q loose XP YP l.row.toRowW d [] (fun f vs => PySem.call f vs) :=
 L2.walk_of (n:=63) (k:=6) (x:="_law_script") (CX:=fun _ => CX0) (sp:=fun w => spC (K w.params) d_law) hn (by decide) hdf ⟨rfl,by decide,by decide,rfl⟩ hY F (fun _ _ a ns hl _ hS => law_okC hS (holds ns hl)) fun _ _ _ _ _ z => z
end Law
namespace PySem.W.Fast
theorem tw10358482886384945897:True:=⟨⟩
theorem tw10754411179967747246:True:=⟨⟩
theorem tw10767158394872611268:True:=⟨⟩
theorem tw10784358954707044603:True:=⟨⟩
theorem tw10908796787452914565:True:=⟨⟩
theorem tw11429244829484251868:True:=⟨⟩
theorem tw11575174254213531171:True:=⟨⟩
theorem tw11736279501574456848:True:=⟨⟩
theorem tw11803622456128927567:True:=⟨⟩
theorem tw12497733870703427208:True:=⟨⟩
theorem tw12834928692328164620:True:=⟨⟩
theorem tw13009859709147659347:True:=⟨⟩
theorem tw1401081713165014562:True:=⟨⟩
theorem tw14067830562172991113:True:=⟨⟩
theorem tw14191307024187663275:True:=⟨⟩
theorem tw14231862866707663888:True:=⟨⟩
theorem tw14307512222502292917:True:=⟨⟩
theorem tw14354411287072900763:True:=⟨⟩
theorem tw15015513704078628369:True:=⟨⟩
theorem tw15062091114683566243:True:=⟨⟩
theorem tw15204148004253279761:True:=⟨⟩
theorem tw1520687513968930820:True:=⟨⟩
theorem tw15402128011559393829:True:=⟨⟩
theorem tw1617439942856780766:True:=⟨⟩
theorem tw16350045372690324817:True:=⟨⟩
theorem tw16674719802863073683:True:=⟨⟩
theorem tw16848229258537880082:True:=⟨⟩
theorem tw16945918496982396688:True:=⟨⟩
theorem tw16958554284742347754:True:=⟨⟩
theorem tw17460410512952325317:True:=⟨⟩
theorem tw17865556681917163356:True:=⟨⟩
theorem tw17875729008993542456:True:=⟨⟩
theorem tw18075683967376474450:True:=⟨⟩
theorem tw185492158651480840:True:=⟨⟩
theorem tw185759721701692939:True:=⟨⟩
theorem tw1861969948602714511:True:=⟨⟩
theorem tw2127858033642220515:True:=⟨⟩
theorem tw2748710176117210728:True:=⟨⟩
theorem tw2957341779937906368:True:=⟨⟩
theorem tw3576383897963796505:True:=⟨⟩
theorem tw3937181616503777:True:=⟨⟩
theorem tw4090959494641781369:True:=⟨⟩
theorem tw4121740677464251225:True:=⟨⟩
theorem tw4215979018636110808:True:=⟨⟩
theorem tw475631140627179322:True:=⟨⟩
theorem tw4836613445878457908:True:=⟨⟩
theorem tw5687717515105516003:True:=⟨⟩
theorem tw5767571463824977969:True:=⟨⟩
theorem tw5771226746937929509:True:=⟨⟩
theorem tw6311792320501081242:True:=⟨⟩
theorem tw6365805295931021204:True:=⟨⟩
theorem tw6543660234468643943:True:=⟨⟩
theorem tw6610288562430238659:True:=⟨⟩
theorem tw7012292991590062067:True:=⟨⟩
theorem tw7164114150679778460:True:=⟨⟩
theorem tw7464616428426430378:True:=⟨⟩
theorem tw7751336436988429510:True:=⟨⟩
theorem tw775844792700982788:True:=⟨⟩
theorem tw8415856992049313764:True:=⟨⟩
theorem tw8626572562558935589:True:=⟨⟩
theorem tw8729985741250015658:True:=⟨⟩
theorem tw8748452428053439619:True:=⟨⟩
theorem tw8829654837654212666:True:=⟨⟩
theorem tw9433470478677643665:True:=⟨⟩
theorem tw9545437644881456631:True:=⟨⟩
theorem tw9852759610457213717:True:=⟨⟩
end PySem.W.Fast
open PySem PySem.W PyProof.Rows
set_option maxRecDepth 100000 in
set_option maxHeartbeats 0 in
theorem PySem.Challenge.cw_posthouse_k53_rows_read_holds : PySem.Challenge.rw_posthouse_k53_rows_read.Holds := by
 w_on; o_law; k_head; (case hw => w_witness2)
 k_fill
 refine Law.walk (l:=PySem.Challenge.rw_posthouse_k53_rows_read) rfl rfl (fun w h Y => PySem.W.kIn_of Y) Law.holds ?F
 case F =>
  intro w mg fa h KX G hmg
  refine' Law.all_mk KX G hmg ?q_l_cell_at ?q_l_draws ?q_l_beginning ?q_l_part ?q_l_row ?q_l_written ?q_need_text ?q_words_of ?q_form_of ?q_are_figures ?q_read_number ?q_read_beginning ?q_is_eight_bits ?q_read_address ?q_read_part ?q_asked_by ?q_l_whole ?q_l_alike ?q_l_wrong_word ?q_l_spoilt ?q_law ?e_BadText ?ex_BadText_BadText ?z_all ?z_bool ?z_enumerate ?z_int ?z_isinstance ?z_len ?z_list ?z_min ?z_range ?z_str ?z_tuple ?z_zip ?v_BOUNDS ?v_FIGURES ?v_FORMS ?v_MOST_FIGURES ?v_WIDTH
  (case q_l_cell_at | q_l_draws | q_l_beginning | q_l_part | q_l_row | q_l_written | q_need_text | q_words_of | q_form_of | q_are_figures | q_read_number | q_read_beginning | q_is_eight_bits | q_read_address | q_read_part | q_asked_by | q_l_whole | q_l_alike | q_l_wrong_word | q_l_spoilt | q_law => constructor; k_is; exact ⟨_,⟨_,_,_,_,_,_,_,_,_,rfl,by k_is,by k_is⟩⟩; k_is)
  (case e_BadText => constructor <;> first | k_is | kernel_rfl)
  (case ex_BadText_BadText | v_BOUNDS | v_FORMS => kernel_rfl)
  (case z_all | z_bool | z_enumerate | z_int | z_isinstance | z_len | z_list | z_min | z_range | z_str | z_tuple | z_zip | v_FIGURES | v_MOST_FIGURES | v_WIDTH => k_is)

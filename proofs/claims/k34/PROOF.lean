import PyProof.Rows.All
import Wide.All
import OpenK.AllK
import Wide.FinOn
import Lean
import PyProof.EqAt
import PyProof.EqKinds
import PyProof.TupleCall
import KE.KNest
import KE.KSortTup
import KE.KIntText
import KE.KTryMore
import PyProof.ExcArgs
import KE.KIsAll
import PyProof.ReprNest
import PyProof.NsMap
import PyProof.Rows.Own
import PyProof.ReprStr
import PyProof.ExcBaseAll.ValueError
import PyProof.FitsInt
import PyProof.ZipIter
import KE.KDictOf
import PyProof.AttrMissHeap
import PyProof.WalksEnum
import PyProof.EnumMake
import PySem.Challenge.RW_posthouse_k34_whole_ties_by_turns
set_option Elab.async false
set_option linter.all false
set_option maxRecDepth 100000
set_option genSizeOf false
set_option bootstrap.genMatcherCode false
namespace L2
open PySem PySem.Spec PyProof.Rows
noncomputable abbrev Key:=Sum Int Str
noncomputable def tU:Key->Value->Bool
 | .inl k,v=>Value.isInt k v
 | .inr x,v=>Value.isStrOf x v
noncomputable def Vc(w:World):Key->Int
 | .inl k=>hashInt k
 | .inr x=>hashStr w x
theorem cZ:∀{k:Key} {v:Value},tU k v=true->(∃i t,k=Sum.inl i/\v=Value.int i t)\/(∃x t,k=Sum.inr x/\v=Value.str x t)
 | .inl i,v,h=>by
  obtain⟨t,e⟩:=Value.isInt_shape (k:=i) (v:=v) h
  exact .inl ⟨i,t,rfl,e⟩
 | .inr x,v,h=>by
  obtain⟨t,e⟩:=Value.isStrOf_shape (x:=x) (v:=v) h
  exact .inr ⟨x,t,rfl,e⟩
theorem Fp(i:Int)(t:Tok):tU (.inl i) (.int i t)=true:=by simp[tU,Value.isInt]
theorem Fq(x:Str)(t:Tok):tU (.inr x) (.str x t)=true:=by simp[tU,Value.isStrOf]
theorem QG(a b:Int):decide ((Sum.inl a:Key)=Sum.inl b)=(a==b):=by
 by_cases e:a=b
 ·subst e;simp
 ·have h:¬(Sum.inl a:Key)=Sum.inl b:=fun q=>e (Sum.inl.inj q)
  rw[decide_eq_false h]
  exact(beq_eq_false_iff_ne.mpr e).symm
theorem QH(a b:Str):decide ((Sum.inr a:Key)=Sum.inr b)=decide (a=b):=by
 by_cases e:a=b
 ·subst e;simp
 ·have h:¬(Sum.inr a:Key)=Sum.inr b:=fun q=>e (Sum.inr.inj q)
  rw[decide_eq_false h,decide_eq_false e]
theorem QJ(a:Int)(b:Str):decide ((Sum.inl a:Key)=Sum.inr b)=false:=decide_eq_false (fun q=>nomatch q)
theorem QK(a:Str)(b:Int):decide ((Sum.inr a:Key)=Sum.inl b)=false:=decide_eq_false (fun q=>nomatch q)
noncomputable def cA(prog:Program)(w:World):PySem.KeyKind prog w Key where
 is:=tU
 hash:=Vc w
 inj:=fun v a b ha hb=>by
  rcases cZ ha with⟨i,t,rfl,rfl⟩ |⟨x,t,rfl,rfl⟩
  ·rcases cZ hb with⟨j,u,rfl,e⟩ |⟨y,u,rfl,e⟩
   ·injection e with e1 _;rw[e1]
   ·exact nomatch e
  ·rcases cZ hb with⟨j,u,rfl,e⟩ |⟨y,u,rfl,e⟩
   ·exact nomatch e
   ·injection e with e1 _;rw[e1]
 byValue:=fun k v h=>by
  rcases cZ h with⟨i,t,rfl,rfl⟩ |⟨x,t,rfl,rfl⟩<;>rfl
 pyHash:=fun hv h=>by
  rcases cZ hv with⟨i,t,rfl,rfl⟩ |⟨x,t,rfl,rfl⟩
  ·exact wpAny_pyHash_int h
  ·exact wpAny_pyHash_str h
 eqBool:=fun hu hv h=>by
  rcases cZ hu with⟨i,t,rfl,rfl⟩ |⟨x,t,rfl,rfl⟩
  ·rcases cZ hv with⟨j,u,rfl,rfl⟩ |⟨y,u,rfl,rfl⟩
   ·rw[QG] at h;exact wpAny_eqBool_int h
   ·rw[QJ] at h;exact SeqAt.EqAt.int_str i t y u _ _ _ _ h
  ·rcases cZ hv with⟨j,u,rfl,rfl⟩ |⟨y,u,rfl,rfl⟩
   ·rw[QK] at h;exact SeqAt.EqAt.str_int x t j u _ _ _ _ h
   ·rw[QH] at h;exact wpAny_eqBool_str h
 «strs»:=fun k x t v h=>by
  rcases cZ h with⟨i,u,rfl,e⟩ |⟨y,u,rfl,e⟩
  ·exact nomatch e
  ·injection e with e1 _
   subst e1
   cases v<;>rfl
theorem BP(prog:Program)(w:World)(i:Int)(t:Tok):(cA prog w).is (.inl i) (.int i t)=true:=Fp i t
theorem BR(prog:Program)(w:World)(x:Str)(t:Tok):(cA prog w).is (.inr x) (.str x t)=true:=Fq x t
end L2
namespace L2
open PySem PySem.Spec PyProof.Rows
inductive V where
 | non |bl (b:Bool) |int (i:Int) |str (x:Str) |byt (b:Array UInt8) |flt (b:UInt64) |ref (a:Addr) |ty (n:String)
 deriving DecidableEq
noncomputable def RelV:V->Value->Prop
 | .non,u=>u=Value.none
 | .bl b,u=>u=Value.bool b
 | .int i,u=>∃t,u=Value.int i t
 | .str x,u=>∃t,u=Value.str x t
 | .byt b,u=>∃t,u=Value.bytes b t
 | .flt b,u=>∃t,u=Value.float b t
 | .ref a,u=>u=Value.ref a
 | .ty n,u=>u=Value.type n
noncomputable abbrev Vals:List V->List Value->Prop:=Paired RelV
theorem Vals.length{xs:List V}{us:List Value}(r:Vals xs us):xs.length=us.length:=Paired.length r
theorem Vals.get:∀{xs:List V} {us:List Value} {i:Nat} {x:V},Vals xs us->xs[i]? = some x->∃u,us[i]? = some u/\RelV x u
 | _,_,_,_,.nil,e=>by simp at e
 | _,_,0,_,.cons r _,e=>by simp at e;subst e;exact⟨_,rfl,r⟩
 | _,_,i+1,x,.cons _ t,e=>by
  obtain⟨u,h1,h2⟩:=Vals.get (i:=i) (x:=x) t (by simpa using e)
  exact⟨u,by simpa using h1,h2⟩
theorem Vals.set{x:V}{u:Value}(r:RelV x u):∀{xs:List V} {us:List Value} (i:Nat),Vals xs us->Vals (xs.set i x) (us.set i u)
 | _,_,_,.nil=>.nil
 | _,_,0,.cons _ t=>.cons r t
 | _,_,i+1,.cons q t=>.cons q (Vals.set r i t)
theorem Vals.append:∀{xs ys:List V} {us ws:List Value},Vals xs us->Vals ys ws->Vals (xs++ys) (us++ws)
 | _,_,_,_,.nil,s=>s
 | _,_,_,_,.cons r t,s=>.cons r (Vals.append t s)
theorem Vals.take:∀{xs:List V} {us:List Value} (n:Nat),Vals xs us->Vals (xs.take n) (us.take n)
 | _,_,0,_=>.nil
 | _,_,_+1,.nil=>.nil
 | _,_,n+1,.cons r t=>.cons r (Vals.take n t)
theorem Vals.drop:∀{xs:List V} {us:List Value} (n:Nat),Vals xs us->Vals (xs.drop n) (us.drop n)
 | _,_,0,r=>r
 | _,_,_+1,.nil=>.nil
 | _,_,n+1,.cons _ t=>Vals.drop n t
noncomputable def gW:Option V->Option Value->Prop
 | some v,some u=>RelV v u
 | none,none=>True
 | _,_=>False
noncomputable def KV{κ:Type}:List (κ×V)->List (κ×Value)->Prop:=Paired fun(p:κ×V) (q:κ×Value)=>p.1=q.1/\RelV p.2 q.2
noncomputable def kV:Key->V
 | .inl i=>.int i
 | .inr x=>.str x
inductive HO where
  | lst (xs:List V)
  | tup (xs:List V)
  | dK (kvs:List (Key×V)) |dT (kvs:List (List Key×V))
  | set (S:Int->Bool) (n:Nat)
  | ins (C dx:Addr) (fs:List (Str×V))
  | own (x:Addr)
  | xd (fs:List (Str×V))
  | met (f x:Addr)
  | rng (lo hi:Int)
  | frz (o:Obj) (u:HO)
  | tbl (ps:Array Value)
  | ext (φ:Heap->Prop)
noncomputable abbrev Hp:=Addr->Option HO
noncomputable def upd(H:Hp)(a:Addr)(o:HO):Hp:=fun b=>if b=a then some o else H b
theorem aJ{H:Hp}{a:Addr}{o:HO}:upd H a o a=some o:=by unfold upd;rw[if_pos rfl]
theorem aC{H:Hp}{a b:Addr}{o:HO}(h:b≠a):upd H a o b=H b:=by unfold upd;rw[if_neg h]
theorem zg{H:Hp}{a b:Addr}{o u:HO}(h:H a=some o)(h':H b=some u)(d:o≠u):a≠b:=by
 intro e;subst e;rw[h] at h';exact d (Option.some.inj h')
theorem aM{H:Hp}{a b:Addr}{o:HO}(h:H a=some o)(h':H b=none):a≠b:=by
 intro e;subst e;rw[h] at h';cases h'
section
variable (P:Program) (w:World)
noncomputable def bI(H:Hp)(h:Heap)(a:Addr):HO->Prop
 | .lst xs=>xs.length<=sizeLine/\∃(its:List Value) (n:Nat),Vals xs its/\h.get? a=some { cls:=.type "list",data:=.seq its.toArray n }
 | .tup xs=>xs.length<=sizeLine/\∃its:List Value,Vals xs its/\IsTup h a its.toArray
 | .dK kvs=>kvs.length<=sizeLine/\(a==sysModules)=false/\∃vs,KV kvs vs/\h.DictOf (cA P w) a vs
 | .dT kvs=>kvs.length<=sizeLine/\(a==sysModules)=false/\∃xs:List (List Key×Addr×Value),
   Paired (fun(p:List Key×V) (q:List Key×Addr×Value)=>p.1=q.1/\H q.2.1=some (.tup (p.1.map kV))/\RelV p.2 q.2.2) kvs xs /\
   ∃o es ep,h.get? a=some o/\o.ExactDict/\o.data=.dict es ep/\es.toList=xs.map (entryOfKey (tupleKind (cA P w)))/\(xs.map (·.1)).Nodup
 | .set S n=>h.SetOf (intKind P w) a S n
 | .ins C dx fs=>H dx=some (.own a)/\fs.length<=1000/\dx≠a/\h.get? a=some (PySem.W.instObj C dx) /\
   ∃mA,h.Ns1 dx mA/\(∀f,gW (fs.lookup f) (mA f))/\PySem.Within mA (fs.map (·.1))
 | .own _=>∃o,h.get? a=some o
 | .xd fs=>∃mA,h.Ns1 a mA/\∀f,gW (fs.lookup f) (mA f)
 | .rng lo hi=>∃t u v,h.get? a=some { cls:=.type "range",data:=.fields #[.int lo t,.int hi u,.int 1 v] }
 | .frz o u=>h.get? a=some o/\bI H h a u
 | .tbl ps=>h.get? a=some { cls:=.none,data:=.fields ps }
 | .met f x=>h.get? a=some (PySem.W.methodObj (.ref f) (.ref x))
 | .ext φ=>φ h/\(∃o,h.get? a=some o)/\∀h1 h2:Heap,φ h1->(∀o,h1.get? a=some o->h2.get? a=some o)->φ h2
noncomputable def HOk(H:Hp)(h:Heap):Prop:=∀a o,H a=some o->bI P w H h a o
end
section
variable {P:Program} {w:World} {H H':Hp} {h h':Heap} {a:Addr} {o:HO}
theorem bI.lt(x:bI P w H h a o):a<h.objs.size:=by
 cases o with
 | lst xs=>obtain⟨_,_,_,_,e⟩:=x;exact Heap.lt_size e
 | tup xs=>obtain⟨_,_,_,p⟩:=x;exact p.lt
 | dK kvs=>obtain⟨_,_,_,_,o,_,_,e,_⟩:=x;exact Heap.lt_size e
 | dT kvs=>obtain⟨_,_,_,_,o,_,_,e,_⟩:=x;exact Heap.lt_size e
 | set S n=>obtain⟨o,_,_,_,e,_⟩:=x;exact Heap.lt_size e
 | ins C dx fs=>obtain⟨_,_,_,e,_⟩:=x;exact Heap.lt_size e
 | own y=>obtain⟨_,e⟩:=x;exact Heap.lt_size e
 | xd fs=>obtain⟨_,⟨_,_,_,e,_⟩,_⟩:=x;exact Heap.lt_size e
 | rng lo hi=>obtain⟨_,_,_,e⟩:=x;exact Heap.lt_size e
 | frz ob u=>obtain⟨e,_⟩:=x;exact Heap.lt_size e
 | tbl ps=>exact Heap.lt_size (show h.get? a=some _ from x)
 | met f y=>exact Heap.lt_size (show h.get? a=some _ from x)
 | ext φ=>obtain⟨_,⟨_,e⟩,_⟩:=x;exact Heap.lt_size e
theorem Paired.mapP{α β:Type}{F G:α->β->Prop}:∀{l₁:List α} {l₂:List β},Paired F l₁ l₂->(∀a b,F a b->G a b)->Paired G l₁ l₂
 | _,_,.nil,_=>.nil
 | _,_,.cons r t,f=>.cons (f _ _ r) (Paired.mapP t f)
theorem bI.stay(x:bI P w H h a o)(k:∀b u,(b=a\/H b=some (.own a))->h.get? b=some u->h'.get? b=some u)
  (ho:∀b,H b=some (.own a)->H' b=some (.own a)) (ht:∀b xs,H b=some (.tup xs)->H' b=some (.tup xs)):bI P w H' h' a o:=by
 induction o with
 | lst xs=>obtain⟨z,its,n,r,e⟩:=x;exact⟨z,its,n,r,k _ _ (.inl rfl) e⟩
 | tup xs=>obtain⟨z,its,r,ob,e,c⟩:=x;exact⟨z,its,r,ob,k _ _ (.inl rfl) e,c⟩
 | dK kvs=>obtain⟨z,y,vs,r,ob,es,ep,e,c⟩:=x;exact⟨z,y,vs,r,ob,es,ep,k _ _ (.inl rfl) e,c⟩
 | dT kvs =>
  obtain⟨z,y,xs,r,ob,es,ep,e,c⟩:=x
  exact⟨z,y,xs,Paired.mapP r fun p q z=>⟨z.1,ht _ _ z.2.1,z.2.2⟩,ob,es,ep,k _ _ (.inl rfl) e,c⟩
 | set S n=>obtain⟨ob,es,ep,t,e,c⟩:=x;exact⟨ob,es,ep,t,k _ _ (.inl rfl) e,c⟩
 | ins C dx fs =>
  obtain⟨d,z,ne,e,mA,⟨od,es,ep,e2,c⟩,r⟩:=x
  exact⟨ho _ d,z,ne,k _ _ (.inl rfl) e,mA,⟨od,es,ep,k _ _ (.inr d) e2,c⟩,r⟩
 | own y=>obtain⟨ob,e⟩:=x;exact⟨ob,k _ _ (.inl rfl) e⟩
 | xd fs=>obtain⟨mA,⟨od,es,ep,e,c⟩,r⟩:=x;exact⟨mA,⟨od,es,ep,k _ _ (.inl rfl) e,c⟩,r⟩
 | rng lo hi=>obtain⟨t,u,v,e⟩:=x;exact⟨t,u,v,k _ _ (.inl rfl) e⟩
 | frz ob u ih=>obtain⟨e,q⟩:=x;exact⟨k _ _ (.inl rfl) e,ih q⟩
 | tbl ps =>
  have e:h.get? a=some { cls:=.none,data:=.fields ps }:=x
  show h'.get? a=some { cls:=.none,data:=.fields ps }
  exact k a _ (.inl rfl) e
 | met f y =>
  have e:h.get? a=some (PySem.W.methodObj (.ref f) (.ref y)):=x
  show h'.get? a=some (PySem.W.methodObj (.ref f) (.ref y))
  exact k a _ (.inl rfl) e
 | ext φ=>obtain⟨p,⟨o,e⟩,st⟩:=x;exact⟨st _ _ p fun o q=>k _ _ (.inl rfl) q,⟨o,k _ _ (.inl rfl) e⟩,st⟩
theorem HOk.lt(x:HOk P w H h)(e:H a=some o):a<h.objs.size:=(x a o e).lt
theorem HOk.fresh(x:HOk P w H h)(e:h.objs.size<=a):H a=none:=by
 cases q:H a with
 | none=>rfl
 | some u=>exact absurd (Nat.lt_of_lt_of_le (x.lt q) e) (Nat.lt_irrefl _)
theorem HOk.kept(x:HOk P w H h)(k:∀b u,h.get? b=some u->h'.get? b=some u):HOk P w H h':=fun a o e =>
 (x a o e).stay (fun b u _ q=>k b u q) (fun _ q=>q) fun _ _ q=>q
theorem HOk.laid(x:HOk P w H h)(k:∀b u,h.get? b=some u->h'.get? b=some u)(hp:h.objs.size<=a)(new:bI P w (upd H a o) h' a o):HOk P w (upd H a o) h':=fun b u e=>by
 have hn:=x.fresh hp
 by_cases hb:b=a
 ·subst hb;rw[aJ] at e;cases e;exact new
 ·rw[aC hb] at e
  exact(x b u e).stay (fun c v _ q=>k c v q) (fun c q=>by rw[aC (aM q hn)];exact q) fun c xs q=>by rw[aC (aM q hn)];exact q
end
noncomputable def Rd(H:Hp)(a:Addr)(u:HO):Prop:=H a=some u\/∃o,H a=some (.frz o u)
theorem Rd.ok{P:Program}{w:World}{H:Hp}{h:Heap}{a:Addr}{u:HO}(r:Rd H a u)(x:HOk P w H h):bI P w H h a u:=by
 rcases r with r |⟨o,r⟩
 ·exact x a u r
 ·obtain⟨_,q⟩:=x a _ r
  exact q
noncomputable def Mut:Option HO->Prop
 | some (.lst _)=>True
 | some (.dK _)=>True
 | some (.dT _)=>True
 | some (.set _ _)=>True
 | some (.ins _ _ _)=>True
 | some (.ext _)=>True
 | _=>False
section
variable {P:Program} {w:World} {H:Hp} {h h':Heap} {x e:Addr} {o':HO}
theorem HOk.write(ok:HOk P w H h)(mu:Mut (H x))(he:e=x\/H e=some (.own x))(k:∀b u,b≠e->h.get? b=some u->h'.get? b=some u)(heo:∃u,h'.get? e=some u)
  (new:bI P w (upd H x o') h' x o'):HOk P w (upd H x o') h':=fun b u q=>by
 have nown:∀c y,H c=some (.own y)->c≠x:=fun c y r z=>by subst z;rw[r] at mu;exact mu
 have ntup:∀c xs,H c=some (.tup xs)->c≠x:=fun c xs r z=>by subst z;rw[r] at mu;exact mu
 by_cases hb:b=x
 ·subst hb;rw[aJ] at q;cases q;exact new
 ·rw[aC hb] at q
  by_cases hbe:b=e
  ·have q':H b=some (.own x):=by
    rcases he with z |z
    ·exact absurd (hbe.trans z) hb
    ·rw[hbe];exact z
   rw[q] at q';cases q'
   obtain⟨v,hv⟩:=heo
   exact⟨v,by rw[hbe];exact hv⟩
  ·refine(ok b u q).stay (fun c v hc r=>k c v ?_ r) (fun c r=>by rw[aC (nown c b r)];exact r) fun c xs r=>by rw[aC (ntup c xs r)];exact r
   rcases hc with rfl |hc
   ·exact hbe
   ·rintro rfl
    rcases he with z |z
    ·exact nown c b hc z
    ·rw[hc] at z;cases z;exact hb rfl
end
structure Un(fs ex:List Addr)(H H':Hp)(h h':Heap):Prop where
 keep:∀b o,h.get? b=some o->H b=none->b∉fs->b∉ex->h'.get? b=some o
 slot:∀b o,h.get? b=some o->H b=none->b∈fs->b∉ex->∃sl,h'.get? b=some { o with slots:=sl }
 free:∀b o,h.get? b=some o->H b=none->b∉ex->H' b=none
 there:∀b o,h.get? b=some o->b∉ex->∃o',h'.get? b=some o'
 tups:∀b xs,H b=some (.tup xs)->H' b=some (.tup xs)
 frzs:∀b o u,H b=some (.frz o u)->H' b=some (.frz o u)
 tbls:∀b ps,H b=some (.tbl ps)->∃more,H' b=some (.tbl (ps++more))
section
variable {fs fs' ex ex':List Addr} {H H1 H2:Hp} {h h1 h2 h':Heap} {a x e:Addr} {o:HO}
theorem Un.any(u:Un fs ex H H1 h h1){b:Addr}{ob:Obj}(q:h.get? b=some ob)(n:H b=none)(hx:b∉ex):∃sl,h1.get? b=some { ob with slots:=sl }:=by
 by_cases hb:b∈fs
 ·exact u.slot b ob q n hb hx
 ·exact⟨ob.slots,u.keep b ob q n hb hx⟩
theorem Un.kept(k:∀b u,h.get? b=some u->h'.get? b=some u):Un fs ex H H h h' :=
 ⟨fun b ob q _ _ _=>k b ob q,fun b ob q _ _ _=>⟨ob.slots,k b ob q⟩,fun _ _ _ n _=>n,fun b ob q _=>⟨ob,k b ob q⟩,fun _ _ q=>q,fun _ _ _ q=>q,fun _ ps q=>⟨#[],by rw[q];simp⟩⟩
theorem Un.refl:Un fs ex H H h h:=Un.kept fun _ _ q=>q
theorem Un.laid(k:∀b u,h.get? b=some u->h'.get? b=some u)(hp:h.objs.size<=a)(hn:H a=none):Un fs ex H (upd H a o) h h' where
 keep:=fun b u q _ _ _=>k b u q
 slot:=fun b u q _ _ _=>⟨u.slots,k b u q⟩
 free:=fun b u q n _=>by rw[aC (Nat.ne_of_lt (Nat.lt_of_lt_of_le (Heap.lt_size q) hp))];exact n
 there:=fun b u q _=>⟨u,k b u q⟩
 tups:=fun b xs q=>by rw[aC (aM q hn)];exact q
 frzs:=fun b u xs q=>by rw[aC (aM q hn)];exact q
 tbls:=fun b ps q=>⟨#[],by rw[aC (aM q hn),q];simp⟩
theorem Un.write(mu:Mut (H x))(he:e=x\/H e=some (.own x))(k:∀b u,b≠e->h.get? b=some u->h'.get? b=some u)(heo:∃u,h'.get? e=some u):Un fs ex H (upd H x o) h h':=by
 have hx:∀b,H b=none->b≠x:=fun b n z=>by subst z;rw[n] at mu;exact mu
 have hb:∀b,H b=none->b≠e:=fun b n z=>by
  subst z
  rcases he with r |r
  ·exact hx b n r
  ·rw[n] at r;cases r
 have hm:∀b u,H b=some u->¬Mut (some u)->b≠x:=fun b u q nm z=>by subst z;rw[q] at mu;exact nm mu
 refine⟨fun b u q n _ _=>k b u (hb b n) q,fun b u q n _ _=>⟨u.slots,k b u (hb b n) q⟩,fun b u q n _=>by rw[aC (hx b n)];exact n,fun b u q _=>?_,
  fun b xs q=>by rw[aC (hm b _ q fun z=>z)];exact q,fun b u xs q=>by rw[aC (hm b _ q fun z=>z)];exact q,fun b ps q=>⟨#[],by rw[aC (hm b _ q fun z=>z),q];simp⟩⟩
 by_cases hbe:b=e
 ·subst hbe;exact heo
 ·exact⟨u,k b u hbe q⟩
end
noncomputable def trk(h:Heap)(H:Hp):List Addr:=(List.range h.objs.size).filter fun a=>(H a).isSome
noncomputable def qO(h:Heap)(H:Hp):Heap:=PySem.W.hideAll h (trk h H)
theorem Ft(h:Heap)(H:Hp):(qO h H).objs.size=h.objs.size:=PySem.W.hideAll_size _ _
theorem I_{h:Heap}{H:Hp}{b:Addr}{o:Obj}(e:h.get? b=some o)(n:H b=none):(qO h H).get? b=some o :=
 PySem.W.hideAll_get _ e fun hm=>by
  have q:(H b).isSome=true:=(List.mem_filter.mp hm).2
  rw[n] at q;simp at q
theorem MT{h:Heap}{H:Hp}{b:Addr}{o:Obj}(e:(qO h H).get? b=some o):h.get? b=some o/\H b=none:=by
 have e':h.get? b=some o:=PySem.W.of_hideAll (trk h H) e
 refine⟨e',?_⟩
 cases q:H b with
 | none=>rfl
 | some x =>
  have hm:b∈trk h H:=List.mem_filter.mpr ⟨List.mem_range.mpr (Heap.lt_size e'),by simp[q]⟩
  have z:(qO h H).get? b=none:=PySem.W.hideAll_none (trk h H) hm
  rw[z] at e;cases e
noncomputable def M_(g h:Heap)(L:Addr):List (Addr×Obj):=(List.range h.objs.size).filterMap fun a=>if a=L\/(g.get? a).isSome=true then none else(h.get? a).map fun o=>(a,o)
noncomputable def rest(g h:Heap)(L d:Addr):List (Addr×Obj):=(M_ g h L).filter fun p=>decide (p.1≠d)
end L2
namespace L2
open PySem PySem.Spec PyProof.Rows
structure Mod(K:PySem.W.Frag)(mg:Str->Option Value)(base:Heap):Prop where
 kin:K.In base
 glob:base.Ns mainGlobals mg
 blt:∃mb,base.Ns builtinsNs mb/\∀x:Str,x ≠ "__name__" -> mb x=bootBuiltins x
 nolimit:base.NoLimit
structure Cx where
 prog:Program
 w:World
 K:PySem.W.Frag
 mg:Str->Option Value
 base:Heap
 A:Around
 N:List Str
 s₀:Shared
 H₀:Hp
 env:Env
 outer:List Env
 stack:List Env
 ex:List Addr
 fn:Str->Bool
 calm:Bool
 pn:List (Addr×Obj)
 xe:Value->Shared->Prop
noncomputable def frs(l:List Env):List Addr:=l.filterMap (·.frame)
noncomputable abbrev Cx.fs(X:Cx):List Addr:=frs X.outer
noncomputable def Vis(sc:Scope)(x:Str):Prop:=sc.names.lookup x=some .local\/sc.names.lookup x=some .cell\/sc.names.lookup x=some .free
noncomputable def Loc(sc:Scope)(x:Str):Prop:=sc.names.lookup x=some .local\/sc.names.lookup x=some .cell
noncomputable def Look(env:Env)(h:Heap)(m:Str->Option Value)(x:Str)(u:Value):Prop :=
 (env.kindOf x=some .local/\m x=some u)\/((env.kindOf x=some .cell\/env.kindOf x=some .free)/\∃c,env.cells.lookup x=some c/\h.IsCell c (some u))
structure Cx.Ok(X:Cx):Prop where
 mod:Mod X.K X.mg X.base
 kind:X.env.scope.kind=.function
 glob:X.env.globals=mainGlobals
 blt:X.env.builtins=builtinsNs
 above:X.s₀.heap.objs.size<=X.env.locals
 inj:∀x y c,X.env.cells.lookup x=some c->X.env.cells.lookup y=some c->x=y
 has:∀x,(X.env.kindOf x=some .cell\/X.env.kindOf x=some .free)->∃c,X.env.cells.lookup x=some c
 cab:∀x c,X.fn x=true->X.env.cells.lookup x=some c->X.s₀.heap.objs.size<=c
 hd:X.calm=true->X.A.handled=none
 frames:X.A.frames=some X.stack
 stk:X.stack=X.outer\/(X.stack=X.env::X.outer/\X.env.frame=some X.env.locals)
 exf:∀b∈X.ex,b≠X.env.locals/\∀x c,X.env.cells.lookup x=some c->c≠b
 bs:∀b o,X.base.get? b=some o->X.s₀.heap.get? b=some o/\X.H₀ b=none
 bsz:X.base.objs.size<=X.s₀.heap.objs.size
 noex:∀b o,X.base.get? b=some o->b∉X.ex
 exfs:∀b∈X.ex,b∉X.fs
 funs:X.s₀.heap.FunFrames X.base X.outer
 frf:∀b∈X.fs,X.H₀ b=none
structure Inv(X:Cx)(pins:List (Addr×Obj))(σ:List (Option V))(H:Hp)(s:Shared):Prop where
 ok:X.Ok
 os:s.os=X.s₀.os
 bare:AllBare s.gens
 base:Un X.fs X.ex X.H₀ H X.s₀.heap s.heap
 loc:∃m,s.heap.Ns X.env.locals m/\∀(i:Nat) (x:Str) (v:V),X.N[i]? = some x->σ[i]? = some (some v)->Vis X.env.scope x->∃u,RelV v u/\Look X.env s.heap m x u
 cell:∀x c,X.env.cells.lookup x=some c->∃v,s.heap.IsCell c v
 free:H X.env.locals=none
 freeC:∀x c,X.env.cells.lookup x=some c->H c=none\/(X.fn x=false/\∃o b,H c=some (.frz o (.own b)))
 pin:∀p∈X.pn++pins,s.heap.get? p.1=some p.2/\H p.1=none/\p.1≠X.env.locals/\p.1∉X.fs/\∀v,p.2.data ≠ .cell v
 hok:HOk X.prog X.w H s.heap
 len:σ.length=X.N.length
section
variable {X:Cx} {pins:List (Addr×Obj)} {σ:List (Option V)} {H H':Hp} {s:Shared} {h':Heap}
theorem Cx.Ok.nofr(ok:X.Ok){b:Addr}{o:Obj}(e:X.base.get? b=some o):b∉X.fs:=fun hb=>by
 have:=(ok.funs.mem hb).1
 rw[e] at this;cases this
theorem Inv.bs(I:Inv X pins σ H s):∀b o,X.base.get? b=some o->s.heap.get? b=some o/\H b=none:=fun b o e =>
 ⟨I.base.keep b o (I.ok.bs b o e).1 (I.ok.bs b o e).2 (I.ok.nofr e) (I.ok.noex b o e),I.base.free b o (I.ok.bs b o e).1 (I.ok.bs b o e).2 (I.ok.noex b o e)⟩
theorem Inv.bk(I:Inv X pins σ H s):∀b o,X.base.get? b=some o->s.heap.get? b=some o:=fun b o e=>(I.bs b o e).1
theorem Inv.mod(I:Inv X pins σ H s):Mod X.K X.mg X.base:=I.ok.mod
theorem Inv.kIn(I:Inv X pins σ H s):X.K.In s.heap:=I.ok.mod.kin.keeps I.bk
theorem Inv.lt(I:Inv X pins σ H s):X.env.locals<s.heap.objs.size:=let⟨_,hn,_⟩:=I.loc;hn.lt
theorem Inv.sz(I:Inv X pins σ H s):X.s₀.heap.objs.size<=s.heap.objs.size:=Nat.le_trans I.ok.above (Nat.le_of_lt I.lt)
theorem Inv.nofs(I:Inv X pins σ H s){a:Addr}(h:s.heap.objs.size<=a):a∉X.fs:=fun hb=>by
 obtain⟨_,o,ho,_⟩:=I.ok.funs.mem hb
 exact absurd (Nat.lt_of_lt_of_le (Heap.lt_size ho) (Nat.le_trans I.sz h)) (Nat.lt_irrefl _)
theorem Inv.cne(I:Inv X pins σ H s):∀x c,X.env.cells.lookup x=some c->c≠X.env.locals:=fun x c e z=>by
 obtain⟨v,o,ho,hd⟩:=I.cell x c e
 obtain⟨m,⟨o',es,ep,ho',hd',_⟩,_⟩:=I.loc
 rw[z,ho'] at ho;cases ho;rw[hd'] at hd;cases hd
theorem Inv.funs(I:Inv X pins σ H s):s.heap.FunFrames X.base X.outer:=by
 have all:∀(l:List Env),(∀b∈frs l,b∈X.fs)->X.s₀.heap.FunFrames X.base l->s.heap.FunFrames X.base l:=by
  intro l
  induction l with
  | nil=>intro _ _;trivial
  | cons env r ih =>
   intro hs hl
   obtain⟨hk,⟨L,o,hf,hn,ho,hd⟩,hr⟩:=hl
   have hL:L∈X.fs:=hs L (by unfold frs;rw[List.filterMap_cons,hf];exact List.mem_cons_self)
   obtain⟨sl,e⟩:=I.base.slot L o ho (I.ok.frf L hL) hL fun z=>I.ok.exfs L z hL
   exact⟨hk,⟨L,_,hf,hn,e,hd⟩,ih (fun b hb=>hs b (by unfold frs;rw[List.filterMap_cons,hf];exact List.mem_cons_of_mem _ hb)) hr⟩
 exact all X.outer (fun _ hb=>hb) I.ok.funs
theorem Inv.stack(I:Inv X pins σ H s):s.heap.FunFrames X.base X.stack:=by
 rcases I.ok.stk with e |⟨e,hf⟩
 ·rw[e];exact I.funs
 ·rw[e]
  obtain⟨m,hn,_⟩:=I.loc
  refine .cons (by rw[I.ok.kind];decide) hf hn ?_ I.funs
  exact Heap.get?_none_of_le (Nat.le_trans I.ok.bsz I.ok.above)
theorem Inv.stkSub(I:Inv X pins σ H s):∀b∈frs X.stack,b∈X.env.locals::X.fs:=fun b hb=>by
 rcases I.ok.stk with e |⟨e,hf⟩
 ·rw[e] at hb;exact List.mem_cons_of_mem _ hb
 ·rw[e] at hb
  unfold frs at hb
  rw[List.filterMap_cons,hf] at hb
  exact hb
theorem Inv.stkFree(I:Inv X pins σ H s):∀b∈frs X.stack,H b=none:=fun b hb=>by
 rcases List.mem_cons.mp (I.stkSub b hb) with e |hb
 ·rw[e];exact I.free
 ·obtain⟨_,o,ho,_⟩:=I.ok.funs.mem hb
  exact I.base.free b o ho (I.ok.frf b hb) fun z=>I.ok.exfs b z hb
theorem Inv.step{g':Array GenState}{t':Nat}{d':Drawn}{ch:List Addr}(I:Inv X pins σ H s)
  (hch:∀b∈ch,(b∈X.ex\/X.s₀.heap.objs.size<=b)/\b≠X.env.locals/\(∀x c,X.env.cells.lookup x=some c->c≠b)/\∀p∈X.pn++pins,p.1≠b)
  (keep:∀b o,b≠X.env.locals->b∉X.fs->b∉ch->s.heap.get? b=some o->H b=none->h'.get? b=some o)
  (slot:∀b o,b≠X.env.locals->b∈X.fs->b∉ch->s.heap.get? b=some o->H b=none->∃sl,h'.get? b=some { o with slots:=sl }) (free:∀b o,b∉ch->s.heap.get? b=some o->H b=none->H' b=none)
  (there:∀b o,b∉ch->s.heap.get? b=some o->∃o',h'.get? b=some o')
  (tups:∀b xs,H b=some (.tup xs)->H' b=some (.tup xs)) (frzs:∀b o u,H b=some (.frz o u)->H' b=some (.frz o u)) (tbls:∀b ps,H b=some (.tbl ps)->∃more,H' b=some (.tbl (ps++more)))
  (ns:∀m,s.heap.Ns X.env.locals m->h'.Ns X.env.locals m) (hok:HOk X.prog X.w H' h') (hg:AllBare g') :
  Inv X pins σ H' { s with heap:=h',gens:=g',drawn:=d',toks:=t' }:=by
 have neL:∀b o,X.s₀.heap.get? b=some o->b≠X.env.locals:=fun b o e=>Nat.ne_of_lt (Nat.lt_of_lt_of_le (Heap.lt_size e) I.ok.above)
 have neC:∀b o,X.s₀.heap.get? b=some o->b∉X.ex->b∉ch:=fun b o e hx hb=>by
  rcases (hch b hb).1 with z |z
  ·exact hx z
  ·exact absurd (Nat.lt_of_lt_of_le (Heap.lt_size e) z) (Nat.lt_irrefl _)
 have cellK:∀x c,X.env.cells.lookup x=some c->∀v,s.heap.IsCell c v->h'.IsCell c v:=fun x c e v hw'=>by
  obtain⟨o,ho,hd⟩:=hw'
  have nch:c∉ch:=fun z=>(hch c z).2.2.1 x c e rfl
  rcases I.freeC x c e with fc |⟨_,o1,b1,fc⟩
  ·by_cases hc:c∈X.fs
   ·obtain⟨sl,q⟩:=slot c o (I.cne x c e) hc nch ho fc
    exact⟨_,q,hd⟩
   ·exact⟨o,keep c o (I.cne x c e) hc nch ho fc,hd⟩
  ·obtain⟨e1,_⟩:=I.hok c _ fc
   obtain⟨e2,_⟩:=hok c _ (frzs c _ _ fc)
   rw[ho] at e1
   cases e1
   exact⟨o,e2,hd⟩
 refine⟨I.ok,I.os,hg,⟨fun b o e n hb hx=>?_,fun b o e n hb hx=>?_,fun b o e n hx=>?_,fun b o e hx=>?_,fun b xs e=>tups b xs (I.base.tups b xs e),fun b o xs e=>frzs b o xs (I.base.frzs b o xs e),fun b ps e=>?_⟩,?_,fun x c e=>?_,?_,fun x c e=>?_,fun p hp=>?_,hok,I.len⟩
 ·exact keep b o (neL b o e) hb (neC b o e hx) (I.base.keep b o e n hb hx) (I.base.free b o e n hx)
 ·obtain⟨sl,e1⟩:=I.base.slot b o e n hb hx
  obtain⟨sl',e2⟩:=slot b _ (neL b o e) hb (neC b o e hx) e1 (I.base.free b o e n hx)
  exact⟨sl',e2⟩
 ·obtain⟨o',e1⟩:=I.base.there b o e hx
  exact free b o' (neC b o e hx) e1 (I.base.free b o e n hx)
 ·obtain⟨o',e1⟩:=I.base.there b o e hx
  exact there b o' (neC b o e hx) e1
 ·obtain⟨m1,e1⟩:=I.base.tbls b ps e
  obtain⟨m2,e2⟩:=tbls b _ e1
  exact⟨m1++m2,by rw[e2,Array.append_assoc]⟩
 ·obtain⟨m,hn,hl⟩:=I.loc
  refine⟨m,ns m hn,fun i x v e1 e2 e3=>?_⟩
  obtain⟨u,r,l⟩:=hl i x v e1 e2 e3
  refine⟨u,r,?_⟩
  rcases l with l |⟨k,c,e,z⟩
  ·exact .inl l
  ·exact .inr ⟨k,c,e,cellK x c e _ z⟩
 ·obtain⟨v,z⟩:=I.cell x c e
  exact⟨v,cellK x c e v z⟩
 ·obtain⟨m,⟨o,_,_,ho,_⟩,_⟩:=I.loc
  exact free _ o (fun z=>(hch _ z).2.1 rfl) ho I.free
 ·obtain⟨v,o,ho,hd⟩:=I.cell x c e
  rcases I.freeC x c e with fc |⟨q1,o1,b1,fc⟩
  ·exact .inl (free c o (fun z=>(hch c z).2.2.1 x c e rfl) ho fc)
  ·exact .inr ⟨q1,o1,b1,frzs _ _ _ fc⟩
 ·obtain⟨e,n,ne,nf,d⟩:=I.pin p hp
  have nch:p.1∉ch:=fun z=>(hch p.1 z).2.2.2 p hp rfl
  exact⟨keep p.1 p.2 ne nf nch e n,free p.1 p.2 nch e n,ne,nf,d⟩
theorem Inv.un{t':Nat}(I:Inv X pins σ H s)(u:Un X.fs [] H H' s.heap h')(hok:HOk X.prog X.w H' h'):Inv X pins σ H' { s with heap:=h',toks:=t' }:=by
 obtain⟨m,⟨o,es,ep,ho,r⟩,_⟩:=id I.loc
 obtain⟨sl,hL⟩:=u.any ho I.free (by simp)
 exact I.step (g':=s.gens) (d':=s.drawn) (ch:=[]) (fun _ z=>nomatch z) (fun b o _ hb _ e n=>u.keep b o e n hb (by simp)) (fun b o _ hb _ e n=>u.slot b o e n hb (by simp)) (fun b o _ e n=>u.free b o e n (by simp)) (fun b o _ e=>u.there b o e (by simp)) u.tups u.frzs u.tbls (fun m' hm=>by
  obtain⟨o',es',ep',ho',r'⟩:=hm
  rw[ho] at ho';cases ho'
  exact⟨_,es',ep',hL,r'⟩) hok I.bare
theorem Inv.call{g':Array GenState}{t':Nat}{d':Drawn}{ch:List Addr}(I:Inv X pins σ H s)(u:Un (frs X.stack) ch H H' s.heap h')(hok:HOk X.prog X.w H' h')(hg:AllBare g')
  (hch:∀b∈ch,(b∈X.ex\/X.s₀.heap.objs.size<=b)/\b≠X.env.locals/\(∀x c,X.env.cells.lookup x=some c->c≠b)/\∀p∈X.pn++pins,p.1≠b) :
  Inv X pins σ H' { s with heap:=h',gens:=g',drawn:=d',toks:=t' }:=by
 obtain⟨m,⟨o,es,ep,ho,r⟩,_⟩:=id I.loc
 obtain⟨sl,hL⟩:=u.any ho I.free fun z=>(hch _ z).2.1 rfl
 exact I.step (ch:=ch) hch (fun b o hL hb hc e n=>u.keep b o e n (fun z=>(List.mem_cons.mp (I.stkSub b z)).elim hL hb) hc) (fun b o _ _ hc e n=>u.any e n hc) (fun b o hc e n=>u.free b o e n hc) (fun b o hc e=>u.there b o e hc) u.tups u.frzs u.tbls (fun m' hm=>by
  obtain⟨o',es',ep',ho',r'⟩:=hm
  rw[ho] at ho';cases ho'
  exact⟨_,es',ep',hL,r'⟩) hok hg
theorem Inv.turned{t':Nat}{it:Addr}(I:Inv X pins σ H s)(k:∀b o,b≠it->s.heap.get? b=some o->h'.get? b=some o)(hn:H it=none)(hL:it≠X.env.locals)
  (h1:it∈X.ex\/X.s₀.heap.objs.size<=it) (h2:∀x c,X.env.cells.lookup x=some c->c≠it) (h3:∀p∈X.pn++pins,p.1≠it):Inv X pins σ H { s with heap:=h',toks:=t' }:=by
 have nit:∀b u,H b=some u->b≠it:=fun b u e z=>by rw[z,hn] at e;cases e
 refine I.step (g':=s.gens) (d':=s.drawn) (ch:=[it]) (fun b hb=>?_) (fun b o _ _ hc e _=>k b o (fun z=>hc (by simp[z])) e) (fun b o _ _ hc e _=>⟨o.slots,k b o (fun z=>hc (by simp[z])) e⟩) (fun _ _ _ _ n=>n)
  (fun b o hc e=>⟨o,k b o (fun z=>hc (by simp[z])) e⟩) (fun _ _ e=>e) (fun _ _ _ e=>e) (fun b ps e=>⟨#[],by rw[e];simp⟩) (fun m hm=>?_) (fun b u e=>?_) I.bare
 ·have e:b=it:=by simpa using hb
  subst e
  exact⟨h1,hL,h2,h3⟩
 ·obtain⟨o,es,ep,ho,r⟩:=hm
  exact⟨o,es,ep,k _ o (Ne.symm hL) ho,r⟩
 ·refine(I.hok b u e).stay (fun c v hc q=>k c v ?_ q) (fun _ q=>q) fun _ _ q=>q
  rcases hc with z |z
  ·rw[z];exact nit b u e
  ·exact nit c _ z
theorem Inv.tok(I:Inv X pins σ H s)(t:Nat):Inv X pins σ H { s with toks:=t }:=I.un (h':=s.heap) (t':=t) Un.refl I.hok
theorem Inv.kept{t':Nat}(I:Inv X pins σ H s)(k:∀b u,s.heap.get? b=some u->h'.get? b=some u):Inv X pins σ H { s with heap:=h',toks:=t' }:=I.un (Un.kept k) (I.hok.kept k)
theorem Inv.laid{a:Addr}{o:HO}{t':Nat}(I:Inv X pins σ H s)(k:∀b u,s.heap.get? b=some u->h'.get? b=some u)(hp:s.heap.objs.size<=a)(new:bI X.prog X.w (upd H a o) h' a o) :
  Inv X pins σ (upd H a o) { s with heap:=h',toks:=t' }:=I.un (Un.laid k hp (I.hok.fresh hp)) (I.hok.laid k hp new)
theorem Inv.write{x e:Addr}{o:HO}{t':Nat}(I:Inv X pins σ H s)(mu:Mut (H x))(he:e=x\/H e=some (.own x))(k:∀b u,b≠e->s.heap.get? b=some u->h'.get? b=some u)(heo:∃u,h'.get? e=some u)
  (new:bI X.prog X.w (upd H x o) h' x o):Inv X pins σ (upd H x o) { s with heap:=h',toks:=t' }:=I.un (Un.write mu he k heo) (I.hok.write mu he k heo new)
theorem Inv.pins_of{pins':List (Addr×Obj)}(I:Inv X pins σ H s)(h:∀p∈pins',s.heap.get? p.1=some p.2/\H p.1=none/\p.1≠X.env.locals/\p.1∉X.fs/\∀v,p.2.data ≠ .cell v):Inv X pins' σ H s :=
 ⟨I.ok,I.os,I.bare,I.base,I.loc,I.cell,I.free,I.freeC,fun p hp=>(List.mem_append.mp hp).elim (fun z=>I.pin p (List.mem_append_left _ z)) (h p),I.hok,I.len⟩
theorem zr{N:List Str}(hN:N.Nodup){i j:Nat}{x:Str}(a:N[i]? = some x)(b:N[j]? = some x):i=j:=by
 obtain⟨h1,e1⟩:=List.getElem?_eq_some_iff.mp a
 obtain⟨h2,e2⟩:=List.getElem?_eq_some_iff.mp b
 exact(List.getElem_inj hN).mp (e1.trans e2.symm)
theorem xZ{M:Model}{A:Around}{E:Value->Shared->Prop}{i:Nat}{x:Str}{v:V}{u:Value}{Q:Unit->Shared->Prop}(I:Inv X pins σ H s)(hN:X.N.Nodup)(hi:X.N[i]? = some x)(hx:Loc X.env.scope x)(r:RelV v u)
  (h:∀s',Inv X pins (σ.set i (some v)) H s'->(∃a,Heap.SameBut a s.heap s'.heap/\(a=X.env.locals\/X.env.cells.lookup x=some a))->Q () s') (hf:X.fn x=true\/X.env.scope.names.lookup x=some .local:=by first |exact .inl rfl |exact .inr rfl |assumption):wpAny M A (storeName X.env x u) Q E s:=by
 obtain⟨m,hn,hl⟩:=id I.loc
 have hcls:(X.env.scope.kind == .class || (X.env.scope.kind == .module && X.env.locals != X.env.globals))=false:=by rw[I.ok.kind];rfl
 have hiσ:i<σ.length:=by rw[I.len];exact(List.getElem?_eq_some_iff.mp hi).1
 have cne:=I.cne
 have tracked:∀{a:Addr} {h':Heap},(∃o,s.heap.get? a=some o/\H a=none)->Heap.SameBut a s.heap h'->HOk X.prog X.w H h':=fun {a h'} ha hs b ob e=>by
  obtain⟨_,_,hfree⟩:=ha
  refine(I.hok b ob e).stay (fun c w' hc q=>(hs.2 c ?_).trans q) (fun _ q=>q) fun _ _ q=>q
  rintro rfl
  rcases hc with rfl |hc
  ·rw[hfree] at e;cases e
  ·rw[hfree] at hc;cases hc
 rcases hx with hk |hk
 ·refine wpAny_storeName_local hk hn (fun h' hn' hs=>?_) hcls
  obtain⟨oL,_,_,hoL,_⟩:=id hn
  refine h _ ⟨I.ok,I.os,I.bare,⟨fun b o e n hb hx=>?_,fun b o e n hb hx=>?_,I.base.free,fun b o e hx=>?_,I.base.tups,I.base.frzs,I.base.tbls⟩,⟨_,hn',fun j y v' e1 e2 e3=>?_⟩,fun y c e=>?_,I.free,I.freeC,fun p hp=>?_,tracked ⟨oL,hoL,I.free⟩ hs,by simpa using I.len⟩ ⟨_,hs,.inl rfl⟩
  ·exact(hs.2 b (Nat.ne_of_lt (Nat.lt_of_lt_of_le (Heap.lt_size e) I.ok.above))).trans (I.base.keep b o e n hb hx)
  ·obtain⟨sl,e1⟩:=I.base.slot b o e n hb hx
   exact⟨sl,(hs.2 b (Nat.ne_of_lt (Nat.lt_of_lt_of_le (Heap.lt_size e) I.ok.above))).trans e1⟩
  ·obtain⟨o',e1⟩:=I.base.there b o e hx
   exact⟨o',(hs.2 b (Nat.ne_of_lt (Nat.lt_of_lt_of_le (Heap.lt_size e) I.ok.above))).trans e1⟩
  ·by_cases hj:j=i
   ·subst hj
    rw[hi] at e1;cases e1
    rw[List.getElem?_set_self hiσ] at e2
    cases e2
    exact⟨u,r,.inl ⟨hk,by simp⟩⟩
   ·rw[List.getElem?_set_ne (Ne.symm hj)] at e2
    obtain⟨u',r',q⟩:=hl j y v' e1 e2 e3
    refine⟨u',r',?_⟩
    rcases q with⟨k,e⟩ |⟨k,c,e,z⟩
    ·refine .inl ⟨k,?_⟩
     have:y≠x:=fun e=>hj (zr hN e1 (e ▸ hi))
     simp[this,e]
    ·exact .inr ⟨k,c,e,z.sameBut hs (cne y c e)⟩
  ·obtain⟨w',z⟩:=I.cell y c e
   exact⟨w',z.sameBut hs (cne y c e)⟩
  ·obtain⟨e,n,ne,nf,d⟩:=I.pin p hp
   exact⟨(hs.2 p.1 ne).trans e,n,ne,nf,d⟩
 ·have hfn:X.fn x=true:=by
   rcases hf with z |z
   ·exact z
   ·rw[z] at hk;cases hk
  obtain⟨c,hc⟩:=I.ok.has x (.inl hk)
  obtain⟨w',z⟩:=I.cell x c hc
  refine wpAny_storeName_cell I.ok.kind hk hc z (fun h' hc' hs=>?_)
  obtain⟨oc,hoc,hocd⟩:=id z
  have hHc:H c=none:=(I.freeC x c hc).elim id fun z=>by rw[z.1] at hfn;cases hfn
  refine h { s with heap:=h' } ⟨I.ok,I.os,I.bare,⟨fun b o e n hb hx=>?_,fun b o e n hb hx=>?_,I.base.free,fun b o e hx=>?_,I.base.tups,I.base.frzs,I.base.tbls⟩,⟨m,hn.sameBut hs (Ne.symm (cne x c hc)),fun j y v' e1 e2 e3=>?_⟩,fun y c' e=>?_,I.free,I.freeC,fun p hp=>?_,tracked ⟨oc,hoc,hHc⟩ hs,by simpa using I.len⟩ ⟨c,hs,.inr hc⟩
  ·exact(hs.2 b (Nat.ne_of_lt (Nat.lt_of_lt_of_le (Heap.lt_size e) (I.ok.cab x c hfn hc)))).trans (I.base.keep b o e n hb hx)
  ·obtain⟨sl,e1⟩:=I.base.slot b o e n hb hx
   exact⟨sl,(hs.2 b (Nat.ne_of_lt (Nat.lt_of_lt_of_le (Heap.lt_size e) (I.ok.cab x c hfn hc)))).trans e1⟩
  ·obtain⟨o',e1⟩:=I.base.there b o e hx
   exact⟨o',(hs.2 b (Nat.ne_of_lt (Nat.lt_of_lt_of_le (Heap.lt_size e) (I.ok.cab x c hfn hc)))).trans e1⟩
  ·by_cases hj:j=i
   ·subst hj
    rw[hi] at e1;cases e1
    rw[List.getElem?_set_self hiσ] at e2
    cases e2
    exact⟨u,r,.inr ⟨.inl hk,c,hc,hc'⟩⟩
   ·rw[List.getElem?_set_ne (Ne.symm hj)] at e2
    obtain⟨u',r',q⟩:=hl j y v' e1 e2 e3
    refine⟨u',r',?_⟩
    rcases q with q |⟨k,c',e,z'⟩
    ·exact .inl q
    ·refine .inr ⟨k,c',e,z'.sameBut hs ?_⟩
     rintro rfl
     exact hj (zr hN e1 (I.ok.inj _ _ _ e hc ▸ hi))
  ·by_cases hcc:c'=c
   ·subst hcc;exact⟨_,hc'⟩
   ·obtain⟨w2,z2⟩:=I.cell y c' e
    exact⟨w2,z2.sameBut hs hcc⟩
  ·obtain⟨e,n,ne,nf,d⟩:=I.pin p hp
   refine⟨(hs.2 p.1 ?_).trans e,n,ne,nf,d⟩
   intro q
   rw[q,hoc] at e
   have q':oc=p.2:=Option.some.inj e
   exact d w' (by rw[<-q'];exact hocd)
theorem uG{M:Model}{A:Around}{E:Value->Shared->Prop}{i:Nat}{x:Str}{v:V}{u:Value}{Q:Unit->Shared->Prop}(I:Inv X pins σ H s)(hN:X.N.Nodup)(hi:X.N[i]? = some x)(hx:Loc X.env.scope x)(r:RelV v u)
  (h:∀s',Inv X pins (σ.set i (some v)) H s'->Q () s') (hf:X.fn x=true\/X.env.scope.names.lookup x=some .local:=by first |exact .inl rfl |exact .inr rfl |assumption):wpAny M A (storeName X.env x u) Q E s :=
 xZ I hN hi hx r (fun s' I' _=>h s' I') hf
theorem Inv.call'{s':Shared}{ch:List Addr}(I:Inv X pins σ H s)(ho:s'.os=s.os)(u:Un (frs X.stack) ch H H' s.heap s'.heap)(hok:HOk X.prog X.w H' s'.heap)(hg:AllBare s'.gens)
  (hch:∀b∈ch,(b∈X.ex\/X.s₀.heap.objs.size<=b)/\b≠X.env.locals/\(∀x c,X.env.cells.lookup x=some c->c≠b)/\∀p∈X.pn++pins,p.1≠b):Inv X pins σ H' s':=by
 obtain⟨h',g',d',t',o'⟩:=s'
 have e:o'=s.os:=ho
 subst e
 exact I.call (g':=g') (t':=t') (d':=d') u hok hg hch
end
noncomputable abbrev XK:=Value->Option Addr->Hp->Prop
noncomputable abbrev St:=List (Option V)
noncomputable abbrev VK:=V->Hp->Prop
noncomputable abbrev TE:=St->Hp->VK->Prop
noncomputable abbrev TT:=St->Hp->(Bool->Hp->Prop)->Prop
noncomputable abbrev TA:=St->Hp->(List V->Hp->Prop)->Prop
structure Ends where
 nx:St->Hp->Prop
 rt:VK
 bk:St->Hp->Prop:=fun _ _=>False
 ct:St->Hp->Prop:=fun _ _=>False
noncomputable abbrev TS:=Ends->St->Hp->Prop
noncomputable def EP(X:Cx)(pins:List (Addr×Obj))(σ:St)(Q:VK)(u:Value)(s':Shared):Prop:=∃v H',Inv X pins σ H' s'/\RelV v u/\Q v H'
noncomputable def TP(X:Cx)(pins:List (Addr×Obj))(σ:St)(Q:Bool->Hp->Prop)(b:Bool)(s':Shared):Prop:=∃H',Inv X pins σ H' s'/\Q b H'
noncomputable def AP(X:Cx)(pins:List (Addr×Obj))(σ:St)(Q:List V->Hp->Prop)(us:List Value)(s':Shared):Prop:=∃vs H',Inv X pins σ H' s'/\Vals vs us/\Q vs H'
noncomputable def SP(X:Cx)(pins:List (Addr×Obj))(D:Ends)(f:Flow)(s':Shared):Prop :=
 match f with
 | .next=>∃σ' H',Inv X pins σ' H' s'/\D.nx σ' H'
 | .brk=>∃σ' H',Inv X pins σ' H' s'/\D.bk σ' H'
 | .cont=>∃σ' H',Inv X pins σ' H' s'/\D.ct σ' H'
 | .ret u=>∃v σ' H',Inv X pins σ' H' s'/\RelV v u/\D.rt v H'
noncomputable def PE(X:Cx)(e:Expr)(t:TE):Prop :=
 ∀(pins:List (Addr×Obj)) (s:Shared) (σ:St) (H:Hp) (Q:VK),Inv X pins σ H s->t σ H Q->wpAny (model X.prog X.w) X.A (eval e X.env) (EP X pins σ Q) X.xe s
noncomputable def PT(X:Cx)(e:Expr)(t:TT):Prop :=
 ∀(pins:List (Addr×Obj)) (s:Shared) (σ:St) (H:Hp) (Q:Bool->Hp->Prop),Inv X pins σ H s->t σ H Q->wpAny (model X.prog X.w) X.A (isTrue e X.env (eval e X.env)) (TP X pins σ Q) X.xe s
noncomputable def PW(X:Cx)(e:Expr)(t:TT):Prop :=
 ∀(whole:Sem Value) (pins:List (Addr×Obj)) (s:Shared) (σ:St) (H:Hp) (Q:Bool->Hp->Prop),Inv X pins σ H s->t σ H Q->wpAny (model X.prog X.w) X.A (isTrue e X.env whole) (TP X pins σ Q) X.xe s
theorem PW.pt{X:Cx}{e:Expr}{t:TT}(h:PW X e t):PT X e t:=h _
noncomputable def PA(X:Cx)(es:List Expr)(t:TA):Prop :=
 ∀(pos:Pos) (pins:List (Addr×Obj)) (s:Shared) (σ:St) (H:Hp) (Q:List V->Hp->Prop),Inv X pins σ H s->t σ H Q->wpAny (model X.prog X.w) X.A (spliced (backTo pos (starEach es X.env))) (AP X pins σ Q) X.xe s
noncomputable def PS(X:Cx)(st:Stmt)(t:TS):Prop :=
 ∀(pins:List (Addr×Obj)) (s:Shared) (σ:St) (H:Hp) (D:Ends),Inv X pins σ H s->t D σ H->wpAny (model X.prog X.w) X.A (exec st X.env) (SP X pins D) X.xe s
noncomputable def PSs(X:Cx)(st:List Stmt)(t:TS):Prop :=
 ∀(pins:List (Addr×Obj)) (s:Shared) (σ:St) (H:Hp) (D:Ends),Inv X pins σ H s->t D σ H->wpAny (model X.prog X.w) X.A (execs st X.env) (SP X pins D) X.xe s
theorem thn{α:Type}{t:Sem α}{Q Q':α->Shared->Prop}{M:Model}{A:Around}{E:Value->Shared->Prop}{s:Shared}(h:wpAny M A t Q E s)(hQ:∀a s,Q a s->Q' a s):wpAny M A t Q' E s:=wpAny_mono h hQ fun _ _ x=>x
end L2
namespace L2
open PySem PySem.Spec PyProof.Rows
section
variable {X:Cx}
noncomputable def wH(i:Nat):TE:=fun σ H Q=>∃v,σ[i]? = some (some v)/\Q v H
noncomputable def tC(v:V):TE:=fun _ H Q=>Q v H
theorem QL{i:Nat}{x:Str}{pos:Pos}(hN:X.N[i]? = some x)(hv:Vis X.env.scope x)(hd:(x==("__debug__":Str))=false:=by decide)(hcd:(x==("__classdict__":Str))=false:=by decide):PE X (.Name x pos) (wH i):=by
 intro pins s σ H Q I h
 obtain⟨v,e,h⟩:=h
 obtain⟨m,hn,hl⟩:=I.loc
 obtain⟨u,r,l⟩:=hl i x v hN e hv
 have fin:EP X pins σ Q u s:=⟨v,H,I,r,h⟩
 rcases l with⟨hk,hm⟩ |⟨hk,c,hc,hcell⟩
 ·exact wpAny_Name (wpAny_loadName_local I.ok.kind hk hn hm fin) hd
 ·rcases hk with hk |hk
  ·exact wpAny_Name (wpAny_loadName_cell I.ok.kind hk hc hcell fin) hd
  ·exact wpAny_Name (wpAny_loadName_free I.ok.kind hk hc hcell fin hcd) hd
theorem QM{i j pos}:PE X (.Constant (.int i) j pos) (tC (.int i)):=fun _ _ _ H _ I h=>wpAny_Constant_int ⟨.int i,H,I.tok _,⟨_,rfl⟩,h⟩
theorem Tv{b j pos}:PE X (.Constant (.bool b) j pos) (tC (.bl b)):=fun _ _ _ H _ I h=>Constant_bool ⟨.bl b,H,I,rfl,h⟩
theorem QQ{j pos}:PE X (.Constant .none j pos) (tC .non):=fun _ _ _ H _ I h=>Constant_none ⟨.non,H,I,rfl,h⟩
theorem pZ{x j pos}:PE X (.Constant (.str x) j pos) (tC (.str x)):=fun _ _ _ H _ I h=>Calls.Constant_str ⟨.str x,H,I.tok _,⟨_,rfl⟩,h⟩
noncomputable def Gl(X:Cx)(x:Str):Prop:=X.env.kindOf x=some .globalImplicit
theorem p_{E:Value->Shared->Prop}{pins:List (Addr×Obj)}{s:Shared}{σ:St}{H:Hp}{x:Str}{u:Value}{pos:Pos}{Q:Value->Shared->Prop}(I:Inv X pins σ H s)(hg:Gl X x)(hm:X.mg x=some u)(h:Q u s)
  (hd:(x==("__debug__":Str))=false:=by decide):wpAny (model X.prog X.w) X.A (eval (.Name x pos) X.env) Q E s :=
 Calls.Name_function_global I.ok.kind hg (Calls.loadGlobal_global (by rw[I.ok.glob];exact I.mod.glob.keeps I.bk) hm h) hd
theorem rU{E:Value->Shared->Prop}{pins:List (Addr×Obj)}{s:Shared}{σ:St}{H:Hp}{x:Str}{u:Value}{pos:Pos}{Q:Value->Shared->Prop}(I:Inv X pins σ H s)(hg:Gl X x)(hm:X.mg x=none)(hv:bootBuiltins x=some u)(h:Q u s)
  (hn:x ≠ "__name__":=by decide) (hd:(x==("__debug__":Str))=false:=by decide):wpAny (model X.prog X.w) X.A (eval (.Name x pos) X.env) Q E s:=by
 obtain⟨mb,h1,h2⟩:=I.mod.blt
 exact Calls.Name_function_global I.ok.kind hg (Calls.loadGlobal_builtin (by rw[I.ok.glob];exact I.mod.glob.keeps I.bk) hm (by rw[I.ok.blt];exact h1.keeps I.bk) ((h2 x hn).trans hv) h) hd
theorem jU{x:Str}{v:V}{u:Value}{pos:Pos}(hg:Gl X x)(hm:X.mg x=some u)(r:RelV v u)(hd:(x==("__debug__":Str))=false:=by decide):PE X (.Name x pos) (tC v) :=
 fun _ _ _ H _ I h=>p_ I hg hm ⟨v,H,I,r,h⟩ hd
theorem iC{x:Str}{v:V}{u:Value}{pos:Pos}(hg:Gl X x)(hm:X.mg x=none)(hv:bootBuiltins x=some u)(r:RelV v u)(hn:x ≠ "__name__":=by decide)(hd:(x==("__debug__":Str))=false:=by decide):PE X (.Name x pos) (tC v) :=
 fun _ _ _ H _ I h=>rU I hg hm hv ⟨v,H,I,r,h⟩ hn hd
variable {a b:Expr} {ta tb:TE} {pos:Pos}
noncomputable def PC(X:Cx)(op:CmpOp)(a b:Expr)(t:TE):Prop :=
 ∀(pins:List (Addr×Obj)) (s:Shared) (σ:St) (H:Hp) (Q:VK),Inv X pins σ H s->t σ H Q ->
  wpAny (model X.prog X.w) X.A (eval a X.env) (fun v s₁=>wpAny (model X.prog X.w) X.A (eval b X.env) (fun u s₂=>wpAny (model X.prog X.w) X.A (compareOp op v u) (EP X pins σ Q) X.xe s₂) X.xe s₁) X.xe s
noncomputable def tB(t:TE):TT:=fun σ H Q=>t σ H fun x H1=>∃c,x=.bl c/\Q c H1
theorem Fv{op:CmpOp}{t:TE}(h:PC X op a b t)(h1:behindInMarks op b=false:=by first |exact nobehind _ (by decide) (by decide) |rfl):PT X (.Compare a [op] [b] pos) (tB t):=by
 intro pins s σ H Q I hw
 refine wpAny_isTrue_Compare1 (thn (h pins s σ H _ I hw) fun v s1 h1=>thn h1 fun u s2 h2=>thn h2 fun c s3 hw'=>?_) h1
 obtain⟨x,H1,I1,r1,q1⟩:=hw'
 obtain⟨d,rfl,q⟩:=q1
 cases r1
 exact wpAny_truthy_bool ⟨H1,I1,q⟩
theorem QR{e:Expr}{t:TE}(h:PE X e t)(he:∀whole,isTrue e X.env whole=(do let v <-whole;standAt e.pos;holding [v] (truthy v)):=by intro _;rfl):PT X e (tB t):=by
 intro pins s σ H Q I hw
 refine isTrue_plain (thn (h pins s σ H _ I hw) fun v s1 ⟨x,H1,I1,r1,q1⟩=>?_) (he _)
 obtain⟨d,rfl,q⟩:=q1
 cases r1
 exact wpAny_truthy_bool ⟨H1,I1,q⟩
variable {tA tB':TT} {rest:List Expr}
noncomputable def QS(t u:TT):TT:=fun σ H Q=>t σ H fun c H1=>if c=true then u σ H1 Q else Q false H1
noncomputable def tOr(t u:TT):TT:=fun σ H Q=>t σ H fun c H1=>if c=true then Q true H1 else u σ H1 Q
noncomputable def Vd(t:TT):TT:=fun σ H Q=>t σ H fun c H1=>Q (!c) H1
theorem Nb(ha:PT X a tA):PW X (.BoolOp .And [a] pos) tA:=by
 intro wh pins s σ H Q I h
 refine isTrue_and (thn (ha pins s σ H Q I h) fun c s1 e=>?_)
 cases c with
 | true=>exact isTrue_and_nil e
 | false=>exact e
theorem QT(ha:PT X a tA):PW X (.BoolOp .Or [a] pos) tA:=by
 intro wh pins s σ H Q I h
 refine isTrue_or (thn (ha pins s σ H Q I h) fun c s1 e=>?_)
 cases c with
 | false=>exact isTrue_or_nil e
 | true=>exact e
theorem QV(ha:PT X a tA)(hb:PW X (.BoolOp .And (b::rest) pos) tB'):PW X (.BoolOp .And (a::b::rest) pos) (QS tA tB'):=by
 intro wh pins s σ H Q I h
 refine isTrue_and (thn (ha pins s σ H _ I h) fun c s1 ⟨H1,I1,q1⟩=>?_)
 cases c with
 | true=>exact hb wh pins s1 σ H1 Q I1 q1
 | false=>exact⟨H1,I1,q1⟩
theorem Tz(ha:PT X a tA)(hb:PW X (.BoolOp .Or (b::rest) pos) tB'):PW X (.BoolOp .Or (a::b::rest) pos) (tOr tA tB'):=by
 intro wh pins s σ H Q I h
 refine isTrue_or (thn (ha pins s σ H _ I h) fun c s1 ⟨H1,I1,q1⟩=>?_)
 cases c with
 | true=>exact⟨H1,I1,q1⟩
 | false=>exact hb wh pins s1 σ H1 Q I1 q1
theorem QW(ha:PT X a tA):PT X (.UnaryOp .Not a pos) (Vd tA):=by
 intro pins s σ H Q I h
 exact isTrue_not (ha pins s σ H (fun c H1=>Q (!c) H1) I h)
end
end L2
namespace L2
open PySem PySem.Spec PyProof.Rows
noncomputable def SqL(K:PySem.W.Frag)(H:Hp)(a:Addr)(xs:List V):Prop :=
 Rd H a (.lst xs) \/
  ∃(o:Obj) (its:Array Value) (n:Nat),K.lookup a=some o/\o.cls=.type "list" /\ o.dict=none/\o.data=.seq its n/\its.size<=sizeLine/\Vals xs its.toList
noncomputable def SqT(K:PySem.W.Frag)(H:Hp)(a:Addr)(xs:List V):Prop :=
 Rd H a (.tup xs) \/
  ∃(o:Obj) (its:Array Value) (n:Nat),K.lookup a=some o/\o.cls=.type "tuple" /\ o.data=.seq its n/\its.size<=sizeLine/\Vals xs its.toList
noncomputable def Ve:Value->Option V
 | .none=>some .non
 | .bool b=>some (.bl b)
 | .int i _=>some (.int i)
 | .str x _=>some (.str x)
 | .bytes b _=>some (.byt b)
 | .float b _=>some (.flt b)
 | .ref a=>some (.ref a)
 | .type n=>some (.ty n)
 | _=>none
theorem RelV.abs{x:V}{u:Value}(r:RelV x u):Ve u=some x:=by
 cases x with
 | non=>cases r;rfl
 | bl _=>cases r;rfl
 | int _=>obtain⟨t,rfl⟩:=r;rfl
 | str _=>obtain⟨t,rfl⟩:=r;rfl
 | byt _=>obtain⟨t,rfl⟩:=r;rfl
 | flt _=>obtain⟨t,rfl⟩:=r;rfl
 | ref _=>cases r;rfl
 | ty _=>cases r;rfl
theorem RelV.inj{x y:V}{u:Value}(r:RelV x u)(q:RelV y u):x=y:=Option.some.inj (r.abs.symm.trans q.abs)
theorem Vals.inj{xs ys:List V}{us:List Value}(h:Vals xs us)(h':Vals ys us):xs=ys:=by
 induction h generalizing ys with
 | nil=>cases h';rfl
 | cons r t ih =>
  cases h' with
  | cons r' t'=>rw[r.inj r',ih t']
section
variable {X:Cx} {pins:List (Addr×Obj)} {σ:St} {H:Hp} {s:Shared} {a:Addr} {xs ys:List V}
theorem SqL.of{K:PySem.W.Frag}(h:H a=some (.lst xs)):SqL K H a xs:=.inl (.inl h)
theorem SqT.of{K:PySem.W.Frag}(h:H a=some (.tup xs)):SqT K H a xs:=.inl (.inl h)
theorem Inv.list(I:Inv X pins σ H s)(h:SqL X.K H a xs):∃its:List Value,Vals xs its/\PlainL s.heap a its.toArray/\xs.length<=sizeLine:=by
 rcases h with h |⟨o,its,n,hk,hc,hd,hs,hz,r⟩
 ·obtain⟨z,its,n,r,e⟩:=h.ok I.hok
  exact⟨its,r,⟨_,n,e,rfl,rfl,rfl⟩,z⟩
 ·refine⟨its.toList,r,⟨o,n,I.kIn a o hk,hc,hd,by simpa using hs⟩,?_⟩
  have e:=r.length
  simp only[Array.length_toList] at e
  omega
theorem Inv.tuple(I:Inv X pins σ H s)(h:SqT X.K H a xs):∃its:List Value,Vals xs its/\IsTup s.heap a its.toArray/\xs.length<=sizeLine:=by
 rcases h with h |⟨o,its,n,hk,hc,hs,hz,r⟩
 ·obtain⟨z,its,r,p⟩:=h.ok I.hok
  exact⟨its,r,p,z⟩
 ·refine⟨its.toList,r,⟨o,I.kIn a o hk,hc,n,by simpa using hs⟩,?_⟩
  have e:=r.length
  simp only[Array.length_toList] at e
  omega
theorem Inv.list_inj(I:Inv X pins σ H s)(h:SqL X.K H a xs)(h':SqL X.K H a ys):xs=ys:=by
 obtain⟨its,r,⟨o,n,e,_,_,d⟩,_⟩:=I.list h
 obtain⟨its',r',⟨o',n',e',_,_,d'⟩,_⟩:=I.list h'
 rw[e] at e';cases e'
 rw[d] at d'
 injection d' with d1 _
 have:its=its':=by simpa using congrArg Array.toList d1
 subst this
 exact r.inj r'
theorem Inv.tuple_inj(I:Inv X pins σ H s)(h:SqT X.K H a xs)(h':SqT X.K H a ys):xs=ys:=by
 obtain⟨its,r,⟨o,e,_,n,d⟩,_⟩:=I.tuple h
 obtain⟨its',r',⟨o',e',_,n',d'⟩,_⟩:=I.tuple h'
 rw[e] at e';cases e'
 rw[d] at d'
 injection d' with d1 _
 have:its=its':=by simpa using congrArg Array.toList d1
 subst this
 exact r.inj r'
end
noncomputable abbrev Cx.wish(X:Cx)(E:Value->Shared->Prop):Cx:={ X with xe:=E }
noncomputable abbrev Cx.nox(X:Cx):Cx:=X.wish fun _ _=>False
theorem Cx.Ok.wish{X:Cx}(ok:X.Ok)(E:Value->Shared->Prop):(X.wish E).Ok :=
 ⟨ok.mod,ok.kind,ok.glob,ok.blt,ok.above,ok.inj,ok.has,ok.cab,ok.hd,ok.frames,ok.stk,ok.exf,ok.bs,ok.bsz,ok.noex,ok.exfs,ok.funs,ok.frf⟩
theorem Cx.Ok.unwish{X:Cx}{E:Value->Shared->Prop}(ok:(X.wish E).Ok):X.Ok :=
 ⟨ok.mod,ok.kind,ok.glob,ok.blt,ok.above,ok.inj,ok.has,ok.cab,ok.hd,ok.frames,ok.stk,ok.exf,ok.bs,ok.bsz,ok.noex,ok.exfs,ok.funs,ok.frf⟩
section
variable {X:Cx} {pins:List (Addr×Obj)} {σ:St} {H:Hp} {s:Shared} {E:Value->Shared->Prop}
theorem Inv.wish(I:Inv X pins σ H s)(E:Value->Shared->Prop):Inv (X.wish E) pins σ H s:=⟨I.ok.wish E,I.os,I.bare,I.base,I.loc,I.cell,I.free,I.freeC,I.pin,I.hok,I.len⟩
theorem Inv.unwish(I:Inv (X.wish E) pins σ H s):Inv X pins σ H s:=⟨I.ok.unwish,I.os,I.bare,I.base,I.loc,I.cell,I.free,I.freeC,I.pin,I.hok,I.len⟩
theorem SP.unwish{D:Ends}{f:Flow}{s':Shared}(h:SP (X.wish E) pins D f s'):SP X pins D f s':=by
 cases f with
 | next=>obtain⟨σ',H',I,q⟩:=h;exact⟨σ',H',I.unwish,q⟩
 | brk=>obtain⟨σ',H',I,q⟩:=h;exact⟨σ',H',I.unwish,q⟩
 | cont=>obtain⟨σ',H',I,q⟩:=h;exact⟨σ',H',I.unwish,q⟩
 | ret u=>obtain⟨v,σ',H',I,r,q⟩:=h;exact⟨v,σ',H',I.unwish,r,q⟩
theorem PSs.nox{st:List Stmt}{t:TS}(h:PSs X.nox st t):PSs X st t:=fun pins s σ H D I hw =>
 wpAny_mono (h pins s σ H D (I.wish _) hw) (fun _ _ q=>q.unwish) fun _ _ z=>False.elim z
end
section
variable {X:Cx} {st:Stmt} {rest:List Stmt} {t u:TS} {e:Expr} {te:TE} {pos:Pos}
noncomputable def TJ:TS:=fun D σ H=>D.nx σ H
noncomputable def Vf(t u:TS):TS:=fun D σ H=>t { D with nx:=u D } σ H
theorem Nf:PSs X [] TJ:=fun _ _ σ H _ I h=>wpAny_execs_nil ⟨σ,H,I,h⟩
theorem uH(h1:PS X st t)(h2:PSs X rest u):PSs X (st::rest) (Vf t u):=by
 intro pins s σ H D I h
 refine wpAny_execs_cons (thn (h1 pins s σ H { D with nx:=u D } I h) fun f s1 q=>?_)
 cases f with
 | next =>
  obtain⟨σ',H',I',q⟩:=q
  exact h2 pins s1 σ' H' D I' q
 | ret v=>exact q
 | brk=>exact q
 | cont=>exact q
theorem Cj(h1:PS X st t):PSs X [st] t:=by
 intro pins s σ H D I h
 refine wpAny_execs_cons (thn (h1 pins s σ H D I h) fun f s1 q=>?_)
 cases f with
 | next=>exact wpAny_execs_nil q
 | ret v=>exact q
 | brk=>exact q
 | cont=>exact q
theorem Inv.quiet{pins:List (Addr×Obj)}{σ:St}{H:Hp}{s:Shared}(I:Inv X pins σ H s):interactive X.env=false:=by simp[interactive,I.ok.kind]
noncomputable def Ly(te:TE):TS:=fun D σ H=>te σ H fun _ H1=>D.nx σ H1
theorem tW(he:PE X e te)(hs:swapsWith e none pos.line X.env=pure false:=by rfl):PS X (.Expr e pos) (Ly te):=by
 intro pins s σ H D I h
 exact wpAny_Expr_any (thn (he pins s σ H _ I h) fun v s1 ⟨x,H1,I1,r1,q1⟩=>⟨σ,H1,I1,q1⟩) I.quiet hs
noncomputable def Vg(te:TE):TS:=fun D σ H=>te σ H D.rt
theorem Fw(he:PE X e te):PS X (.Return (some e) pos) (Vg te):=by
 intro pins s σ H D I h
 exact wpAny_Return_some (thn (he pins s σ H _ I h) fun v s1 ⟨x,H1,I1,r1,q1⟩=>⟨x,σ,H1,I1,r1,q1⟩)
noncomputable def Vh(c:TT)(t u:TS):TS:=fun D σ H=>c σ H fun b H1=>if b=true then t D σ H1 else u D σ H1
theorem Lz{c:Expr}{a b:List Stmt}{tc:TT}(hc:PT X c tc)(ha:PSs X a t)(hb:PSs X b u):PS X (.If c a b pos) (Vh tc t u):=by
 intro pins s σ H D I h
 refine wpAny_If (thn (hc pins s σ H _ I h) fun d s1 ⟨H1,I1,q1⟩=>?_)
 cases d with
 | true=>exact ha pins s1 σ H1 D I1 q1
 | false=>exact hb pins s1 σ H1 D I1 q1
noncomputable def Fx:TS:=fun _ _ _=>False
theorem Ja:PS X st Fx:=fun _ _ _ _ _ _ h=>h.elim
theorem x_{sts:List Stmt}:PSs X sts Fx:=fun _ _ _ _ _ _ h=>h.elim
end
noncomputable abbrev TG:=V->St->Hp->(St->Hp->Prop)->Prop
noncomputable abbrev TGs:=List V->St->Hp->(St->Hp->Prop)->Prop
noncomputable def PG(X:Cx)(target:Expr)(t:TG):Prop :=
 ∀(pins:List (Addr×Obj)) (s:Shared) (σ:St) (H:Hp) (v:V) (u:Value) (Q:St->Hp->Prop),Inv X pins σ H s->RelV v u->t v σ H Q ->
  wpAny (model X.prog X.w) X.A (assign target X.env u) (fun _ s'=>∃σ' H',Inv X pins σ' H' s'/\Q σ' H') X.xe s
noncomputable def PGs(X:Cx)(ts:List Expr)(t:TGs):Prop :=
 ∀(pins:List (Addr×Obj)) (s:Shared) (σ:St) (H:Hp) (vs:List V) (us:List Value) (Q:St->Hp->Prop),Inv X pins σ H s->Vals vs us->t vs σ H Q ->
  wpAny (model X.prog X.w) X.A (assignInOrder ((assignEach ts X.env).map (·.2)) us) (fun _ s'=>∃σ' H',Inv X pins σ' H' s'/\Q σ' H') X.xe s
noncomputable abbrev TIp:=V->V->Hp->VK->Prop
noncomputable def PIp(X:Cx)(op:Operator)(t:TIp):Prop :=
 ∀(pins:List (Addr×Obj)) (s:Shared) (σ:St) (H:Hp) (x y:V) (v u:Value) (Q:VK),Inv X pins σ H s->RelV x v->RelV y u->t x y H Q ->
  wpAny (model X.prog X.w) X.A (inplaceOp op v u) (EP X pins σ Q) X.xe s
section
variable {X:Cx} {pos:Pos}
noncomputable def Dw(i:Nat):TG:=fun v σ H Q=>Q (σ.set i (some v)) H
theorem Ck{i:Nat}{x:Str}(hN:X.N.Nodup)(hi:X.N[i]? = some x)(hx:Loc X.env.scope x)(hf:X.fn x=true\/X.env.scope.names.lookup x=some .local:=by first |exact .inl rfl |exact .inr rfl |assumption):PG X (.Name x pos) (Dw i):=by
 intro pins s σ H v u Q I r h
 exact wpAny_assign_Name (uG I hN hi hx r (fun s' I'=>⟨_,H,I',h⟩) hf)
noncomputable def aA:TGs:=fun vs σ H Q=>vs=[]/\Q σ H
noncomputable def ak(t:TG)(u:TGs):TGs:=fun vs σ H Q=>∃v r,vs=v::r/\t v σ H fun σ' H'=>u r σ' H' Q
theorem Ng:PGs X [] aA:=by
 intro pins s σ H vs us Q I r h
 obtain⟨e,h⟩:=h
 subst e
 cases r
 exact assignInOrder_nil ⟨σ,H,I,h⟩
theorem Jb{e:Expr}{es:List Expr}{t:TG}{u:TGs}(h1:PG X e t)(h2:PGs X es u)
  (hs:(assignEach (e::es) X.env).map (·.2)=assign e X.env::(assignEach es X.env).map (·.2):=by rfl):PGs X (e::es) (ak t u):=by
 intro pins s σ H vs us Q I r h
 obtain⟨v,vr,e1,h⟩:=h
 subst e1
 cases r with
 | cons r rr =>
  rw[hs]
  refine assignInOrder_cons (thn (h1 pins s σ H _ _ _ I r h) fun _ s1 hw'=>?_)
  obtain⟨σ1,H1,I1,q1⟩:=hw'
  exact h2 pins s1 σ1 H1 _ _ Q I1 rr q1
noncomputable def bu(K:PySem.W.Frag)(n:Nat)(t:TGs):TG:=fun v σ H Q=>∃a xs,v=.ref a/\SqT K H a xs/\xs.length=n/\t xs σ H Q
theorem QX{es:List Expr}{k:Nat}{t:TGs}{n:Nat}(hc:X.calm=true)(h:PGs X es t)
  (hn:(assignEach es X.env).length=n:=by rfl) (hst:(assignEach es X.env).findIdx? (·.1)=none:=by rfl):PG X (.Tuple es k pos) (bu X.K n t):=by
 intro pins s σ H v u Q I r hw
 obtain⟨a,xs,e1,hq,hl,hw⟩:=hw
 subst e1
 cases r
 obtain⟨its,rv,ht,hz⟩:=I.tuple hq
 refine assign_Tuple_tuple (I.ok.hd hc) ht (by simp[hn,<-hl,rv.length]) hst fun h' hx=>?_
 have I1:Inv X pins σ H { s with heap:=h' }:=I.kept (t':=s.toks) fun b o e=>hx b o (Nat.ne_of_lt (Heap.lt_size e)) e
 exact h pins _ σ H xs _ Q I1 (by simpa using rv) hw
noncomputable def Jc(te:TE)(g:TG):TS:=fun D σ H=>te σ H fun x H1=>g x σ H1 D.nx
theorem QZ{tg e:Expr}{te:TE}{g:TG}(he:PE X e te)(hg:PG X tg g)(hs:swapsWithSole [tg] e pos.line X.env=pure false:=by rfl)(hw:swappedStores [tg] e X.env=pure none:=by rfl)
  (h1:(assignEach [tg] X.env).map (·.2)=[assign tg X.env]:=by rfl):PS X (.Assign [tg] e pos) (Jc te g):=by
 intro pins s σ H D I h
 refine wpAny_Assign_stores (thn (he pins s σ H _ I h) fun v s1 hw'=>?_) hs hw
 obtain⟨x,H1,I1,r1,q1⟩:=hw'
 rw[h1]
 exact thn (hg pins s1 σ H1 x v _ I1 r1 q1) fun _ s2 q=>q
theorem Fy{i:Nat}{x:Str}{e:Expr}{te:TE}{pos':Pos}(hN:X.N.Nodup)(hi:X.N[i]? = some x)(hx:Loc X.env.scope x)(he:PE X e te)(hs:swapsWith e (some (.Name x pos')) pos.line X.env=pure false:=by rfl)(hf:X.fn x=true\/X.env.scope.names.lookup x=some .local:=by first |exact .inl rfl |exact .inr rfl |assumption) :
  PS X (.Assign [.Name x pos'] e pos) (Jc te (Dw i)):=by
 intro pins s σ H D I h
 refine wpAny_Assign_Name (thn (he pins s σ H _ I h) fun v s1 hw'=>?_) hs
 obtain⟨y,H1,I1,r1,q1⟩:=hw'
 exact uG I1 hN hi hx r1 (fun s2 I2=>⟨_,H1,I2,q1⟩) hf
noncomputable def Vi(i:Nat)(te:TE)(ti:TIp):TS:=fun D σ H=>∃x,σ[i]? = some (some x)/\te σ H fun y H1=>ti x y H1 fun z H2=>D.nx (σ.set i (some z)) H2
theorem Q_{i:Nat}{x:Str}{e:Expr}{te:TE}{op:Operator}{ti:TIp}{pos':Pos}(hN:X.N.Nodup)(hi:X.N[i]? = some x)(hx:Loc X.env.scope x)(he:PE X e te)(ho:PIp X op ti)(hf:X.fn x=true\/X.env.scope.names.lookup x=some .local:=by first |exact .inl rfl |exact .inr rfl |assumption) :
  PS X (.AugAssign (.Name x pos') op e pos) (Vi i te ti):=by
 intro pins s σ H D I h
 obtain⟨v,e1,h⟩:=h
 obtain⟨m,hn,hl⟩:=I.loc
 have vis:Vis X.env.scope x:=by rcases hx with k |k;exact .inl k;exact .inr (.inl k)
 obtain⟨u,r,l⟩:=hl i x v hi e1 vis
 refine wpAny_AugAssign_Name ?_
 have go:wpAny (model X.prog X.w) X.A (eval e X.env) (fun w s₂=>wpAny (model X.prog X.w) X.A (inplaceOp op u w) (fun r s₃=>wpAny (model X.prog X.w) X.A (storeName X.env x r) (fun _=>SP X pins D .next) X.xe s₃) X.xe s₂) X.xe s:=by
  refine thn (he pins s σ H _ I h) fun w s1 hw'=>?_
  obtain⟨y,H1,I1,r1,q1⟩:=hw'
  refine thn (ho pins s1 σ H1 v y u w _ I1 r r1 q1) fun z s2 hw'=>?_
  obtain⟨zv,H2,I2,r2,q2⟩:=hw'
  exact uG I2 hN hi hx r2 (fun s3 I3=>⟨_,H2,I3,q2⟩) hf
 rcases l with⟨hk,hm⟩ |⟨hk,c,hc,hcell⟩
 ·exact wpAny_loadName_local I.ok.kind hk hn hm go
 ·rcases hk with hk |hk
  ·exact wpAny_loadName_cell I.ok.kind hk hc hcell go
  ·rcases hx with k |k
   ·have:X.env.scope.names.lookup x=some .free:=hk
    rw[k] at this;cases this
   ·have:X.env.scope.names.lookup x=some .free:=hk
    rw[k] at this;cases this
noncomputable def ipI(f:Int->Int->Int):TIp:=fun x y H Q=>∃i j,x=.int i/\y=.int j/\Q (.int (f i j)) H
theorem Ra:PIp X .Add (ipI fun i j=>i+j):=by
 intro pins s σ H x y v u Q I r1 r2 h
 obtain⟨i,j,e1,e2,q⟩:=h
 subst e1;subst e2
 obtain⟨t,rfl⟩:=r1
 obtain⟨t',rfl⟩:=r2
 exact iadd_int ⟨.int _,H,I.tok _,⟨_,rfl⟩,q⟩
end
section
variable {X:Cx} {pos:Pos}
noncomputable def Rb(c:TT)(tb:TS):TS:=fun D σ H=>∃W:Nat->St->Hp->Prop,(∃m,W m σ H)/\∀m σ H,W m σ H ->
 c σ H fun b H1=>if b=true then ∃N:St->Hp->Prop,(∀σ' H',N σ' H'->∃m',m'<m/\W m' σ' H')/\tb { D with nx:=N,ct:=N,bk:=D.nx } σ H1 else D.nx σ H1
theorem Jd{c:Expr}{body:List Stmt}{tc:TT}{tb:TS}(hp:PassesOwn (model X.prog X.w) X.A X.env X.xe)(hc:PT X c tc)(hb:PSs X body tb):PS X (.While c body [] pos) (Rb tc tb):=by
 intro pins s σ H D I h
 obtain⟨W,⟨m0,w0⟩,turn⟩:=h
 refine wpAny_While (codeAny_whileLoop (fun n s'=>∃σ' H',Inv X pins σ' H' s'/\W n σ' H') ?_ m0 ⟨σ,H,I,w0⟩)
 rintro n s1 ⟨σ1,H1,I1,w1⟩
 refine wpAny_passesOwn hp (thn (hc pins s1 σ1 H1 _ I1 (turn n σ1 H1 w1)) fun b s2 ⟨H2,I2,q2⟩=>?_)
 cases b with
 | true =>
  obtain⟨N,hN,q2⟩:=q2
  rw[if_pos rfl]
  refine wpAny_passesOwn hp (thn (hb pins s2 σ1 H2 _ I2 q2) fun f s3 q3=>?_)
  cases f with
  | next =>
   obtain⟨σ3,H3,I3,n3⟩:=q3
   obtain⟨m',hm,w3⟩:=hN σ3 H3 n3
   exact⟨m',hm,σ3,H3,I3,w3⟩
  | cont =>
   obtain⟨σ3,H3,I3,n3⟩:=q3
   obtain⟨m',hm,w3⟩:=hN σ3 H3 n3
   exact⟨m',hm,σ3,H3,I3,w3⟩
  | brk=>exact q3
  | ret v=>exact q3
 | false =>
  rw[if_neg Bool.false_ne_true]
  exact wpAny_execs_nil ⟨σ1,H2,I2,q2⟩
end
structure It where
 go:Nat->Hp->Prop
 yld:Nat->Hp->V->Hp->Prop
 stop:Nat->Hp->Prop
noncomputable def lH(X:Cx)(pins:List (Addr×Obj))(H:Hp)(b:Addr):Prop :=
 H b=none/\b≠X.env.locals/\b∉X.fs/\(b∈X.ex\/X.s₀.heap.objs.size<=b)/\(∀x c,X.env.cells.lookup x=some c->c≠b)/\∀p∈X.pn++pins,p.1≠b
theorem Inv.fpOk{X:Cx}{pins:List (Addr×Obj)}{σ:St}{H H':Hp}{s:Shared}{b:Addr}(I:Inv X pins σ H s)(hb:s.heap.objs.size<=b)(hn:H' b=none):lH X pins H' b:=by
 refine⟨hn,Nat.ne_of_gt (Nat.lt_of_lt_of_le I.lt hb),I.nofs hb,.inr (Nat.le_trans I.sz hb),fun x c e z=>?_,fun p hp z=>?_⟩
 ·obtain⟨v,q⟩:=I.cell x c e
  exact absurd (Nat.lt_of_lt_of_le q.lt (by rw[z];exact hb)) (Nat.lt_irrefl _)
 ·exact absurd (Nat.lt_of_lt_of_le (Heap.lt_size (I.pin p hp).1) (by rw[z];exact hb)) (Nat.lt_irrefl _)
structure Turn(P:Program)(w:World)(K:PySem.W.Frag)(tg:Expr)(J:It)(fp:List Addr)(it:Addr)(tn:Nat->Heap->Prop):Prop where
 mem:it∈fp
 obj:∀i h,tn i h->∀b∈fp,∃o,h.get? b=some o/\∀v,o.data ≠ .cell v
 keep:∀i h h',tn i h->(∀b∈fp,∀o,h.get? b=some o->h'.get? b=some o)->tn i h'
 item:∀(X:Cx),X.prog=P->X.w=w->X.K=K->X.calm=true->∀(i:Nat) (pins:List (Addr×Obj)) (s:Shared) (σ:St) (H:Hp) (E:Value->Shared->Prop),Inv X pins σ H s->(∀b∈fp,lH X pins H b)->tn i s.heap->J.go i H ->
  wpAny (model P w) X.A (pyNext (.ref it)) (fun r s1=>∃u,r=some u /\
   wpAny (model P w) X.A (letOwnedTupleGo tg (.ref it) u) (fun _ s2=>∃x H',Inv X pins σ H' s2/\RelV x u/\J.yld i H x H'/\tn (i+1) s2.heap/\∀b∈fp,H' b=none) E s1) E s
 done:∀(X:Cx),X.prog=P->X.w=w->X.K=K->X.calm=true->∀(i:Nat) (pins:List (Addr×Obj)) (s:Shared) (σ:St) (H:Hp) (E:Value->Shared->Prop),Inv X pins σ H s->(∀b∈fp,lH X pins H b)->tn i s.heap->J.stop i H ->
  wpAny (model P w) X.A (pyNext (.ref it)) (fun r s1=>r=none/\Inv X pins σ H s1) E s
 self:∀(A:Around) (i:Nat) (s:Shared) (Q:Value->Shared->Prop) (E:Value->Shared->Prop),tn i s.heap->Q (.ref it) s->wpAny (model P w) A (pyIter (.ref it)) Q E s
noncomputable abbrev TI:=St->Hp->(It->Hp->Prop)->Prop
noncomputable def PIE(X:Cx)(pins:List (Addr×Obj))(σ:St)(tg:Expr)(R:It->Hp->Prop)(itv:Value)(s2:Shared):Prop :=
 ∃(it:Addr) (fp:List Addr) (tn:Nat->Heap->Prop) (J:It) (H':Hp),itv=.ref it/\Inv X pins σ H' s2/\Turn X.prog X.w X.K tg J fp it tn/\tn 0 s2.heap/\(∀b∈fp,lH X pins H' b)/\R J H'
noncomputable def PI(X:Cx)(tg iter:Expr)(wi:TI):Prop :=
 ∀(pins:List (Addr×Obj)) (s:Shared) (σ:St) (H:Hp) (R:It->Hp->Prop),Inv X pins σ H s->wi σ H R ->
  wpAny (model X.prog X.w) X.A (eval iter X.env) (fun v s1=>wpAny (model X.prog X.w) X.A (pyIter v) (PIE X pins σ tg R) X.xe s1) X.xe s
theorem LC{M : Model}{A : Around}{E : Value → Shared → Prop}{s : Shared}{tg : Expr}{it : Addr}{u : Value}{o : Obj}{n : String}{vs : Array Value}{Q : Unit → Shared → Prop}(ho : s.heap.get? it=some o)(hc : o.cls=.type n)(hd : o.data=.fields vs)
    (hn : ["enumerate", "zip", "dict_itemiterator", "dict_reverseitemiterator", "odict_iterator", "itertools.zip_longest", "itertools.pairwise"].contains n=false) (hQ : Q () s) : wpAny M A (letOwnedTupleGo tg (.ref it) u) Q E s := by
  unfold letOwnedTupleGo
  cases tg<;>first
    | exact wpAny_pure hQ
    | (cases u<;>first
        | exact wpAny_pure hQ
        | (refine wpAny_bind (wpAny_load ho ?_)
           rw[hc, hd]
           show wpAny M A (if(["enumerate", "zip", "dict_itemiterator", "dict_reverseitemiterator", "odict_iterator", "itertools.zip_longest", "itertools.pairwise"].contains n && vs[0]? == some (rawInt _))=true then _ else _) Q E s
           rw[if_neg (by intro h;rw[hn, Bool.false_and] at h;cases h)]
           exact wpAny_pure hQ))
noncomputable def Itl(K:PySem.W.Frag)(a:Addr):It :=
 ⟨fun i H=>∃xs x,SqL K H a xs/\xs[i]? = some x,fun i H x H'=>H'=H/\∀xs,SqL K H a xs->xs[i]? = some x,fun i H=>∃xs,SqL K H a xs/\xs.length<=i⟩
noncomputable def Itr(lo:Int)(n:Nat):It:=⟨fun i _=>i<n,fun i H x H'=>H'=H/\x=.int (lo+i),fun i _=>n<=i⟩
theorem Fz{P:Program}{w:World}{K:PySem.W.Frag}{tg:Expr}(a it:Addr):Turn P w K tg (Itl K a) [it] it (fun i h=>h.IsListIter it a i) where
 mem:=by simp
 obj:=fun i h st b hb=>by
  have e:b=it:=by simpa using hb
  subst e
  obtain⟨o,e,c,d⟩:=st
  exact⟨o,e,fun v z=>by rw[d] at z;cases z⟩
 keep:=fun i h h' st k=>st.at fun o e=>k it (by simp) o e
 item:=by
  intro X hP hw hK hc i pins s σ H E I hf st hg
  subst hP hw hK
  obtain⟨xs,x,hq,hx⟩:=hg
  obtain⟨its,rv,p,hz⟩:=I.list hq
  obtain⟨u,hu,ru⟩:=rv.get hx
  obtain⟨f0,f1,f2,f3,f4,f5⟩:=hf it (by simp)
  refine wpAny_pyNext_list_item st p.isList (x:=u) (by simpa using hu) fun h' st' sb=>?_
  have I1:Inv X pins σ H { s with heap:=h' }:=I.turned (t':=s.toks) (fun b o hb e=>(sb.2 b hb).trans e) f0 f1 f3 f4 f5
  obtain⟨o,e,c,d⟩:=id st'
  exact⟨u,rfl,LC (s:={ s with heap:=h' }) e c d (by decide) ⟨x,H,I1,ru,⟨rfl,fun ys hy=>by rw[I.list_inj hy hq];exact hx⟩,st',fun b hb=>(hf b hb).1⟩⟩
 done:=by
  intro X hP hw hK hc i pins s σ H E I hf st hg
  subst hP hw hK
  obtain⟨xs,hq,hx⟩:=hg
  obtain⟨its,rv,p,hz⟩:=I.list hq
  obtain⟨f0,f1,f2,f3,f4,f5⟩:=hf it (by simp)
  have hl:=rv.length
  exact wpAny_pyNext_list_end (I.ok.hd hc) st p.isList (by simp;omega) fun h' eb=>⟨rfl,I.turned (t':=s.toks) (fun b o hb e=>eb b o hb e) f0 f1 f3 f4 f5⟩
 self:=fun _ _ _ _ _ st h=>wpAny_pyIter_listiter st h
theorem Dy{P:Program}{w:World}{K:PySem.W.Frag}{tg:Expr}(it:Addr)(lo:Int)(n:Nat):Turn P w K tg (Itr lo n) [it] it (fun i h=>IsRangeIter h it (lo+(i:Nat)*1) ((n:Int)-(i:Nat)) 1) where
 mem:=by simp
 obj:=fun i h st b hb=>by
  have e:b=it:=by simpa using hb
  subst e
  exact⟨_,st,fun v z=>by
   have z':Data.fields _=Data.cell v:=z
   cases z'⟩
 keep:=fun i h h' st k=>k it (by simp) _ st
 item:=by
  intro X hP hw hK hc i pins s σ H E I hf st hg
  subst hP hw hK
  obtain⟨f0,f1,f2,f3,f4,f5⟩:=hf it (by simp)
  have W:=Walks.range (prog:=X.prog) (w:=X.w) (I.ok.hd hc) it lo 1 n
  refine W.item i s _ _ hg st fun v h' tk hv st' kk=>?_
  obtain⟨t,rfl⟩:=hv
  have I1:Inv X pins σ H { s with heap:=h',toks:=tk }:=I.turned (fun b o hb e=>kk b o (by simpa using hb) e) f0 f1 f3 f4 f5
  refine⟨_,rfl,LC (s:={ s with heap:=h',toks:=tk }) (n:="range_iterator") st' rfl rfl (by decide) ⟨.int (lo+i),H,I1,⟨t,?_⟩,⟨rfl,rfl⟩,st',fun b hb=>(hf b hb).1⟩⟩
  rw[Int.mul_one]
 done:=by
  intro X hP hw hK hc i pins s σ H E I hf st hg
  subst hP hw hK
  obtain⟨f0,f1,f2,f3,f4,f5⟩:=hf it (by simp)
  exact wpAny_pyNext_range_end (I.ok.hd hc) st (by have:n<=i:=hg;omega) fun h' eb=>⟨rfl,I.turned (t':=s.toks) (fun b o hb e=>eb b o hb e) f0 f1 f3 f4 f5⟩
 self:=fun _ _ _ _ _ st h=>wpAny_pyIter_rangeiter st h
end L2
namespace L2
open PySem PySem.Spec PyProof.Rows
section
variable {X:Cx} {tg:Expr}
noncomputable def LK(K:PySem.W.Frag)(tl:TE):TI:=fun σ H R=>tl σ H fun x H1=>∃a,x=.ref a/\(∃xs,SqL K H1 a xs)/\R (Itl K a) H1
theorem Cm{l:Expr}{tl:TE}(hl:PE X l tl):PI X tg l (LK X.K tl):=by
 intro pins s σ H R I h
 refine thn (hl pins s σ H _ I h) fun v s1 hw'=>?_
 obtain⟨x,H1,I1,r1,q1⟩:=hw'
 obtain⟨a,e,⟨xs,hq⟩,q⟩:=q1
 subst e
 cases r1
 obtain⟨its,rv,p,hz⟩:=I1.list hq
 refine wpAny_pyIter_list p.isList ?_
 refine⟨s1.heap.objs.size,[s1.heap.objs.size],_,_,H1,rfl,I1.kept (t':=s1.toks) fun b o e=>Heap.get?_push_of_some _ e,Fz a _,⟨_,Heap.get?_push_size _ rfl,rfl,rfl⟩,fun b hb=>?_,q⟩
 have e:b=s1.heap.objs.size:=by simpa using hb
 subst e
 exact I1.fpOk (Nat.le_refl _) (I1.hok.fresh (Nat.le_refl _))
theorem Je{pins:List (Addr×Obj)}{σ:St}{H:Hp}{s:Shared}{R:It->Hp->Prop}{E:Value->Shared->Prop}{lo hi:Int}{t u v:Tok}{tk:Nat}(I:Inv X pins σ H s)(h1:-(2 ^ 62)<=lo)(h2:lo<2 ^ 62)(h3:-(2 ^ 62)<=hi)(h4:hi<2 ^ 62)
  (q:R (Itr lo (hi-lo).toNat) H):wpAny (model X.prog X.w) X.A (pyIter (.ref s.heap.objs.size)) (PIE X pins σ tg R) E { s with heap:=s.heap.push { cls:=.type "range",data:=.fields #[.int lo t,.int hi u,.int 1 v] },toks:=tk }:=by
 refine wpAny_pyIter_range (IsRange.new ..) (small_one h1 h2 h3 h4) ?_
 have I1:Inv X pins σ H { s with heap:=s.heap.push { cls:=.type "range",data:=.fields #[.int lo t,.int hi u,.int 1 v] },toks:=tk }:=I.kept fun b o e=>Heap.get?_push_of_some _ e
 refine⟨(s.heap.push { cls:=.type "range",data:=.fields #[.int lo t,.int hi u,.int 1 v] }).objs.size,[(s.heap.push { cls:=.type "range",data:=.fields #[.int lo t,.int hi u,.int 1 v] }).objs.size],_,_,H,rfl,
  I1.kept (t':=tk) fun b o e=>Heap.get?_push_of_some _ e,Dy _ lo (hi-lo).toNat,?_,fun b hb=>?_,q⟩
 ·have e1:lo+((0:Nat):Int)*1=lo:=by simp
  have e2:(((hi-lo).toNat:Nat):Int)-((0:Nat):Int)=Builtin.Range.rangeSize lo hi 1:=by rw[rangeSize_one];split<;>omega
  show IsRangeIter _ _ (lo+((0:Nat):Int)*1) ((((hi-lo).toNat:Nat):Int)-((0:Nat):Int)) 1
  rw[e1,e2]
  exact Heap.get?_push_size _ rfl
 ·have e:b=(s.heap.push { cls:=.type "range",data:=.fields #[.int lo t,.int hi u,.int 1 v] }).objs.size:=by simpa using hb
  subst e
  exact I1.fpOk (Nat.le_refl _) (I1.hok.fresh (Nat.le_refl _))
noncomputable def TQ(ta:TA):TI:=fun σ H R=>ta σ H fun vs H1=>∃j:Int,vs=[.int j] /\ -(2 ^ 62)<=j/\j<2 ^ 62/\R (Itr 0 j.toNat) H1
theorem FJ{a:Expr}{ta:TA}{p pos:Pos}(hg:Gl X "range")(hm:X.mg "range" = none)(ha:PA X [a] ta)(hs:starEach [a] X.env=[(false,eval a X.env)]:=by rfl):PI X tg (.Call (.Name "range" p) [a] [] pos) (TQ ta):=by
 intro pins s σ H R I h
 refine Call_ (rU I hg hm boot_range (PyProof.Rows.callWith_type1 (thn (ha pos pins s σ H _ I h) fun us s1 hw'=>?_) hs rfl))
 obtain⟨vs,H1,I1,r1,q1⟩:=hw'
 obtain⟨j,e,q1,q2,q⟩:=q1
 subst e
 cases r1 with
 | cons r rr =>
  cases rr
  obtain⟨t,rfl⟩:=r
  exact call_range_1 (Je I1 (by omega) (by omega) q1 q2 (by simpa using q))
noncomputable def Vj(wi:TI)(g:TG)(tb:TS):TS:=fun D σ H=>wi σ H fun J H1=>∃W:Nat->Nat->St->Hp->Prop,(∃m,W 0 m σ H1)/\∀i m σ H,W i m σ H ->
 (J.stop i H/\D.nx σ H)\/(J.go i H/\∃N:St->Hp->Prop,(∀σ' H',N σ' H'->∃m',m'<m/\W (i+1) m' σ' H')/\∀x H',J.yld i H x H'->g x σ H' fun σ2 H2=>tb { D with nx:=N,ct:=N,bk:=D.nx } σ2 H2)
noncomputable def rW(fp:List Addr)(h:Heap):List (Addr×Obj):=fp.filterMap fun b=>(h.get? b).map fun o=>(b,o)
theorem mY{fp:List Addr}{h:Heap}{b:Addr}{o:Obj}(hb:b∈fp)(e:h.get? b=some o):(b,o)∈rW fp h:=List.mem_filterMap.mpr ⟨b,hb,by rw[e];rfl⟩
theorem FN{fp:List Addr}{h:Heap}{p:Addr×Obj}(hp:p∈rW fp h):p.1∈fp/\h.get? p.1=some p.2:=by
 obtain⟨b,hb,e⟩:=List.mem_filterMap.mp hp
 cases q:h.get? b with
 | none=>rw[q] at e;cases e
 | some o =>
  rw[q] at e
  have e':(b,o)=p:=Option.some.inj e
  subst e'
  exact⟨hb,q⟩
theorem Inv.pinned{pins:List (Addr×Obj)}{σ:St}{H:Hp}{s:Shared}{fp:List Addr}(I:Inv X pins σ H s)(hf:∀b∈fp,lH X pins H b)(ho:∀b∈fp,∃o,s.heap.get? b=some o/\∀v,o.data ≠ .cell v):Inv X (pins++rW fp s.heap) σ H s :=
 I.pins_of fun p hp=>(List.mem_append.mp hp).elim (fun z=>I.pin p (List.mem_append_right _ z)) fun z=>by
  obtain⟨hb,e⟩:=FN z
  obtain⟨f0,f1,f2,_⟩:=hf p.1 hb
  obtain⟨o,e',d⟩:=ho p.1 hb
  rw[e] at e';cases e'
  exact⟨e,f0,f1,f2,d⟩
theorem Inv.unpinned{pins pl:List (Addr×Obj)}{σ:St}{H:Hp}{s:Shared}(I:Inv X (pins++pl) σ H s):Inv X pins σ H s:=I.pins_of fun p hp=>I.pin p (List.mem_append_right _ (List.mem_append_left _ hp))
theorem Rc{iter:Expr}{body:List Stmt}{wi:TI}{g:TG}{tb:TS}{pos:Pos}(hp:PassesOwn (model X.prog X.w) X.A X.env X.xe)(hc:X.calm=true)(hi:PI X tg iter wi)(hg:PG X tg g)(hb:PSs X body tb)
  (hs:∀x,foldedSetIterable iter X.env x=pure x:=by intro _;rfl):PS X (.For tg iter body [] pos) (Vj wi g tb):=by
 intro pins s σ H D I h
 refine wpAny_For (thn (hi pins s σ H _ I h) fun v s1 h1=>thn h1 fun itv s2 h2=>?_) hs
 obtain⟨it,fp,tn,J,H2,e,I2,T,st2,f2,W,⟨m0,w0⟩,turn⟩:=h2
 subst e
 have stat:∀{H':Hp},(∀b∈fp,H' b=none)->∀b∈fp,lH X pins H' b:=fun hn b hb=>⟨hn b hb,(f2 b hb).2⟩
 refine codeAny_forLoop_any (fun n s'=>∃i σ' H',Inv X pins σ' H' s'/\tn i s'.heap/\(∀b∈fp,H' b=none)/\W i n σ' H') ?_ m0 ⟨0,σ,H2,I2,st2,fun b hb=>(f2 b hb).1,w0⟩
 rintro n s3 ⟨i,σ3,H3,I3,st3,fr3,w3⟩
 rcases turn i n σ3 H3 w3 with⟨stop,qn⟩ |⟨go,N,hN,step⟩
 ·refine wpAny_passesOwn hp (thn (T.done X rfl rfl rfl hc i pins s3 σ3 H3 X.xe I3 (stat fr3) st3 stop) fun r s4 ⟨hr,I4⟩=>?_)
  subst hr
  exact wpAny_execs_nil ⟨σ3,H3,I4,qn⟩
 ·refine wpAny_passesOwn hp (thn (T.item X rfl rfl rfl hc i pins s3 σ3 H3 X.xe I3 (stat fr3) st3 go) fun r s4 ⟨u,hr,h4⟩=>?_)
  subst hr
  refine wpAny_passesOwn hp (thn h4 fun _ s5 hw'=>?_)
  obtain⟨x,H5,I5,r5,y5,st5,fr5⟩:=hw'
  have I5':=I5.pinned (stat fr5) (T.obj _ _ st5)
  refine wpAny_passesOwn hp (thn (hg _ s5 σ3 H5 x u _ I5' r5 (step x H5 y5)) fun _ s6 hw'=>?_)
  obtain⟨σ6,H6,I6,q6⟩:=hw'
  refine wpAny_passesOwn hp (thn (hb _ s6 σ6 H6 _ I6 q6) fun f s7 q7=>?_)
  have again:∀{σ7:St} {H7:Hp},Inv X (pins++rW fp s5.heap) σ7 H7 s7->N σ7 H7->∃m,m<n/\∃i σ' H',Inv X pins σ' H' s7/\tn i s7.heap/\(∀b∈fp,H' b=none)/\W i m σ' H':=fun {σ7 H7} I7 n7=>by
   obtain⟨m',hm,w7⟩:=hN σ7 H7 n7
   refine⟨m',hm,i+1,σ7,H7,I7.unpinned,T.keep _ _ _ st5 fun b hb o e=>(I7.pin (b,o) (List.mem_append_right _ (List.mem_append_right _ (mY hb e)))).1,fun b hb=>?_,w7⟩
   obtain⟨o,e,d⟩:=T.obj _ _ st5 b hb
   exact(I7.pin (b,o) (List.mem_append_right _ (List.mem_append_right _ (mY hb e)))).2.1
  cases f with
  | next=>obtain⟨σ7,H7,I7,n7⟩:=q7;exact again I7 n7
  | cont=>obtain⟨σ7,H7,I7,n7⟩:=q7;exact again I7 n7
  | brk=>obtain⟨σ7,H7,I7,q7⟩:=q7;exact⟨σ7,H7,I7.unpinned,q7⟩
  | ret v=>obtain⟨x7,σ7,H7,I7,r7,q7⟩:=q7;exact⟨x7,σ7,H7,I7.unpinned,r7,q7⟩
end
end L2
namespace L2
open PySem PySem.Spec PyProof.Rows
noncomputable abbrev R2:=V->V->Hp->VK->Prop
noncomputable def OpR(X:Cx)(f:Value->Value->Sem Value)(r:R2):Prop :=
 ∀(pins:List (Addr×Obj)) (s:Shared) (σ:St) (H:Hp) (x y:V) (v u:Value) (Q:VK),Inv X pins σ H s->RelV x v->RelV y u->r x y H Q ->
  wpAny (model X.prog X.w) X.A (f v u) (EP X pins σ Q) X.xe s
noncomputable def fH(X:Cx)(f:Value)(r:List V->Hp->VK->Prop):Prop :=
 ∀(pins:List (Addr×Obj)) (s:Shared) (σ:St) (H:Hp) (xs:List V) (us:List Value) (Q:VK),Inv X pins σ H s->Vals xs us->r xs H Q ->
  wpAny (model X.prog X.w) X.A (call f us) (EP X pins σ Q) X.xe s
noncomputable def tOp(r:R2)(ta tb:TE):TE:=fun σ H Q=>ta σ H fun x H1=>tb σ H1 fun y H2=>r x y H2 Q
noncomputable def rI(C:Int->Int->Prop)(g:Int->Int->V):R2:=fun x y H Q=>∃i j,x=.int i/\y=.int j/\C i j/\Q (g i j) H
noncomputable def rI0(g:Int->Int->V):R2:=fun x y H Q=>∃i j,x=.int i/\y=.int j/\Q (g i j) H
section
variable {X:Cx} {a b c:Expr} {ta tb tc:TE} {pos:Pos}
theorem Jf(ha:PE X a ta)(hb:PE X b tb){pins:List (Addr×Obj)}{s:Shared}{σ:St}{H:Hp}{R:V->V->Hp->Prop}(I:Inv X pins σ H s)
  (h:ta σ H fun x H1=>tb σ H1 fun y H2=>R x y H2) {Q:Value->Shared->Prop} {f:Value->Value->Sem Value}
  (hf:∀v u s2 x y H2,Inv X pins σ H2 s2->RelV x v->RelV y u->R x y H2->wpAny (model X.prog X.w) X.A (f v u) Q X.xe s2) :
  wpAny (model X.prog X.w) X.A (eval a X.env) (fun v s₁=>wpAny (model X.prog X.w) X.A (eval b X.env) (fun u s₂=>wpAny (model X.prog X.w) X.A (f v u) Q X.xe s₂) X.xe s₁) X.xe s:=by
 refine thn (ha pins s σ H _ I h) fun v s1 hw'=>?_
 obtain⟨x,H1,I1,r1,q1⟩:=hw'
 refine thn (hb pins s1 σ H1 _ I1 q1) fun u s2 hw'=>?_
 obtain⟨y,H2,I2,r2,q2⟩:=hw'
 exact hf v u s2 x y H2 I2 r1 r2 q2
theorem TV{op:Operator}{r:R2}(ho:OpR X (binaryOp op) r)(ha:PE X a ta)(hb:PE X b tb):PE X (.BinOp a op b pos) (tOp r ta tb):=by
 intro pins s σ H Q I h
 exact wpAny_BinOp (Jf ha hb I h fun v u s2 x y H2 I2 rx ry q=>ho pins s2 σ H2 x y v u Q I2 rx ry q)
theorem opI{f:Value->Value->Sem Value}{C:Int->Int->Prop}{g:Int->Int->Int}
  (rule:∀(i j:Int) (t u:Tok) (s:Shared) (Q:Value->Shared->Prop) (E:Value->Shared->Prop),C i j->Q (.int (g i j) s.toks) { s with toks:=s.toks+1 }->wpAny (model X.prog X.w) X.A (f (.int i t) (.int j u)) Q E s) :
  OpR X f (rI C fun i j=>.int (g i j)):=by
 intro pins s σ H x y v u Q I rx ry h
 obtain⟨i,j,rfl,rfl,hc,q⟩:=h
 obtain⟨t,rfl⟩:=rx
 obtain⟨t',rfl⟩:=ry
 exact rule i j t t' s _ _ hc ⟨.int (g i j),H,I.tok _,⟨_,rfl⟩,q⟩
theorem Rf{f:Value->Value->Sem Value}{g:Int->Int->Int}
  (rule:∀(i j:Int) (t u:Tok) (s:Shared) (Q:Value->Shared->Prop) (E:Value->Shared->Prop),Q (.int (g i j) s.toks) { s with toks:=s.toks+1 }->wpAny (model X.prog X.w) X.A (f (.int i t) (.int j u)) Q E s) :
  OpR X f (rI0 fun i j=>.int (g i j)):=by
 intro pins s σ H x y v u Q I rx ry h
 obtain⟨i,j,rfl,rfl,q⟩:=h
 obtain⟨t,rfl⟩:=rx
 obtain⟨t',rfl⟩:=ry
 exact rule i j t t' s _ _ ⟨.int (g i j),H,I.tok _,⟨_,rfl⟩,q⟩
theorem Rg{f:Value->Value->Sem Value}{g:Int->Int->Bool}
  (rule:∀(i j:Int) (t u:Tok) (s:Shared) (Q:Value->Shared->Prop) (E:Value->Shared->Prop),Q (.bool (g i j)) s->wpAny (model X.prog X.w) X.A (f (.int i t) (.int j u)) Q E s) :
  OpR X f (rI0 fun i j=>.bl (g i j)):=by
 intro pins s σ H x y v u Q I rx ry h
 obtain⟨i,j,rfl,rfl,q⟩:=h
 obtain⟨t,rfl⟩:=rx
 obtain⟨t',rfl⟩:=ry
 exact rule i j t t' s _ _ ⟨.bl (g i j),H,I,rfl,q⟩
noncomputable def Vk(i j:Int):Prop:=0<j/\j<1073741824
noncomputable def Jg(i j:Int):Prop:=(-(2 ^ 64)<i/\i<2 ^ 64)\/(-(2 ^ 64)<j/\j<2 ^ 64)
theorem Jg.ok{i j:Int}(h:Jg i j):IntMulOk i j:=by
 rcases h with⟨h1,h2⟩ |⟨h1,h2⟩
 ·exact .of_left (intBits_le_64 h1 h2)
 ·exact .of_right (intBits_le_64 h1 h2)
theorem Rh:OpR X (binaryOp .Add) (rI0 fun i j=>.int (i+j)):=Rf fun _ _ _ _ _ _ _ q=>add_int q
theorem Ri:OpR X (binaryOp .Sub) (rI0 fun i j=>.int (i-j)):=Rf fun _ _ _ _ _ _ _ q=>sub_int q
theorem Rj:OpR X (binaryOp .Mult) (rI Jg fun i j=>.int (i*j)):=opI fun _ _ _ _ _ _ _ hc q=>mul_int q hc.ok
theorem Nh:OpR X (binaryOp .FloorDiv) (rI Vk fun i j=>.int (i / j)):=opI fun i j _ _ _ _ _ hc q=>by
 have h1:(0:Int)<j:=hc.1
 have h2:j<1073741824:=hc.2
 exact floordiv_int (by omega) (by rw[Int.fdiv_eq_ediv_of_nonneg i (by omega)];exact q) (.inl (PyProof.noPylong_small (by omega)))
theorem Rk:OpR X (binaryOp .Mod) (rI (fun _ j=>0<j) fun i j=>.int (i%j)):=opI fun i j _ _ _ _ _ hc q=>by
 have h1:(0:Int)<j:=hc
 exact mod_int' (by omega) (by rw[Int.fmod_eq_emod_of_nonneg i (by omega)];exact q)
end
section
variable {X:Cx} {a b c:Expr} {ta tb tc:TE} {pos:Pos}
theorem Rm{pins:List (Addr×Obj)}{σ:St}{H:Hp}{s:Shared}{Q:VK}{k k':Bool}(I:Inv X pins σ H s)(q:Q (.bl k) H)(e:k=k'):EP X pins σ Q (.bool k') s:=by
 subst e
 exact⟨.bl k,H,I,rfl,q⟩
theorem TX:OpR X (compareOp .Lt) (rI0 fun i j=>.bl (decide (i<j))):=Rg fun _ _ _ _ _ _ _ q=>lt_int q
theorem TY:OpR X (compareOp .Gt) (rI0 fun i j=>.bl (decide (j<i))):=Rg fun _ _ _ _ _ _ _ q=>gt_int q
theorem Rn:OpR X (compareOp .Is) (fun x y H Q=>y=.non/\Q (.bl (decide (x=.non))) H):=by
 intro pins s σ H x y v u Q I rx ry h
 obtain⟨rfl,q⟩:=h
 cases ry
 refine is_none_gen (Rm I q ?_)
 cases x<;>first
  | (cases rx;rfl)
  | (obtain⟨t,rfl⟩:=rx;rfl)
theorem bh(b:Expr){op:CmpOp}(h:op ≠ .In:=by decide)(h2:op ≠ .NotIn:=by decide):behindInMarks op b=false:=by
 have e1:(op==CmpOp.In)=false:=by cases op<;>first |rfl |exact absurd rfl h
 have e2:(op==CmpOp.NotIn)=false:=by cases op<;>first |rfl |exact absurd rfl h2
 cases b<;>simp[behindInMarks,e1,e2]
theorem Ni{op:CmpOp}{r:R2}(ho:OpR X (compareOp op) r)(ha:PE X a ta)(hb:PE X b tb)(hm:behindInMarks op b=false):PE X (.Compare a [op] [b] pos) (tOp r ta tb):=by
 intro pins s σ H Q I h
 exact wpAny_Compare1 (Jf ha hb I h fun v u s2 x y H2 I2 rx ry q=>ho pins s2 σ H2 x y v u Q I2 rx ry q) hm
noncomputable def T_(t:TE):TT:=fun σ H Q=>t σ H fun x H'=>∃k,x=.bl k/\Q k H'
theorem wI{op:CmpOp}{r:R2}(ho:OpR X (compareOp op) r)(ha:PE X a ta)(hb:PE X b tb)(hm:behindInMarks op b=false):PT X (.Compare a [op] [b] pos) (T_ (tOp r ta tb)):=by
 intro pins s σ H Q I h
 refine wpAny_isTrue_Compare1 (thn (ha pins s σ H _ I h) fun v s1 ⟨x,H1,I1,r1,q1⟩=>thn (hb pins s1 σ H1 _ I1 q1) fun u s2 ⟨y,H2,I2,r2,q2⟩ =>
  thn (ho pins s2 σ H2 x y v u _ I2 r1 r2 q2) fun c s3 hw'=>?_) hm
 obtain⟨z,H3,I3,r3,k,e,q3⟩:=hw'
 subst e
 cases r3
 exact wpAny_truthy_bool ⟨H3,I3,q3⟩
theorem qj:(sizeLine:Nat)<2 ^ 63:=by rw[sizeLine_eq];decide
theorem Dz:OpR X (binaryOp .Add) (fun x y H Q=>∃i j,x=.str i/\y=.str j/\i.length+j.length<=sizeLine/\Q (.str (i++j)) H):=by
 intro pins s σ H x y v u Q I rx ry h
 obtain⟨i,j,rfl,rfl,hz,q⟩:=h
 obtain⟨t,rfl⟩:=rx
 obtain⟨t',rfl⟩:=ry
 exact add_str (fun t' tk=>⟨.str (i++j),H,I.tok _,⟨_,rfl⟩,q⟩) hz
theorem vals1{x:V}{us:List Value}(r:Vals [x] us):∃u,us=[u]/\RelV x u:=by
 cases r with
 | cons r1 r2=>cases r2;exact⟨_,rfl,r1⟩
theorem vals2{x y:V}{us:List Value}(r:Vals [x,y] us):∃u w',us=[u,w']/\RelV x u/\RelV y w':=by
 cases r with
 | cons r1 r2 =>
  cases r2 with
  | cons r3 r4=>cases r4;exact⟨_,_,rfl,r1,r3⟩
theorem FP(hc:X.calm=true):fH X (.builtin "max") (fun xs H Q=>∃i j,xs=[.int i,.int j]/\Q (.int (if j>i then j else i)) H):=by
 intro pins s σ H xs us Q I r h
 obtain⟨i,j,rfl,q⟩:=h
 obtain⟨u,w',rfl,⟨t,rfl⟩,⟨t',rfl⟩⟩:=vals2 r
 refine max_two_ints (I.ok.hd hc) fun h' tk k=>⟨_,H,I.kept k,?_,q⟩
 by_cases hj:j>i
 ·rw[if_pos hj,if_pos hj];exact⟨_,rfl⟩
 ·rw[if_neg hj,if_neg hj];exact⟨_,rfl⟩
theorem FQ(hc:X.calm=true):fH X (.builtin "min") (fun xs H Q=>∃i j,xs=[.int i,.int j]/\Q (.int (if j<i then j else i)) H):=by
 intro pins s σ H xs us Q I r h
 obtain⟨i,j,rfl,q⟩:=h
 obtain⟨u,w',rfl,⟨t,rfl⟩,⟨t',rfl⟩⟩:=vals2 r
 refine min_two_ints (I.ok.hd hc) fun h' tk k=>⟨_,H,I.kept k,?_,q⟩
 by_cases hj:j<i
 ·rw[if_pos hj,if_pos hj];exact⟨_,rfl⟩
 ·rw[if_neg hj,if_neg hj];exact⟨_,rfl⟩
theorem yc:fH X (.type "int") (fun xs H Q=>(∃i,xs=[.int i]/\Q (.int i) H)\/∃k,xs=[.bl k]/\Q (.int (if k then 1 else 0)) H):=by
 intro pins s σ H xs us Q I r h
 rcases h with⟨i,rfl,q⟩ |⟨k,rfl,q⟩
 ·obtain⟨u,rfl,t,rfl⟩:=vals1 r
  exact call_int_int ⟨.int i,H,I,⟨_,rfl⟩,q⟩
 ·obtain⟨u,rfl,r1⟩:=vals1 r
  cases r1
  exact call_int_bool ⟨.int (if k then 1 else 0),H,I.tok _,⟨_,rfl⟩,q⟩
noncomputable def Vl(K:PySem.W.Frag)(x:V)(H:Hp)(n:Nat):Prop :=
 match x with
 | .str y=>y.length<=sizeLine/\n=y.length
 | .byt y=>y.size<=sizeLine/\n=y.size
 | .ref p=>(∃xs,SqL K H p xs/\n=xs.length)\/∃xs,SqT K H p xs/\n=xs.length
 | _=>False
theorem Jh:fH X (.builtin "len") (fun xs H Q=>∃x n,xs=[x]/\Vl X.K x H n/\Q (.int n) H):=by
 intro pins s σ H xs us Q I r h
 obtain⟨x,n,rfl,e,q⟩:=h
 obtain⟨u,rfl,rx⟩:=vals1 r
 have hl:=qj
 have hs:sizeLine=16777216:=sizeLine_eq
 cases x with
 | str y =>
  obtain⟨t,rfl⟩:=rx
  obtain⟨hy,e'⟩:y.length<=sizeLine/\n=y.length:=e
  subst e'
  exact len_str (by omega) ⟨.int _,H,I.tok _,⟨_,rfl⟩,q⟩
 | byt y =>
  obtain⟨t,rfl⟩:=rx
  obtain⟨hy,e'⟩:y.size<=sizeLine/\n=y.size:=e
  subst e'
  exact PySem.W.len_bytes (by omega) ⟨.int _,H,I.tok _,⟨_,rfl⟩,q⟩
 | ref p =>
  cases rx
  have e':(∃xs,SqL X.K H p xs/\n=xs.length)\/∃xs,SqT X.K H p xs/\n=xs.length:=e
  rcases e' with⟨xs,hx,e'⟩ |⟨xs,hx,e'⟩
  ·subst e'
   obtain⟨its,r',pl,hz⟩:=I.list hx
   have hlen:=r'.length
   exact Calls.call_len_list pl.isList (by simp only[List.size_toArray];omega) ⟨.int xs.length,H,I.tok _,⟨_,by simp only[List.size_toArray];rw[hlen]⟩,q⟩
  ·subst e'
   obtain⟨its,r',pl,hz⟩:=I.tuple hx
   have hlen:=r'.length
   exact len_tuple pl (by simp only[List.size_toArray];omega) ⟨.int xs.length,H,I.tok _,⟨_,by simp only[List.size_toArray];rw[hlen]⟩,q⟩
 | _=>exact(show False from e).elim
end
end L2
namespace L2
open PySem PySem.Spec PyProof.Rows
structure ObjM(h:Heap)(x dx C:Addr)(mA:Str->Option Value):Prop where
 obj:h.get? x=some (PySem.W.instObj C dx)
 ns:h.Ns1 dx mA
 ne:dx≠x
theorem FT{h:Heap}{dx:Addr}{mA:Str->Option Value}(n:h.Ns1 dx mA):∃od,h.get? dx=some od/\∀name,PySem.W.lookIn name od=some (mA name):=by
 obtain⟨o,es,ep,ho,hd,hk,_,hm⟩:=n
 refine⟨o,ho,fun name=>?_⟩
 have e:=hm name
 unfold nsFind findBy at e
 rw[<-Array.find?_toList] at e
 unfold PySem.W.lookIn
 rw[hd]
 dsimp only
 split
 ·rename_i y q
  rw[q] at e
  exact congrArg some e
 ·rename_i q
  rw[q] at e
  have a:es.toList.any (·.refKey)=false:=by
   rw[List.any_eq_false]
   intro y hy
   obtain⟨z,t,hkey⟩:=hk y (Array.mem_toList_iff.mp hy)
   simp[DictEntry.refKey,hkey]
  have a':¬es.toList.any (·.refKey)=true:=by rw[a];exact Bool.false_ne_true
  rw[if_neg a']
  exact congrArg some e
theorem ObjM.look{h:Heap}{x dx C:Addr}{mA:Str->Option Value}(I:ObjM h x dx C mA):∃od,PySem.W.InstAt h x (PySem.W.instObj C dx) C (some od)/\∀name,PySem.W.lookIn name od=some (mA name) :=
 let⟨od,ho,hl⟩:=FT I.ns
 ⟨od,⟨I.obj,rfl,rfl,ho⟩,hl⟩
section
variable {prog:Program} {w:World} {A:Around} {E:Value->Shared->Prop} {s:Shared} {K:PySem.W.Frag} {x dx C f:Addr} {mA:Str->Option Value} {name:Str} {v:Value}
theorem get_map{expr:Bool}{Q:Value->Shared->Prop}(X:K.In s.heap)(I:ObjM s.heap x dx C mA)(hg:PySem.W.plainGet K C name=true)(hh:PySem.W.hasDictIn K C=true)
  (ha:PySem.W.findIn K (.ref C) name=some none) (hv:mA name=some v) (hv':PySem.W.handedIn v=true) (h:Q v { s with toks:=s.toks+1 }) :
  wpAny (model prog w) A (getAttr (.ref x) name expr) Q E s:=by
 obtain⟨od,J,hl⟩:=I.look
 exact PySem.W.get_value X J (PySem.W.plainGet_of hg).1 (PySem.W.findObj_own hh ha rfl (by rw[hl,hv])) hv' h
theorem Ji{pl:Sem Bool}{Q:Value×List Value->Shared->Prop}(X:K.In s.heap)(I:ObjM s.heap x dx C mA)(hg:PySem.W.plainGet K C name=true)
  (hf:PySem.W.findIn K (.ref C) name=some (some (.ref f))) (ht:PySem.W.isFn K (.ref f)=true) (hv:mA name=none) (h:Q (.ref f,[.ref x]) s) :
  wpAny (model prog w) A (getMethod (.ref x) name pl) Q E s:=by
 obtain⟨od,J,hl⟩:=I.look
 exact PySem.W.method_fn X J (PySem.W.plainGet_of hg).1 (PySem.W.plainGet_of hg).2 hf (beq_iff_eq.mp ht) (by show(PySem.W.lookIn name od).map (·.isSome)=some false;rw[hl,hv];rfl) h
theorem Nj{ns:List Str}{Q:Unit->Shared->Prop}(X:K.In s.heap)(I:ObjM s.heap x dx C mA)
  (hs:PySem.W.findIn K (.ref C) "__setattr__" = some (some (.builtin "object.__setattr__"))) (hp:PySem.W.plainOver K C=true) (ht:PySem.W.takerIn K C name=some none) (hh:PySem.W.hasDictIn K C=true)
  (hw:PySem.Within mA ns) (hsz:ns.length<=sizeLine)
  (h:∀h',ObjM h' x dx C (fun y=>if y=name then some v else mA y)->Heap.SameBut dx s.heap h'->Q () { s with heap:=h',toks:=s.toks+2 }) :
  wpAny (model prog w) A (setAttr (.ref x) name v) Q E s:=by
 obtain⟨od,J,hl⟩:=I.look
 refine PySem.W.set_plain X J hs (PySem.W.osa_open (s:={ s with toks:=s.toks+1 }) (r:=none) X J hp ht fun b=>?_)
 obtain⟨cd,hc,hd'⟩:=PySem.W.any_some hh
 have hx:s.heap.get? x=some ⟨.ref C,some dx,.plain,#[]⟩:=I.obj
 refine wpAny_bind (wpAny_pure (wpAny_bind (wpAny_bind (wpAny_loadPart hx (wpAny_bind (PySem.W.Looks.here (s:={ s with toks:=s.toks+1 }) (PySem.W.looks_clsIn X hc) ?_))))))
 rw[hd']
 refine wpAny_pure (a:=some dx) (wpAny_bind (wpAny_pure (wpAny_bind ?_)))
 refine wpAny_nsSet1 (s:={ s with toks:=s.toks+1 }) I.ns fun h' hn2 hs2=>?_
 obtain⟨oD,esD,epD,hoD,hdD,hcD⟩:=hn2.count (PySem.Within.cons name v hw)
 refine wpAny_bind (wpAny_lookBehind hoD (by rw[hdD];exact pastItsLine_dict (Nat.le_trans hcD (by rw[List.length_cons];omega))) ?_)
 exact wpAny_pure (h _ ⟨(hs2.2 _ (Ne.symm I.ne)).trans I.obj,hn2,I.ne⟩ hs2)
theorem Jj{R:Result->Shared->Prop}{vs:List Value}{kw:List (Str×Value)}(X:K.In s.heap)(hm:PySem.W.makesIn K C=true)
  (hi:PySem.W.findIn K (.ref C) "__init__" = some (some (.ref f))) (hf:PySem.W.typeIn K (.ref f)=some (.type "function"))
  (h:codeAny (model prog w) (A.under (.builtin "type.__call__" ⟨.ref C::vs,kw⟩)) (.call (.ref f) ⟨.ref (s.heap.objs.size+1)::vs,kw⟩) (PySem.W.InitBack (s.heap.objs.size+1) R)
   { s with heap:=(s.heap.push PySem.W.emptyDict).push (PySem.W.instObj C s.heap.objs.size) }) :
  codeAny (model prog w) A (.call (.ref C) ⟨vs,kw⟩) R s:=by
 obtain⟨hh,g,d,t,os⟩:=s
 exact PySem.W.make_core (PySem.W.makes_of X hm) (PySem.W.looks_findIn X hi) (fun self=>PySem.W.bind_fn X self hf) (.inl rfl) h
end
noncomputable def gq(f:Str)(v:V):List (Str×V)->List (Str×V)
 | []=>[(f,v)]
 | (g,x)::r=>if g=f then(g,v)::r else(g,x)::gq f v r
theorem uC(f g:Str)(v:V):∀fs:List (Str×V),(gq f v fs).lookup g=if g=f then some v else fs.lookup g
 | []=>by
  show List.lookup g [(f,v)]=_
  by_cases h:g=f
  ·have hb:(g==f)=true:=beq_iff_eq.mpr h
   simp only[List.lookup,hb,if_pos h]
  ·have hb:(g==f)=false:=beq_eq_false_iff_ne.mpr h
   simp only[List.lookup,hb,if_neg h]
 | (k,x)::r=>by
  have ih:=uC f g v r
  rw[show gq f v ((k,x)::r)=(if k=f then(k,v)::r else(k,x)::gq f v r) from rfl]
  by_cases hk:k=f
  ·rw[if_pos hk]
   by_cases h:g=k
   ·have hb:(g==k)=true:=beq_iff_eq.mpr h
    simp only[List.lookup,hb,if_pos (h.trans hk)]
   ·have hb:(g==k)=false:=beq_eq_false_iff_ne.mpr h
    simp only[List.lookup,hb,if_neg (fun e:g=f=>h (e.trans hk.symm))]
  ·rw[if_neg hk]
   by_cases h:g=k
   ·have hb:(g==k)=true:=beq_iff_eq.mpr h
    simp only[List.lookup,hb,if_neg (fun e:g=f=>hk (h.symm.trans e))]
   ·have hb:(g==k)=false:=beq_eq_false_iff_ne.mpr h
    simp only[List.lookup,hb]
    exact ih
theorem rY(f:Str)(v:V):∀fs:List (Str×V),f∈(gq f v fs).map (·.1)/\∀g,g∈fs.map (·.1)->g∈(gq f v fs).map (·.1)
 | []=>⟨by simp[gq],fun g h=>by simp at h⟩
 | (k,x)::r=>by
  obtain⟨i1,i2⟩:=rY f v r
  rw[show gq f v ((k,x)::r)=(if k=f then(k,v)::r else(k,x)::gq f v r) from rfl]
  by_cases hk:k=f
  ·rw[if_pos hk]
   subst hk
   exact⟨by simp,fun g h=>by simpa using h⟩
  ·rw[if_neg hk]
   refine⟨?_,fun g h=>?_⟩
   ·rw[List.map_cons]
    exact List.mem_cons_of_mem _ i1
   ·rw[List.map_cons] at h ⊢
    rcases List.mem_cons.mp h with e |e
    ·exact List.mem_cons.mpr (.inl e)
    ·exact List.mem_cons_of_mem _ (i2 g e)
theorem uD(f:Str)(v:V):∀fs:List (Str×V),(gq f v fs).length<=fs.length+1
 | []=>by simp[gq]
 | (k,x)::r=>by
  have ih:=uD f v r
  rw[show gq f v ((k,x)::r)=(if k=f then(k,v)::r else(k,x)::gq f v r) from rfl]
  by_cases hk:k=f
  ·rw[if_pos hk,List.length_cons,List.length_cons];omega
  ·rw[if_neg hk,List.length_cons,List.length_cons];omega
theorem gW.some_of{v:V}{o:Option Value}(r:gW (some v) o):∃u,o=some u/\RelV v u:=by
 cases o with
 | none=>exact(show False from r).elim
 | some u=>exact⟨u,rfl,r⟩
theorem gW.none_of{o:Option Value}(r:gW none o):o=none:=by
 cases o with
 | none=>rfl
 | some u=>exact(show False from r).elim
theorem FW{v:V}{u:Value}(r:RelV v u):PySem.W.handedIn u=true:=by
 cases v with
 | non=>cases (show u=Value.none from r);rfl
 | bl b=>cases (show u=Value.bool b from r);rfl
 | int i=>obtain⟨t,e⟩:=(show ∃t,u=Value.int i t from r);cases e;rfl
 | str x=>obtain⟨t,e⟩:=(show ∃t,u=Value.str x t from r);cases e;rfl
 | byt b=>obtain⟨t,e⟩:=(show ∃t,u=Value.bytes b t from r);cases e;rfl
 | flt b=>obtain⟨t,e⟩:=(show ∃t,u=Value.float b t from r);cases e;rfl
 | ref a=>cases (show u=Value.ref a from r);rfl
 | ty n=>cases (show u=Value.type n from r);rfl
section
variable {P:Program} {w:World} {H H':Hp} {h h':Heap} {a C dx:Addr} {fs fs':List (Str×V)}
theorem tX(hok:HOk P w H h)(e:H a=some (.ins C dx fs)):∃mA,ObjM h a dx C mA/\(∀f,gW (fs.lookup f) (mA f))/\PySem.Within mA (fs.map (·.1))/\fs.length<=1000/\H dx=some (.own a):=by
 obtain⟨d,z,ne,ob,mA,n,r,q⟩:=(show bI P w H h a (.ins C dx fs) from hok a _ e)
 exact⟨mA,⟨ob,n,ne⟩,r,q,z,d⟩
end
structure Cls(K:PySem.W.Frag)(C:Addr):Prop where
 pg:PySem.W.plainGet K C Str.empty=true
 hd:PySem.W.hasDictIn K C=true
 po:PySem.W.plainOver K C=true
 sa:PySem.W.findIn K (.ref C) "__setattr__" = some (some (.builtin "object.__setattr__"))
theorem Cls.get{K:PySem.W.Frag}{C:Addr}(c:Cls K C)(f:Str):PySem.W.plainGet K C f=true:=c.pg
noncomputable def mj(K:PySem.W.Frag)(C:Addr)(f:Str):Prop:=PySem.W.findIn K (.ref C) f=some none
theorem mj.taker{K:PySem.W.Frag}{C:Addr}{f:Str}(n:mj K C f):PySem.W.takerIn K C f=some none:=by
 unfold PySem.W.takerIn
 rw[show PySem.W.findIn K (.ref C) f=some none from n]
 rfl
structure Meth(K:PySem.W.Frag)(C:Addr)(m:Str)(f:Addr):Prop where
 at_:PySem.W.findIn K (.ref C) m=some (some (.ref f))
 fn:PySem.W.isFn K (.ref f)=true
 kp:PySem.W.keepIn K (.ref f)=true
section
variable {X:Cx} {pins:List (Addr×Obj)} {σ:St} {H:Hp} {s:Shared} {a C dx:Addr} {fs:List (Str×V)} {f:Str} {v:V} {A:Around} {E:Value->Shared->Prop}
theorem DG{b:Bool}{Q:Value->Shared->Prop}(I:Inv X pins σ H s)(e:H a=some (.ins C dx fs))(c:Cls X.K C)(n:mj X.K C f)(l:fs.lookup f=some v)
  (h:∀u s',Inv X pins σ H s'->RelV v u->Q u s'):wpAny (model X.prog X.w) A (getAttr (.ref a) f b) Q E s:=by
 obtain⟨mA,O,r,_,_,_⟩:=tX I.hok e
 obtain⟨u,hu,ru⟩:=gW.some_of (v:=v) (o:=mA f) (by rw[<-l];exact r f)
 exact get_map I.kIn O (c.get f) c.hd n hu (FW ru) (h u _ (I.tok _) ru)
theorem vp{m:Str}{g:Addr}{pl:Sem Bool}{Q:Value×List Value->Shared->Prop}(I:Inv X pins σ H s)(e:H a=some (.ins C dx fs))(c:Cls X.K C)(k:Meth X.K C m g)(l:fs.lookup m=none)
  (h:Q (.ref g,[.ref a]) s):wpAny (model X.prog X.w) A (getMethod (.ref a) m pl) Q E s:=by
 obtain⟨mA,O,r,_,_,_⟩:=tX I.hok e
 have hn:mA m=none:=gW.none_of (by rw[<-l];exact r m)
 exact Ji I.kIn O (c.get m) k.at_ k.fn hn h
theorem DK{y:V}{u:Value}{Q:Unit->Shared->Prop}(I:Inv X pins σ H s)(e:H a=some (.ins C dx fs))(c:Cls X.K C)(n:mj X.K C f)(hl:fs.length<1000)(ry:RelV y u)
  (h:∀s',Inv X pins σ (upd H a (.ins C dx (gq f y fs))) s'->Q () s'):wpAny (model X.prog X.w) A (setAttr (.ref a) f u) Q E s:=by
 obtain⟨mA,O,r,wi,_,ho⟩:=tX I.hok e
 have hz:(fs.map (·.1)).length<=sizeLine:=by rw[List.length_map,sizeLine_eq];omega
 refine Nj I.kIn O c.sa c.po n.taker c.hd wi hz fun h' O' sb=>h _ ?_
 have hd:∃o,h'.get? dx=some o:=let⟨o,_,_,e',_⟩:=O'.ns;⟨o,e'⟩
 refine I.write (x:=a) (e:=dx) (by rw[e];exact True.intro) (.inr ho) (fun b q hb z=>(sb.2 b hb).trans z) hd ?_
 refine⟨by rw[aC O.ne];exact ho,?_,O.ne,O'.obj,_,O'.ns,fun g=>?_,fun g hg=>?_⟩
 ·have:=uD f y fs;omega
 ·show gW ((gq f y fs).lookup g) (if g=f then some u else mA g)
  rw[uC]
  by_cases q:g=f
  ·rw[if_pos q,if_pos q];exact ry
  ·rw[if_neg q,if_neg q];exact r g
 ·by_cases q:g=f
  ·rw[q];exact(rY f y fs).1
  ·refine(rY f y fs).2 g (wi g fun z=>hg ?_)
   show(if g=f then some u else mA g)=none
   rw[if_neg q];exact z
theorem Inv.made(I:Inv X pins σ H s):Inv X pins σ (upd (upd H s.heap.objs.size (.own (s.heap.objs.size+1))) (s.heap.objs.size+1) (.ins C s.heap.objs.size []))
  { s with heap:=(s.heap.push PySem.W.emptyDict).push (PySem.W.instObj C s.heap.objs.size) }:=by
 have e1:(s.heap.push PySem.W.emptyDict).get? s.heap.objs.size=some PySem.W.emptyDict:=Heap.get?_push_size s.heap rfl
 have e2:((s.heap.push PySem.W.emptyDict).push (PySem.W.instObj C s.heap.objs.size)).get? (s.heap.objs.size+1)=some (PySem.W.instObj C s.heap.objs.size):=by
  have:=Heap.get?_push_size (s.heap.push PySem.W.emptyDict) (o:=PySem.W.instObj C s.heap.objs.size) rfl
  rwa [Heap.size_push] at this
 have e3:(s.heap.push PySem.W.emptyDict).Ns s.heap.objs.size (fun _=>none):=⟨PySem.W.emptyDict,#[],_,e1,rfl,(fun e he=>absurd he (by simp)),fun _=>rfl⟩
 have I1:=I.laid (a:=s.heap.objs.size) (o:=.own (s.heap.objs.size+1)) (h':=s.heap.push PySem.W.emptyDict) (t':=s.toks) (fun b u q=>Heap.get?_push_of_some _ q) (Nat.le_refl _) ⟨_,e1⟩
 refine I1.laid (a:=s.heap.objs.size+1) (o:=.ins C s.heap.objs.size []) (t':=s.toks) (fun b u q=>Heap.get?_push_of_some _ q) (Nat.le_of_eq (Heap.size_push _ _)) ?_
 have ne:s.heap.objs.size≠s.heap.objs.size+1:=Nat.ne_of_lt (Nat.lt_succ_self _)
 refine⟨by rw[aC ne,aJ],Nat.zero_le _,ne,e2,fun _=>none,(Heap.Ns1.of_empty e3).at fun o q=>Heap.get?_push_of_some _ q,fun _=>True.intro,fun y hy=>absurd rfl hy⟩
theorem Nk{prog:Program}{w:World}{env:Env}{e:Expr}{f:Str}{pos:Pos}{s:Shared}{Q:Value->Shared->Prop}(hb:attributeBase e f env (eval e env)=eval e env)
  (h:wpAny (model prog w) A (eval e env) (fun o s₁=>wpAny (model prog w) A (getAttr o f true) Q E s₁) E s):wpAny (model prog w) A (eval (.Attribute e f pos) env) Q E s :=
 Attribute_any_ h (by rw[arm_eval_Attribute,hb])
end
noncomputable def Vm(K:PySem.W.Frag)(ta:TE)(f:Str):TE:=fun σ H Q=>ta σ H fun x H1=>∃a C dx fs v,x=.ref a/\H1 a=some (.ins C dx fs)/\Cls K C/\mj K C f/\fs.lookup f=some v/\Q v H1
noncomputable def Vn(K:PySem.W.Frag)(ta tv:TE)(f:Str):TS:=fun D σ H=>tv σ H fun y H1=>ta σ H1 fun x H2=>∃a C dx fs,x=.ref a/\H2 a=some (.ins C dx fs)/\Cls K C/\mj K C f/\fs.length<1000 /\
 D.nx σ (upd H2 a (.ins C dx (gq f y fs)))
section
variable {X:Cx} {o e value:Expr} {f:Str} {pos pos' tpos:Pos} {ta tv:TE}
theorem Ro(he:PE X e ta)(hb:attributeBase e f X.env (eval e X.env)=eval e X.env):PE X (.Attribute e f pos) (Vm X.K ta f):=by
 intro pins s σ H Q I h
 refine Nk hb (thn (he pins s σ H _ I h) fun u s1 hw'=>?_)
 obtain⟨x,H1,I1,rx,a,C,dx,fs,v,ex,ea,c,n,l,q⟩:=hw'
 subst ex
 obtain rfl:u=Value.ref a:=rx
 exact DG I1 ea c n l fun u' s2 I2 ru=>⟨v,H1,I2,ru,q⟩
theorem Rp(ha:PE X o ta)(hv:PE X value tv)(hs:swapsWith value (some (.Attribute o f pos')) pos.line X.env=pure false):PS X (.Assign [.Attribute o f pos'] value pos) (Vn X.K ta tv f):=by
 intro pins s σ H D I h
 refine plainObj_wpAny_Assign_Attribute (thn (hv pins s σ H _ I h) fun u s1 ⟨y,H1,I1,ry,q⟩=>thn (ha pins s1 σ H1 _ I1 q) fun ov s2 hw'=>?_) hs
 obtain⟨x,H2,I2,rx,a,C,dx,fs,ex,ea,c,n,l,q2⟩:=hw'
 subst ex
 obtain rfl:ov=Value.ref a:=rx
 exact DK I2 ea c n l ry fun s3 I3=>⟨σ,_,I3,q2⟩
end
section
variable {X:Cx} {pins:List (Addr×Obj)} {σ:St} {H:Hp} {s:Shared} {A:Around} {E:Value->Shared->Prop} {Q:Value->Shared->Prop} {c:Value} {b:Bool}
inductive TyOf(K:PySem.W.Frag)(H:Hp):V->Value->Prop where
 | non:TyOf K H .non (.type "NoneType")
 | bl (x:Bool):TyOf K H (.bl x) (.type "bool")
 | int (i:Int):TyOf K H (.int i) (.type "int")
 | str (x:Str):TyOf K H (.str x) (.type "str")
 | flt (x:UInt64):TyOf K H (.flt x) (.type "float")
 | lst {a:Addr} {xs:List V} (e:H a=some (.lst xs)):TyOf K H (.ref a) (.type "list")
 | frz {a:Addr} {o:Obj} {xs:List V} (e:H a=some (.frz o (.lst xs))):TyOf K H (.ref a) (.type "list")
 | tup {a:Addr} {xs:List V} (e:H a=some (.tup xs)):TyOf K H (.ref a) (.type "tuple")
 | dK {a:Addr} {kvs:List (Key×V)} (e:H a=some (.dK kvs)):TyOf K H (.ref a) (.type "dict")
 | dT {a:Addr} {kvs:List (List Key×V)} (e:H a=some (.dT kvs)):TyOf K H (.ref a) (.type "dict")
 | ins {a C dx:Addr} {fs:List (Str×V)} (e:H a=some (.ins C dx fs)) (cl:Cls K C) (ha:PySem.W.findIn K (.ref C) "__class__" = some (some (.builtin "object.__class__")))
   (hn:PySem.W.specialIn K (.builtin "object.__class__") "__get__" = some (some (.builtin "getset_descriptor.__get__"))) (htk:PySem.W.takesIn K (.builtin "object.__class__")=some true)
   (hm:PySem.W.mroIn K C (.type "object")=some true):TyOf K H (.ref a) (.ref C)
theorem FZ{x:V}{u t:Value}(I:Inv X pins σ H s)(rx:RelV x u)(ty:TyOf X.K H x t)(e:PySem.W.kitOne X.K t c=some b)(h:∀tk,Q (.bool b) { s with toks:=tk }) :
  wpAny (model X.prog X.w) A (call (.builtin "isinstance") [u,c]) Q E s:=by
 cases ty with
 | non=>cases (show u=Value.none from rx);exact PySem.W.kia_one PySem.W.kitx_none I.kIn True.intro e (fun z=>nomatch z) h
 | bl y=>cases (show u=Value.bool y from rx);exact PySem.W.kia_one PySem.W.kitx_bool I.kIn True.intro e (fun z=>nomatch z) h
 | int i=>obtain⟨t,q⟩:=(show ∃t,u=Value.int i t from rx);cases q;exact PySem.W.kia_one PySem.W.kitx_int I.kIn True.intro e (fun z=>nomatch z) h
 | str y=>obtain⟨t,q⟩:=(show ∃t,u=Value.str y t from rx);cases q;exact PySem.W.kia_one PySem.W.kitx_str I.kIn True.intro e (fun z=>nomatch z) h
 | flt y=>obtain⟨t,q⟩:=(show ∃t,u=Value.float y t from rx);cases q;exact PySem.W.kia_one PySem.W.kitx_float I.kIn True.intro e (fun z=>nomatch z) h
 | @lst a xs ea =>
  cases (show u=Value.ref a from rx)
  obtain⟨_,_,n,_,h1⟩:=(show bI X.prog X.w H s.heap a (.lst xs) from I.hok a _ ea)
  exact PySem.W.kia_one PySem.W.kitx_list I.kIn ⟨_,h1,rfl⟩ e (fun z=>nomatch z) h
 | @frz a ob xs ea =>
  cases (show u=Value.ref a from rx)
  obtain⟨_,_,_,n,_,h1⟩:=(show bI X.prog X.w H s.heap a (.frz ob (.lst xs)) from I.hok a _ ea)
  exact PySem.W.kia_one PySem.W.kitx_list I.kIn ⟨_,h1,rfl⟩ e (fun z=>nomatch z) h
 | @tup a xs ea =>
  cases (show u=Value.ref a from rx)
  obtain⟨_,_,_,p⟩:=(show bI X.prog X.w H s.heap a (.tup xs) from I.hok a _ ea)
  obtain⟨o,h1,h2,_⟩:=p
  exact PySem.W.kia_one PySem.W.kitx_tuple I.kIn ⟨o,h1,h2⟩ e (fun z=>nomatch z) h
 | @dK a kvs ea =>
  cases (show u=Value.ref a from rx)
  obtain⟨_,_,vs,_,p⟩:=(show bI X.prog X.w H s.heap a (.dK kvs) from I.hok a _ ea)
  obtain⟨o,es,ep,h1,h2,_⟩:=p
  exact PySem.W.kia_one PySem.W.kitx_dict I.kIn ⟨o,h1,h2.1⟩ e (fun z=>nomatch z) h
 | @dT a kvs ea =>
  cases (show u=Value.ref a from rx)
  obtain⟨_,_,xs,_,o,es,ep,h1,h2,_⟩:=(show bI X.prog X.w H s.heap a (.dT kvs) from I.hok a _ ea)
  exact PySem.W.kia_one PySem.W.kitx_dict I.kIn ⟨o,h1,h2.1⟩ e (fun z=>nomatch z) h
 | @ins a C dx fs ea cl ha hn htk hm =>
  cases (show u=Value.ref a from rx)
  obtain⟨mA,O,_⟩:=tX I.hok ea
  obtain⟨od,J,_⟩:=O.look
  exact PySem.W.kia_one (PySem.W.kitx_own (cl.get _) cl.hd ha hn htk hm) I.kIn J e (fun z=>nomatch z) h
end
end L2
namespace L2
open PySem PySem.Spec PyProof.Rows
structure Room(k:Nat)(A:Around):Prop where
 hd:A.handled=none
 dp:A.depth+3*k+5<recursionLimit
 un:A.units+16*k+200<cLine
 gd:A.guards=some []:=by rfl
theorem Room.mono{j k:Nat}{A:Around}(r:Room k A)(h:j<=k):Room j A:=⟨r.hd,by have:=r.dp;omega,by have:=r.un;omega,r.gd⟩
theorem Room.deeper{k:Nat}{A:Around}(r:Room (k+1) A)(env:Env):Room k (A.deeper env) :=
 ⟨r.hd,by have:=r.dp;show A.depth+1+3*k+5<_;omega,by have:=r.un;show A.units+3+16*k+200<_;omega,r.gd⟩
theorem DN{A:Around}{C:Addr}{us:List Value}{kw:List (Str×Value)}:(A.under (.builtin "type.__call__" ⟨.ref C::us,kw⟩)).depth=A.depth+1:=by
 first |rfl |simp[Around.under,Code.weight,Code.isCreation,Code.isGuard,Code.isCaller,Code.frames,Code.isFrame,guardIds]
theorem DP{A:Around}{C:Addr}{us:List Value}{kw:List (Str×Value)}:(A.under (.builtin "type.__call__" ⟨.ref C::us,kw⟩)).units=A.units+1:=by
 first |rfl |simp[Around.under,Code.cUnits,Code.frames,Code.isFrame]
theorem Room.make{k:Nat}{A:Around}(r:Room (k+1) A)(C:Addr)(us:List Value)(kw:List (Str×Value)):Room k (A.under (.builtin "type.__call__" ⟨.ref C::us,kw⟩)) :=
 ⟨r.hd,by have:=r.dp;rw[DN];omega,by have:=r.un;rw[DP];omega,by first |exact r.gd |simpa [Around.under,Code.isGuard,Code.frames,Code.isFrame,guardIds] using r.gd⟩
theorem Room.depth{k:Nat}{A:Around}(r:Room k A):A.depth<recursionLimit:=by have:=r.dp;omega
theorem Room.units{k:Nat}{A:Around}(r:Room k A):A.units+64<cLine:=by have:=r.un;omega
noncomputable def zu:TA:=fun _ H Q=>Q [] H
noncomputable def zj(ta:TE)(tr:TA):TA:=fun σ H Q=>ta σ H fun x H1=>tr σ H1 fun xs H2=>Q (x::xs) H2
section
variable {X:Cx} {e:Expr} {es:List Expr} {te:TE} {t:TA} {pos:Pos}
theorem cY:PA X [] zu:=fun _ _ _ _ H Q I h=>Calls.spliced_nil ⟨[],H,I,.nil,h⟩
theorem bL(ha:PE X e te)(hr:PA X es t)(hs:starEach (e::es) X.env=(false,eval e X.env)::starEach es X.env:=by rfl):PA X (e::es) (zj te t):=by
 intro pos pins s σ H Q I h
 rw[hs]
 show wpAny _ _ (spliced ((false,eval e X.env)::backTo pos (starEach es X.env))) _ _ s
 refine Calls.spliced_cons (thn (ha pins s σ H _ I h) fun u s1 hw'=>?_)
 obtain⟨x,H1,I1,r1,q1⟩:=hw'
 exact thn (hr pos pins s1 σ H1 _ I1 q1) fun us s2 ⟨xs,H2,I2,r2,q2⟩=>⟨x::xs,H2,I2,.cons r1 r2,q2⟩
noncomputable def Vo(t:TA):TE:=fun σ H Q=>t σ H fun xs H1=>xs.length<=sizeLine/\∀p,H1 p=none->Q (.ref p) (upd H1 p (.tup xs))
noncomputable def Vp(t:TA):TE:=fun σ H Q=>t σ H fun xs H1=>xs.length<=sizeLine/\∀p,H1 p=none->Q (.ref p) (upd H1 p (.lst xs))
theorem zx{x1}(h:PA X es t):PE X (.Tuple es x1 pos) (Vo t):=by
 intro pins s σ H Q I hq
 refine wpAny_Tuple_spliced (thn (h pos pins s σ H _ I hq) fun us s1 ⟨xs,H1,I1,r,z,q⟩=>⟨by rw[<-r.length];exact z,?_⟩)
 have hf:H1 s1.heap.objs.size=none:=I1.hok.fresh (Nat.le_refl _)
 refine⟨.ref s1.heap.objs.size,upd H1 s1.heap.objs.size (.tup xs),I1.laid (t':=s1.toks) (fun b u e=>Heap.get?_push_of_some _ e) (Nat.le_refl _) ?_,rfl,q _ hf⟩
 exact⟨z,us,r,⟨_,Heap.get?_push_size _ rfl,rfl,_,rfl⟩⟩
theorem vq(h:PA X es t):PE X (.List es pos) (Vp t):=by
 intro pins s σ H Q I hq
 refine wpAny_List_spliced (thn (h pos pins s σ H _ I hq) fun us s1 ⟨xs,H1,I1,r,z,q⟩=>⟨by rw[<-r.length];exact z,?_⟩)
 have hf:H1 s1.heap.objs.size=none:=I1.hok.fresh (Nat.le_refl _)
 refine⟨.ref s1.heap.objs.size,upd H1 s1.heap.objs.size (.lst xs),I1.laid (t':=s1.toks) (fun b u e=>Heap.get?_push_of_some _ e) (Nat.le_refl _) ?_,rfl,q _ hf⟩
 exact⟨z,us,0,r,Heap.get?_push_size _ rfl⟩
end
noncomputable abbrev Sp:=List V->Hp->VK->XK->Prop
noncomputable abbrev CXT:=List Env->Hp->Shared->XK->Value->Shared->Prop
structure Env0(P:Program)(w:World)(K:PySem.W.Frag)(mg:Str->Option Value)(base:Heap)(A:Around)(outer:List Env)(s:Shared)(H:Hp):Prop where
 frames:A.frames=some outer
 mod:Mod K mg base
 bs:∀b o,base.get? b=some o->s.heap.get? b=some o/\H b=none
 bsz:base.objs.size<=s.heap.objs.size
 funs:s.heap.FunFrames base outer
 frf:∀b∈frs outer,H b=none
 hok:HOk P w H s.heap
 bare:AllBare s.gens
noncomputable def CE(outer:List Env)(P:Program)(w:World)(H:Hp)(s:Shared)(Q:VK)(u:Value)(s':Shared):Prop :=
 ∃v H',s'.os=s.os/\AllBare s'.gens/\Un (frs outer) [] H H' s.heap s'.heap/\HOk P w H' s'.heap/\RelV v u/\Q v H'
noncomputable def CR(CX:CXT)(outer:List Env)(P:Program)(w:World)(H:Hp)(s:Shared)(Q:VK)(E:XK)(r:Result)(s':Shared):Prop :=
 match r with
 | .ok (.ret u)=>CE outer P w H s Q u s'
 | .ok _=>False
 | .error e=>CX outer H s E e s'
structure FnOk(P:Program)(w:World)(K:PySem.W.Frag)(mg:Str->Option Value)(base:Heap)(CX:CXT)(k:Nat)(f:Addr)(fd:FuncData)(ps:List Str)(sp:Sp):Prop where
 len:∀vs H Q E,sp vs H Q E->vs.length=ps.length
 run:∀(A:Around) (outer:List Env) (s:Shared) (H:Hp) (args:Args) (us:List Value) (vs:List V) (Q:VK) (E:XK),Room k A->Env0 P w K mg base A outer s H->BindsTo s fd args (ps.zip us)->Vals vs us->sp vs H Q E ->
  codeAny (model P w) A (.call (.ref f) args) (CR CX outer P w H s Q E) s
theorem FnOk.imp{P:Program}{w:World}{K:PySem.W.Frag}{mg:Str->Option Value}{base:Heap}{CX:CXT}{k:Nat}{f:Addr}{fd:FuncData}{ps:List Str}{sp sp':Sp}(F:FnOk P w K mg base CX k f fd ps sp)
  (h:∀vs H Q E,sp' vs H Q E->sp vs H Q E):FnOk P w K mg base CX k f fd ps sp' :=
 ⟨fun vs H Q E q=>F.len vs H Q E (h _ _ _ _ q),fun A outer s H args us vs Q E hr he hb hv hs=>F.run A outer s H args us vs Q E hr he hb hv (h _ _ _ _ hs)⟩
theorem Env0.make{P:Program}{w:World}{K:PySem.W.Frag}{mg:Str->Option Value}{base:Heap}{A:Around}{outer:List Env}{s:Shared}{H:Hp}(e:Env0 P w K mg base A outer s H)(C:Addr)(us:List Value)(kw:List (Str×Value)) :
  Env0 P w K mg base (A.under (.builtin "type.__call__" ⟨.ref C::us,kw⟩)) outer s H:=⟨by first |exact e.frames |(simpa [Around.under,Code.envs,Code.isFrame,pushEnvs] using e.frames),e.mod,e.bs,e.bsz,e.funs,e.frf,e.hok,e.bare⟩
section
variable {X:Cx} {pins:List (Addr×Obj)} {σ:St} {H:Hp} {s s':Shared}
theorem Inv.env0(I:Inv X pins σ H s):Env0 X.prog X.w X.K X.mg X.base X.A X.stack s H :=
 ⟨I.ok.frames,I.ok.mod,I.bs,Nat.le_trans I.ok.bsz I.sz,I.stack,I.stkFree,I.hok,I.bare⟩
theorem Inv.after{Q:VK}{u:Value}(I:Inv X pins σ H s)(h:CE X.stack X.prog X.w H s Q u s'):EP X pins σ Q u s':=by
 obtain⟨v,H',os,bare,un,hok,r,q⟩:=h
 obtain⟨hh,g,d,t,os'⟩:=s'
 obtain rfl:os'=s.os:=os
 exact⟨v,H',I.call (h':=hh) (g':=g) (d':=d) (t':=t) (ch:=[]) un hok bare (fun b z=>absurd z (by simp)),r,q⟩
end
noncomputable def LQ(sp:Sp)(dvs:List V)(E:XK)(t:TA):TE:=fun σ H Q=>t σ H fun vs H1=>sp (vs++dvs) H1 Q E
noncomputable def LR(C:Addr)(m:Str)(sp:Sp)(dvs:List V)(E:XK)(ta:TE)(t:TA):TE:=fun σ H Q=>ta σ H fun x H1=>∃a dx fs,x=.ref a/\H1 a=some (.ins C dx fs)/\fs.lookup m=none /\
 t σ H1 fun vs H2=>sp (x::(vs++dvs)) H2 Q E
noncomputable def L_(C:Addr)(sp:Sp)(dvs:List V)(E:XK)(t:TA):TE:=fun σ H Q=>t σ H fun vs H1=>∀x dx,H1 x=none->H1 dx=none->dx≠x ->
 sp (.ref x::(vs++dvs)) (upd (upd H1 dx (.own x)) x (.ins C dx [])) (fun v H2=>v=.non/\Q (.ref x) H2) E
noncomputable def Binds(K:PySem.W.Frag)(fd:FuncData)(ps:List Str)(ds:List Value):Prop :=
 ∀(s:Shared) (us:List Value),K.In s.heap->(us++ds).length=ps.length->BindsTo s fd ⟨us,[]⟩ (ps.zip (us++ds))
theorem Binds.all{K:PySem.W.Frag}{fd:FuncData}{ps:List Str}(h:∀us:List Value,us.length=ps.length->bindArgs fd ⟨us,[]⟩=pure (ps.zip us)):Binds K fd ps []:=fun s us _ hl=>by
 rw[List.append_nil] at hl ⊢
 exact .of_eq (h us hl)
noncomputable def Passes(CX:CXT)(X:Cx)(E:XK):Prop:=∀(pins:List (Addr×Obj)) (σ:St) (H:Hp) (s:Shared) (e:Value) (s':Shared),Inv X pins σ H s->CX X.stack H s E e s'->X.xe e s'
section
variable {X:Cx} {CX:CXT} {k:Nat} {f C:Addr} {fd:FuncData} {ps:List Str} {sp:Sp} {dvs:List V} {ds:List Value} {E:XK} {x m:Str} {p pos apos:Pos} {e o:Expr} {es:List Expr} {ta:TE} {t:TA}
theorem F_{pins:List (Addr×Obj)}{σ:St}{H:Hp}{s:Shared}{Q:VK}{us:List Value}{vs:List V}(F:FnOk X.prog X.w X.K X.mg X.base CX k f fd ps sp)(hr:Room k X.A)(hb:Binds X.K fd ps ds)(hd:Vals dvs ds)(hx:Passes CX X E)
  (I:Inv X pins σ H s) (r:Vals vs us) (h:sp (vs++dvs) H Q E):wpAny (model X.prog X.w) X.A (call (.ref f) us) (EP X pins σ Q) X.xe s:=by
 have r2:Vals (vs++dvs) (us++ds):=r.append hd
 have hl:(us++ds).length=ps.length:=by rw[<-r2.length];exact F.len _ _ _ _ h
 refine wpAny_call (codeAny_mono (F.run X.A X.stack s H ⟨us,[]⟩ (us++ds) (vs++dvs) Q E hr I.env0 (hb s us I.kIn hl) r2 h) fun r s' hq=>?_)
 cases r with
 | error e=>exact hx pins σ H s e s' I hq
 | ok fl =>
  cases fl with
  | ret u=>exact I.after hq
  | next=>exact False.elim hq
  | brk=>exact False.elim hq
  | cont=>exact False.elim hq
theorem Nm(F:FnOk X.prog X.w X.K X.mg X.base CX k f fd ps sp)(hr:Room k X.A)(hg:Gl X x)(hm:X.mg x=some (.ref f))(hk:PySem.W.keepIn X.K (.ref f)=true)(hb:Binds X.K fd ps ds)(hd:Vals dvs ds)(hx:Passes CX X E)
  (ha:PA X (e::es) t) (hdb:(x==("__debug__":Str))=false:=by decide) (he:starEach (e::es) X.env=(false,eval e X.env)::starEach es X.env:=by rfl) (hpl:(backTo pos (starEach es X.env)).any (·.1)=false:=by rfl) :
  PE X (.Call (.Name x p) (e::es) [] pos) (LQ sp dvs E t):=by
 intro pins s σ H Q I h
 refine wpAny_Call_Name_kw (p_ I hg hm ?_ hdb)
 refine PySem.W.callWith_K (h₀:=X.base) I.ok.mod.kin hk (thn (ha pos pins s σ H _ I h) fun us s1 ⟨vs,H1,I1,r,q⟩=>⟨I1.kIn,?_⟩) he hpl
 exact F_ F hr hb hd hx I1 r q
theorem Jk{pl:Sem Bool}(he:PE X o ta)(c:Cls X.K C)(hm:Meth X.K C m f)(F:FnOk X.prog X.w X.K X.mg X.base CX k f fd ps sp)(hr:Room k X.A)(hb:Binds X.K fd ps ds)(hd:Vals dvs ds)(hx:Passes CX X E)
  (ht:eval (.Call (.Attribute o m apos) [] [] pos) X.env=(do
   let ov <-eval o X.env
   standAt apos.atName
   let (f,first) <-holding [ov] (getMethod ov m pl)
   callWith pos f first (backTo pos (starEach [] X.env)) (backToKw pos (keywordEach [] X.env))):=by rfl) :
  PE X (.Call (.Attribute o m apos) [] [] pos) (LR C m sp dvs E ta zu):=by
 intro pins s σ H Q I h
 refine PySem.W.methodCall_KW (pl:=pl) (thn (he pins s σ H _ I h) fun u s1 hw'=>?_) ht
 obtain⟨x,H1,I1,rx,a,dx,fs,ex,ea,l,q⟩:=hw'
 subst ex
 obtain rfl:u=Value.ref a:=rx
 refine vp I1 ea c hm l ?_
 exact PySem.W.callWith_K0 (first:=[.ref a]) I1.kIn hm.kp (F_ (us:=[.ref a]) (vs:=[.ref a]) F hr hb hd hx I1 (.cons rfl .nil) q)
structure Mk(K:PySem.W.Frag)(C f:Addr):Prop where
 makes:PySem.W.makesIn K C=true
 init:PySem.W.findIn K (.ref C) "__init__" = some (some (.ref f))
 fn:PySem.W.isFn K (.ref f)=true
 kp:PySem.W.keepIn K (.ref C)=true
theorem Jl{pins:List (Addr×Obj)}{σ:St}{H:Hp}{s:Shared}{Q:VK}{us:List Value}{vs:List V}(M:Mk X.K C f)(F:FnOk X.prog X.w X.K X.mg X.base CX k f fd ps sp)(hr:Room (k+1) X.A)(hb:Binds X.K fd ps ds)(hd:Vals dvs ds)
  (hx:Passes CX X E) (I:Inv X pins σ H s) (r:Vals vs us)
  (h:∀x dx,H x=none->H dx=none->dx≠x->sp (.ref x::(vs++dvs)) (upd (upd H dx (.own x)) x (.ins C dx [])) (fun v H2=>v=.non/\Q (.ref x) H2) E) :
  wpAny (model X.prog X.w) X.A (call (.ref C) us) (EP X pins σ Q) X.xe s:=by
 have hq:=h (s.heap.objs.size+1) s.heap.objs.size (I.hok.fresh (Nat.le_succ _)) (I.hok.fresh (Nat.le_refl _)) (Nat.ne_of_lt (Nat.lt_succ_self _))
 have I2:=Inv.made (C:=C) I
 have r2:Vals (V.ref (s.heap.objs.size+1)::(vs++dvs)) (Value.ref (s.heap.objs.size+1)::(us++ds)):=.cons rfl (r.append hd)
 have hl:(Value.ref (s.heap.objs.size+1)::us++ds).length=ps.length:=by
  have e:=r2.length
  rw[F.len _ _ _ _ hq] at e
  exact e.symm
 refine wpAny_call (Jj (f:=f) I.kIn M.makes M.init (beq_iff_eq.mp M.fn) (codeAny_mono (F.run _ X.stack _ _ ⟨Value.ref (s.heap.objs.size+1)::us,[]⟩ (Value.ref (s.heap.objs.size+1)::(us++ds)) _ _ E (hr.make C us [])
  (I2.env0.make C us []) (hb _ (Value.ref (s.heap.objs.size+1)::us) I2.kIn hl) r2 hq) fun r s' hq'=>?_))
 cases r with
 | error e=>exact hx pins σ _ _ e s' I2 hq'
 | ok fl =>
  cases fl with
  | ret u =>
   obtain⟨v,H',I3,rv,ev,q3⟩:=I2.after hq'
   subst ev
   exact⟨rv,⟨V.ref (s.heap.objs.size+1),H',I3,rfl,q3⟩⟩
  | next=>exact False.elim hq'
  | brk=>exact False.elim hq'
  | cont=>exact False.elim hq'
theorem Jm(M:Mk X.K C f)(F:FnOk X.prog X.w X.K X.mg X.base CX k f fd ps sp)(hr:Room (k+1) X.A)(hg:Gl X x)(hm:X.mg x=some (.ref C))(hb:Binds X.K fd ps ds)(hd:Vals dvs ds)(hx:Passes CX X E)
  (hdb:(x==("__debug__":Str))=false:=by decide):PE X (.Call (.Name x p) [] [] pos) (L_ C sp dvs E zu):=by
 intro pins s σ H Q I h
 refine wpAny_Call_Name_kw (p_ I hg hm ?_ hdb)
 exact PySem.W.callWith_K0 I.kIn M.kp (Jl (us:=[]) M F hr hb hd hx I .nil h)
end
structure FnScope(N P:List Str)(sc:Scope):Prop where
 kind:sc.kind=.function
 co:sc.isCoroutine=false
 gen:sc.isGenerator=false
 nd:N.Nodup
 pre:N.take P.length=P
 par:∀x∈P,sc.names.lookup x=some .local\/sc.names.lookup x=some .cell
 nofree:∀y∈sc.names,y.2 ≠ .free
theorem yd{kindOf:Str->Option NameKind}{x:Str}:∀{binds:List (Str×Value)} {m:Str->Option Value},(∀v,(x,v)∉binds)->bindL kindOf binds m x=m x
 | [],_,_=>rfl
 | (n,v)::r,m,h=>by
  unfold bindL
  rw[yd fun w hw=>h w (List.mem_cons_of_mem _ hw)]
  split
  ·have:x≠n:=by rintro rfl;exact h v List.mem_cons_self
   simp[this]
  ·rfl
theorem ye{kindOf:Str->Option NameKind}{x:Str}:∀{binds:List (Str×Value)} {m:Str->Option Value},(∀v,(x,v)∉binds)->bindC kindOf binds m x=m x
 | [],_,_=>rfl
 | (n,v)::r,m,h=>by
  unfold bindC
  rw[ye fun w hw=>h w (List.mem_cons_of_mem _ hw)]
  split
  ·rfl
  ·have:x≠n:=by rintro rfl;exact h v List.mem_cons_self
   simp[this]
theorem yf{kindOf:Str->Option NameKind}{x:Str}{v:Value}:∀{P:List Str} {vs:List Value} {i:Nat} {m:Str->Option Value},P.Nodup->P[i]? = some x->vs[i]? = some v->kindOf x=some .local ->
  bindL kindOf (P.zip vs) m x=some v
 | [],_,_,_,_,h,_,_=>by simp at h
 | _::_,[],_,_,_,_,h,_=>by simp at h
 | p::P,w::vs,0,m,nd,h1,h2,hk=>by
  simp at h1 h2;subst h1;subst h2
  show bindL kindOf ((p,w)::P.zip vs) m p=_
  unfold bindL
  rw[yd fun v hv=>(List.nodup_cons.mp nd).1 (List.of_mem_zip hv).1,if_pos hk]
  simp
 | p::P,w::vs,i+1,m,nd,h1,h2,hk=>by
  show bindL kindOf ((p,w)::P.zip vs) m x=_
  unfold bindL
  exact yf (i:=i) (List.nodup_cons.mp nd).2 (by simpa using h1) (by simpa using h2) hk
theorem yg{kindOf:Str->Option NameKind}{x:Str}{v:Value}:∀{P:List Str} {vs:List Value} {i:Nat} {m:Str->Option Value},P.Nodup->P[i]? = some x->vs[i]? = some v->kindOf x≠some .local ->
  bindC kindOf (P.zip vs) m x=some v
 | [],_,_,_,_,h,_,_=>by simp at h
 | _::_,[],_,_,_,_,h,_=>by simp at h
 | p::P,w::vs,0,m,nd,h1,h2,hk=>by
  simp at h1 h2;subst h1;subst h2
  show bindC kindOf ((p,w)::P.zip vs) m p=_
  unfold bindC
  rw[ye fun v hv=>(List.nodup_cons.mp nd).1 (List.of_mem_zip hv).1,if_neg hk]
  simp
 | p::P,w::vs,i+1,m,nd,h1,h2,hk=>by
  show bindC kindOf ((p,w)::P.zip vs) m x=_
  unfold bindC
  exact yg (i:=i) (List.nodup_cons.mp nd).2 (by simpa using h1) (by simpa using h2) hk
noncomputable def start(N:List Str)(vs:List V):St:=vs.map some++List.replicate (N.length-vs.length) none
noncomputable def bQ(CX:CXT)(P:Program)(w:World)(K:PySem.W.Frag)(mg:Str->Option Value)(base:Heap)(N:List Str)(qual:Str)(scope:Scope)(f:Addr)(cd:Value)(A:Around)(outer:List Env)(s:Shared)(H:Hp)(E:XK):Cx where
 prog:=P
 w:=w
 K:=K
 mg:=mg
 base:=base
 A:=A.deeper (envOfC qual scope s.heap.objs.size f cd)
 N:=N
 s₀:=s
 H₀:=H
 env:=envOfC qual scope s.heap.objs.size f cd
 outer:=outer
 stack:=envOfC qual scope s.heap.objs.size f cd::outer
 ex:=[]
 calm:=true
 fn:=fun _=>true
 pn:=[]
 xe:=fun e s'=>wpAny (model P w) (A.deeper (envOfC qual scope s.heap.objs.size f cd)) (leaving (envOfC qual scope s.heap.objs.size f cd) e) (fun _ s''=>CX outer H s E e s'') (fun e' s''=>CX outer H s E e' s'') s'
theorem zy{sc:Scope}{n:Nat}{x:Str}(h:sc.names.lookup x=some .cell):∃c,(cellsFrom n sc.names []).lookup x=some c:=by
 have q:=PySem.W.cellsFrom_some sc.names n [] (.inl h)
 exact Option.isSome_iff_exists.mp q
theorem Ga{CX:CXT}{P:Program}{w:World}{K:PySem.W.Frag}{mg:Str->Option Value}{base:Heap}{N ps:List Str}{qual:Str}{scope:Scope}{f:Addr}{cd:Value}{A:Around}{outer:List Env}{s s1:Shared}{H:Hp}{E:XK}{us:List Value}{vs:List V}
  (S:FnScope N ps scope) (hd:A.handled=none) (e0:Env0 P w K mg base A outer s H) (hl:vs.length=ps.length) (r:Vals vs us)
  (x:InCallC s s.heap.objs.size (bindL (envOfC qual scope s.heap.objs.size f cd).kindOf (ps.zip us) fun _=>none) (cellsFrom (s.heap.objs.size+1) scope.names []) (bindC (envOfC qual scope s.heap.objs.size f cd).kindOf (ps.zip us) fun _=>none) s1) :
  Inv (bQ CX P w K mg base N qual scope f cd A outer s H E) [] (start N vs) H s1:=by
 have hpl:ps.length<=N.length:=by have:=congrArg List.length S.pre;rw[List.length_take] at this;omega
 obtain⟨h1,tk,rfl,hk⟩:=x.done
 have noA:∀b:Addr,b∉(bQ CX P w K mg base N qual scope f cd A outer s H E).ex:=fun b z=>absurd (show b∈([]:List Addr) from z) (by simp)
 refine⟨⟨e0.mod,S.kind,rfl,rfl,Nat.le_refl _,fun y z c h1 h2=>?_,fun y hy=>?_,fun y c _ h=>?_,fun _=>hd,Around.frames_deeper e0.frames,.inr ⟨rfl,rfl⟩,fun b z=>absurd z (noA b),e0.bs,e0.bsz,fun b _ _=>noA b,fun b z=>absurd z (noA b),e0.funs,e0.frf⟩,
  rfl,e0.bare,Un.kept hk,⟨_,x.toInCall.ns,fun i y v h1 h2 h3=>?_⟩,fun y c h=>⟨_,x.cell y c h⟩,e0.hok.fresh (Nat.le_refl _),fun y c h=>?_,fun p hp=>absurd (show p∈([]:List (Addr×Obj)) from hp) (by simp),e0.hok.kept hk,?_⟩
 ·exact name_of_addr x.apart (PySem.mem_of_lookup h1) (PySem.mem_of_lookup h2)
 ·have hy:scope.names.lookup y=some .cell\/scope.names.lookup y=some .free:=hy
  rcases hy with hy |hy
  ·exact zy hy
  ·exact absurd rfl (S.nofree _ (PySem.mem_of_lookup hy))
 ·exact Nat.le_of_lt (x.above y c (PySem.mem_of_lookup h))
 ·have hi:i<vs.length:=by
   unfold start at h2
   by_cases hi:i<vs.length
   ·exact hi
   ·rw[List.getElem?_append_right (by simpa using hi)] at h2
    rw[List.getElem?_replicate] at h2
    split at h2<;>cases h2
  have ha:vs[i]? = some v:=by
   unfold start at h2
   rw[List.getElem?_append_left (by simpa using hi),List.getElem?_map] at h2
   cases e:vs[i]? with
   | none=>rw[e] at h2;cases h2
   | some a=>rw[e] at h2;cases h2;rfl
  obtain⟨u,hu,rv⟩:=r.get ha
  have hp:ps[i]? = some y:=by
   rw[<-S.pre,List.getElem?_take_of_lt (by omega)];exact h1
  have ndP:ps.Nodup:=by rw[<-S.pre];exact S.nd.sublist (List.take_sublist _ _)
  refine⟨u,rv,?_⟩
  rcases S.par y (List.mem_of_getElem? hp) with k |k
  ·exact .inl ⟨k,yf ndP hp hu k⟩
  ·obtain⟨c,e⟩:=zy (n:=s.heap.objs.size+1) k
   refine .inr ⟨.inl k,c,e,?_⟩
   have q:=x.cell y c e
   rw[yg ndP hp hu (by show scope.names.lookup y≠_;rw[k];decide)] at q
   exact q
 ·exact .inl (e0.hok.fresh (Nat.le_of_lt (x.above y c (PySem.mem_of_lookup h))))
 ·unfold start
  show _=N.length
  rw[List.length_append,List.length_map,List.length_replicate]
  omega
theorem DQ{CX:CXT}{P:Program}{w:World}{K:PySem.W.Frag}{mg:Str->Option Value}{base:Heap}{k:Nat}{f:Addr}{name qual:Str}{params:Arguments}{body:List Stmt}{scope:Scope}{dV kV doc pm cdv ct oc:Value}{an od:Option Addr}
  {osl:Array (Option Value)} {N ps:List Str} {sp:Sp} (lk:K.lookup f=some ⟨oc,od,.func (PySem.W.fnOf name qual params body scope dV kV doc pm an cdv ct),osl⟩) (hcd:PySem.W.codeIn K cdv qual=true) (S:FnScope N ps scope)
  (len:∀vs H Q E,sp vs H Q E->vs.length=ps.length)
  (hbody:∀(A:Around) (outer:List Env) (s:Shared) (H:Hp) (vs:List V) (Q:VK) (E:XK),Room k (A.deeper (envOfC qual scope s.heap.objs.size f cdv))->sp vs H Q E ->
   ∃t,PSs (bQ CX P w K mg base N qual scope f cdv A outer s H E) body t/\t { nx:=fun _ H'=>Q .non H',rt:=Q } (start N vs) H) :
  FnOk P w K mg base CX (k+1) f (PySem.W.fnOf name qual params body scope dV kV doc pm an cdv ct) ps sp:=by
 refine⟨len,fun A outer s H args us vs Q E hr e0 hb r hsp=>?_⟩
 have hl:=len _ _ _ _ hsp
 have KX:K.In s.heap:=e0.mod.kin.keeps fun b o e=>(e0.bs b o e).1
 have lim:s.heap.NoLimit:=e0.mod.nolimit.keeps fun b o e=>(e0.bs b o e).1
 have hkind:∀y∈ps.zip us,scope.names.lookup y.1=some .local\/(scope.names.lookup y.1=some .cell/\((cellsFrom (s.heap.objs.size+1) scope.names []).lookup y.1).isSome=true):=fun hw' hy=>by
  obtain⟨n,v⟩:=hw'
  rcases S.par n (List.of_mem_zip hy).1 with q |q
  ·exact .inl q
  ·exact .inr ⟨q,PySem.W.cellsFrom_some _ _ _ (.inl q)⟩
 refine codeAny_call_function hr.depth (KX _ _ lk) rfl S.co S.gen rfl (PySem.W.codeRec_of KX hcd) (hb _ _ _ _ ?_)
 refine wpAny_newFunctionEnv_cells S.kind hkind fun env he s1 x=>?_
 subst he
 refine⟨lim.keeps x.toInCall.keep,codeAny_func ?_⟩
 obtain⟨t,ht,hq⟩:=hbody A outer s H vs Q E (hr.deeper _) hsp
 have I:Inv (bQ CX P w K mg base N qual scope f cdv A outer s H E) [] (start N vs) H s1:=Ga S hr.hd e0 hl r x
 refine wpAny_mono (ht [] s1 (start N vs) H _ I hq) (fun fl s' hs=>?_) fun e s' hs=>hs
 have fin:∀{σ':St} {H':Hp} {v:V} {u:Value},Inv (bQ CX P w K mg base N qual scope f cdv A outer s H E) [] σ' H' s'->RelV v u->Q v H'->CE outer P w H s Q u s' :=
  fun {σ' H' v u} J rv q=>⟨v,H',J.os,J.bare,J.base,J.hok,rv,q⟩
 cases fl with
 | ret u =>
  obtain⟨v,σ',H',J,rv,q⟩:=hs
  exact fin J rv q
 | next =>
  obtain⟨σ',H',J,q⟩:=hs
  exact fin (v:=V.non) (u:=Value.none) J rfl q
 | brk =>
  obtain⟨_,_,_,q⟩:=hs
  exact False.elim q
 | cont =>
  obtain⟨_,_,_,q⟩:=hs
  exact False.elim q
end L2
namespace L2
open PySem PySem.Spec PyProof.Rows
section
variable {X:Cx} {x:Str} {p pos:Pos} {e:Expr} {es:List Expr} {t:TA} {id T:String} {r:List V->Hp->VK->Prop}
noncomputable def tCB(r:List V->Hp->VK->Prop)(t:TA):TE:=fun σ H Q=>t σ H fun vs H1=>r vs H1 Q
theorem iu(hc:fH X (.builtin id) r)(hg:Gl X x)(hm:X.mg x=none)(hv:bootBuiltins x=some (.builtin id))(ha:PA X (e::es) t)(hn:x ≠ "__name__":=by decide)(hdb:(x==("__debug__":Str))=false:=by decide)
  (he:starEach (e::es) X.env=(false,eval e X.env)::starEach es X.env:=by rfl) (hpl:(backTo pos (starEach es X.env)).any (·.1)=false:=by rfl):PE X (.Call (.Name x p) (e::es) [] pos) (tCB r t):=by
 intro pins s σ H Q I h
 refine wpAny_Call_Name_kw (rU I hg hm hv ?_ hn hdb)
 exact PyProof.Rows.callWith_builtin1 (thn (ha pos pins s σ H _ I h) fun us s1 ⟨vs,H1,I1,r1,q1⟩=>hc pins s1 σ H1 vs us Q I1 r1 q1) he hpl
theorem rZ(hc:fH X (.type T) r)(hg:Gl X x)(hm:X.mg x=none)(hv:bootBuiltins x=some (.type T))(ha:PA X (e::es) t)(hn:x ≠ "__name__":=by decide)(hdb:(x==("__debug__":Str))=false:=by decide)
  (he:starEach (e::es) X.env=(false,eval e X.env)::starEach es X.env:=by rfl) (hpl:(backTo pos (starEach es X.env)).any (·.1)=false:=by rfl):PE X (.Call (.Name x p) (e::es) [] pos) (tCB r t):=by
 intro pins s σ H Q I h
 refine wpAny_Call_Name_kw (rU I hg hm hv ?_ hn hdb)
 exact PyProof.Rows.callWith_type1 (thn (ha pos pins s σ H _ I h) fun us s1 ⟨vs,H1,I1,r1,q1⟩=>hc pins s1 σ H1 vs us Q I1 r1 q1) he hpl
end
end L2
namespace HT
open PySem PyProof.Rows
noncomputable def lexLt:List Int->List Int->Bool
 | [],[]=>false
 | [],_::_=>true
 | _::_,[]=>false
 | x::xs,y::ys=>if x=y then lexLt xs ys else decide (x<y)
theorem fJ(x y:Int)(xs ys:List Int):lexLt (x::xs) (y::ys)=if x=y then lexLt xs ys else decide (x<y):=rfl
section
variable {prog:Program} {w:World} {A:Around} {E:Value->Shared->Prop} {s:Shared}
theorem Np{t b:Addr}{vs ws:List Value}{Q:Value->Shared->Prop}(ht:IsTup s.heap t vs.toArray)(hb:IsTup s.heap b ws.toArray)(hv:vs≠[])
  (h1:ws=[]->Q (.ref t) s) (h2:ws≠[]->Q (.ref s.heap.objs.size) { s with heap:=s.heap.push { cls:=.type "tuple",data:=.seq (vs++ws).toArray } })
  (hsz:vs.length+ws.length<=sizeLine):wpAny (model prog w) A (binaryOp .Add (.ref t) (.ref b)) Q E s:=by
 obtain⟨⟨cls,dd,data,sl⟩,ho,hc,n,hd⟩:=id ht
 obtain⟨⟨cls2,dd2,data2,sl2⟩,ho2,hc2,n2,hd2⟩:=id hb
 simp only at hc hd hc2 hd2
 subst hc hd hc2 hd2
 have e:vs.toArray++ws.toArray=(vs++ws).toArray:=by simp
 by_cases hw:ws=[]
 ·exact concat_meets ⟨_,ho,rfl⟩ ⟨_,ho2,rfl⟩ noFill_tuple_add seq_tuple_add PySem.F.slot_tuple_add PySem.F.entry_tuple_add (PySem.F.args_tuple_add_2 _ _)
   (tuple_addW1 t b vs.toArray ws.toArray n n2 dd dd2 sl sl2 (by simpa using hv) (by simp[hw])) ⟨ho,ho2,h1 hw⟩
 ·refine concat_meets ⟨_,ho,rfl⟩ ⟨_,ho2,rfl⟩ noFill_tuple_add seq_tuple_add PySem.F.slot_tuple_add PySem.F.entry_tuple_add (PySem.F.args_tuple_add_2 _ _)
   (tuple_addW2 t b vs.toArray ws.toArray n n2 dd dd2 sl sl2 (by simpa using hv) (by simpa using hw) (by rw[List.size_toArray,List.size_toArray];exact hsz)) ⟨ho,ho2,?_⟩
  rw[e]
  exact h2 hw
noncomputable def sIx(n d:Nat):Option Int->Nat
 | none=>d
 | some v=>if v<0 then(v+(n:Int)).toNat else min v.toNat n
theorem Jo(n d:Nat):sIx n d none=d:=rfl
theorem Nq(n d k:Nat):sIx n d (some (k:Int))=min k n:=by
 show(if(k:Int)<0 then((k:Int)+(n:Int)).toNat else min (k:Int).toNat n)=min k n
 rw[if_neg (by omega),Int.toNat_natCast]
end
end HT
namespace L2
open PySem PySem.Spec PyProof.Rows
noncomputable abbrev TO:=St->Hp->(Option Int->Hp->Prop)->Prop
noncomputable def PO(X:Cx)(e:Option Expr)(t:TO):Prop :=
 ∀(pins:List (Addr×Obj)) (s:Shared) (σ:St) (H:Hp) (Q:Option Int->Hp->Prop),Inv X pins σ H s->t σ H Q ->
  wpAny (model X.prog X.w) X.A (evalPart e X.env) (fun u s'=>∃o H',Inv X pins σ H' s'/\IsPart u o/\Q o H') X.xe s
noncomputable def Nr:TO:=fun _ H Q=>Q none H
noncomputable def Ua(t:TE):TO:=fun σ H Q=>t σ H fun x H1=>∃i,x=.int i/\Q (some i) H1
theorem intsAre_of{ns:List Int}:∀{us:List Value},Vals (ns.map V.int) us->IntsAre us ns:=by
 induction ns with
 | nil=>intro us r;rw[List.map_nil] at r;cases r;exact .nil
 | cons n ns ih =>
  intro us r
  rw[List.map_cons] at r
  cases r with
  | cons r1 r2 =>
   obtain⟨t,e⟩:=r1
   subst e
   exact .cons n t (ih r2)
section
variable {X:Cx} {e:Expr} {te:TE} {lo hi:Option Expr} {tl th:TO} {pos p2:Pos}
theorem Nu:PO X none Nr:=by
 intro pins s σ H Q I h
 rw[evalPart_none]
 exact wpAny_pure ⟨none,H,I,.none,h⟩
theorem Nv(h:PE X e te):PO X (some e) (Ua te):=by
 intro pins s σ H Q I hw
 rw[evalPart_some]
 refine thn (h pins s σ H _ I hw) fun u s1 hw'=>?_
 obtain⟨x,H1,I1,r1,q1⟩:=hw'
 obtain⟨i,rfl,q⟩:=q1
 obtain⟨t,rfl⟩:=r1
 exact⟨some i,H1,I1,.int i t,q⟩
noncomputable def SlR(X:Cx)(r:V->Option Int->Option Int->Hp->VK->Prop):Prop :=
 ∀(pins:List (Addr×Obj)) (s:Shared) (σ:St) (H:Hp) (x:V) (v vl vu:Value) (lo hi:Option Int) (sl:Addr) (Q:VK),Inv X pins σ H s->RelV x v->s.heap.IsSliceOf sl vl vu .none->IsPart vl lo->IsPart vu hi->r x lo hi H Q ->
  ∃T id,typeLookup (.type T) "__getitem__" = pure (some (.builtin id))/\s.TypeIs v T/\wpAny (model X.prog X.w) X.A (getItem v (.ref sl)) (EP X pins σ Q) X.xe s
noncomputable def tSl(r:V->Option Int->Option Int->Hp->VK->Prop)(te:TE)(tl th:TO):TE:=fun σ H Q=>te σ H fun x H1=>tl σ H1 fun l H2=>th σ H2 fun u H3=>r x l u H3 Q
theorem Jp{r:V->Option Int->Option Int->Hp->VK->Prop}(hr:SlR X r)(he:PE X e te)(hl:PO X lo tl)(hu:PO X hi th):PE X (.Subscript e (.Slice lo hi none p2) pos) (tSl r te tl th):=by
 intro pins s σ H Q I h
 refine Subscript_ (thn (he pins s σ H _ I h) fun v s1 hw'=>?_)
 obtain⟨x,H1,I1,r1,q1⟩:=hw'
 refine wpAny_Slice (thn (hl pins s1 σ H1 _ I1 q1) fun vl s2 ⟨l,H2,I2,pl,q2⟩=>thn (hu pins s2 σ H2 _ I2 q2) fun vu s3 hw'=>?_)
 obtain⟨u,H3,I3,pu,q3⟩:=hw'
 rw[evalPart_none]
 refine wpAny_pure ?_
 have I4:Inv X pins σ H3 { s3 with heap:=s3.heap.push { cls:=.type "slice",data:=.fields #[vl,vu,.none] } }:=I3.kept (t':=s3.toks) fun b ob q=>Heap.get?_push_of_some _ q
 obtain⟨T,id,hT,ht,hg⟩:=hr pins { s3 with heap:=s3.heap.push { cls:=.type "slice",data:=.fields #[vl,vu,.none] } } σ H3 x v vl vu l u s3.heap.objs.size Q I4 r1 (Heap.IsSliceOf.new ..) pl pu q3
 show wpAny (model X.prog X.w) X.A (subscriptTail e (.Slice lo hi none p2) v (.ref s3.heap.objs.size)) (EP X pins σ Q) X.xe { s3 with heap:=s3.heap.push { cls:=.type "slice",data:=.fields #[vl,vu,.none] } }
 exact tail_any (ops:=[.ref s3.heap.objs.size,v]) ht hT hg (by with_unfolding_all rfl)
noncomputable def wJ(xs:List V)(lo hi:Option Int):List V:=(xs.drop (HT.sIx xs.length 0 lo)).take (HT.sIx xs.length xs.length hi-HT.sIx xs.length 0 lo)
theorem BV(xs:List V)(lo hi:Option Int):(wJ xs lo hi).length<=xs.length:=by
 unfold wJ
 rw[List.length_take,List.length_drop]
 omega
noncomputable def Ub(K:PySem.W.Frag):R2:=fun x y H Q=>∃a b xs ys,x=.ref a/\y=.ref b/\SqT K H a xs/\SqT K H b ys/\xs≠[]/\xs.length+ys.length<=sizeLine /\
 (ys=[]->Q (.ref a) H)/\(ys≠[]->∀p,H p=none->Q (.ref p) (upd H p (.tup (xs++ys))))
theorem Vals.nil_iff{xs:List V}{us:List Value}(r:Vals xs us):us=[]↔xs=[]:=by
 cases r with
 | nil=>simp
 | cons _ _=>simp
theorem Nx:OpR X (binaryOp .Add) (Ub X.K):=by
 intro pins s σ H x y v u Q I rx ry h
 obtain⟨a,b,xs,ys,rfl,rfl,ha,hb,hx,hz,q1,q2⟩:=h
 cases rx
 cases ry
 obtain⟨its,r1,p1,_⟩:=I.tuple ha
 obtain⟨its2,r2,p2,_⟩:=I.tuple hb
 refine HT.Np p1 p2 (fun z=>hx (r1.nil_iff.mp z)) (fun z=>⟨.ref a,H,I,rfl,q1 (r2.nil_iff.mp z)⟩) (fun z=>?_) (by rw[<-r1.length,<-r2.length];exact hz)
 refine⟨.ref s.heap.objs.size,_,I.laid (t':=s.toks) (o:=.tup (xs++ys)) (fun b ob q=>Heap.get?_push_of_some _ q) (Nat.le_refl _) ?_,rfl,q2 (fun w=>z (r2.nil_iff.mpr w)) _ (I.hok.fresh (Nat.le_refl _))⟩
 exact⟨by rw[List.length_append];exact hz,_,r1.append r2,IsTup.new _ _⟩
end
end L2
namespace L2
open PySem PySem.Spec PyProof.Rows
noncomputable def ixN(n:Nat)(i:Int):Option Nat:=if 0<=i then(if i<n then some i.toNat else none) else if -(n:Int)<=i then some (i+n).toNat else none
noncomputable def atI{α:Type}(xs:List α)(i:Int):Option α:=(ixN xs.length i).bind fun j=>xs[j]?
theorem Ny{n:Nat}{i:Int}{j:Nat}(h:ixN n i=some j):seqIndex? i n=some j/\j<n /\ -(n:Int)<=i/\i<n:=by
 unfold ixN at h
 by_cases h0:0<=i
 ·rw[if_pos h0] at h
  by_cases h1:i<n
  ·rw[if_pos h1] at h
   have e:i.toNat=j:=Option.some.inj h
   exact⟨by rw[seqIndex_of h0 h1,e],by omega,by omega,h1⟩
  ·rw[if_neg h1] at h;cases h
 ·rw[if_neg h0] at h
  by_cases h1:-(n:Int)<=i
  ·rw[if_pos h1] at h
   have e:(i+n).toNat=j:=Option.some.inj h
   exact⟨by rw[seqIndex_neg (by omega) h1,e],by omega,h1,by omega⟩
  ·rw[if_neg h1] at h;cases h
theorem wK{α:Type}{xs:List α}{i:Int}{v:α}(h:atI xs i=some v):∃j,seqIndex? i xs.length=some j/\xs[j]? = some v/\j<xs.length /\ -(xs.length:Int)<=i/\i<xs.length:=by
 unfold atI at h
 cases e:ixN xs.length i with
 | none=>rw[e] at h;cases h
 | some j =>
  rw[e] at h
  obtain⟨h1,h2,h3,h4⟩:=Ny e
  exact⟨j,h1,h,h2,h3,h4⟩
theorem Cp{α:Type}{xs:List α}{j:Nat}{v:α}(h:xs[j]? = some v):atI xs (j:Int)=some v:=by
 have hj:j<xs.length:=(List.getElem?_eq_some_iff.mp h).1
 have e:ixN xs.length (j:Int)=some j:=by
  unfold ixN
  rw[if_pos (by omega),if_pos (by omega)];simp
 unfold atI;rw[e];exact h
noncomputable def wL(b:Expr):Prop:=∀o i,subscripted b false o i=operate [o,i] (getItem o i)
noncomputable def IxR(X:Cx)(r:R2):Prop :=
 ∀(value slice:Expr) (pins:List (Addr×Obj)) (s:Shared) (σ:St) (H:Hp) (x y:V) (v u:Value) (Q:VK),Inv X pins σ H s->RelV x v->RelV y u->r x y H Q ->
  subscripted slice false v u=operate [v,u] (getItem v u)->wpAny (model X.prog X.w) X.A (subscriptTail value slice v u) (EP X pins σ Q) X.xe s
noncomputable def MtR(X:Cx)(id:String)(r:V->List V->Hp->VK->Prop):Prop :=
 ∀(pins:List (Addr×Obj)) (s:Shared) (σ:St) (H:Hp) (x:V) (xs:List V) (v:Value) (us:List Value) (Q:VK),Inv X pins σ H s->RelV x v->Vals xs us->r x xs H Q ->
  wpAny (model X.prog X.w) X.A (call (.builtin id) (v::us)) (EP X pins σ Q) X.xe s
section
variable {X:Cx} {a b:Expr} {ta tb:TE} {pos:Pos}
theorem IxR.or{r r':R2}(h:IxR X r)(h':IxR X r'):IxR X (fun x y H Q=>r x y H Q\/r' x y H Q):=by
 intro value slice pins s σ H x y v u Q I rx ry q hs
 rcases q with q |q
 ·exact h value slice pins s σ H x y v u Q I rx ry q hs
 ·exact h' value slice pins s σ H x y v u Q I rx ry q hs
theorem Ma{r:R2}(hr:IxR X r)(ha:PE X a ta)(hb:PE X b tb)(hs:wL b):PE X (.Subscript a b pos) (tOp r ta tb):=by
 intro pins s σ H Q I h
 exact Subscript_ (Jf ha hb I h fun v u s2 x y H2 I2 rx ry q=>hr a b pins s2 σ H2 x y v u Q I2 rx ry q (hs _ _))
noncomputable def Rq(K:PySem.W.Frag):R2:=fun x y H Q=>∃p xs i v,x=.ref p/\y=.int i/\SqL K H p xs/\atI xs i=some v/\Q v H
noncomputable def Rr(K:PySem.W.Frag):R2:=fun x y H Q=>∃p xs i v,x=.ref p/\y=.int i/\SqT K H p xs/\atI xs i=some v/\Q v H
noncomputable def Rt:R2:=fun x y H Q=>∃z i c,x=.str z/\y=.int i/\z.length<=sizeLine/\atI z.cps.toList i=some c/\Q (.str ⟨#[c]⟩) H
theorem Cq:IxR X (Rq X.K):=by
 intro value slice pins s σ H x y v u Q I rx ry h hs
 obtain⟨p,xs,i,z,rfl,rfl,hq,he,q⟩:=h
 cases rx
 obtain⟨t,rfl⟩:=ry
 obtain⟨its,r,pl,hz⟩:=I.list hq
 obtain⟨j,h1,h2,h3,h4,h5⟩:=wK he
 obtain⟨w,ew,rw'⟩:=r.get h2
 have hl:=r.length
 have hn:=qj
 have fin:EP X pins σ Q w s:=⟨z,H,I,rw',q⟩
 by_cases h0:0<=i
 ·have hj:i.toNat=j:=by
   rw[seqIndex_of h0 h5] at h1
   exact Option.some.inj h1
  exact item_listR pl.isList h0 (by omega) (by rw[hj];simpa using ew) fin hs
 ·have hj:(i+(its.toArray.size:Int)).toNat=j:=by
   rw[seqIndex_neg (by omega) h4] at h1
   rw[List.size_toArray,<-hl]
   exact Option.some.inj h1
  exact subscriptTail_builtinR (x:=w) pl.isList.typeIs slot_list_getitem.lookup
   (wpAny_getItem_list_neg (Q:=fun r s'=>r=w/\EP X pins σ Q r s') pl.isList (by omega) (by rw[List.size_toArray]<;>omega) (by omega) (by rw[hj];simpa using ew) ⟨rfl,fin⟩) hs
theorem Gb:IxR X (Rr X.K):=by
 intro value slice pins s σ H x y v u Q I rx ry h hs
 obtain⟨p,xs,i,z,rfl,rfl,hq,he,q⟩:=h
 cases rx
 obtain⟨t,rfl⟩:=ry
 obtain⟨its,r,pl,hz⟩:=I.tuple hq
 obtain⟨j,h1,h2,h3,h4,h5⟩:=wK he
 obtain⟨w,ew,rw'⟩:=r.get h2
 have hl:=r.length
 have hn:=qj
 have fin:EP X pins σ Q w s:=⟨z,H,I,rw',q⟩
 exact subscriptTail_builtinR (x:=w) pl.typeIs slot_tuple_getitem.lookup
  (getItem_tuple (j:=j) (Q:=fun r s'=>r=w/\EP X pins σ Q r s') pl (by omega) (by omega) (by rw[List.size_toArray,<-hl];exact h1) (by simpa using ew) ⟨rfl,fin⟩) hs
theorem Ru:IxR X Rt:=by
 intro value slice pins s σ H x y v u Q I rx ry h hs
 obtain⟨z,i,c,rfl,rfl,hz,he,q⟩:=h
 obtain⟨t,rfl⟩:=rx
 obtain⟨t',rfl⟩:=ry
 obtain⟨j,h1,h2,h3,h4,h5⟩:=wK he
 have hl:z.cps.toList.length=z.length:=by simp[Str.length]
 rw[hl] at h1 h4 h5
 have hn:=qj
 exact tail_any (typeIs_str s z t) slot_str_getitem.lookup (getItem_str (c:=c) (by
  have e1:decide (i < -(2 ^ 63:Int))=false:=decide_eq_false (by omega)
  have e2:decide (i ≥ 2 ^ 63)=false:=decide_eq_false (by omega)
  rw[e1,e2,Bool.or_false]) (by rw[h1];simpa using h2) ⟨.str ⟨#[c]⟩,H,I.tok _,⟨_,rfl⟩,q⟩) hs
noncomputable def rIx(K:PySem.W.Frag):R2:=fun x y H Q=>Rq K x y H Q\/Rr K x y H Q\/Rt x y H Q
theorem Rv:IxR X (rIx X.K):=Cq.or (Gb.or Ru)
theorem zA(lo hi:Option Int)(n:Nat):(sliceBounds lo hi none n).1=((HT.sIx n 0 lo:Nat):Int)/\(sliceBounds lo hi none n).2.1=((HT.sIx n n hi:Nat):Int)/\(sliceBounds lo hi none n).2.2=1:=by
 refine⟨?_,?_,rfl⟩
 ·cases lo with
  | none=>simp[sliceBounds,HT.sIx]
  | some i =>
   simp only[sliceBounds,HT.sIx,Option.getD_none,show(1:Int)>0 by decide,if_true]
   by_cases h:i<0
   ·simp only[h,if_true]<;>omega
   ·simp only[h,if_false]<;>omega
 ·cases hi with
  | none=>simp[sliceBounds,HT.sIx]
  | some i =>
   simp only[sliceBounds,HT.sIx,Option.getD_none,show(1:Int)>0 by decide,if_true]
   by_cases h:i<0
   ·simp only[h,if_true]<;>omega
   ·simp only[h,if_false]<;>omega
theorem yS(its:List Value)(lo hi:Option Int):slicePick its.toArray lo hi none=((its.drop (HT.sIx its.length 0 lo)).take (HT.sIx its.length its.length hi-HT.sIx its.length 0 lo)).toArray:=by
 obtain⟨h1,h2,h3⟩:=zA lo hi its.toArray.size
 unfold slicePick
 rw[h1,h2,h3]
 simp only[sliceRange_one,pick_run,List.size_toArray]<;>rfl
noncomputable def Vq(K:PySem.W.Frag):V->Option Int->Option Int->Hp->VK->Prop:=fun x lo hi H Q=>∃a xs,x=.ref a/\SqL K H a xs/\∀p,H p=none->Q (.ref p) (upd H p (.lst (wJ xs lo hi)))
theorem Nz:SlR X (Vq X.K):=by
 intro pins s σ H x v vl vu lo hi sl Q I rx hs pl pu h
 obtain⟨a,xs,rfl,hx,q⟩:=h
 cases rx
 obtain⟨its,r,ht,hz⟩:=I.list hx
 have hlen:=r.length
 refine⟨"list",_,slot_list_getitem.lookup,ht.isList.typeIs,?_⟩
 refine wpAny_getItem_list_slice ht.isList hs pl pu .none (by simp) ?_ (by rw[List.size_toArray]<;>omega)
 rw[yS,<-hlen]
 refine⟨.ref s.heap.objs.size,_,I.laid (t':=s.toks) (o:=.lst (wJ xs lo hi)) (fun b ob q=>Heap.get?_push_of_some _ q) (Nat.le_refl _) ?_,rfl,q _ (I.hok.fresh (Nat.le_refl _))⟩
 exact⟨Nat.le_trans (BV xs lo hi) hz,_,0,(r.drop (HT.sIx xs.length 0 lo)).take (HT.sIx xs.length xs.length hi-HT.sIx xs.length 0 lo),Heap.get?_push_size _ rfl⟩
noncomputable def lZ:V->Bool
 | .non=>true
 | .bl _=>true
 | .int _=>true
 | .str _=>true
 | _=>false
noncomputable def eqV:V->V->Bool
 | .non,.non=>true
 | .bl a,.bl b=>a==b
 | .bl a,.int b=>(if a then 1 else 0)==b
 | .int a,.bl b=>a==(if b then 1 else 0)
 | .int a,.int b=>a==b
 | .str a,.str b=>a==b
 | _,_=>false
theorem Rw{A:Around}{s:Shared}{y x:V}{u v:Value}(ry:RelV y u)(rx:RelV x v)(fy:lZ y=true)(fx:lZ x=true):SeqAt.EqAt A s u v (eqV y x):=by
 cases y with
 | non =>
  cases ry
  cases x with
  | non=>cases rx;exact SeqAt.EqAt.same _
  | bl b=>cases rx;exact SeqAt.EqAt.none_bool b
  | int b=>obtain⟨t,rfl⟩:=rx;exact SeqAt.EqAt.none_int b t
  | str b=>obtain⟨t,rfl⟩:=rx;exact SeqAt.EqAt.none_str b t
  | _=>exact absurd (show false=true from fx) Bool.false_ne_true
 | bl a =>
  cases ry
  cases x with
  | non=>cases rx;exact SeqAt.EqAt.bool_none a
  | bl b=>cases rx;exact SeqAt.EqAt.bool_bool a b
  | int b=>obtain⟨t,rfl⟩:=rx;exact SeqAt.EqAt.bool_int a b t
  | str b=>obtain⟨t,rfl⟩:=rx;exact SeqAt.EqAt.bool_str a b t
  | _=>exact absurd (show false=true from fx) Bool.false_ne_true
 | int a =>
  obtain⟨t',rfl⟩:=ry
  cases x with
  | non=>cases rx;exact SeqAt.EqAt.int_none a t'
  | bl b=>cases rx;exact SeqAt.EqAt.int_bool a t' b
  | int b=>obtain⟨t,rfl⟩:=rx;exact SeqAt.EqAt.int_int a t' b t
  | str b=>obtain⟨t,rfl⟩:=rx;exact SeqAt.EqAt.int_str a t' b t
  | _=>exact absurd (show false=true from fx) Bool.false_ne_true
 | str a =>
  obtain⟨t',rfl⟩:=ry
  cases x with
  | non=>cases rx;exact SeqAt.EqAt.str_none a t'
  | bl b=>cases rx;exact SeqAt.EqAt.str_bool a t' b
  | int b=>obtain⟨t,rfl⟩:=rx;exact SeqAt.EqAt.str_int a t' b t
  | str b=>obtain⟨t,rfl⟩:=rx;exact SeqAt.EqAt.str_str a t' b t
  | _=>exact absurd (show false=true from fx) Bool.false_ne_true
 | _=>exact absurd (show false=true from fy) Bool.false_ne_true
noncomputable def eqU(x:V)(u:Value):Bool:=match u with
 | .none=>eqV .non x
 | .bool b=>eqV (.bl b) x
 | .int i _=>eqV (.int i) x
 | .str z _=>eqV (.str z) x
 | _=>false
theorem Gd{x y:V}{u:Value}(r:RelV y u)(f:lZ y=true):eqU x u=eqV y x:=by
 cases y with
 | non=>cases r;rfl
 | bl b=>cases r;rfl
 | int i=>obtain⟨t,rfl⟩:=r;rfl
 | str z=>obtain⟨t,rfl⟩:=r;rfl
 | _=>exact absurd (show false=true from f) Bool.false_ne_true
theorem wM{x:V}:∀{xs:List V} {us:List Value},Vals xs us->xs.all lZ=true->us.any (eqU x)=xs.any fun y=>eqV y x
 | _,_,.nil,_=>rfl
 | y::xs,u::us,.cons r t,f=>by
  rw[List.all_cons,Bool.and_eq_true] at f
  rw[List.any_cons,List.any_cons,Gd r f.1,wM t f.2]
theorem uI{A:Around}{s:Shared}{x:V}{v:Value}(rx:RelV x v)(fx:lZ x=true):∀{xs:List V} {us:List Value},Vals xs us->xs.all lZ=true->∀u∈us,SeqAt.EqAt A s u v (eqU x u)
 | _,_,.nil,_=>fun u hu=>by cases hu
 | y::xs,u::us,.cons r t,f=>fun u' hu=>by
  rw[List.all_cons,Bool.and_eq_true] at f
  rcases List.mem_cons.mp hu with rfl |hu
  ·rw[Gd r f.1];exact Rw r rx f.1 fx
  ·exact uI rx fx t f.2 u' hu
noncomputable def inV(x:V)(xs:List V):Bool:=xs.any fun y=>eqV y x
noncomputable def rIn(K:PySem.W.Frag)(neg:Bool):R2:=fun x y H Q=>∃p xs,y=.ref p/\(SqL K H p xs\/SqT K H p xs)/\lZ x=true/\xs.all lZ=true/\Q (.bl (if neg then !inV x xs else inV x xs)) H
theorem Ge:OpR X (compareOp .In) (rIn X.K false):=by
 intro pins s σ H x y v u Q I rx ry h
 obtain⟨p,xs,rfl,hq,fx,fs,q⟩:=h
 cases ry
 rcases hq with hq |hq
 ·obtain⟨its,r,pl,hz⟩:=I.list hq
  refine SeqAt.in_listAt (eqU x) pl.isList (fun w hw=>uI rx fx r fs w (by simpa using hw)) ⟨.bl _,H,I,rfl,?_⟩
  rw[show its.toArray.any (eqU x)=its.any (eqU x) by simp,wM r fs]
  exact q
 ·obtain⟨its,r,pl,hz⟩:=I.tuple hq
  refine SeqAt.in_tupleAt (eqU x) pl (fun w hw=>uI rx fx r fs w (by simpa using hw)) ⟨.bl _,H,I,rfl,?_⟩
  rw[show its.toArray.any (eqU x)=its.any (eqU x) by simp,wM r fs]
  exact q
theorem nW:fH X (.builtin "len") (fun xs H Q=>∃p ys,xs=[.ref p]/\(SqL X.K H p ys\/SqT X.K H p ys)/\Q (.int ys.length) H):=by
 intro pins s σ H xs us Q I r h
 obtain⟨p,ys,rfl,hq,q⟩:=h
 obtain⟨u,rfl,rx⟩:=vals1 r
 cases rx
 have hn:=qj
 rcases hq with hq |hq
 ·obtain⟨its,r',pl,hz⟩:=I.list hq
  have hlen:=r'.length
  exact Calls.call_len_list pl.isList (by simp only[List.size_toArray]<;>omega) ⟨.int ys.length,H,I.tok _,⟨s.toks+1,by rw[List.size_toArray,hlen]⟩,q⟩
 ·obtain⟨its,r',pl,hz⟩:=I.tuple hq
  have hlen:=r'.length
  exact len_tuple pl (by simp only[List.size_toArray]<;>omega) ⟨.int ys.length,H,I.tok _,⟨s.toks+1,by rw[List.size_toArray,hlen]⟩,q⟩
theorem zB:fH X (.builtin "len") (fun xs H Q=>∃z,xs=[.str z]/\z.length<=sizeLine/\Q (.int z.length) H):=by
 intro pins s σ H xs us Q I r h
 obtain⟨z,rfl,hz,q⟩:=h
 obtain⟨u,rfl,t,rfl⟩:=vals1 r
 have hn:=qj
 exact len_str (by omega) ⟨.int z.length,H,I.tok _,⟨_,rfl⟩,q⟩
theorem jZ:fH X (.type "list") (fun xs H Q=>∃p ys,xs=[.ref p]/\(SqL X.K H p ys\/SqT X.K H p ys)/\∀l,H l=none->Q (.ref l) (upd H l (.lst ys))):=by
 intro pins s σ H xs us Q I r h
 obtain⟨p,ys,rfl,hq,q⟩:=h
 obtain⟨u,rfl,rx⟩:=vals1 r
 cases rx
 have fin:∀(its:List Value),Vals ys its->ys.length<=sizeLine->∀(h':Heap) (c':Nat),(∀b o',s.heap.get? b=some o'->h'.get? b=some o') ->
   h'.get? s.heap.objs.size=some { cls:=.type "list",dict:=none,data:=.seq its.toArray c',slots:=#[] }->EP X pins σ Q (.ref s.heap.objs.size) { s with heap:=h' }:=fun its r' hz h' c' kp e =>
  ⟨.ref s.heap.objs.size,_,I.laid (t':=s.toks) kp (Nat.le_refl _) (show bI X.prog X.w _ h' _ (.lst ys) from⟨hz,its,c',r',e⟩),rfl,q _ (I.hok.fresh (Nat.le_refl _))⟩
 rcases hq with hq |hq
 ·obtain⟨its,r',pl,hz⟩:=I.list hq
  have hlen:=r'.length
  obtain⟨o,ho,hc,n,hd⟩:=pl.isList
  exact call_list_seq p (.inl rfl) ho hc hd (fun h' c' kp e=>fin its r' hz h' c' kp e) (by simp only[List.size_toArray]<;>omega)
 ·obtain⟨its,r',pl,hz⟩:=I.tuple hq
  have hlen:=r'.length
  obtain⟨o,ho,hc,n,hd⟩:=pl
  exact call_list_seq p (.inr rfl) ho hc hd (fun h' c' kp e=>fin its r' hz h' c' kp e) (by simp only[List.size_toArray]<;>omega)
noncomputable def tyV(K:PySem.W.Frag)(T:String)(x:V)(H:Hp):Prop:=match x with
 | .str _=>T = "str"
 | .int _=>T = "int"
 | .ref p=>(T = "list" /\ ∃xs,SqL K H p xs)\/(T = "tuple" /\ ∃o,K.lookup p=some o/\o.cls=.type "tuple" /\ o.dict=none) \/
   (T = "dict" /\ ((∃kvs,H p=some (.dK kvs))\/∃kvs,H p=some (.dT kvs)))\/(T = "set" /\ ∃S n,H p=some (.set S n))
 | _=>False
theorem Rx{pins:List (Addr×Obj)}{σ:St}{H:Hp}{s:Shared}{T:String}{x:V}{v:Value}(I:Inv X pins σ H s)(r:RelV x v)(ty:tyV X.K T x H) :
  s.TypeIs v T/\∀a,v=.ref a->∃ob,s.heap.get? a=some ob/\ob.dict=none:=by
 cases x with
 | str z =>
  obtain⟨t,rfl⟩:=r
  cases (show T = "str" from ty)
  exact⟨typeIs_str s z t,fun _ e=>nomatch e⟩
 | int i =>
  obtain⟨t,rfl⟩:=r
  cases (show T = "int" from ty)
  exact⟨typeIs_int s i t,fun _ e=>nomatch e⟩
 | ref p =>
  cases r
  rcases ty with⟨rfl,xs,hq⟩ |⟨rfl,o,hk,hc,hd⟩ |⟨rfl,hk⟩ |⟨rfl,S,n,hk⟩
  ·obtain⟨its,_,pl,_⟩:=I.list hq
   refine⟨pl.isList.typeIs,fun a e=>?_⟩
   cases e
   obtain⟨o,n,e,c,hd,_⟩:=pl
   exact⟨o,e,hd⟩
  ·refine⟨⟨o,I.kIn p o hk,hc⟩,fun a e=>?_⟩
   cases e
   exact⟨o,I.kIn _ o hk,hd⟩
  ·have z:∃o,s.heap.get? p=some o/\o.ExactDict:=by
    rcases hk with⟨kvs,hk⟩ |⟨kvs,hk⟩
    ·obtain⟨_,_,_,_,o,_,_,e,ex,_⟩:=I.hok p _ hk
     exact⟨o,e,ex⟩
    ·obtain⟨_,_,_,_,o,_,_,e,ex,_⟩:=I.hok p _ hk
     exact⟨o,e,ex⟩
   obtain⟨o,e,ex⟩:=z
   refine⟨⟨o,e,ex.1⟩,fun a e2=>?_⟩
   cases e2
   exact⟨o,e,ex.2.1⟩
  ·obtain⟨o,_,_,_,e,ex,_⟩:=I.hok p _ hk
   refine⟨⟨o,e,ex.1⟩,fun a e2=>?_⟩
   cases e2
   exact⟨o,e,ex.2.1⟩
 | _=>exact False.elim ty
noncomputable def tBM(K:PySem.W.Frag)(T:String)(r:V->List V->Hp->VK->Prop)(to:TE)(t:TA):TE:=fun σ H Q=>to σ H fun x H1=>tyV K T x H1/\t σ H1 fun xs H2=>r x xs H2 Q
variable {o e:Expr} {es:List Expr} {to:TE} {t:TA} {name:Str} {apos cpos:Pos} {T id:String} {r:V->List V->Hp->VK->Prop}
theorem vy(pa:PlainAttrs T)(slot:Slot T name id)(hty:typeOf (.builtin id)=pure (.type "method_descriptor"))(hm:MtR X id r)(ho:PE X o to)(ha:PA X (e::es) t)
  (hbase:attributeBase o name X.env (eval o X.env)=eval o X.env:=by rfl)
  (hfew:((backTo cpos (starEach (e::es) X.env)).all (fun x=>!x.1) && (backToKw cpos (keywordEach [] X.env)).all (fun x=>x.1.isSome)
   && decide ((e::es).length+([]:List Keyword).length+(if([]:List Keyword).isEmpty then 0 else 1)<30))=true:=by rfl)
  (hline:(apos.endLine==cpos.line)=true:=by rfl) (hs:starEach (e::es) X.env=(false,eval e X.env)::starEach es X.env:=by rfl) (hplain:(backTo cpos (starEach es X.env)).any (·.1)=false:=by rfl) :
  PE X (.Call (.Attribute o name apos) (e::es) [] cpos) (tBM X.K T r to t):=by
 intro pins s σ H Q I h
 refine wpAny_Call_method_late hbase hfew hline rfl (thn (ho pins s σ H _ I h) fun v s1 hw'=>?_)
 obtain⟨x,H1,I1,r1,ty,q1⟩:=hw'
 obtain⟨h1,h2⟩:=Rx I1 r1 ty
 refine⟨T,id,pa,slot,hty,h1,h2,?_⟩
 have hA:=ha cpos pins s1 σ H1 _ I1 q1
 rw[hs] at hA ⊢
 refine Calls.callWith_builtin (by show(false || (backTo cpos (starEach es X.env)).any (·.1))=false;rw[hplain]<;>rfl) (Calls.evalArgs_plain ?_)
 exact thn hA fun us s2 ⟨vs,H2,I2,r2,q2⟩=>hm pins s2 σ H2 x vs v us Q I2 r1 r2 q2
/- xs.append(e),list.index on a module's tuple .. are MtR facts of 06m -/
end
end L2
namespace L2
open PySem PySem.Spec PyProof.Rows
noncomputable def MtM(X:Cx)(id:String)(r:V->List V->Hp->VK->Prop):Prop :=
 ∀(pins:List (Addr×Obj)) (s:Shared) (σ:St) (H:Hp) (x:V) (xs:List V) (v:Value) (us:List Value) (Q:VK),Inv X pins σ H s->RelV x v->Vals xs us->r x xs H Q ->
  wpAny (model X.prog X.w) X.A (call (.builtin id) (v::us)) (EP X pins σ Q) X.xe s
theorem Vals.one{x:V}{us:List Value}(h:Vals [x] us):∃u,us=[u]/\RelV x u:=vals1 h
theorem Vals.eraseIdx:∀{xs:List V} {us:List Value} (i:Nat),Vals xs us->Vals (xs.eraseIdx i) (us.eraseIdx i)
 | _,_,_,.nil=>.nil
 | _,_,0,.cons _ t=>t
 | _,_,i+1,.cons r t=>.cons r (Vals.eraseIdx i t)
theorem Vals.rep{xs:List V}{us:List Value}(h:Vals xs us):∀k:Nat,Vals (List.replicate k xs).flatten (List.replicate k us).flatten
 | 0=>.nil
 | k+1=>by
  rw[List.replicate_succ,List.replicate_succ,List.flatten_cons,List.flatten_cons]
  exact Vals.append h (Vals.rep h k)
theorem yh{α:Type}:∀(l:List α) (i:Nat),(l.eraseIdx i).length<=l.length
 | [],_=>Nat.le_refl _
 | _::_,0=>Nat.le_succ _
 | _::r,i+1=>Nat.succ_le_succ (yh r i)
theorem foldl_rep(its:List Value):∀(k:Nat) (acc:List Value),
  List.foldl (fun x1 x2=>x1++x2) acc.toArray (List.replicate k its.toArray)=(acc++(List.replicate k its).flatten).toArray
 | 0,acc=>by simp
 | k+1,acc=>by
  have e:acc.toArray++its.toArray=(acc++its).toArray:=by simp
  have e2:(acc++its)++(List.replicate k its).flatten=acc++(List.replicate (k+1) its).flatten:=by
   rw[List.replicate_succ,List.flatten_cons,List.append_assoc]
  rw[<-e2,<-foldl_rep its k (acc++its),<-e,List.replicate_succ,List.foldl_cons]
section
variable {X:Cx} {pins:List (Addr×Obj)} {σ:St} {H:Hp} {s:Shared} {l b:Addr} {xs ys zs:List V}
theorem Inv.lset{its its':List Value}{n:Nat}{f:Array Value->Array Value}{t':Nat}(I:Inv X pins σ H s)(hH:H l=some (.lst xs))
  (e:s.heap.get? l=some { cls:=.type "list",data:=.seq its.toArray n }) (hf:f its.toArray=its'.toArray) (hv:Vals ys its') (hz:ys.length<=sizeLine) :
  Inv X pins σ (upd H l (.lst ys)) { s with heap:=s.heap.update l (Obj.mapSeq f),toks:=t' }:=by
 have q:=PySem.IsL.update e f
 rw[hf] at q
 refine I.write (x:=l) (e:=l) (by rw[hH];exact trivial) (.inl rfl) (fun b' u hb hu=>(Heap.get?_update_other s.heap (Obj.mapSeq f) (Ne.symm hb)).trans hu) ⟨_,q⟩ ?_
 exact⟨hz,its',_,hv,q⟩
theorem Inv.lnew{its:List Value}{t':Nat}(I:Inv X pins σ H s)(hv:Vals ys its)(hz:ys.length<=sizeLine) :
  Inv X pins σ (upd H s.heap.objs.size (.lst ys)) { s with heap:=s.heap.push { cls:=.type "list",data:=.seq its.toArray },toks:=t' } :=
 I.laid (fun _ _ q=>Heap.get?_push_of_some _ q) (Nat.le_refl _) ⟨hz,its,0,hv,Heap.get?_push_size _ rfl⟩
theorem Inv.fresh(I:Inv X pins σ H s):H s.heap.objs.size=none:=I.hok.fresh (Nat.le_refl _)
theorem Inv.lstM(I:Inv X pins σ H s)(hH:H l=some (.lst xs)):xs.length<=sizeLine/\∃(its:List Value) (n:Nat),Vals xs its/\xs.length=its.length/\s.heap.get? l=some { cls:=.type "list",data:=.seq its.toArray n }:=by
 obtain⟨z,its,n,r,e⟩:=I.hok l _ hH
 exact⟨z,its,n,r,r.length,e⟩
theorem Jq{n:Nat}(h:n<=sizeLine):Builtin.List.listTooLong n=false:=by
 unfold Builtin.List.listTooLong
 exact decide_eq_false (by omega)
end
section
variable {X:Cx}
noncomputable def Cr:V->List V->Hp->VK->Prop:=fun x vs H Q=>∃l xs y,x=.ref l/\vs=[y]/\H l=some (.lst xs)/\xs.length<sizeLine/\Q .non (upd H l (.lst (xs++[y])))
theorem sr:MtM X "list.append" Cr:=by
 intro pins s σ H x vs v us Q I rx rv h
 obtain⟨l,xs,y,rfl,rfl,hH,hz,q⟩:=h
 cases rx
 obtain⟨u,rfl,ru⟩:=rv.one
 obtain⟨z,its,n,r,hl,e⟩:=I.lstM hH
 refine call_meets F.slot_list_append ⟨_,e,rfl⟩ F.entry_list_append (F.args_list_append_2 _ _) (PySem.list_append l its.toArray n u (by rw[List.size_toArray];omega)) ⟨e,?_⟩
 refine⟨.non,_,I.lset (its':=its++[u]) hH e (by simp) (r.append (.cons ru .nil)) ?_,rfl,q⟩
 rw[List.length_append,List.length_singleton]
 omega
noncomputable def Ry:V->List V->Hp->VK->Prop:=fun x vs H Q=>∃l xs i k y,x=.ref l/\vs=[.int i]/\H l=some (.lst xs) /\ -(2 ^ 63)<=i/\i<2 ^ 63/\seqIndex? i xs.length=some k/\xs[k]? = some y/\Q y (upd H l (.lst (xs.eraseIdx k)))
theorem Jr:MtM X "list.pop" Ry:=by
 intro pins s σ H x vs v us Q I rx rv h
 obtain⟨l,xs,i,k,y,rfl,rfl,hH,h1,h2,hk,hy,q⟩:=h
 cases rx
 obtain⟨u,rfl,ru⟩:=rv.one
 obtain⟨t,rfl⟩:=ru
 obtain⟨z,its,n,r,hl,e⟩:=I.lstM hH
 obtain⟨w,hw,rw'⟩:=r.get hy
 refine call_meets F.slot_list_pop ⟨_,e,rfl⟩ F.entry_list_pop (F.args_list_pop_2 _ _)
  (MeetsSeq.list_pop_at l its.toArray n i t k w (fitsIndex_both h1 h2) (by rw[List.size_toArray,<-hl];exact hk) (by rw[<-Array.getElem?_toList];exact hw) (by rw[List.size_toArray];omega)) ⟨e,?_⟩
 refine⟨y,_,I.lset (its':=its.eraseIdx k) hH e ?_ (r.eraseIdx k) ?_,rw',q⟩
 ·show its.toArray.eraseIdxIfInBounds k=(its.eraseIdx k).toArray
  rw[List.eraseIdxIfInBounds_toArray]
 ·have:=yh xs k
  omega
noncomputable def Vr:R2:=fun x y H Q=>∃l b xs zs,x=.ref l/\y=.ref b/\H l=some (.lst xs)/\H b=some (.lst zs)/\xs.length+zs.length<=sizeLine/\∀p,H p=none->Q (.ref p) (upd H p (.lst (xs++zs)))
theorem Rz:OpR X (binaryOp .Add) Vr:=by
 intro pins s σ H x y v u Q I rx ry h
 obtain⟨l,b,xs,zs,rfl,rfl,hH,hB,hz,q⟩:=h
 cases rx
 cases ry
 obtain⟨z,its,n,r,hl,e⟩:=I.lstM hH
 obtain⟨z2,its2,n2,r2,hl2,e2⟩:=I.lstM hB
 refine PySem.P.add_list e e2 ?_ (by rw[List.size_toArray,List.size_toArray];omega)
 have ea:its.toArray++its2.toArray=(its++its2).toArray:=by simp
 rw[ea]
 exact⟨.ref _,_,I.lnew (t':=s.toks) (r.append r2) (by rw[List.length_append];omega),rfl,q _ I.fresh⟩
noncomputable def Vs:R2:=fun x y H Q=>∃l k xs,x=.ref l/\y=.int k/\H l=some (.lst xs) /\ -(2 ^ 63)<=k/\k<2 ^ 63/\xs.length*k.toNat<=sizeLine /\
 ∀p,H p=none->Q (.ref p) (upd H p (.lst (List.replicate k.toNat xs).flatten))
theorem len_rep{α:Type}(xs:List α)(k:Nat):(List.replicate k xs).flatten.length=k*xs.length:=by
 induction k with
 | zero=>simp
 | succ k ih=>rw[List.replicate_succ,List.flatten_cons,List.length_append,ih,Nat.succ_mul,Nat.add_comm]
theorem RB:OpR X (binaryOp .Mult) Vs:=by
 intro pins s σ H x y v u Q I rx ry h
 obtain⟨l,k,xs,rfl,rfl,hH,h1,h2,hz,q⟩:=h
 cases rx
 obtain⟨t,rfl⟩:=ry
 obtain⟨z,its,n,r,hl,e⟩:=I.lstM hH
 have hlen:its.toArray.size*k.toNat<=sizeLine:=by rw[List.size_toArray,<-hl];exact hz
 have hcap:¬its.toArray.size*k.toNat>(2 ^ 63-1) / 8:=by
  have:(sizeLine:Nat)<=(2 ^ 63-1) / 8:=by decide
  omega
 have hfit:¬(!Builtin.List.listFitsIndex k)=true:=by
  rw[fitsIndex_both h1 h2]
  exact Bool.false_ne_true
 have hlong:¬Builtin.List.listTooLong (its.toArray.size*k.toNat)=true:=by
  rw[Jq hlen]
  exact Bool.false_ne_true
 have hnew:List.foldl (fun x1 x2=>x1++x2) #[] (List.replicate (if its.toArray.isEmpty=true then 0 else k.toNat) its.toArray)=(List.replicate k.toNat its).flatten.toArray:=by
  have f0:∀m:Nat,List.foldl (fun x1 x2=>x1++x2) #[] (List.replicate m its.toArray)=(List.replicate m its).flatten.toArray:=fun m=>by
   have:=foldl_rep its m []
   rw[List.nil_append] at this
   exact this
  rw[f0]
  cases its with
  | nil=>simp
  | cons a r'=>rw[if_neg (by simp)]
 refine wpAny_binaryOp_repeat_ref (T:="list") (U:="int") (by decide) ⟨_,e,rfl⟩ (fun s'=>typeIs_int s' k t) noFill_list_mul F.fills_int_mul F.slot_int_rmul repeat_list F.slot_int_index.lookup
  (call_meets F.slot_int_rmul (typeIs_int s k t) F.entry_int_rmul (F.args_int_rmul_2 _ _) (int___rmul___int_list k t l its.toArray n)
   ⟨e,rfl,⟨_,e,rfl⟩,call_meets F.slot_list_mul ⟨_,e,rfl⟩ F.entry_list_mul (F.args_list_mul_2 _ _) (AutoListH.list___mul___list_int_3 l its.toArray n k t hfit hcap hlong) ⟨e,?_⟩⟩)
 rw[hnew]
 exact⟨.ref _,_,I.lnew (t':=s.toks) (r.rep k.toNat) (by rw[len_rep,Nat.mul_comm];exact hz),rfl,q _ I.fresh⟩
end
section
variable {prog:Program} {w:World} {A:Around} {E:Value->Shared->Prop} {s:Shared}
set_option maxRecDepth 100000 in
end
end L2
namespace L2
open PySem PySem.Spec PyProof.Rows
section
variable {κ:Type} [DecidableEq κ]
noncomputable def cW(kvs:List (κ×V))(k:κ):Option V:=(kvs.find? fun kv=>decide (kv.1=k)).map (·.2)
noncomputable def putK(kvs:List (κ×V))(k:κ)(v:V):List (κ×V) :=
 if(kvs.any fun kv=>decide (kv.1=k))=true then kvs.map (fun kv=>if kv.1=k then(kv.1,v) else kv) else kvs++[(k,v)]
noncomputable def eY(kvs:List (κ×V))(k:κ):List (κ×V):=kvs.filter fun kv=>decide (kv.1≠k)
theorem qP{p:κ×V}{r:List (κ×V)}{k:κ}(e:p.1=k):cW (p::r) k=some p.2:=by simp[cW,List.find?_cons,e]
theorem qQ{p:κ×V}{r:List (κ×V)}{k:κ}(e:¬p.1=k):cW (p::r) k=cW r k:=by simp[cW,List.find?_cons,e]
theorem zE(k:κ):∀kvs:List (κ×V),(kvs.any fun kv=>decide (kv.1=k))=(cW kvs k).isSome
 | []=>rfl
 | p::r=>by
  rw[List.any_cons]
  by_cases e:p.1=k
  ·simp only[qP e,decide_eq_true e,Bool.true_or,Option.isSome_some]
  ·rw[qQ e,decide_eq_false e,Bool.false_or];exact zE k r
theorem pQ(kvs:List (κ×V))(k:κ)(v:V):(putK kvs k v).length<=kvs.length+1:=by
 unfold putK
 split
 ·rw[List.length_map];omega
 ·rw[List.length_append,List.length_cons,List.length_nil];omega
theorem gW.isSome_eq{o:Option V}{u:Option Value}(r:gW o u):o.isSome=u.isSome:=by
 cases o with
 | none=>cases u with
  | none=>rfl
  | some _=>exact(show False from r).elim
 | some _=>cases u with
  | none=>exact(show False from r).elim
  | some _=>rfl
theorem gW.getD{o:Option V}{u:Option Value}{d:V}{d':Value}(r:gW o u)(rd:RelV d d'):RelV (o.getD d) (u.getD d'):=by
 cases o with
 | none=>cases u with
  | none=>exact rd
  | some _=>exact(show False from r).elim
 | some _=>cases u with
  | none=>exact(show False from r).elim
  | some _=>exact r
theorem KV.val{kvs:List (κ×V)}{vs:List (κ×Value)}(r:KV kvs vs)(k:κ):gW (cW kvs k) (valueAt vs k):=by
 unfold KV at r
 induction r with
 | nil=>exact True.intro
 | @cons p q ps qs h t ih =>
  obtain⟨h1,h2⟩:=h
  by_cases e:p.1=k
  ·have e':q.1=k:=h1.symm.trans e
   have b:valueAt (q::qs) k=some q.2:=by simp[valueAt,List.find?_cons,e']
   rw[qP e,b];exact h2
  ·have e':¬q.1=k:=fun z=>e (h1.trans z)
   have b:valueAt (q::qs) k=valueAt qs k:=by simp[valueAt,List.find?_cons,e']
   rw[qQ e,b];exact ih
theorem KV.any{kvs:List (κ×V)}{vs:List (κ×Value)}(r:KV kvs vs)(k:κ):(kvs.any fun kv=>decide (kv.1=k))=vs.any fun kv=>decide (kv.1=k):=by
 unfold KV at r
 induction r with
 | nil=>rfl
 | cons h t ih=>rw[List.any_cons,List.any_cons,ih,h.1]
theorem KV.repl{kvs:List (κ×V)}{vs:List (κ×Value)}(r:KV kvs vs)(k:κ){y:V}{u:Value}(ry:RelV y u) :
  KV (kvs.map fun kv=>if kv.1=k then(kv.1,y) else kv) (vs.map fun kv=>if kv.1=k then(kv.1,u) else kv):=by
 unfold KV at r ⊢
 induction r with
 | nil=>exact .nil
 | @cons p q ps qs h t ih =>
  rw[List.map_cons,List.map_cons]
  refine .cons ?_ ih
  obtain⟨h1,h2⟩:=h
  by_cases e:p.1=k
  ·rw[if_pos e,if_pos (h1.symm.trans e)];exact⟨h1,ry⟩
  ·rw[if_neg e,if_neg (fun z=>e (h1.trans z))];exact⟨h1,h2⟩
theorem KV.put{kvs:List (κ×V)}{vs:List (κ×Value)}(r:KV kvs vs)(k:κ){y:V}{u:Value}(ry:RelV y u):KV (putK kvs k y) (stored vs k u):=by
 unfold putK stored
 rw[r.any k]
 by_cases e:(vs.any fun kv=>decide (kv.1=k))=true
 ·rw[if_pos e,if_pos e];exact r.repl k ry
 ·rw[if_neg e,if_neg e];exact Paired.snoc r ⟨rfl,ry⟩
theorem KV.drop{kvs:List (κ×V)}{vs:List (κ×Value)}(r:KV kvs vs)(k:κ):KV (eY kvs k) (without vs k):=by
 unfold KV at r ⊢
 unfold eY without
 induction r with
 | nil=>exact .nil
 | @cons p q ps qs h t ih =>
  obtain⟨h1,h2⟩:=h
  rw[List.filter_cons,List.filter_cons]
  by_cases e:p.1=k
  ·have a:¬decide (p.1≠k)=true:=by simp[e]
   have b:¬decide (q.1≠k)=true:=by simp[h1.symm.trans e]
   rw[if_neg a,if_neg b];exact ih
  ·have e':¬q.1=k:=fun z=>e (h1.trans z)
   have a:decide (p.1≠k)=true:=by simp[e]
   have b:decide (q.1≠k)=true:=by simp[e']
   rw[if_pos a,if_pos b];exact .cons ⟨h1,h2⟩ ih
theorem KV.keys{kvs:List (κ×V)}{vs:List (κ×Value)}(r:KV kvs vs):kvs.map (·.1)=vs.map (·.1):=by
 unfold KV at r
 induction r with
 | nil=>rfl
 | cons h t ih=>rw[List.map_cons,List.map_cons,ih,h.1]
theorem KV.length{kvs:List (κ×V)}{vs:List (κ×Value)}(r:KV kvs vs):kvs.length=vs.length:=Paired.length r
theorem uJ(kvs:List (κ×V))(k:κ):(eY kvs k).length<=kvs.length:=List.length_filter_le _ _
end
theorem qR{P:Program}{w:World}{k:Key}{u:Value}(r:RelV (kV k) u):(cA P w).is k u=true:=by
 cases k with
 | inl i=>obtain⟨t,e⟩:=(show ∃t,u=Value.int i t from r);subst e;exact BP P w i t
 | inr x=>obtain⟨t,e⟩:=(show ∃t,u=Value.str x t from r);subst e;exact BR P w x t
theorem yj{P:Program}{w:World}:∀{ks:List Key} {us:List Value},Vals (ks.map kV) us->ItemsAre (cA P w) ks us
 | [],_,r=>by rw[List.map_nil] at r;cases r;exact .nil
 | k::ks,_,r=>by
  rw[List.map_cons] at r
  cases r with
  | cons h t=>exact .cons (qR h) (yj t)
noncomputable abbrev KT(H:Hp):List (List Key×V)->List (List Key×Addr×Value)->Prop:=Paired fun p q=>p.1=q.1/\H q.2.1=some (.tup (p.1.map kV))/\RelV p.2 q.2.2
theorem KT.val{H:Hp}{kvs:List (List Key×V)}{xs:List (List Key×Addr×Value)}(r:KT H kvs xs)(k:List Key):gW (cW kvs k) ((atKey xs k).map (·.2)):=by
 induction r with
 | nil=>exact True.intro
 | @cons p q ps qs h t ih =>
  obtain⟨h1,_,h2⟩:=h
  by_cases e:p.1=k
  ·have e':q.1=k:=h1.symm.trans e
   have b:atKey (q::qs) k=some q.2:=by simp[atKey,List.find?_cons,e']
   rw[qP e,b];exact h2
  ·have e':¬q.1=k:=fun z=>e (h1.trans z)
   have b:atKey (q::qs) k=atKey qs k:=by simp[atKey,List.find?_cons,e']
   rw[qQ e,b];exact ih
theorem KT.repl{H:Hp}{kvs:List (List Key×V)}{xs:List (List Key×Addr×Value)}(r:KT H kvs xs)(k:List Key){y:V}{u:Value}(ry:RelV y u) :
  KT H (kvs.map fun kv=>if kv.1=k then(kv.1,y) else kv) (xs.map (putAt k u)):=by
 induction r with
 | nil=>exact .nil
 | @cons p q ps qs h t ih =>
  rw[List.map_cons,List.map_cons]
  refine .cons ?_ ih
  obtain⟨h1,h2,h3⟩:=h
  unfold putAt
  by_cases e:p.1=k
  ·rw[if_pos e,if_pos (h1.symm.trans e)];exact⟨h1,h2,ry⟩
  ·rw[if_neg e,if_neg (fun z=>e (h1.trans z))];exact⟨h1,h2,h3⟩
theorem KT.put{H:Hp}{kvs:List (List Key×V)}{xs:List (List Key×Addr×Value)}(r:KT H kvs xs)(k:List Key){b:Addr}{y:V}{u:Value}(hb:H b=some (.tup (k.map kV)))(ry:RelV y u) :
  KT H (putK kvs k y) (storedH xs k b u):=by
 have e:(kvs.any fun kv=>decide (kv.1=k))=(atKey xs k).isSome:=by
  rw[zE,(r.val k).isSome_eq,Option.isSome_map]
 unfold putK storedH
 rw[e]
 by_cases q:(atKey xs k).isSome=true
 ·rw[if_pos q,if_pos q];exact r.repl k ry
 ·rw[if_neg q,if_neg q];exact Paired.snoc r ⟨rfl,hb,ry⟩
theorem KT.keeps{H H':Hp}{kvs:List (List Key×V)}{xs:List (List Key×Addr×Value)}(r:KT H kvs xs)(ht:∀b ys,H b=some (.tup ys)->H' b=some (.tup ys)):KT H' kvs xs :=
 Paired.mapP r fun _ _ z=>⟨z.1,ht _ _ z.2.1,z.2.2⟩
section
variable {P:Program} {w:World} {H:Hp} {h:Heap} {a:Addr}
theorem Mf{u:HO}(ok:HOk P w H h)(e:Rd H a u):bI P w H h a u:=e.ok ok
theorem pA{kvs:List (Key×V)}(ok:HOk P w H h)(e:Rd H a (.dK kvs)):kvs.length<=sizeLine/\(a==sysModules)=false/\∃vs,KV kvs vs/\h.DictOf (cA P w) a vs :=
 show bI P w H h a (.dK kvs) from Mf ok e
theorem DW{kvs:List (Key×V)}(ok:HOk P w H h)(e:H a=some (.dK kvs)):kvs.length<=sizeLine/\(a==sysModules)=false/\∃vs,KV kvs vs/\h.DictOf (cA P w) a vs:=pA ok (.inl e)
theorem j_{ks:List Key}(ok:HOk P w H h)(e:H a=some (.tup (ks.map kV))):(tupleKind (cA P w)).is h ks a:=by
 obtain⟨_,its,r,o,h1,h2,n,h3⟩:=(show bI P w H h a (.tup (ks.map kV)) from ok a _ e)
 exact⟨o,its.toArray,n,h1,h2,h3,by simpa using yj r⟩
theorem qT{kvs:List (List Key×V)}(ok:HOk P w H h)(e:Rd H a (.dT kvs)):kvs.length<=sizeLine/\(a==sysModules)=false /\
  ∃xs,KT H kvs xs/\h.DictOfH (tupleKind (cA P w)) a xs:=by
 obtain⟨z,y,xs,r,o,es,ep,h1,h2,h3,h4,h5⟩:=(show bI P w H h a (.dT kvs) from Mf ok e)
 refine⟨z,y,xs,r,o,es,ep,h1,h2,h3,h4,fun x hx=>?_,h5⟩
 have all:∀{l:List (List Key×V)} {m:List (List Key×Addr×Value)},KT H l m->∀x∈m,(tupleKind (cA P w)).is h x.1 x.2.1:=by
  intro l m q
  induction q with
  | nil=>intro x hx;exact nomatch hx
  | @cons p q ps qs hq t ih =>
   intro x hx
   rcases List.mem_cons.mp hx with e |hx
   ·subst e
    exact j_ ok (by rw[<-hq.1];exact hq.2.1)
   ·exact ih x hx
 exact all r x hx
theorem zm{kvs:List (List Key×V)}(ok:HOk P w H h)(e:H a=some (.dT kvs)):kvs.length<=sizeLine/\(a==sysModules)=false /\
  ∃xs,KT H kvs xs/\h.DictOfH (tupleKind (cA P w)) a xs:=qT ok (.inl e)
end
noncomputable def iV(H:Hp)(a:Addr)(y:V)(r:Option V):Prop :=
 (∃kvs k,Rd H a (.dK kvs)/\y=kV k/\r=cW kvs k)\/∃kvs k b,Rd H a (.dT kvs)/\y=.ref b/\H b=some (.tup (k.map kV))/\r=cW kvs k
noncomputable def qU(H:Hp)(a:Addr)(y v:V)(H':Hp):Prop :=
 (∃kvs k,H a=some (.dK kvs)/\y=kV k/\kvs.length<sizeLine/\H'=upd H a (.dK (putK kvs k v))) \/
 ∃kvs k b,H a=some (.dT kvs)/\y=.ref b/\H b=some (.tup (k.map kV))/\kvs.length<sizeLine/\H'=upd H a (.dT (putK kvs k v))
theorem iV.k{H:Hp}{a:Addr}{kvs:List (Key×V)}{k:Key}(e:H a=some (.dK kvs)):iV H a (kV k) (cW kvs k):=.inl ⟨kvs,k,.inl e,rfl,rfl⟩
theorem iV.t{H:Hp}{a b:Addr}{kvs:List (List Key×V)}{k:List Key}(e:H a=some (.dT kvs))(eb:H b=some (.tup (k.map kV))):iV H a (.ref b) (cW kvs k):=.inr ⟨kvs,k,b,.inl e,rfl,eb,rfl⟩
theorem qU.k{H:Hp}{a:Addr}{kvs:List (Key×V)}{k:Key}{v:V}(e:H a=some (.dK kvs))(hl:kvs.length<sizeLine):qU H a (kV k) v (upd H a (.dK (putK kvs k v))):=.inl ⟨kvs,k,e,rfl,hl,rfl⟩
theorem qU.t{H:Hp}{a b:Addr}{kvs:List (List Key×V)}{k:List Key}{v:V}(e:H a=some (.dT kvs))(eb:H b=some (.tup (k.map kV)))(hl:kvs.length<sizeLine) :
  qU H a (.ref b) v (upd H a (.dT (putK kvs k v))):=.inr ⟨kvs,k,b,e,rfl,eb,hl,rfl⟩
section
variable {X:Cx} {pins:List (Addr×Obj)} {σ:St} {H:Hp} {s:Shared} {a:Addr} {y v:V} {u r:Value} {o:Option V} {A:Around} {E:Value->Shared->Prop}
theorem Inv.big(I:Inv X pins σ H s):sysModules<s.heap.objs.size:=by
 have h:mainGlobals<s.heap.objs.size:=(I.mod.glob.keeps I.bk).lt
 exact Nat.lt_trans (by decide) h
theorem Gf{Q:Value->Shared->Prop}(hu:A.units+1<cLine)(I:Inv X pins σ H s)(g:iV H a y (some v))(ry:RelV y u)(h:∀w' s',Inv X pins σ H s'->RelV v w'->Q w' s') :
  wpAny (model X.prog X.w) A (getItem (.ref a) u) Q E s:=by
 rcases g with⟨kvs,k,e,ey,l⟩ |⟨kvs,k,b,e,ey,eb,l⟩
 ·subst ey
  obtain⟨z,hd,vs,rel,dd⟩:=pA I.hok e
  obtain⟨w',hw,rw'⟩:=gW.some_of (v:=v) (o:=valueAt vs k) (by rw[l];exact rel.val k)
  exact wpAny_getItem_of (qR ry) dd.mapOf hw (h w' _ (I.tok _) rw')
 ·subst ey
  cases (show u=Value.ref b from ry)
  obtain⟨z,hd,xs,rel,dd⟩:=qT I.hok e
  obtain⟨w',hw,rw'⟩:=gW.some_of (v:=v) (o:=(atKey xs k).map (·.2)) (by rw[l];exact rel.val k)
  obtain⟨p,hp,hp2⟩:=Option.map_eq_some_iff.mp hw
  refine wpAny_getItem_heap (tupleKind_room_in1 hu) (j_ I.hok eb) dd hp ?_
  rw[hp2]
  exact h w' _ (I.tok _) rw'
theorem Vt{Q:Value->Shared->Prop}(hu:A.units+1<cLine)(I:Inv X pins σ H s)(g:iV H a y o)(ry:RelV y u)(h:∀s',Inv X pins σ H s'->Q (.bool o.isSome) s') :
  wpAny (model X.prog X.w) A (compareOp .In u (.ref a)) Q E s:=by
 rcases g with⟨kvs,k,e,ey,l⟩ |⟨kvs,k,b,e,ey,eb,l⟩
 ·subst ey
  obtain⟨z,hd,vs,rel,dd⟩:=pA I.hok e
  refine wpAny_in_of (qR ry) hd dd.mapOf ?_
  rw[<-(rel.val k).isSome_eq,<-l]
  exact h _ (I.tok _)
 ·subst ey
  cases (show u=Value.ref b from ry)
  obtain⟨z,hd,xs,rel,dd⟩:=qT I.hok e
  refine wpAny_in_heap (tupleKind_room_in1 hu) (j_ I.hok eb) hd dd ?_
  have q:=(rel.val k).isSome_eq
  rw[Option.isSome_map] at q
  rw[<-q,<-l]
  exact h _ (I.tok _)
theorem NB{Q:Value->Shared->Prop}(hu:A.units+1<cLine)(I:Inv X pins σ H s)(g:iV H a y o)(ry:RelV y u)(h:∀s',Inv X pins σ H s'->Q (.bool (!o.isSome)) s') :
  wpAny (model X.prog X.w) A (compareOp .NotIn u (.ref a)) Q E s:=by
 rcases g with⟨kvs,k,e,ey,l⟩ |⟨kvs,k,b,e,ey,eb,l⟩
 ·subst ey
  obtain⟨z,hd,vs,rel,dd⟩:=pA I.hok e
  refine wpAny_notIn_of (qR ry) hd dd.mapOf ?_
  rw[<-(rel.val k).isSome_eq,<-l]
  exact h _ (I.tok _)
 ·subst ey
  cases (show u=Value.ref b from ry)
  obtain⟨z,hd,xs,rel,dd⟩:=qT I.hok e
  refine wpAny_notIn_heap (tupleKind_room_in1 hu) (j_ I.hok eb) hd dd ?_
  have q:=(rel.val k).isSome_eq
  rw[Option.isSome_map] at q
  rw[<-q,<-l]
  exact h _ (I.tok _)
theorem nG{h':Heap}{t':Nat}{ob:HO}(I:Inv X pins σ H s)(mu:Mut (H a))(hs:Heap.SameBut a s.heap h')(he:∃q,h'.get? a=some q)(new:bI X.prog X.w (upd H a ob) h' a ob) :
  Inv X pins σ (upd H a ob) { s with heap:=h',toks:=t' } :=
 I.write (x:=a) (e:=a) mu (.inl rfl) (fun b q hb z=>(hs.2 b hb).trans z) he new
theorem Gg{P:Program}{w:World}{H':Hp}{h':Heap}{kvs:List (Key×V)}{vs:List (Key×Value)}(z:kvs.length<=sizeLine)(hd:(a==sysModules)=false)(rel:KV kvs vs)(dd:h'.DictOf (cA P w) a vs) :
  bI P w H' h' a (.dK kvs):=⟨z,hd,vs,rel,dd⟩
theorem Gh{H':Hp}{Q:Unit->Shared->Prop}(hu:A.units+1<cLine)(I:Inv X pins σ H s)(g:qU H a y v H')(ry:RelV y u)(rv:RelV v r)(h:∀s',Inv X pins σ H' s'->Q () s') :
  wpAny (model X.prog X.w) A (setItem (.ref a) u r) Q E s:=by
 rcases g with⟨kvs,k,e,ey,l,eH⟩ |⟨kvs,k,b,e,ey,eb,l,eH⟩
 ·subst ey eH
  obtain⟨z,hd,vs,rel,dd⟩:=DW I.hok e
  have hz:vs.length<=sizeLine:=by rw[<-rel.length];exact z
  have hl:(putK kvs k v).length<=sizeLine:=by have:=pQ kvs k v;omega
  refine wpAny_setItem_pairs (hsz:=hz) (qR ry) dd fun h' dd' hs=>h _ ?_
  have he:∃q,h'.get? a=some q:=let⟨q,_,_,hq,_⟩:=dd';⟨q,hq⟩
  exact nG I (by rw[e];exact True.intro) hs he (Gg hl hd (rel.put k rv) dd')
 ·subst ey eH
  cases (show u=Value.ref b from ry)
  obtain⟨z,hd,xs,rel,dd⟩:=zm I.hok e
  have hz:xs.length<=sizeLine:=by rw[<-Paired.length rel];exact z
  have hl:(putK kvs k v).length<=sizeLine:=by have:=pQ kvs k v;omega
  refine wpAny_setItem_heap (hsz:=hz) (tupleKind_room_in1 hu) (j_ I.hok eb) dd fun h' dd' hs=>h _ ?_
  obtain⟨q,es,ep,hq,h2,h3,h4,_,h5⟩:=dd'
  refine nG I (by rw[e];exact True.intro) hs ⟨q,hq⟩ ⟨hl,hd,_,(rel.put k eb rv).keeps fun c ys ec=>?_,q,es,ep,hq,h2,h3,h4,h5⟩
  rw[aC (zg ec e (fun z=>nomatch z))]
  exact ec
end
section
variable {X:Cx} {pins:List (Addr×Obj)} {σ:St} {H:Hp} {s:Shared} {a:Addr} {kvs:List (Key×V)} {k:Key} {u:Value} {A:Around} {E:Value->Shared->Prop}
theorem Uc{v:V}{more:List Value}{Q:Value->Shared->Prop}(I:Inv X pins σ H s)(e:H a=some (.dK kvs))(ry:RelV (kV k) u)(l:cW kvs k=some v)(hm:more=[]\/∃x,more=[x])
  (h:∀w' s',Inv X pins σ (upd H a (.dK (eY kvs k))) s'->RelV v w'->Q w' s'):wpAny (model X.prog X.w) A (call (.builtin "dict.pop") (.ref a::u::more)) Q E s:=by
 obtain⟨z,hd,vs,rel,dd⟩:=DW I.hok e
 obtain⟨w',hw,rw'⟩:=gW.some_of (v:=v) (o:=valueAt vs k) (by rw[<-l];exact rel.val k)
 have hp:(keyPart u).isSome=true:=by
  cases k with
  | inl i=>obtain⟨t,q⟩:=(show ∃t,u=Value.int i t from ry);subst q;rfl
  | inr x=>obtain⟨t,q⟩:=(show ∃t,u=Value.str x t from ry);subst q;rfl
 have ha:argsOk "dict.pop" ⟨.ref a::u::more,[]⟩:=by
  rcases hm with q |⟨x,q⟩
  ·subst q;exact PySem.F.args_dict_pop_2 _ _
  ·subst q;exact PySem.F.args_dict_pop_3 _ _ _
 refine call_meetsIn PySem.F.slot_dict_pop dd.typeIs PySem.F.entry_dict_pop ha (meets_dict_pop_there (cA X.prog X.w) a (qR ry) more hm hp)
  ⟨vs,w',dd,by rw[<-rel.length];exact z,hw,fun h' dd' hs=>h w' _ ?_ rw'⟩
 have he:∃q,h'.get? a=some q:=let⟨q,_,_,hq,_⟩:=dd';⟨q,hq⟩
 exact nG I (by rw[e];exact True.intro) hs he (Gg (Nat.le_trans (uJ kvs k) z) hd (rel.drop k) dd')
theorem Ud{Q:Value->Shared->Prop}(I:Inv X pins σ H s)(e:Rd H a (.dK kvs))(h:∀t s',Inv X pins σ H s'->Q (.int kvs.length t) s'):wpAny (model X.prog X.w) A (call (.builtin "len") [.ref a]) Q E s:=by
 obtain⟨z,hd,vs,rel,dd⟩:=pA I.hok e
 refine call_len_dict hd dd (by rw[<-rel.length];rw[sizeLine_eq] at z;omega) ?_
 rw[<-rel.length]
 exact h _ _ (I.tok _)
end
noncomputable def Js(i:Expr):Prop:=∀ov iv,subscripted i false ov iv=operate [ov,iv] (getItem ov iv)
theorem NK{prog:Program}{w:World}{A:Around}{E:Value->Shared->Prop}{s:Shared}{env:Env}{value slice:Expr}{pos:Pos}{T id:String}{Q:Value->Shared->Prop}
  (hl:typeLookup (.type T) "__getitem__" = pure (some (.builtin id))) (hs:Js slice)
  (h:wpAny (model prog w) A (eval value env) (fun o s₁=>wpAny (model prog w) A (eval slice env) (fun i s₂=>s₂.TypeIs o T/\wpAny (model prog w) A (getItem o i) Q E s₂) E s₁) E s) :
  wpAny (model prog w) A (eval (.Subscript value slice pos) env) Q E s:=by
 refine Subscript_ (wpAny_mono h (fun o s₁ h₁=>wpAny_mono h₁ (fun i s₂ h₂=>?_) fun _ _ x=>x) fun _ _ x=>x)
 obtain⟨hT,h₂⟩:=h₂
 unfold subscriptTail
 refine wpAny_bind ?_
 rw[getitemInPython_of_ne hT.not_modules]
 refine wpAny_bind (wpAny_specialOf hT hl ?_)
 have fin:wpAny (model prog w) A (subscripted slice false o i) (fun r s₃=>wpAny (model prog w) A (letTemporaryGo value o r>>=fun _=>pure r) Q E s₃) E s₂:=by
  rw[hs o i]
  exact wpAny_operating (wpAny_mono h₂ (fun r s₃ h₃=>wpAny_bind (wpAny_letTemporaryGo (wpAny_pure h₃))) fun _ _ x=>x)
 first
  | exact wpAny_pure (wpAny_bind fin)
  | exact wpAny_bind (wpAny_pure (wpAny_bind fin))
  | exact wpAny_bind fin
theorem BW{X:Cx}{pins:List (Addr×Obj)}{σ:St}{H:Hp}{s:Shared}{a:Addr}{y:V}{o:Option V}(I:Inv X pins σ H s)(g:iV H a y o):s.TypeIs (.ref a) "dict":=by
 rcases g with⟨kvs,k,e,_,_⟩ |⟨kvs,k,b,e,_,_,_⟩
 ·obtain⟨_,_,vs,_,dd⟩:=pA I.hok e
  exact dd.typeIs
 ·obtain⟨_,_,xs,_,dd⟩:=qT I.hok e
  exact dd.typeIs
noncomputable def Ue(td ty:TE):TE:=fun σ H Q=>td σ H fun x H1=>ty σ H1 fun y H2=>∃a v,x=.ref a/\iV H2 a y (some v)/\Q v H2
noncomputable def Vu(ty td:TE):TE:=fun σ H Q=>ty σ H fun y H1=>td σ H1 fun x H2=>∃a o,x=.ref a/\iV H2 a y o/\Q (.bl o.isSome) H2
noncomputable def NP(ty td:TE):TE:=fun σ H Q=>ty σ H fun y H1=>td σ H1 fun x H2=>∃a o,x=.ref a/\iV H2 a y o/\Q (.bl (!o.isSome)) H2
noncomputable def jE(td ty tv:TE):TS:=fun D σ H=>tv σ H fun v H1=>td σ H1 fun x H2=>ty σ H2 fun y H3=>∃a H4,x=.ref a/\qU H3 a y v H4/\D.nx σ H4
section
variable {X:Cx} {o i e value:Expr} {pos pos' tpos:Pos} {td ty tv:TE}
theorem NQ(hu:X.A.units+1<cLine)(ho:PE X o td)(hi:PE X i ty)(hs:Js i):PE X (.Subscript o i pos) (Ue td ty):=by
 intro pins s σ H Q I h
 refine NK PySem.F.slot_dict_getitem.lookup hs (thn (ho pins s σ H _ I h) fun u s1 ⟨x,H1,I1,rx,q1⟩=>thn (hi pins s1 σ H1 _ I1 q1) fun iv s2 hw'=>?_)
 obtain⟨y,H2,I2,ry,a,v,ex,g,q2⟩:=hw'
 subst ex
 obtain rfl:u=Value.ref a:=rx
 exact⟨BW I2 g,Gf hu I2 g ry fun w' s3 I3 rw'=>⟨v,H2,I3,rw',q2⟩⟩
theorem RC(hu:X.A.units+1<cLine)(hi:PE X i ty)(ho:PE X o td):PC X .In i o (Vu ty td):=by
 intro pins s σ H Q I h
 refine thn (hi pins s σ H _ I h) fun iv s1 ⟨y,H1,I1,ry,q1⟩=>thn (ho pins s1 σ H1 _ I1 q1) fun u s2 hw'=>?_
 obtain⟨x,H2,I2,rx,a,ov,ex,g,q2⟩:=hw'
 subst ex
 obtain rfl:u=Value.ref a:=rx
 exact Vt hu I2 g ry fun s3 I3=>⟨.bl ov.isSome,H2,I3,rfl,q2⟩
theorem Gi(hu:X.A.units+1<cLine)(hi:PE X i ty)(ho:PE X o td):PC X .NotIn i o (NP ty td):=by
 intro pins s σ H Q I h
 refine thn (hi pins s σ H _ I h) fun iv s1 ⟨y,H1,I1,ry,q1⟩=>thn (ho pins s1 σ H1 _ I1 q1) fun u s2 hw'=>?_
 obtain⟨x,H2,I2,rx,a,ov,ex,g,q2⟩:=hw'
 subst ex
 obtain rfl:u=Value.ref a:=rx
 exact NB hu I2 g ry fun s3 I3=>⟨.bl (!ov.isSome),H2,I3,rfl,q2⟩
theorem NT(hu:X.A.units+1<cLine)(ho:PE X o td)(hi:PE X i ty)(hv:PE X value tv)(hs:swapsWith value (some (.Subscript o i pos')) pos.line X.env=pure false) :
  PS X (.Assign [.Subscript o i pos'] value pos) (jE td ty tv):=by
 intro pins s σ H D I h
 refine wpAny_Assign_Subscript (thn (hv pins s σ H _ I h) fun r s1 ⟨v,H1,I1,rv,q1⟩=>thn (ho pins s1 σ H1 _ I1 q1) fun u s2 ⟨x,H2,I2,rx,q2⟩=>thn (hi pins s2 σ H2 _ I2 q2) fun iv s3 hw'=>?_) hs
 obtain⟨y,H3,I3,ry,a,H4,ex,g,q3⟩:=hw'
 subst ex
 obtain rfl:u=Value.ref a:=rx
 exact Gh hu I3 g ry rv fun s4 I4=>⟨σ,H4,I4,q3⟩
end
theorem Jt{P:Program}{w:World}{H:Hp}(h:Heap)(hb:sysModules<h.objs.size):bI P w H (h.push { cls:=.type "dict",data:=.dict #[] }) h.objs.size (.dT []) :=
 ⟨Nat.zero_le _,beq_eq_false_iff_ne.mpr (Ne.symm (Nat.ne_of_lt hb)),[],.nil,_,#[],0,Heap.get?_push_size _ rfl,⟨rfl,rfl,rfl⟩,rfl,rfl,List.nodup_nil⟩
noncomputable def RG:TE:=fun _ H Q=>∀p,H p=none->Q (.ref p) (upd H p (.dT []))
section
variable {X:Cx} {pos:Pos}
theorem Ju:PE X (.Dict [] [] pos) RG:=fun pins s σ H Q I h =>
 wpAny_Dict_empty ⟨.ref s.heap.objs.size,_,I.laid (a:=s.heap.objs.size) (o:=.dT []) (t':=s.toks) (fun _ _ q=>Heap.get?_push_of_some _ q) (Nat.le_refl _) (Jt s.heap I.big),rfl,h _ (I.hok.fresh (Nat.le_refl _))⟩
end
structure M1(X:Cx)(o:Expr)(m:Str)(apos:Pos)(e:Expr)(cpos:Pos):Prop where
 base:attributeBase o m X.env (eval o X.env)=eval o X.env
 few:((backTo cpos (starEach [e] X.env)).all (fun x=>!x.1) && (backToKw cpos (keywordEach [] X.env)).all (fun x=>x.1.isSome)
  && decide (([e]:List Expr).length+([]:List Keyword).length+(if([]:List Keyword).isEmpty then 0 else 1)<30))=true
 line:(apos.endLine==cpos.line)=true
 trees:backTo cpos (starEach [e] X.env)=[(false,eval e X.env)]
structure M2(X:Cx)(o:Expr)(m:Str)(apos:Pos)(e f:Expr)(cpos:Pos):Prop where
 base:attributeBase o m X.env (eval o X.env)=eval o X.env
 few:((backTo cpos (starEach [e,f] X.env)).all (fun x=>!x.1) && (backToKw cpos (keywordEach [] X.env)).all (fun x=>x.1.isSome)
  && decide (([e,f]:List Expr).length+([]:List Keyword).length+(if([]:List Keyword).isEmpty then 0 else 1)<30))=true
 line:(apos.endLine==cpos.line)=true
 trees:backTo cpos (starEach [e,f] X.env)=[(false,eval e X.env),(false,eval f X.env)]
noncomputable def IsD(H:Hp)(a:Addr):Prop:=(∃kvs,Rd H a (.dK kvs))\/∃kvs,Rd H a (.dT kvs)
theorem vz{X:Cx}{pins:List (Addr×Obj)}{σ:St}{H:Hp}{s:Shared}{a:Addr}(I:Inv X pins σ H s)(d:IsD H a) :
  s.TypeIs (.ref a) "dict" /\ (∀b,Value.ref a=.ref b->∃ob,s.heap.get? b=some ob/\ob.dict=none)/\(a==sysModules)=false:=by
 rcases d with⟨kvs,e⟩ |⟨kvs,e⟩
 ·obtain⟨_,hd,vs,_,dd⟩:=pA I.hok e
  refine⟨dd.typeIs,fun b q=>?_,hd⟩
  cases q
  obtain⟨ob,_,_,h1,h2,_⟩:=dd
  exact⟨ob,h1,h2.2.1⟩
 ·obtain⟨_,hd,xs,_,dd⟩:=qT I.hok e
  refine⟨dd.typeIs,fun b q=>?_,hd⟩
  cases q
  obtain⟨ob,_,_,h1,h2,_⟩:=dd
  exact⟨ob,h1,h2.2.1⟩
section
variable {X:Cx} {pins:List (Addr×Obj)} {σ:St} {H:Hp} {s:Shared} {a:Addr} {y d:V} {u r:Value} {o:Option V} {A:Around} {E:Value->Shared->Prop}
theorem RJ{Q:Value->Shared->Prop}(hu:A.units+1<cLine)(I:Inv X pins σ H s)(g:iV H a y o)(ry:RelV y u)(rd:RelV d r)(h:∀w' s',Inv X pins σ H s'->RelV (o.getD d) w'->Q w' s') :
  wpAny (model X.prog X.w) A (call (.builtin "dict.get") [.ref a,u,r]) Q E s:=by
 rcases g with⟨kvs,k,e,ey,l⟩ |⟨kvs,k,b,e,ey,eb,l⟩
 ·subst ey
  obtain⟨z,hd,vs,rel,dd⟩:=pA I.hok e
  refine call_meetsIn PySem.F.slot_dict_get dd.typeIs PySem.F.entry_dict_get (PySem.F.args_dict_get_3 _ _ _) (meets_dict_get_default (cA X.prog X.w) a (qR ry) hd r) ⟨_,dd.mapOf,h _ _ (I.tok _) ?_⟩
  rw[l]
  exact(rel.val k).getD rd
 ·subst ey
  cases (show u=Value.ref b from ry)
  obtain⟨z,hd,xs,rel,dd⟩:=qT I.hok e
  refine call_meetsIn PySem.F.slot_dict_get dd.typeIs PySem.F.entry_dict_get (PySem.F.args_dict_get_3 _ _ _) (meetsH_dict_get_default (tupleKind (cA X.prog X.w)) a b hd r) ⟨tupleKind_room_in1 hu,k,xs,j_ I.hok eb,dd,h _ _ (I.tok _) ?_⟩
  rw[l]
  exact(rel.val k).getD rd
end
noncomputable def RL(td ty tx:TE):TE:=fun σ H Q=>td σ H fun x H1=>∃a,x=.ref a/\IsD H1 a/\ty σ H1 fun y H2=>tx σ H2 fun z H3=>∃o,iV H3 a y o/\Q (o.getD z) H3
section
variable {X:Cx} {o e f:Expr} {apos cpos:Pos} {td ty tx:TE}
theorem Jv(hu:X.A.units+1<cLine)(ho:PE X o td)(he:PE X e ty)(hf:PE X f tx)(m:M2 X o "get" apos e f cpos):PE X (.Call (.Attribute o "get" apos) [e,f] [] cpos) (RL td ty tx):=by
 intro pins s σ H Q I h
 refine wpAny_Call_method m.base m.few m.line PySem.F.plainAttrs_dict PySem.F.slot_dict_get PySem.F.type_dict_get (thn (ho pins s σ H _ I h) fun u s1 hw'=>?_)
 obtain⟨x,H1,I1,rx,a,ex,d,q1⟩:=hw'
 subst ex
 obtain rfl:u=Value.ref a:=rx
 obtain⟨t1,t2,_⟩:=vz I1 d
 refine⟨t1,t2,?_⟩
 rw[m.trees]
 refine Calls.callWith_builtin rfl (Calls.evalArgs_plain (Calls.spliced_cons (thn (he pins s1 σ H1 _ I1 q1) fun iv s2 ⟨y,H2,I2,ry,q2⟩ =>
  Calls.spliced_cons (thn (hf pins s2 σ H2 _ I2 q2) fun fv s3 ⟨z,H3,I3,rz,ov,g,q3⟩=>Calls.spliced_nil ?_))))
 exact RJ hu I3 g ry rz fun w' s4 I4 rw'=>⟨_,H3,I4,rw',q3⟩
end
end L2
namespace Att
open PySem PySem.W PySem.Calls PyProof.Rows
theorem vA{P:Params}{h:Heap}:∀(ns:List Int) (vs:List Value),WellAll P h vs (ns.map WData.int)->IntsAre vs ns:=by
 intro ns
 induction ns with
 | nil =>
  intro vs w
  rw[List.map_nil] at w
  cases w
  exact .nil
 | cons n ns ih =>
  intro vs w
  rw[List.map_cons] at w
  cases w with
  | cons a b =>
   cases a
   exact .cons _ _ (ih _ b)
theorem Gj{l:OpenLaw}{n:Nat}(hn:l.most=some n){P:Params}{h:Heap}{args:List WData}{vals:List Value}
  (hpre:l.row.toRowW.claim.pre args=true) (hwl:WellAll P h vals args) :
  ∃a vs ns,vals=[Value.ref a]/\args=[WData.list (ns.map WData.int)]/\h.get? a=some { cls:=.type "list",data:=.seq vs.toArray }/\IntsAre vs ns/\ns.length<=n:=by
 have hsh:WShape.hasAll [] args [.list .int]=true:=(pre_splitW hpre).1
 have hc:l.pre.holds [] { args:=args }=true:=(pre_splitW hpre).2
 obtain⟨d,r,rfl,h1,h2⟩:=hasAllW_cons hsh
 obtain rfl:=hasAllW_nil h2
 obtain⟨xs,rfl,h3⟩:=hasW_list h1
 obtain⟨ns,rfl⟩:=items_int h3
 have hlen:ns.length<=n:=by
  unfold OpenLaw.pre at hc
  have h4:(WTm.not (.lt (.lit (.int (n:Int))) (.len (.arg 0)))).holds [] { args:=[.list (ns.map .int)] }=true:=by
   have h4:=(holds_andW hc).1
   rw[hn] at h4
   exact h4
  have h5:=condW_of h4 (w_not (w_lt w_lit (w_len_list (w_arg rfl))))
  rw[List.length_map] at h5
  refine Nat.le_of_not_lt fun q=>?_
  have q':(n:Int)<((ns.length:Nat):Int):=by omega
  first
   | (rw[decide_eq_true q'] at h5;exact absurd h5 (by decide))
   | (simp at h5;omega)
 cases hwl with
 | cons w1 w2 =>
  cases w2
  cases w1 with
  | list ho hall=>exact⟨_,_,ns,rfl,rfl,ho,vA ns _ hall,hlen⟩
theorem Gk(l:OpenLaw)(args:List WData):l.row.toRowW.claim.post args (.bool true) args=true :=
 postW_of (r:=l.row.toRowW) (X:=(true==true))
  (show WShape.has [] (.bool true) .bool=true by first |rfl |decide |simp[WShape.has,WShape.arms,WShape.armsAll])
  (show(WTm.eq .res (.lit (.bool true))).value [] { args:=args,res:=some (.bool true),after:=args }=some (.bool (true==true)) from w_eq_bool (w_res rfl) w_lit) rfl
theorem BX{l:OpenLaw}{n:Nat}{q:Program}{loose:List Str}{XP:(Str->Option Value)->Heap->Prop}{YP:World->Heap->Prop}{d:DefRec}
  (hn:l.most=some n) (hdf:d.params.defaults=[])
  (call:∀(w:World) (s₀ s₁:Shared) (mg mb:Str->Option Value) (fa:Addr) (o:Obj) (pm cd doc:Value) (a:Addr) (vs:List Value) (ns:List Int),
   Ground q loose [] XP w s₀ mg mb s₁.heap->YP w s₁.heap ->
   s₁.heap.get? fa=some o->o.data=.func (docDef d.name d.params d.body d.scope pm cd doc)->s₁.heap.CodeRec cd d.name->mg d.name=some (.ref fa) ->
   s₁.heap.get? a=some { cls:=.type "list",data:=.seq vs.toArray }->IntsAre vs ns->ns.length<=n->s₁.gens = #[] ->
   codeAny (model l.prog w) callerA (.call (.ref fa) ⟨[.ref a],[]⟩) (fun r s'=>r=.ok (.ret (.bool true))/\OldK s₁.heap s'.heap/\s'.os=s₁.os/\AllBare s'.gens) s₁) :
  WalkO q loose XP YP l.row.toRowW d [] (fun f vs=>PySem.call f vs):=by
 intro w s₀ s₁ mg mb G Y fa o pm cd doc dV kV ho hd hcd hD hmg hg args vals as hpre hlay hrd hwl hlo
 obtain rfl:dV=.none:=Dflts.none hD hdf
 obtain rfl:kV=.none:=Dflts.noKw hD
 obtain⟨a,vs,ns,rfl,rfl,hobj,hints,hlen⟩:=Gj hn hpre hwl
 refine enter_call (codeAny_mono (call w s₀ s₁ mg mb fa o pm cd doc a vs ns G Y ho (fd_plain hd) hcd hmg hobj hints hlen hg) fun r s' hq=>?_)
 obtain⟨rfl,h2,h3,h4⟩:=hq
 exact⟨.inl ⟨.bool true,.bool true,[],rfl,fun _=>rfl,.bool true,Gk l _,fun _=>⟨List.Pairwise.nil,fun _ hm=>(nomatch hm)⟩⟩,h2,h3,h4⟩
section
variable {prog:Program} {w:World} {A:Around} {E:Value->Shared->Prop} {s:Shared} {K:Frag}
noncomputable def ledger(h:Heap)(L d:Addr):List (Addr×Obj):=(List.range h.objs.size).filterMap fun a=>if a=L\/a=d then none else(h.get? a).map fun o=>(a,o)
end
end Att
namespace L2
open PySem PySem.Spec PyProof.Rows
theorem yl:∀{vs:List Value} {ns:List Int},IntsAre vs ns->Vals (ns.map V.int) vs
 | _,_,.nil=>.nil
 | _,_,.cons n t h=>.cons ⟨t,rfl⟩ (yl h)
noncomputable def Only(H:Hp):Prop:=∀b,H b=none\/∃o xs,H b=some (.frz o (.lst xs))
theorem Jw{P:Program}{w:World}{K:PySem.W.Frag}{mg mb:Str->Option Value}{CX:CXT}{k:Nat}{fa a:Addr}{fd:FuncData}{x:Str}{sp:Sp}{s₁:Shared}{vs:List Value}{ns:List Int}
  (KX:K.In s₁.heap) (hns:s₁.heap.Ns mainGlobals mg) (hb:s₁.heap.Ns builtinsNs mb) (hbb:∀x:Str,x ≠ "__name__" -> mb x=bootBuiltins x) (hlim:s₁.heap.NoLimit) (hg:s₁.gens = #[])
  (ha:s₁.heap.get? a=some { cls:=.type "list",data:=.seq vs.toArray }) (hi:IntsAre vs ns) (hl:ns.length<=sizeLine) (hr:Room k callerA)
  (F:∀base:Heap,K.In base->base.Ns mainGlobals mg->FnOk P w K mg base CX k fa fd [x] sp) (hbind:∀(s:Shared) (u:Value),BindsTo s fd ⟨[u],[]⟩ [(x,u)])
  (hsp:∀H:Hp,Only H->SqL K H a (ns.map V.int)->sp [.ref a] H (fun v _=>v=.bl true) fun _ _ _=>False)
  (hCX:∀H e s',CX [] H s₁ (fun _ _ _=>False) e s'->False) :
  codeAny (model P w) callerA (.call (.ref fa) ⟨[.ref a],[]⟩) (fun r s'=>r=.ok (.ret (.bool true))/\OldK s₁.heap s'.heap/\s'.os=s₁.os/\AllBare s'.gens) s₁:=by
 have rv:=yl hi
 have lenV:=hi.length
 have core:∀H:Hp,Only H->SqL K H a (ns.map V.int)->HOk P w H s₁.heap->(∀b,H b≠none->b=a)->(H a≠none->K.lookup a=none) ->
   codeAny (model P w) callerA (.call (.ref fa) ⟨[.ref a],[]⟩) (fun r s'=>r=.ok (.ret (.bool true))/\OldK s₁.heap s'.heap/\s'.os=s₁.os/\AllBare s'.gens) s₁:=by
  intro H hO hS hok hA hK
  have base_of:∀{b:Addr} {o:Obj},s₁.heap.get? b=some o->H b=none->(qO s₁.heap H).get? b=some o:=fun e n=>I_ e n
  have noA:∀{b:Addr} {o:Obj} {es:Array DictEntry} {ep:Nat},s₁.heap.get? b=some o->o.data=.dict es ep->H b=none:=fun {b o es ep} e d=>by
   cases q:H b with
   | none=>rfl
   | some u =>
    have e':b=a:=hA b (by rw[q];simp)
    subst e'
    rw[ha] at e;cases e
    have d':Data.seq vs.toArray _=Data.dict es ep:=d
    cases d'
  have nsK:∀{b:Addr} {m:Str->Option Value},s₁.heap.Ns b m->(qO s₁.heap H).Ns b m:=fun {b m} ⟨o,es,ep,e,d,r⟩=>⟨o,es,ep,base_of e (noA e d),d,r⟩
  have hKb:K.In (qO s₁.heap H):=fun b o e=>base_of (KX b o e) (by
   cases q:H b with
   | none=>rfl
   | some u =>
    have e':b=a:=hA b (by rw[q];simp)
    subst e'
    rw[hK (by rw[q];simp)] at e;cases e)
  have hM:Mod K mg (qO s₁.heap H):=⟨hKb,nsK hns,⟨mb,nsK hb,hbb⟩,let⟨mc,h1,h2⟩:=hlim;⟨mc,nsK h1,h2⟩⟩
  have e0:Env0 P w K mg (qO s₁.heap H) callerA [] s₁ H:=⟨rfl,hM,fun b o e=>MT e,Nat.le_of_eq (Ft _ _),trivial,fun b hb=>absurd (show b∈([]:List Addr) from hb) (by simp),hok,.of_eq hg⟩
  refine codeAny_mono ((F _ hKb (nsK hns)).run callerA [] s₁ H ⟨[.ref a],[]⟩ [.ref a] [.ref a] _ _ hr e0 (hbind s₁ (.ref a)) (.cons rfl .nil) (hsp H hO hS)) fun r s' h=>?_
  cases r with
  | error e=>exact(hCX H e s' h).elim
  | ok fl =>
   cases fl with
   | next=>exact False.elim h
   | brk=>exact False.elim h
   | cont=>exact False.elim h
   | ret u =>
    obtain⟨v,H',os,bare,un,hok',r',q⟩:=h
    have q':v=.bl true:=q
    subst q'
    obtain rfl:u=Value.bool true:=r'
    refine⟨rfl,OldK.of_keep fun b o e=>?_,os,bare⟩
    cases q:H b with
    | none=>exact un.keep b o e q (by intro z;exact absurd (show b∈([]:List Addr) from z) (by simp)) (by simp)
    | some u =>
     rcases hO b with z |⟨ob,xs,z⟩
     ·rw[q] at z;cases z
     ·have z2:=un.frzs b ob _ z
      obtain⟨e1,_⟩:=hok b _ z
      obtain⟨e2,_⟩:=hok' b _ z2
      rw[e] at e1;cases e1
      exact e2
 cases hk:K.lookup a with
 | some o =>
  have e:=KX a o hk
  rw[ha] at e
  cases e
  refine core (fun _=>none) (fun _=>.inl rfl) (.inr ⟨_,vs.toArray,_,hk,rfl,rfl,rfl,by rw[List.size_toArray,lenV];exact hl,by simpa using rv⟩) (fun b u z=>by have z':(none:Option HO)=some u:=z;cases z') (fun b z=>absurd rfl z) fun z=>absurd rfl z
 | none =>
  refine core (fun b=>if b=a then some (.frz { cls:=.type "list",data:=.seq vs.toArray } (.lst (ns.map V.int))) else none) (fun b=>?_) (.inl (.inr ⟨{ cls:=.type "list",data:=.seq vs.toArray },if_pos rfl⟩)) (fun b u z=>?_) (fun b z=>?_) fun _=>hk
  ·by_cases hb:b=a
   ·exact .inr ⟨_,_,if_pos hb⟩
   ·exact .inl (if_neg hb)
  ·by_cases hb:b=a
   ·have z':=(if_pos hb).symm.trans z
    cases z'
    subst hb
    exact⟨ha,by rw[List.length_map];exact hl,vs,_,rv,ha⟩
   ·have z':=(if_neg hb).symm.trans z
    cases z'
  ·by_cases hb:b=a
   ·exact hb
   ·exact absurd (if_neg hb) z
end L2
namespace L2
open PySem PySem.Spec PyProof.Rows
noncomputable abbrev KOf{K:PySem.W.Frag}{h:Heap}(_:K.In h):PySem.W.Frag:=K
theorem Cu{l:PySem.W.OpenLaw}{n k:Nat}{q:Program}{loose:List Str}{XP:(Str->Option Value)->Heap->Prop}{YP:World->Heap->Prop}{d:DefRec}{K:Params->PySem.W.Frag}{CX:World->CXT}{sp:World->Sp}{x:Str}
  (hn:l.most=some n) (hn2:n<=sizeLine) (hdf:d.params.defaults=[]) (hr:Room k callerA)
  (hY:∀(w:World) (h:Heap),YP w h->(K w.params).In h)
  (F:∀(w:World) (mg:Str->Option Value) (fa:Addr) (h:Heap),(K w.params).In h->h.Ns mainGlobals mg->mg d.name=some (.ref fa) ->
   ∃fd:FuncData,(∀(s:Shared) (u:Value),BindsTo s fd ⟨[u],[]⟩ [(x,u)]) /\
    ∀base:Heap,(K w.params).In base->base.Ns mainGlobals mg->FnOk l.prog w (K w.params) mg base (CX w) k fa fd [x] (sp w))
  (hsp:∀(w:World) (H:Hp) (a:Addr) (ns:List Int),ns.length<=n->Only H->SqL (K w.params) H a (ns.map V.int)->sp w [.ref a] H (fun v _=>v=.bl true) fun _ _ _=>False)
  (hCX:∀(w:World) (H:Hp) (s:Shared) (e:Value) (s':Shared),CX w [] H s (fun _ _ _=>False) e s'->False) :
  PySem.W.WalkO q loose XP YP l.row.toRowW d [] (fun f vs=>PySem.call f vs):=by
 refine Att.BX hn hdf fun w s₀ s₁ mg mb fa o pm cd doc a vs ns G Y ho hd hcd hmg hobj hints hlen hg=>?_
 have KX:=hY w _ Y
 obtain⟨fd,hb,hF⟩:=F w mg fa _ KX G.T.g hmg
 exact Jw KX G.T.g G.T.b G.T.builtins G.T.nolimit hg hobj hints (Nat.le_trans hlen hn2) hr hF hb (fun H hO hS=>hsp w H a ns hlen hO hS) fun H e s'=>hCX w H s₁ e s'
end L2
/- THE LAST THEOREM (shape;LID,My.* are yours):
  My.Adr: a structure of the addresses that your layer names (classes,functions);My.Txt K t: a structure (Prop) of the equations over K;
  My.txt_mk:{K} {implicit addresses ..} (e1:nsIn K mainGlobals "law" = some (some (.ref f))) (e2:K.lookup f=some ⟨oc,od,.func (fnOf "law" "law" params body scope dV kV doc pm an cdv ct),sl⟩) (e3:codeIn K cdv "law" = true) ..:∃t,My.Txt K t
set_option maxRecDepth 100000 in
set_option maxHeartbeats 0 in
theorem PySem.Challenge.cw_LID_holds : PySem.Challenge.rw_LID.Holds := by
 w_on;o_law;k_head;(case hw=>w_witness2)
 k_fill
 refine L2.Cu (l:=PySem.Challenge.rw_LID) (n:=63) (k:=40) (x:="script") (CX:=fun w=>..) (sp:=fun _=>My.sp_law) rfl (by decide) rfl ⟨rfl,by decide,by decide⟩ (fun w h Y=>PySem.W.kIn_of Y) ?F ?S ?C
 case F =>
  intro w mg fa h KX G hmg
  have T:∃t,My.Txt (L2.KOf KX) t:=by
   dsimp only[L2.KOf]                          -- K must stand as «<heap const> w.params» for k_is
   refine' My.txt_mk ?e1 ?e2 ?e3 ..
   (case e1=>PySem.W.k_is)                    -- in the order: a name->its address->its object->its parts
   (case e2=>PySem.W.k_is)
   ..
  obtain⟨t,T⟩:=T
  have e0:=hmg.symm.trans (PySem.W.mg_of KX G T.law)
  cases e0                                       -- fa is the law's own address
  exact⟨_,fun s u=>.of_eq rfl,fun base kb nb=>My.BL T kb nb⟩     -- if «.of_eq rfl» comes too early: refine' ⟨_,?b,fun base kb nb=>My.BL T kb nb⟩;exact fun s u=>.of_eq rfl
 case S=>exact fun w H a ns hl hO hS=>..
 case C=>exact ..
(the tactic k_is has no namespace: write k_is) -/
namespace L2
open PySem PySem.Spec PyProof.Rows
noncomputable def inClass(s:Stmt)(j:Nat):Stmt:=match s with
 | .ClassDef _ _ _ body _ _ _ _ _ _ _=>body.getD j (.Pass ⟨0,0,0,0⟩)
 | _=>.Pass ⟨0,0,0,0⟩
noncomputable def bB(s:Stmt):Arguments:=match s with
 | .FunctionDef _ a _ _ _ _ _ _ _ _=>a
 | _=>{ posonlyargs:=[],args:=[],vararg:=none,kwonlyargs:=[],kw_defaults:=[],kwarg:=none,defaults:=[] }
noncomputable def bf(s:Stmt):List Stmt:=match s with
 | .FunctionDef _ _ b _ _ _ _ _ _ _=>b
 | _=>[]
noncomputable def aB(s:Stmt):Scope:=match s with
 | .FunctionDef _ _ _ _ _ _ sc _ _ _=>sc
 | _=>{ kind:=.function,names:=[],isGenerator:=false,isCoroutine:=false }
noncomputable abbrev CX0:CXT:=fun _ _ _ _ _ _=>False
noncomputable abbrev E0:XK:=fun _ _ _=>False
theorem DX{X:Cx}:Passes CX0 X E0:=fun _ _ _ _ _ _ _ h=>h.elim
structure Fun(K:PySem.W.Frag)(x qual:Str)(st:Stmt)(f:Addr)(fd:FuncData):Prop where
 ex:∃(oc:Value) (od:Option Addr) (kV doc pm:Value) (an:Option Addr) (cdv ct:Value) (osl:Array (Option Value)),
  fd=PySem.W.fnOf x qual (bB st) (bf st) (aB st) .none kV doc pm an cdv ct/\K.lookup f=some ⟨oc,od,.func fd,osl⟩/\PySem.W.codeIn K cdv qual=true
 kp:PySem.W.keepIn K (.ref f)=true
section
variable {P:Program} {w:World} {K:PySem.W.Frag} {mg:Str->Option Value} {base:Heap}
theorem Fun.ok{x qual:Str}{st:Stmt}{f:Addr}{fd:FuncData}{N ps:List Str}{k:Nat}{sp:Sp}(F:Fun K x qual st f fd)(S:FnScope N ps (aB st))(len:∀vs H Q E,sp vs H Q E->vs.length=ps.length)
  (hbody:∀(cdv:Value) (A:Around) (outer:List Env) (s:Shared) (H:Hp) (vs:List V) (Q:VK) (E:XK),Room k (A.deeper (envOfC qual (aB st) s.heap.objs.size f cdv))->sp vs H Q E ->
   ∃t,PSs (bQ CX0 P w K mg base N qual (aB st) f cdv A outer s H E).nox (bf st) t/\t { nx:=fun _ H'=>Q .non H',rt:=Q } (start N vs) H):FnOk P w K mg base CX0 (k+1) f fd ps sp:=by
 obtain⟨oc,od,kV,doc,pm,an,cdv,ct,osl,rfl,lk,hcd⟩:=F.ex
 refine DQ lk hcd S len fun A outer s H vs Q E hr hsp=>?_
 obtain⟨t,h,q⟩:=hbody cdv A outer s H vs Q E hr hsp
 exact⟨t,h.nox,q⟩
theorem Fun.binds{x qual:Str}{st:Stmt}{f:Addr}{fd:FuncData}{ps:List Str}(F:Fun K x qual st f fd)
  (h:∀(kV doc pm:Value) (an:Option Addr) (cdv ct:Value) (us:List Value),us.length=ps.length->bindArgs (PySem.W.fnOf x qual (bB st) (bf st) (aB st) .none kV doc pm an cdv ct) ⟨us,[]⟩=pure (ps.zip us)):Binds K fd ps []:=by
 obtain⟨oc,od,kV,doc,pm,an,cdv,ct,osl,rfl,lk,hcd⟩:=F.ex
 exact .all (h kV doc pm an cdv ct)
theorem iz{x qual:Str}{st:Stmt}{f:Addr}{oc:Value}{od an:Option Addr}{osl:Array (Option Value)}{kV doc pm cdv ct:Value}(l:K.lookup f=some ⟨oc,od,.func (PySem.W.fnOf x qual (bB st) (bf st) (aB st) .none kV doc pm an cdv ct),osl⟩)
  (c:PySem.W.codeIn K cdv qual=true) (k:PySem.W.keepIn K (.ref f)=true):Fun K x qual st f (PySem.W.fnOf x qual (bB st) (bf st) (aB st) .none kV doc pm an cdv ct):=⟨⟨oc,od,kV,doc,pm,an,cdv,ct,osl,rfl,l,c⟩,k⟩
end
theorem cg{A:Around}{k:Nat}(hr:Room k A):A.units+1<cLine:=Nat.lt_of_le_of_lt (Nat.add_le_add_left (by decide:1<=64) _) hr.units
section
variable {X:Cx}
theorem pv(i:Nat){x:Str}{pos:Pos}(hN:X.N[i]? = some x:=by rfl)(hv:Vis X.env.scope x:=by first |exact Or.inl rfl |exact Or.inr (Or.inl rfl) |exact Or.inr (Or.inr rfl))(hd:(x==("__debug__":Str))=false:=by decide)
  (hcd:(x==("__classdict__":Str))=false:=by decide):PE X (.Name x pos) (wH i):=QL hN hv hd hcd
end
theorem Jx{A B:Prop}(h:B):if false=true then A else B:=by
 rw[if_neg Bool.false_ne_true]
 exact h
theorem Jy{A B:Prop}(h:A):if true=true then A else B:=by
 rw[if_pos rfl]
 exact h
noncomputable def bC(H H':Hp):Prop:=∀b o,H b=some o->H' b=some o
theorem bC.refl(H:Hp):bC H H:=fun _ _ h=>h
theorem bC.trans{H H1 H2:Hp}(a:bC H H1)(b:bC H1 H2):bC H H2:=fun c o h=>b c o (a c o h)
theorem bC.seq{K:PySem.W.Frag}{H H':Hp}{a:Addr}{xs:List V}(e:bC H H')(h:SqL K H a xs):SqL K H' a xs:=by
 rcases h with (h |⟨o,h⟩) |h
 ·exact .inl (.inl (e _ _ h))
 ·exact .inl (.inr ⟨o,e _ _ h⟩)
 ·exact .inr h
end L2
namespace L2
open PySem PySem.Spec PyProof.Rows
noncomputable def clos(cells:List (Str×Addr)):List (Str×NameKind)->List (Str×Addr)->List (Str×Addr)
 | [],acc=>acc
 | (n,k)::r,acc=>clos cells r (if k == .free then(n,(cells.lookup n).getD 0)::acc else acc)
theorem zF{env:Env}:∀(names:List (Str×NameKind)) (acc:List (Str×Addr)),(∀y∈names,y.2=.free->∃c,env.cells.lookup y.1=some c) ->
  (forIn names acc (fun(x:Str×NameKind) (r:List (Str×Addr))=>if(x.2==NameKind.free)=true then(do let a <-cellOf env x.1;pure (ForInStep.yield ((x.1,a)::r))) else pure (ForInStep.yield r)):Sem (List (Str×Addr)))=pure (clos env.cells names acc)
 | [],acc,_=>rfl
 | (n,k)::r,acc,h=>by
  rw[List.forIn_cons]
  have ih:=fun a=>zF r a fun y hy=>h y (List.mem_cons_of_mem _ hy)
  cases hk:(k==NameKind.free) with
  | true =>
   have hk':k=.free:=by cases k<;>first |rfl |exact absurd hk (by decide)
   obtain⟨c,hc⟩:=h (n,k) List.mem_cons_self hk'
   have hc':env.cells.lookup n=some c:=hc
   have e:cellOf env n=pure c:=by unfold cellOf;rw[hc']
   dsimp only
   rw[if_pos rfl,e]
   show(forIn r ((n,c)::acc) _:Sem _)=_
   rw[ih]
   conv=>rhs;unfold clos
   rw[if_pos hk,hc']
   rfl
  | false =>
   dsimp only
   rw[if_neg (by decide)]
   show(forIn r acc _:Sem _)=_
   rw[ih]
   conv=>rhs;unfold clos
   rw[if_neg (by rw[hk];decide)]
theorem DY{scope:Scope}{env:Env}(h:∀y∈scope.names,y.2=.free->∃c,env.cells.lookup y.1=some c):closureFor scope env=pure (clos env.cells scope.names []):=by
 have e:=zF scope.names [] h
 simp only[closureFor]
 rw[e]
 rfl
theorem Cw{cells:List (Str×Addr)}:∀{names:List (Str×NameKind)} {acc:List (Str×Addr)} {x:Str} {c:Addr},(∀y∈names,y.2=.free->∃c,cells.lookup y.1=some c)->(∀x c,acc.lookup x=some c->cells.lookup x=some c) ->
  (clos cells names acc).lookup x=some c->cells.lookup x=some c
 | [],acc,x,c,_,ha,h=>ha x c h
 | (n,k)::r,acc,x,c,hn,ha,h=>by
  unfold clos at h
  refine Cw (fun y hy=>hn y (List.mem_cons_of_mem _ hy)) (fun y d hy=>?_) h
  split at hy
  ·rename_i hk
   have hk':k=.free:=by cases k<;>first |rfl |exact absurd hk (by decide)
   obtain⟨c',hc⟩:=hn (n,k) List.mem_cons_self hk'
   have hc':cells.lookup n=some c':=hc
   rw[List.lookup_cons] at hy
   cases e:(y==n) with
   | true =>
    rw[e] at hy
    have ey:y=n:=by simpa using e
    subst ey
    rw[hc'] at hy ⊢
    exact hy
   | false =>
    rw[e] at hy
    exact ha y d hy
  ·exact ha y d hy
theorem zG{cells:List (Str×Addr)}:∀{names:List (Str×NameKind)} {acc:List (Str×Addr)} {x:Str},(∃c,acc.lookup x=some c)->∃c,(clos cells names acc).lookup x=some c
 | [],_,_,h=>h
 | (n,k)::r,acc,x,h=>by
  unfold clos
  refine zG ?_
  split
  ·rw[List.lookup_cons]
   cases (x==n) with
   | true=>exact⟨_,rfl⟩
   | false=>exact h
  ·exact h
theorem uK{cells:List (Str×Addr)}:∀{names:List (Str×NameKind)} {acc:List (Str×Addr)} {x:Str},(x,NameKind.free)∈names->∃c,(clos cells names acc).lookup x=some c
 | [],_,_,h=>by cases h
 | (n,k)::r,acc,x,h=>by
  unfold clos
  rcases List.mem_cons.mp h with e |e
  ·cases e
   refine zG ?_
   rw[if_pos (by decide),List.lookup_cons]
   simp
  ·exact uK e
noncomputable def cj(X:Cx)(N:List Str)(scope:Scope)(cl:List (Str×Addr))(C:Addr)(fp:List Addr)(s:Shared)(H:Hp):Cx :=
 { X with N:=N,s₀:=s,H₀:=H,env:=compEnvC scope cl C X.env,outer:=X.stack,stack:=X.stack,ex:=fp,fn:=fun _=>false,pn:=[],xe:=fun _ _=>False }
noncomputable def inner(μ:List (Option Nat))(σ:St):St:=μ.map fun o=>o.bind fun j=>(σ[j]?).join
noncomputable def pR(oN:List Str)(osc:Scope)(N:List Str)(isc:Scope)(μ:List (Option Nat)):Bool :=
 decide (μ.length=N.length) && (μ.zip N).all fun(o,x)=>match o with
  | none=>true
  | some j=>decide (oN[j]? = some x) && decide (osc.names.lookup x=some .cell) && (decide (isc.names.lookup x=some .cell) || decide (isc.names.lookup x=some .free))
theorem pR.get{oN N:List Str}{osc isc:Scope}{μ:List (Option Nat)}(h:pR oN osc N isc μ=true){i j:Nat}{x:Str}(h1:μ[i]? = some (some j))(h2:N[i]? = some x) :
  oN[j]? = some x/\osc.names.lookup x=some .cell/\(isc.names.lookup x=some .cell\/isc.names.lookup x=some .free):=by
 unfold pR at h
 rw[Bool.and_eq_true] at h
 have hz:(μ.zip N)[i]? = some (some j,x):=by rw[List.getElem?_zip_eq_some];exact⟨h1,h2⟩
 have q:=List.all_eq_true.mp h.2 _ (List.mem_of_getElem? hz)
 simp only[Bool.and_eq_true,Bool.or_eq_true,decide_eq_true_eq] at q
 exact⟨q.1.1,q.1.2,q.2⟩
section
variable {prog:Program} {w:World} {A:Around} {R:Result->Shared->Prop} {s:Shared}
theorem BZ{elt target iter:Expr}{ifs:List Expr}{scope:Scope}{pos:Pos}{it acc:Value}{env:Env}(I:Nat->Shared->Prop)
  (turn:∀n s,I n s->wpAny (model prog w) A (pyNext it) (fun r s₁=>match r with
   | none=>R (.ok .next) s₁
   | some v=>wpAny (model prog w) A (letOwnedTupleGo target it v) (fun _ s₂=>wpAny (model prog w) A (assign target env v) (fun _ s₂ =>
     wpAny (model prog w) A (forIn ifs true fun c r=>if r=true then do let ok <-isTrue c env (eval c env);pure (ForInStep.yield ok) else pure (ForInStep.yield r)) (fun ok s₃ =>
      if ok=true then wpAny (model prog w) A (eval elt env) (fun x s₄ =>
       wpAny (model prog w) A (call (.builtin "list.append") [acc,x]) (fun _ s₅=>∃m,m<n/\I m s₅) (fun _ _=>False) s₄) (fun _ _=>False) s₃
      else ∃m,m<n/\I m s₃) (fun _ _=>False) s₂) (fun _ _=>False) s₂) (fun _ _=>False) s₁) (fun _ _=>False) s)
  (n:Nat) (h:I n s) :
  codeAny (model prog w) A (.compLoop (.ListComp elt [⟨target,iter,ifs,0⟩] scope pos) 0 it acc env) R s:=by
 refine codeAny_loop rfl I (fun n s hI=>?_) n h
 show wpAny _ A ((compTurn (.ListComp elt [⟨target,iter,ifs,0⟩] scope pos) 0 it acc env).onRaise (fun x=>do noteFrame x env;theTreesLotGoes x)) _ _ s
 refine wpAny_noted ?_
 rw[compTurn_list]
 refine wpAny_bind (wpAny_standAt (wpAny_bind (wpAny_mono (turn n s hI) (fun r s₁ h₁=>?_) fun _ _ h'=>h'.elim)))
 cases r with
 | none=>exact wpAny_pure h₁
 | some v =>
  refine wpAny_bind (wpAny_mono h₁ (fun _ s₂ h₂=>wpAny_bind (wpAny_mono h₂ (fun _ s₃ h₃=>wpAny_bind (wpAny_mono h₃ (fun ok s₄ h₄=>?_) fun _ _ h'=>h'.elim)) fun _ _ h'=>h'.elim)) fun _ _ h'=>h'.elim)
  cases ok with
  | false=>exact wpAny_pure ⟨rfl,h₄⟩
  | true =>
   exact wpAny_bind (wpAny_bind (wpAny_mono h₄ (fun x s₅ h₅=>wpAny_bind (wpAny_mono h₅ (fun _ s₆ h₆=>wpAny_pure (wpAny_pure ⟨rfl,h₆⟩)) fun _ _ h'=>h'.elim)) fun _ _ h'=>h'.elim))
end
noncomputable def PTs(X:Cx)(ifs:List Expr)(t:TT):Prop :=
 ∀(pins:List (Addr×Obj)) (s:Shared) (σ:St) (H:Hp) (Q:Bool->Hp->Prop),Inv X pins σ H s->t σ H Q ->
  wpAny (model X.prog X.w) X.A (forIn ifs true fun c r=>if r=true then do let ok <-isTrue c X.env (eval c X.env);pure (ForInStep.yield ok) else pure (ForInStep.yield r)) (TP X pins σ Q) X.xe s
theorem NZ{X:Cx}:PTs X [] (fun _ H Q=>Q true H):=fun pins s σ H Q I h=>wpAny_tests_nil ⟨H,I,h⟩
theorem N_{X:Cx}{c:Expr}{t:TT}(h:PT X c t):PTs X [c] t:=fun pins s σ H Q I hw=>wpAny_tests_one (h pins s σ H Q I hw)
noncomputable def Mg(μ:List (Option Nat))(g:TG)(tt:TT)(te:TE)(σ:St)(Q:VK)(J:It)(H1:Hp):Prop :=
 ∀p,H1 p=none->∃W:Nat->Nat->St->Hp->Prop,(∃m,W 0 m (inner μ σ) (upd H1 p (.lst [])))/\∀i m σ' H',W i m σ' H' ->
  (J.stop i H'/\Q (.ref p) H')\/(J.go i H'/\∃Nn:St->Hp->Prop,(∀σ2 H2,Nn σ2 H2->∃m',m'<m/\W (i+1) m' σ2 H2) /\
   ∀x H2,J.yld i H' x H2->g x σ' H2 fun σ3 H3=>tt σ3 H3 fun b H4=>if b=true then te σ3 H4 fun y H5=>∃ys,H5 p=some (.lst ys)/\ys.length<sizeLine/\Nn σ3 (upd H5 p (.lst (ys++[y]))) else Nn σ3 H4)
noncomputable def zp(μ:List (Option Nat))(wi:TI)(g:TG)(tt:TT)(te:TE):TE:=fun σ H Q=>wi σ H (Mg μ g tt te σ Q)
section
variable {X:Cx} {pins:List (Addr×Obj)} {σ:St} {H2:Hp} {s2:Shared} {tg iter elt:Expr} {ifs:List Expr} {scope:Scope} {pos:Pos} {it:Addr} {fp:List Addr} {tn:Nat->Heap->Prop} {J:It} {N:List Str} {μ:List (Option Nat)} {g:TG} {tt:TT} {te:TE} {Q:VK}
theorem Gm{RR:Value->Addr->Result->Shared->Prop}(I2:Inv X pins σ H2 s2)(T:Turn X.prog X.w X.K tg J fp it tn)(st2:tn 0 s2.heap)(f2:∀b∈fp,lH X pins H2 b)(hc:X.calm=true)
  (hcell:∀y∈scope.names,y.2 ≠ .cell) (hkind:scope.kind=.function) (hfr:∀y∈scope.names,y.2=.free->∃c,X.env.cells.lookup y.1=some c)
  (hhas:∀x,((relabel scope X.env).names.lookup x=some .cell\/(relabel scope X.env).names.lookup x=some .free)->(x,NameKind.free)∈scope.names)
  (hμ:pR X.N X.env.scope N (relabel scope X.env) μ=true)
  (hg:∀C s H,PG (cj X N scope (clos X.env.cells scope.names []) C fp s H) tg g) (ht:∀C s H,PTs (cj X N scope (clos X.env.cells scope.names []) C fp s H) ifs tt) (he:∀C s H,PE (cj X N scope (clos X.env.cells scope.names []) C fp s H) elt te)
  (hW:Mg μ g tt te σ Q J H2)
  (hRR:∀p C s' H' m,Inv X pins σ H' s'->s'.heap.Ns C m->lH X pins H' C->Q (.ref p) H'->RR (.ref p) C (.ok .next) s') :
  wpAny (model X.prog X.w) X.A (newList []) (fun acc s₃=>wpAny (model X.prog X.w) X.A (newFunctionEnv scope X.env.globals (clos X.env.cells scope.names []) [] X.env.qual none .none (some X.env)) (fun cenv s₄ =>
   codeAny (model X.prog X.w) X.A (.compStart (.ListComp elt [⟨tg,iter,ifs,0⟩] scope pos) 0 (.ref it) acc { cenv with scope:=relabel scope X.env }) (RR acc cenv.locals) s₄) X.xe s₃) X.xe s2:=by
 refine wpAny_newObj_type (wpAny_newFunctionEnv hcell (by intro y hy;simp at hy) (fun h₁ hns₁ hsb₁=>?_) hkind)
 dsimp only at hns₁ hsb₁ ⊢
 generalize hH2:s2.heap.push { cls:=.type "list",dict:=none,data:=.seq ([]:List Value).toArray }=G at hns₁ hsb₁ ⊢
 have hC:G.objs.size=s2.heap.objs.size+1:=by rw[<-hH2,Heap.size_push]
 have hDC:s2.heap.objs.size≠G.objs.size:=by rw[hC];exact Nat.ne_of_lt (Nat.lt_succ_self _)
 have hCle:s2.heap.objs.size<=G.objs.size:=by rw[hC];exact Nat.le_succ _
 have below:∀b,b<s2.heap.objs.size->b≠G.objs.size/\b≠s2.heap.objs.size:=fun b hb=>⟨by rw[hC];exact Nat.ne_of_lt (Nat.lt_succ_of_lt hb),Nat.ne_of_lt hb⟩
 have old:∀b o,s2.heap.get? b=some o->h₁.get? b=some o:=fun b o e=>hsb₁.extBut b o (below b (Heap.lt_size e)).1 (Heap.get?_push_of_some _ (hH2 ▸ Heap.get?_push_of_some _ e))
 have hobj:h₁.get? s2.heap.objs.size=some { cls:=.type "list",dict:=none,data:=.seq ([]:List Value).toArray }:=hsb₁.extBut _ _ hDC (Heap.get?_push_of_some _ (hH2 ▸ Heap.get?_push_size _ rfl))
 have hclin:∀x c,(clos X.env.cells scope.names []).lookup x=some c->X.env.cells.lookup x=some c:=fun x c h=>Cw hfr (fun _ _ z=>by simp at z) h
 have cellt:∀x c,(clos X.env.cells scope.names []).lookup x=some c->c<s2.heap.objs.size:=fun x c h=>by
  obtain⟨v,o,ho,_⟩:=I2.cell x c (hclin x c h)
  exact Heap.lt_size ho
 have fplt:∀b∈fp,b<s2.heap.objs.size:=fun b hb=>by
  obtain⟨o,ho,_⟩:=T.obj 0 _ st2 b hb
  exact Heap.lt_size ho
 have Hn:∀a,s2.heap.objs.size<=a->H2 a=none:=fun a ha=>I2.hok.fresh ha
 obtain⟨W,⟨m0,w0⟩,turn⟩:=hW s2.heap.objs.size (Hn _ (Nat.le_refl _))
 have okc:(cj X N scope (clos X.env.cells scope.names []) G.objs.size fp s2 H2).Ok:=by
  refine⟨I2.ok.mod,by show(relabel scope X.env).kind=_;exact hkind,I2.ok.glob,I2.ok.blt,hCle,fun x y c h1 h2=>?_,fun x hx=>?_,fun _ _ z=>(by cases z),I2.ok.hd,I2.ok.frames,.inl rfl,fun b hb=>⟨?_,fun x c h z=>?_⟩,I2.bs,Nat.le_trans I2.ok.bsz I2.sz,fun b o e hb=>?_,fun b hb z=>?_,I2.stack,I2.stkFree⟩
  ·exact I2.ok.inj x y c (hclin x c h1) (hclin y c h2)
  ·exact uK (hhas x hx)
  ·exact(below b (fplt b hb)).1
  ·exact(f2 b hb).2.2.2.2.1 x c (hclin x c h) z
  ·rcases (f2 b hb).2.2.2.1 with z |z
   ·exact I2.ok.noex b o e z
   ·exact absurd (Nat.lt_of_lt_of_le (Heap.lt_size e) (Nat.le_trans I2.ok.bsz z)) (Nat.lt_irrefl _)
  ·rcases List.mem_cons.mp (I2.stkSub b z) with e |e
   ·exact(f2 b hb).2.1 e
   ·exact(f2 b hb).2.2.1 e
 have Hfree:∀b,b≠s2.heap.objs.size->H2 b=none->(upd H2 s2.heap.objs.size (.lst [])) b=none:=fun b h1 h2=>by rw[aC h1];exact h2
 have I3:Inv (cj X N scope (clos X.env.cells scope.names []) G.objs.size fp s2 H2) [] (inner μ σ) (upd H2 s2.heap.objs.size (.lst [])) { s2 with heap:=h₁,toks:=s2.toks+([]:List (Str×Value)).length }:=by
  refine⟨okc,rfl,I2.bare,Un.laid old (Nat.le_refl _) (Hn _ (Nat.le_refl _)),⟨_,hns₁,fun i x v e1 e2 e3=>?_⟩,fun x c h=>?_,Hfree _ hDC.symm (Hn _ hCle),fun x c h=>(I2.freeC x c (hclin x c h)).elim (fun z=>.inl (Hfree _ (below c (cellt x c h)).2 z)) (fun⟨_,o1,b1,z⟩=>.inr ⟨rfl,o1,b1,by rw[aC (below c (cellt x c h)).2];exact z⟩),fun p hp=>absurd (show p∈([]:List (Addr×Obj)) from hp) (by simp),I2.hok.laid old (Nat.le_refl _) ⟨by decide,[],0,.nil,hobj⟩,?_⟩
  ·have e1':N[i]? = some x:=e1
   have e2':(μ.map fun o=>o.bind fun j=>(σ[j]?).join)[i]? = some (some v):=e2
   rw[List.getElem?_map] at e2'
   cases q:μ[i]? with
   | none=>rw[q] at e2';cases e2'
   | some o =>
    rw[q] at e2'
    cases o with
    | none=>cases e2'
    | some j =>
     have e4:(σ[j]?).join=some v:=Option.some.inj e2'
     have e5:σ[j]? = some (some v):=by
      cases z:σ[j]? with
      | none=>rw[z] at e4;cases e4
      | some y=>rw[z] at e4;cases y with
       | none=>cases e4
       | some y=>rw[show y=v from Option.some.inj e4]
     obtain⟨a1,a2,a3⟩:=pR.get hμ q e1'
     obtain⟨m,hn,hl⟩:=I2.loc
     obtain⟨u,r,l⟩:=hl j x v a1 e5 (.inr (.inl a2))
     refine⟨u,r,?_⟩
     rcases l with⟨k,_⟩ |⟨_,c,hcc,hce⟩
     ·exact absurd ((show X.env.scope.names.lookup x=some .local from k).symm.trans a2) (by intro z;cases z)
     ·obtain⟨c',hc'⟩:∃c,(clos X.env.cells scope.names []).lookup x=some c:=uK (hhas x a3)
      have ec:c'=c:=Option.some.inj ((hclin x c' hc').symm.trans hcc)
      subst ec
      exact .inr ⟨a3,c',hc',hce.keeps old⟩
  ·obtain⟨v,z⟩:=I2.cell x c (hclin x c h)
   exact⟨v,z.keeps old⟩
  ·show(μ.map _).length=N.length
   rw[List.length_map]
   have q:=hμ
   unfold pR at q
   rw[Bool.and_eq_true] at q
   exact of_decide_eq_true q.1
 have fin:∀{σ':St} {H':Hp} {s':Shared},Inv (cj X N scope (clos X.env.cells scope.names []) G.objs.size fp s2 H2) [] σ' H' s'->Q (.ref s2.heap.objs.size) H'->RR (.ref s2.heap.objs.size) G.objs.size (.ok .next) s':=fun {σ' H' s'} I4 q=>by
  have I5:Inv X pins σ H' s':=I2.call' (ch:=fp) I4.os I4.base I4.hok I4.bare fun b hb=>⟨(f2 b hb).2.2.2.1,(f2 b hb).2.1,(f2 b hb).2.2.2.2.1,(f2 b hb).2.2.2.2.2⟩
  obtain⟨m,hn,_⟩:=I4.loc
  have hn':s'.heap.Ns G.objs.size m:=hn
  refine hRR _ _ s' H' m I5 hn' ⟨I4.free,Nat.ne_of_gt (Nat.lt_of_lt_of_le I2.lt hCle),I2.nofs hCle,.inr (Nat.le_trans I2.sz hCle),fun x c h z=>?_,fun p hp z=>?_⟩ q
  ·obtain⟨v,o,ho,_⟩:=I2.cell x c h
   exact(below c (Heap.lt_size ho)).1 z
  ·exact(below p.1 (Heap.lt_size (I2.pin p hp).1)).1 z
 have stat:∀{H':Hp},(∀b∈fp,H' b=none)->∀b∈fp,lH (cj X N scope (clos X.env.cells scope.names []) G.objs.size fp s2 H2) [] H' b:=fun {H'} hn b hb=>by
  refine⟨hn b hb,(below b (fplt b hb)).1,fun z=>?_,.inl hb,fun x c h z=>(f2 b hb).2.2.2.2.1 x c (hclin x c h) z,fun p hp=>absurd (show p∈([]:List (Addr×Obj)) from hp) (by simp)⟩
  exact okc.exfs b hb z
 have loop:codeAny (model X.prog X.w) X.A (.compLoop (.ListComp elt [⟨tg,iter,ifs,0⟩] scope pos) 0 (.ref it) (.ref s2.heap.objs.size) (compEnvC scope (clos X.env.cells scope.names []) G.objs.size X.env))
   (RR (.ref s2.heap.objs.size) G.objs.size) { s2 with heap:=h₁,toks:=s2.toks+([]:List (Str×Value)).length }:=by
  refine BZ (fun n s'=>∃i σ' H',Inv (cj X N scope (clos X.env.cells scope.names []) G.objs.size fp s2 H2) [] σ' H' s'/\tn i s'.heap/\(∀b∈fp,H' b=none)/\W i n σ' H') ?_ m0
   ⟨0,inner μ σ,_,I3,T.keep _ _ _ st2 (fun b hb o e=>old b o e),fun b hb=>Hfree b (below b (fplt b hb)).2 (f2 b hb).1,w0⟩
  rintro n s3 ⟨i,σ3,H3,I3,st3,fr3,w3⟩
  rcases turn i n σ3 H3 w3 with⟨stop,qn⟩ |⟨go,Nn,hN,step⟩
  ·refine thn (T.done (cj X N scope (clos X.env.cells scope.names []) G.objs.size fp s2 H2) rfl rfl rfl hc i [] s3 σ3 H3 _ I3 (stat fr3) st3 stop) fun r s4 ⟨hr,I4⟩=>?_
   subst hr
   exact fin I4 qn
  ·refine thn (T.item (cj X N scope (clos X.env.cells scope.names []) G.objs.size fp s2 H2) rfl rfl rfl hc i [] s3 σ3 H3 _ I3 (stat fr3) st3 go) fun r s4 ⟨u,hr,h4⟩=>?_
   subst hr
   refine thn h4 fun _ s5 hw'=>?_
   obtain⟨x,H5,I5,r5,y5,st5,fr5⟩:=hw'
   have I5':=I5.pinned (stat fr5) (T.obj _ _ st5)
   have again:∀{σ7:St} {H7:Hp} {s7:Shared},Inv (cj X N scope (clos X.env.cells scope.names []) G.objs.size fp s2 H2) ([]++rW fp s5.heap) σ7 H7 s7->Nn σ7 H7 ->
     ∃m,m<n/\∃i σ' H',Inv (cj X N scope (clos X.env.cells scope.names []) G.objs.size fp s2 H2) [] σ' H' s7/\tn i s7.heap/\(∀b∈fp,H' b=none)/\W i m σ' H':=fun {σ7 H7 s7} I7 n7=>by
    obtain⟨m',hm,w7⟩:=hN σ7 H7 n7
    refine⟨m',hm,i+1,σ7,H7,I7.unpinned,T.keep _ _ _ st5 fun b hb o e=>(I7.pin (b,o) (List.mem_append_right _ (List.mem_append_right _ (mY hb e)))).1,fun b hb=>?_,w7⟩
    obtain⟨o,e,d⟩:=T.obj _ _ st5 b hb
    exact(I7.pin (b,o) (List.mem_append_right _ (List.mem_append_right _ (mY hb e)))).2.1
   refine thn (hg G.objs.size s2 H2 _ s5 σ3 H5 x u _ I5' r5 (step x H5 y5)) fun _ s6 hw'=>?_
   obtain⟨σ6,H6,I6,q6⟩:=hw'
   refine thn (ht G.objs.size s2 H2 _ s6 σ6 H6 _ I6 q6) fun ok s7 ⟨H7,I7,q7⟩=>?_
   cases ok with
   | false =>
    rw[if_neg (by decide)] at q7 ⊢
    exact again I7 q7
   | true =>
    rw[if_pos rfl] at q7 ⊢
    refine thn (he G.objs.size s2 H2 _ s7 σ6 H7 _ I7 q7) fun u8 s8 hw'=>?_
    obtain⟨y,H8,I8,r8,ys,e8,l8,q8⟩:=hw'
    have ma:=sr (X:=cj X N scope (clos X.env.cells scope.names []) G.objs.size fp s2 H2) _ s8 σ6 H8 (.ref s2.heap.objs.size) [y] (.ref s2.heap.objs.size) [u8]
     (fun _ H9=>Nn σ6 H9) I8 rfl (.cons r8 .nil) ⟨_,ys,y,rfl,rfl,e8,l8,q8⟩
    exact thn ma fun _ s9 ⟨_,H9,I9,_,q9⟩=>again I9 q9
 exact codeAny_compStart_list loop (T.self _ 0 _ _ _ (T.keep _ _ _ st2 (fun b hb o e=>old b o e)) loop)
theorem Cy{wi:TI}(hc:X.calm=true)(hcell:∀y∈scope.names,y.2 ≠ .cell)(hkind:scope.kind=.function)(hnames:∀y∈scope.names,y.2=.local->scope.names.lookup y.1=some .local)
  (hfree:∀y∈scope.names,y.2=.free->X.env.kindOf y.1=some .cell\/X.env.kindOf y.1=some .free)
  (hhas:∀x,((relabel scope X.env).names.lookup x=some .cell\/(relabel scope X.env).names.lookup x=some .free)->(x,NameKind.free)∈scope.names)
  (hμ:pR X.N X.env.scope N (relabel scope X.env) μ=true) (hi:PI X tg iter wi)
  (hg:∀fp C s H,PG (cj X N scope (clos X.env.cells scope.names []) C fp s H) tg g) (ht:∀fp C s H,PTs (cj X N scope (clos X.env.cells scope.names []) C fp s H) ifs tt) (he:∀fp C s H,PE (cj X N scope (clos X.env.cells scope.names []) C fp s H) elt te)
  (hs:∀x,foldedSetIterable iter X.env x=pure x:=by intro _;rfl):PE X (.ListComp elt [⟨tg,iter,ifs,0⟩] scope pos) (zp μ wi g tt te):=by
 intro pins s σ H Q I h
 have hfr:∀y∈scope.names,y.2=.free->∃c,X.env.cells.lookup y.1=some c:=fun y hy hk=>I.ok.has y.1 (hfree y hy hk)
 rw[eval_ListComp]
 refine wpAny_comprehension_free (use:=none) rfl hs (DY hfr) hkind hnames (thn (hi pins s σ H _ I h) fun v s1 h1=>thn h1 fun itv s2 h2=>?_)
 obtain⟨it,fp,tn,J,H2,rfl,I2,T,st2,f2,W⟩:=h2
 refine Gm (RR:=fun acc C=>compPost (model X.prog X.w) X.A X.xe none (EP X pins σ Q) acc C) I2 T st2 f2 hc hcell hkind hfr hhas hμ (hg fp) (ht fp) (he fp) W ?_
 intro p C s' H' m I' hn fc q
 exact⟨m,hn,fun h' hsb=>⟨.ref p,H',I'.turned (t':=s'.toks) (fun b o ne e=>(hsb.2 b ne).trans e) fc.1 (Ne.symm fc.2.1).symm fc.2.2.2.1 fc.2.2.2.2.1 fc.2.2.2.2.2,rfl,q⟩⟩
end
end L2
namespace DL
open PySem PySem.Spec PyProof.Rows L2
noncomputable abbrev St:=L2.St
inductive D where
 | non |bl (b:Bool) |int (i:Int) |str (x:Str) |tup (xs:List D) |lst (xs:List D) |scr (ns:List Int) |obj (n:Nat)
mutual
noncomputable def Is(K:PySem.W.Frag)(α:List Addr)(F:Hp):D->V->Prop
 | .non,v=>v=.non
 | .bl b,v=>v=.bl b
 | .int i,v=>v=.int i
 | .str x,v=>v=.str x
 | .tup xs,v=>∃a vs,v=.ref a/\F a=some (.tup vs)/\IsL K α F xs vs
 | .lst xs,v=>∃a vs,v=.ref a/\F a=some (.lst vs)/\IsL K α F xs vs
 | .scr ns,v=>∃a,v=.ref a/\SqL K F a (ns.map V.int)
 | .obj n,v=>∃a,α[n]? = some a/\v=.ref a
noncomputable def IsL(K:PySem.W.Frag)(α:List Addr)(F:Hp):List D->List V->Prop
 | [],vs=>vs=[]
 | d::ds,vs=>∃v r,vs=v::r/\Is K α F d v/\IsL K α F ds r
end
section
variable {K:PySem.W.Frag} {α α':List Addr} {F F':Hp}
mutual
theorem Is.mono(ff:bC F F')(al:∃more,α'=α++more):∀(d:D) {v:V},Is K α F d v->Is K α' F' d v
 | .non,_,h=>by rw[Is] at h ⊢;exact h
 | .bl _,_,h=>by rw[Is] at h ⊢;exact h
 | .int _,_,h=>by rw[Is] at h ⊢;exact h
 | .str _,_,h=>by rw[Is] at h ⊢;exact h
 | .tup xs,_,h=>by
  rw[Is] at h ⊢
  obtain⟨a,vs,e,q,r⟩:=h
  exact⟨a,vs,e,ff _ _ q,IsL.mono ff al xs r⟩
 | .lst xs,_,h=>by
  rw[Is] at h ⊢
  obtain⟨a,vs,e,q,r⟩:=h
  exact⟨a,vs,e,ff _ _ q,IsL.mono ff al xs r⟩
 | .scr ns,_,h=>by
  rw[Is] at h ⊢
  obtain⟨a,e,q⟩:=h
  exact⟨a,e,ff.seq q⟩
 | .obj n,_,h=>by
  rw[Is] at h ⊢
  obtain⟨a,e,q⟩:=h
  obtain⟨more,rfl⟩:=al
  refine⟨a,?_,q⟩
  rw[List.getElem?_append_left (List.getElem?_eq_some_iff.mp e).1]
  exact e
theorem IsL.mono(ff:bC F F')(al:∃more,α'=α++more):∀(ds:List D) {vs:List V},IsL K α F ds vs->IsL K α' F' ds vs
 | [],_,h=>by rw[IsL] at h ⊢;exact h
 | d::ds,_,h=>by
  rw[IsL] at h ⊢
  obtain⟨v,r,e,h1,h2⟩:=h
  exact⟨v,r,e,Is.mono ff al d h1,IsL.mono ff al ds h2⟩
end
theorem IsL.nil:IsL K α F [] []:=by rw[IsL]
theorem IsL.cons{d:D}{v:V}{ds:List D}{vs:List V}(h:Is K α F d v)(r:IsL K α F ds vs):IsL K α F (d::ds) (v::vs):=by rw[IsL];exact⟨v,vs,rfl,h,r⟩
theorem IsL.of_nil{vs:List V}(h:IsL K α F [] vs):vs=[]:=by rw[IsL] at h;exact h
theorem IsL.of_cons{d:D}{ds:List D}{vs:List V}(h:IsL K α F (d::ds) vs):∃v r,vs=v::r/\Is K α F d v/\IsL K α F ds r:=by rw[IsL] at h;exact h
theorem IsL.length:∀{ds:List D} {vs:List V},IsL K α F ds vs->ds.length=vs.length
 | [],vs,h=>by rw[h.of_nil];rfl
 | d::ds,vs,h=>by
  obtain⟨v,r,rfl,_,t⟩:=h.of_cons
  rw[List.length_cons,List.length_cons,t.length]
theorem IsL.append:∀{ds es:List D} {vs us:List V},IsL K α F ds vs->IsL K α F es us->IsL K α F (ds++es) (vs++us)
 | [],_,_,_,h,q=>by rw[h.of_nil];exact q
 | d::ds,es,vs,us,h,q=>by
  obtain⟨v,r,rfl,h1,t⟩:=h.of_cons
  exact .cons h1 (t.append q)
theorem IsL.take:∀{ds:List D} {vs:List V} (n:Nat),IsL K α F ds vs->IsL K α F (ds.take n) (vs.take n)
 | [],_,n,h=>by rw[h.of_nil,List.take_nil,List.take_nil];exact .nil
 | d::ds,vs,0,h=>by rw[List.take_zero,List.take_zero];exact .nil
 | d::ds,vs,n+1,h=>by
  obtain⟨v,r,rfl,h1,t⟩:=h.of_cons
  exact .cons h1 (t.take n)
theorem IsL.drop:∀{ds:List D} {vs:List V} (n:Nat),IsL K α F ds vs->IsL K α F (ds.drop n) (vs.drop n)
 | [],_,n,h=>by rw[h.of_nil,List.drop_nil,List.drop_nil];exact .nil
 | d::ds,vs,0,h=>h
 | d::ds,vs,n+1,h=>by
  obtain⟨v,r,rfl,h1,t⟩:=h.of_cons
  exact t.drop n
theorem IsL.get:∀{ds:List D} {vs:List V} {i:Nat} {d:D},IsL K α F ds vs->ds[i]? = some d->∃v,vs[i]? = some v/\Is K α F d v
 | [],_,_,_,_,e=>by simp at e
 | d::ds,vs,0,x,h,e=>by
  obtain⟨v,r,rfl,h1,t⟩:=h.of_cons
  rw[List.getElem?_cons_zero] at e
  cases e
  exact⟨v,rfl,h1⟩
 | d::ds,vs,i+1,x,h,e=>by
  obtain⟨v,r,rfl,h1,t⟩:=h.of_cons
  rw[List.getElem?_cons_succ] at e
  obtain⟨u,e1,q⟩:=t.get e
  exact⟨u,by rw[List.getElem?_cons_succ];exact e1,q⟩
theorem IsL.rep{ds:List D}{vs:List V}(h:IsL K α F ds vs):∀n:Nat,IsL K α F (List.replicate n ds).flatten (List.replicate n vs).flatten
 | 0=>.nil
 | n+1=>by
  rw[List.replicate_succ,List.replicate_succ,List.flatten_cons,List.flatten_cons]
  exact h.append (h.rep n)
theorem IsL.ints:∀(ns:List Int),IsL K α F (ns.map D.int) (ns.map V.int)
 | []=>.nil
 | n::ns=>.cons (by rw[Is]) (IsL.ints ns)
end
structure E4 where
 α:List Addr
 F:Hp
 A:Addr->Prop
 H:Hp
structure Ext(e e':E4):Prop where
 fz:∀b o u,e.H b=some (.frz o u)->e'.H b=some (.frz o u)
 hk:∀b o,e.H b=some o->¬e.A b->e'.H b=some o
 dm:∀b o,e.H b=some o->∃o',e'.H b=some o'
 ff:bC e.F e'.F
 fn:∀b o,e'.F b=some o->e.F b=some o\/e.H b=none\/((∃xs,o=.tup xs)/\e.H b=some o/\¬e.A b)
 an:∀b,e'.A b->e.A b\/e.H b=none
 aa:∀b,e.A b->e'.A b
 al:∃more,e'.α=e.α++more
theorem Ext.refl(e:E4):Ext e e:=⟨fun _ _ _ h=>h,fun _ _ h _=>h,fun _ o h=>⟨o,h⟩,bC.refl _,fun _ _ h=>.inl h,fun _ h=>.inl h,fun _ h=>h,[],by simp⟩
theorem Ext.back{e e':E4}(x:Ext e e'){b:Addr}(h:e'.H b=none):e.H b=none:=by
 cases q:e.H b with
 | none=>rfl
 | some o=>obtain⟨o',z⟩:=x.dm b o q;rw[h] at z;cases z
theorem Ext.trans{a b c:E4}(x:Ext a b)(y:Ext b c):Ext a c:=by
 refine⟨fun p o u h=>y.fz p o u (x.fz p o u h),fun p o h hn=>y.hk p o (x.hk p o h hn) fun z=>?_,fun p o h=>?_,x.ff.trans y.ff,fun p o h=>?_,fun p h=>?_,fun p h=>y.aa p (x.aa p h),?_⟩
 ·rcases x.an p z with q |q
  ·exact hn q
  ·rw[q] at h;cases h
 ·obtain⟨o',h'⟩:=x.dm p o h
  exact y.dm p o' h'
 ·rcases y.fn p o h with q |q |⟨q1,q2,q3⟩
  ·exact x.fn p o q
  ·exact .inr (.inl (x.back q))
  ·have n:¬a.A p:=fun z=>q3 (x.aa p z)
   cases z:a.H p with
   | none=>exact .inr (.inl rfl)
   | some o' =>
    have z':=x.hk p o' z n
    rw[q2] at z'
    cases z'
    exact .inr (.inr ⟨q1,rfl,n⟩)
 ·rcases y.an p h with q |q
  ·exact x.an p q
  ·exact .inr (x.back q)
 ·obtain⟨m,e1⟩:=x.al
  obtain⟨n,e2⟩:=y.al
  exact⟨m++n,by rw[e2,e1,List.append_assoc]⟩
theorem Ext.keepOwn{e e':E4}(x:Ext e e'){a:Addr}{vs:List V}(h:e.H a=some (.lst vs))(hF:e.F a=none)(hA:¬e.A a):e'.H a=some (.lst vs)/\e'.F a=none/\¬e'.A a:=by
 refine⟨x.hk a _ h hA,?_,fun z=>?_⟩
 ·cases z:e'.F a with
  | none=>rfl
  | some o =>
   rcases x.fn a o z with y |y |⟨⟨xs,rfl⟩,y,_⟩
   ·rw[hF] at y;cases y
   ·rw[h] at y;cases y
   ·rw[h] at y;cases y
 ·rcases x.an a z with y |y
  ·exact hA y
  ·rw[h] at y;cases y
inductive OS where
 | mls (xs:List D) |dead |exc (c:Str) |ins (c:Str) (fs:List (Str×D)) |fzK (kvs:List (Key×D)) |dK (kvs:List (Key×D)) |dT (kvs:List (List Key×D))
 | tab (l:Str) (pos:Pos) (q:Str) |clo (l q x:Str) (m:Nat)
noncomputable def cF(K:PySem.W.Frag)(α:List Addr)(F:Hp){κ:Type}:List (κ×D)->List (κ×V)->Prop
 | [],vs=>vs=[]
 | p::r,vs=>∃v t,vs=(p.1,v)::t/\Is K α F p.2 v/\cF K α F r t
theorem cF.mono{K:PySem.W.Frag}{α α':List Addr}{F F':Hp}{κ:Type}(ff:bC F F')(al:∃more,α'=α++more):∀{ps:List (κ×D)} {vs:List (κ×V)},cF K α F ps vs->cF K α' F' ps vs
 | [],_,h=>h
 | p::r,_,⟨v,t,e,i,q⟩=>⟨v,t,e,Is.mono ff al _ i,cF.mono ff al q⟩
noncomputable abbrev Cl:=Str->Option Addr
noncomputable def isDef:Stmt->Bool
 | .FunctionDef .. => true
 | _=>false
noncomputable def RM(K:PySem.W.Frag)(x:Str):Option Stmt:=match PySem.W.nsIn K mainGlobals x with
 | some (some (.ref f))=>(match K.lookup f with
  | some ⟨_,_,.func fd,_⟩=>(match fd.body with
   | .stmts b=>b.find? isDef
   | _=>none)
  | _=>none)
 | _=>none
noncomputable def uL(K:PySem.W.Frag)(C:Cl)(e:E4)(a:Addr):OS->Prop
 | .mls xs=>∃vs,e.H a=some (.lst vs)/\IsL K e.α e.F xs vs
 | .dead=>True
 | .exc c=>∃Ca ob u,C c=some Ca/\e.H a=some (.frz ob u)/\ob.cls=.ref Ca
 | .ins c fs=>∃Ca dx fvs,C c=some Ca/\e.H a=some (.ins Ca dx fvs)/\cF K e.α e.F fs fvs
 | .fzK kvs=>∃vs o,e.H a=some (.frz o (.dK vs))/\cF K e.α e.F kvs vs
 | .dK kvs=>∃vs,e.H a=some (.dK vs)/\cF K e.α e.F kvs vs
 | .dT kvs=>∃vs,e.H a=some (.dT vs)/\cF K e.α e.F kvs vs
 | .tab l pos q=>∃cd,PySem.W.tabIn K l=some (cd,a)/\(e.H a=some (.tbl #[])\/∃c' ob,e.H a=some (.tbl #[rawInt pos.line,rawInt pos.col,.ref c'])/\e.F c'=some (.frz ob (.own 0))/\∃vs t,ob.data=.fields vs/\vs[1]? = some (.str q t))
 | .clo l q x m=>∃st c am c' nm doc pm ctv cob ob,RM K l=some st/\e.H a=some (.frz { cls:=.type "function",data:=.func (PySem.W.fnX nm q (bB st) (bf st) (aB st) [(x,c)] .none .none doc pm none (.ref c') ctv) } (.own 0)) /\
   e.F c=some (.frz cob (.own a))/\cob.data=.cell (some (.ref am))/\e.α[m]? = some am/\e.F c'=some (.frz ob (.own 0))/\∃vs t,ob.data=.fields vs/\vs[1]? = some (.str q t)
structure Wf(K:PySem.W.Frag)(C:Cl)(e:E4)(Ω:List OS):Prop where
 fh:bC e.F e.H
 fa:∀b,e.A b->e.F b=none
 ah:∀b,e.A b->e.H b≠none/\∀xs,e.H b≠some (.tup xs)
 ol:e.α.length=Ω.length
 nd:e.α.Nodup
 ob:∀(n:Nat) (a:Addr) (o:OS),e.α[n]? = some a->Ω[n]? = some o->e.A a/\uL K C e a o
section
variable {K:PySem.W.Frag} {C:Cl} {e e':E4} {Ω Ω':List OS}
theorem Is.ext(x:Ext e e'){d:D}{v:V}(h:Is K e.α e.F d v):Is K e'.α e'.F d v:=Is.mono x.ff x.al d h
theorem IsL.ext(x:Ext e e'){d:List D}{v:List V}(h:IsL K e.α e.F d v):IsL K e'.α e'.F d v:=IsL.mono x.ff x.al d h
noncomputable def E4.new(e:E4)(p:Addr)(o:HO):E4:=⟨e.α,upd e.F p o,e.A,upd e.H p o⟩
theorem Wf.nF(w:Wf K C e Ω){p:Addr}(hp:e.H p=none):e.F p=none:=by
 cases q:e.F p with
 | none=>rfl
 | some o=>rw[w.fh p o q] at hp;cases hp
theorem Wf.new_ext(w:Wf K C e Ω){p:Addr}{o:HO}(hp:e.H p=none):Ext e (e.new p o):=by
 refine⟨fun b o' u h=>?_,fun b u h _=>?_,fun b u h=>⟨u,?_⟩,fun b u h=>?_,fun b u h=>?_,fun b h=>.inl h,fun b h=>h,[],by simp[E4.new]⟩
 ·show upd e.H p o b=some (.frz o' u);rw[aC (aM h hp)];exact h
 ·show upd e.H p o b=some u;rw[aC (aM h hp)];exact h
 ·show upd e.H p o b=some u;rw[aC (aM h hp)];exact h
 ·show upd e.F p o b=some u;rw[aC (aM h (w.nF hp))];exact h
 ·have h:upd e.F p o b=some u:=h
  by_cases hb:b=p
  ·subst hb;exact .inr (.inl hp)
  ·rw[aC hb] at h;exact .inl h
theorem uL.keep{a:Addr}{o:OS}(h:uL K C e a o)(hH:∀u,e.H a=some u->e'.H a=some u)(ff:bC e.F e'.F)(al:∃more,e'.α=e.α++more):uL K C e' a o:=by
 cases o with
 | mls xs=>obtain⟨vs,h1,h2⟩:=h;exact⟨vs,hH _ h1,IsL.mono ff al xs h2⟩
 | dead=>trivial
 | exc c=>obtain⟨Ca,ob,u,h1,h2,h3⟩:=h;exact⟨Ca,ob,u,h1,hH _ h2,h3⟩
 | ins c fs=>obtain⟨Ca,dx,fvs,h1,h2,h3⟩:=h;exact⟨Ca,dx,fvs,h1,hH _ h2,h3.mono ff al⟩
 | fzK kvs=>obtain⟨vs,ob,h1,h2⟩:=h;exact⟨vs,ob,hH _ h1,h2.mono ff al⟩
 | dK kvs=>obtain⟨vs,h1,h2⟩:=h;exact⟨vs,hH _ h1,h2.mono ff al⟩
 | dT kvs=>obtain⟨vs,h1,h2⟩:=h;exact⟨vs,hH _ h1,h2.mono ff al⟩
 | tab l pos q =>
  obtain⟨cd,h0,h1 |⟨c',ob,h1,h2,h3⟩⟩:=h
  ·exact⟨cd,h0,.inl (hH _ h1)⟩
  ·exact⟨cd,h0,.inr ⟨c',ob,hH _ h1,ff _ _ h2,h3⟩⟩
 | clo l q x m =>
  obtain⟨st,c,am,c',nm,doc,pm,ctv,cob,ob,h0,h1,h2,h3,h4,h5,h6⟩:=h
  refine⟨st,c,am,c',nm,doc,pm,ctv,cob,ob,h0,hH _ h1,ff _ _ h2,h3,?_,ff _ _ h5,h6⟩
  obtain⟨more,z⟩:=al
  rw[z,List.getElem?_append_left (List.getElem?_eq_some_iff.mp h4).1]
  exact h4
theorem Wf.new(w:Wf K C e Ω){p:Addr}{o:HO}(hp:e.H p=none):Wf K C (e.new p o) Ω:=by
 have x:Ext e (e.new p o):=w.new_ext hp
 have ne:∀b,e.A b->b≠p:=fun b h z=>by subst z;exact(w.ah b h).1 hp
 refine⟨fun b u h=>?_,fun b h=>?_,fun b h=>?_,w.ol,w.nd,fun n a u h1 h2=>⟨(w.ob n a u h1 h2).1,(w.ob n a u h1 h2).2.keep (fun v hv=>?_) x.ff x.al⟩⟩
 ·have h:upd e.F p o b=some u:=h
  show upd e.H p o b=some u
  by_cases hb:b=p
  ·subst hb;rw[aJ] at h ⊢;exact h
  ·rw[aC hb] at h ⊢;exact w.fh b u h
 ·show upd e.F p o b=none
  rw[aC (ne b h)];exact w.fa b h
 ·show upd e.H p o b≠none/\∀xs,upd e.H p o b≠some (.tup xs)
  rw[aC (ne b h)];exact w.ah b h
 ·show upd e.H p o a=some v
  rw[aC (ne a (w.ob n a u h1 h2).1)];exact hv
end
inductive Sl where
 | und |dat (d:D) |own (xs:List D)
structure RelE(K:PySem.W.Frag)(e:E4)(σ:St)(ρ:List Sl):Prop where
 len:σ.length=ρ.length
 dat:∀(i:Nat) (d:D),ρ[i]? = some (.dat d)->∃v,σ[i]? = some (some v)/\Is K e.α e.F d v
 own:∀(i:Nat) (ds:List D),ρ[i]? = some (.own ds)->∃a vs,σ[i]? = some (some (.ref a))/\e.H a=some (.lst vs)/\IsL K e.α e.F ds vs/\e.F a=none/\¬e.A a
 sep:∀(i j:Nat) (ds es:List D) (a:Addr),ρ[i]? = some (.own ds)->ρ[j]? = some (.own es)->σ[i]? = some (some (.ref a))->σ[j]? = some (some (.ref a))->i=j
section
variable {K:PySem.W.Frag} {C:Cl} {e e' e₀:E4} {Ω Ω':List OS} {σ:St} {ρ:List Sl}
theorem RelE.ext(r:RelE K e σ ρ)(x:Ext e e'):RelE K e' σ ρ:=by
 refine⟨r.len,fun i d h=>?_,fun i ds h=>?_,r.sep⟩
 ·obtain⟨v,e1,q⟩:=r.dat i d h
  exact⟨v,e1,q.ext x⟩
 ·obtain⟨a,vs,e1,e2,q,n1,n2⟩:=r.own i ds h
  obtain⟨z1,z2,z3⟩:=x.keepOwn e2 n1 n2
  exact⟨a,vs,e1,z1,q.ext x,z2,z3⟩
theorem RelE.set(r:RelE K e σ ρ)(i:Nat){d:D}{v:V}(h:Is K e.α e.F d v):RelE K e (σ.set i (some v)) (ρ.set i (.dat d)):=by
 refine⟨by simp[r.len],fun j d' hj=>?_,fun j ds hj=>?_,fun j k ds es a hj hk h1 h2=>?_⟩
 ·by_cases e1:i=j
  ·subst e1
   have hl:i<ρ.length:=by
    have:=(List.getElem?_eq_some_iff.mp hj).1
    simpa using this
   rw[List.getElem?_set_self hl] at hj
   cases hj
   exact⟨v,List.getElem?_set_self (by rw[r.len];exact hl),h⟩
  ·rw[List.getElem?_set_ne e1] at hj ⊢
   exact r.dat j d' hj
 ·by_cases e1:i=j
  ·subst e1
   have hl:i<ρ.length:=by
    have:=(List.getElem?_eq_some_iff.mp hj).1
    simpa using this
   rw[List.getElem?_set_self hl] at hj
   cases hj
  ·rw[List.getElem?_set_ne e1] at hj ⊢
   exact r.own j ds hj
 ·have ne:∀(j:Nat) (ds:List D),(ρ.set i (.dat d))[j]? = some (.own ds)->i≠j:=fun j ds hj e1=>by
   subst e1
   have hl:i<ρ.length:=by
    have:=(List.getElem?_eq_some_iff.mp hj).1
    simpa using this
   rw[List.getElem?_set_self hl] at hj
   cases hj
  have n1:=ne j ds hj
  have n2:=ne k es hk
  rw[List.getElem?_set_ne n1] at hj h1
  rw[List.getElem?_set_ne n2] at hk h2
  exact r.sep j k ds es a hj hk h1 h2
end
noncomputable abbrev Den:=List Sl->List OS->Option (D×List OS)
noncomputable abbrev bV:=List Sl->List OS->Option (Bool×List OS)
noncomputable abbrev bA:=List Sl->List OS->Option (List D×List OS)
noncomputable def tD(K:PySem.W.Frag)(C:Cl)(g:Den):TE:=fun σ H Q=>∃e Ω ρ d Ω',e.H=H/\Wf K C e Ω/\RelE K e σ ρ/\g ρ Ω=some (d,Ω')/\∀v e',Ext e e'->Wf K C e' Ω'->Is K e'.α e'.F d v->Q v e'.H
noncomputable def tDT(K:PySem.W.Frag)(C:Cl)(g:bV):TT:=fun σ H Q=>∃e Ω ρ b Ω',e.H=H/\Wf K C e Ω/\RelE K e σ ρ/\g ρ Ω=some (b,Ω')/\∀e',Ext e e'->Wf K C e' Ω'->Q b e'.H
noncomputable def tDA(K:PySem.W.Frag)(C:Cl)(g:bA):TA:=fun σ H Q=>∃e Ω ρ ds Ω',e.H=H/\Wf K C e Ω/\RelE K e σ ρ/\g ρ Ω=some (ds,Ω')/\∀vs e',Ext e e'->Wf K C e' Ω'->IsL K e'.α e'.F ds vs->Q vs e'.H
noncomputable def PD(X:Cx)(C:Cl)(x:Expr)(g:Den):Prop:=PE X x (tD X.K C g)
noncomputable def PDT(X:Cx)(C:Cl)(x:Expr)(g:bV):Prop:=PT X x (tDT X.K C g)
noncomputable def PDW(X:Cx)(C:Cl)(x:Expr)(g:bV):Prop:=PW X x (tDT X.K C g)
noncomputable def PDA(X:Cx)(C:Cl)(xs:List Expr)(g:bA):Prop:=PA X xs (tDA X.K C g)
section
variable {X:Cx} {C:Cl} {x:Expr}
theorem bj{t t':TE}(h:PE X x t)(i:∀σ H Q,t' σ H Q->t σ H Q):PE X x t':=fun pins s σ H Q I hw=>h pins s σ H Q I (i σ H Q hw)
theorem nY{t t':TT}(h:PT X x t)(i:∀σ H Q,t' σ H Q->t σ H Q):PT X x t':=fun pins s σ H Q I hw=>h pins s σ H Q I (i σ H Q hw)
theorem Gn{t t':TT}(h:PW X x t)(i:∀σ H Q,t' σ H Q->t σ H Q):PW X x t':=fun whole pins s σ H Q I hw=>h whole pins s σ H Q I (i σ H Q hw)
theorem Gp{xs:List Expr}{t t':TA}(h:PA X xs t)(i:∀σ H Q,t' σ H Q->t σ H Q):PA X xs t':=fun pos pins s σ H Q I hw=>h pos pins s σ H Q I (i σ H Q hw)
theorem di{st:Stmt}{t t':TS}(h:PS X st t)(i:∀D σ H,t' D σ H->t D σ H):PS X st t':=fun pins s σ H D I hw=>h pins s σ H D I (i D σ H hw)
theorem nH{st:List Stmt}{t t':TS}(h:PSs X st t)(i:∀D σ H,t' D σ H->t D σ H):PSs X st t':=fun pins s σ H D I hw=>h pins s σ H D I (i D σ H hw)
noncomputable def aj(i:Nat):Den:=fun ρ Ω=>match ρ[i]? with |some (.dat d)=>some (d,Ω) |_=>none
theorem ao{i:Nat}(h:PE X x (wH i)):PD X C x (aj i):=bj h fun σ H Q hw'=>by
 obtain⟨e,Ω,ρ,d,Ω',eH,w,r,g,k⟩:=hw'
 subst eH
 unfold aj at g
 cases q:ρ[i]? with
 | none=>rw[q] at g;cases g
 | some s =>
  rw[q] at g
  cases s with
  | dat d' =>
   cases g
   obtain⟨v,e1,i1⟩:=r.dat _ _ q
   exact⟨v,e1,k v e (Ext.refl e) w i1⟩
  | und=>cases g
  | own _=>cases g
noncomputable def gC(d:D):Den:=fun _ Ω=>some (d,Ω)
theorem D_{v:V}{d:D}(h:PE X x (tC v))(hd:∀α F,Is X.K α F d v):PD X C x (gC d):=bj h fun σ H Q hw'=>by
 obtain⟨e,Ω,ρ,d',Ω',eH,w,r,g,k⟩:=hw'
 subst eH
 cases g
 exact k v e (Ext.refl e) w (hd _ _)
theorem aL{i:Int}{j pos}:PD X C (.Constant (.int i) j pos) (gC (.int i)):=D_ QM fun _ _=>by rw[Is]
theorem pB{b:Bool}{j pos}:PD X C (.Constant (.bool b) j pos) (gC (.bl b)):=D_ Tv fun _ _=>by rw[Is]
theorem ql{j pos}:PD X C (.Constant .none j pos) (gC .non):=D_ QQ fun _ _=>by rw[Is]
theorem aQ{z:Str}{j pos}:PD X C (.Constant (.str z) j pos) (gC (.str z)):=D_ pZ fun _ _=>by rw[Is]
end
noncomputable def OpD(X:Cx)(C:Cl)(f:Value->Value->Sem Value)(r:D->D->Option D):Prop :=
 OpR X f fun x y H Q=>∃e Ω d₁ d₂ z,e.H=H/\Wf X.K C e Ω/\Is X.K e.α e.F d₁ x/\Is X.K e.α e.F d₂ y/\r d₁ d₂=some z/\∀v e',Ext e e'->Wf X.K C e' Ω->Is X.K e'.α e'.F z v->Q v e'.H
noncomputable def gOp(r:D->D->Option D)(f g:Den):Den:=fun ρ Ω=>match f ρ Ω with
 | some (x,Ω₁)=>match g ρ Ω₁ with
  | some (y,Ω₂)=>match r x y with
   | some z=>some (z,Ω₂)
   | none=>none
  | none=>none
 | none=>none
section
variable {X:Cx} {C:Cl} {a b:Expr} {f g:Den} {r:D->D->Option D} {pos:Pos}
theorem tY{K:PySem.W.Frag}{r':R2}(hr:∀x y H Q,(∃e Ω d₁ d₂ z,e.H=H/\Wf K C e Ω/\Is K e.α e.F d₁ x/\Is K e.α e.F d₂ y/\r d₁ d₂=some z/\∀v e',Ext e e'->Wf K C e' Ω->Is K e'.α e'.F z v->Q v e'.H)->r' x y H Q)
  {σ:St} {H:Hp} {Q:VK} (h:tD K C (gOp r f g) σ H Q):tOp r' (tD K C f) (tD K C g) σ H Q:=by
 obtain⟨e,Ω,ρ,d,Ω',eH,w,rl,q,k⟩:=h
 unfold gOp at q
 cases q1:f ρ Ω with
 | none=>rw[q1] at q;cases q
 | some p1 =>
  obtain⟨x,Ω₁⟩:=p1
  rw[q1] at q
  dsimp only at q
  cases q2:g ρ Ω₁ with
  | none=>rw[q2] at q;cases q
  | some p2 =>
   obtain⟨y,Ω₂⟩:=p2
   rw[q2] at q
   dsimp only at q
   cases q3:r x y with
   | none=>rw[q3] at q;cases q
   | some z =>
    rw[q3] at q
    cases q
    refine⟨e,Ω,ρ,x,Ω₁,eH,w,rl,q1,fun v e1 x1 w1 i1=>?_⟩
    refine⟨e1,Ω₁,ρ,y,_,rfl,w1,rl.ext x1,q2,fun u e2 x2 w2 i2=>?_⟩
    exact hr v u e2.H Q ⟨e2,_,x,y,d,rfl,w2,i1.ext x2,i2,q3,fun v' e3 x3 w3 i3=>k v' e3 ((x1.trans x2).trans x3) w3 i3⟩
theorem bc{op:Operator}(ho:OpD X C (binaryOp op) r)(ha:PD X C a f)(hb:PD X C b g):PD X C (.BinOp a op b pos) (gOp r f g) :=
 bj (TV ho ha hb) fun σ H Q h=>tY (fun _ _ _ _ h=>h) h
theorem RN{op:CmpOp}(ho:OpD X C (compareOp op) r)(ha:PD X C a f)(hb:PD X C b g)(hm:behindInMarks op b=false):PD X C (.Compare a [op] [b] pos) (gOp r f g) :=
 bj (Ni ho ha hb hm) fun σ H Q h=>tY (fun _ _ _ _ h=>h) h
noncomputable def gT(g:Den):bV:=fun ρ Ω=>match g ρ Ω with
 | some (.bl b,Ω')=>some (b,Ω')
 | _=>none
theorem nJ{K:PySem.W.Frag}{σ:St}{H:Hp}{Q:Bool->Hp->Prop}(h:tDT K C (gT g) σ H Q):tD K C g σ H fun x H'=>∃c,x=V.bl c/\Q c H':=by
 obtain⟨e,Ω,ρ,b,Ω',eH,w,rl,q,k⟩:=h
 unfold gT at q
 cases q1:g ρ Ω with
 | none=>rw[q1] at q;cases q
 | some p1 =>
  obtain⟨x,Ω₁⟩:=p1
  rw[q1] at q
  cases x with
  | bl c =>
   cases q
   refine⟨e,Ω,ρ,_,_,eH,w,rl,q1,fun v e1 x1 w1 i1=>?_⟩
   rw[Is] at i1
   exact⟨b,i1,k e1 x1 w1⟩
  | _=>cases q
theorem aV{op:CmpOp}(ho:OpD X C (compareOp op) r)(ha:PD X C a f)(hb:PD X C b g)(hm:behindInMarks op b=false):PDT X C (.Compare a [op] [b] pos) (gT (gOp r f g)) :=
 nY (wI ho ha hb hm) fun σ H Q h=>tY (fun _ _ _ _ h=>h) (nJ h)
theorem gw{x:Expr}(h:PD X C x g)(he:∀whole,isTrue x X.env whole=(do let v <-whole;standAt x.pos;holding [v] (truthy v)):=by intro _;rfl):PDT X C x (gT g) :=
 nY (QR h he) fun σ H Q h=>nJ h
noncomputable def dI(c:Int->Int->Bool)(f:Int->Int->Int):D->D->Option D
 | .int i,.int j=>if c i j=true then some (.int (f i j)) else none
 | _,_=>none
noncomputable def dB(f:Int->Int->Bool):D->D->Option D
 | .int i,.int j=>some (.bl (f i j))
 | _,_=>none
theorem Gq{c:Int->Int->Bool}{f:Int->Int->Int}{d₁ d₂ z:D}(h:dI c f d₁ d₂=some z):∃i j,d₁=.int i/\d₂=.int j/\c i j=true/\z=.int (f i j):=by
 unfold dI at h
 split at h
 ·split at h
  ·cases h;exact⟨_,_,rfl,rfl,‹_›,rfl⟩
  ·cases h
 ·cases h
theorem RP{f:Int->Int->Bool}{d₁ d₂ z:D}(h:dB f d₁ d₂=some z):∃i j,d₁=.int i/\d₂=.int j/\z=.bl (f i j):=by
 unfold dB at h
 split at h
 ·cases h;exact⟨_,_,rfl,rfl,rfl⟩
 ·cases h
theorem wN{K:PySem.W.Frag}{α:List Addr}{F:Hp}{i:Int}{v:V}(h:Is K α F (.int i) v):v=.int i:=by rw[Is] at h;exact h
theorem Mh{h:Value->Value->Sem Value}{P:Int->Int->Prop}{c:Int->Int->Bool}{k:Int->Int->Int}(ho:OpR X h (rI P fun i j=>.int (k i j)))(hc:∀i j,c i j=true->P i j):OpD X C h (dI c k):=by
 rintro pins s σ H x y v u Q I rx ry ⟨e,Ω,d₁,d₂,z,eH,w,i1,i2,q,kk⟩
 obtain⟨i,j,e1,e2,hcc,e3⟩:=Gq q
 rw[e1] at i1
 rw[e2] at i2
 refine ho pins s σ _ x y v u Q I rx ry ⟨i,j,wN i1,wN i2,hc i j hcc,?_⟩
 rw[<-eH]
 exact kk _ e (Ext.refl e) w (by rw[e3,Is])
theorem RQ{h:Value->Value->Sem Value}{k:Int->Int->Int}(ho:OpR X h (rI0 fun i j=>.int (k i j))):OpD X C h (dI (fun _ _=>true) k):=by
 rintro pins s σ H x y v u Q I rx ry ⟨e,Ω,d₁,d₂,z,eH,w,i1,i2,q,kk⟩
 obtain⟨i,j,e1,e2,hcc,e3⟩:=Gq q
 rw[e1] at i1
 rw[e2] at i2
 refine ho pins s σ _ x y v u Q I rx ry ⟨i,j,wN i1,wN i2,?_⟩
 rw[<-eH]
 exact kk _ e (Ext.refl e) w (by rw[e3,Is])
theorem Mi{h:Value->Value->Sem Value}{k:Int->Int->Bool}(ho:OpR X h (rI0 fun i j=>.bl (k i j))):OpD X C h (dB k):=by
 rintro pins s σ H x y v u Q I rx ry ⟨e,Ω,d₁,d₂,z,eH,w,i1,i2,q,kk⟩
 obtain⟨i,j,e1,e2,e3⟩:=RP q
 rw[e1] at i1
 rw[e2] at i2
 refine ho pins s σ _ x y v u Q I rx ry ⟨i,j,wN i1,wN i2,?_⟩
 rw[<-eH]
 exact kk _ e (Ext.refl e) w (by rw[e3,Is])
end
end DL
namespace DL
open PySem PySem.Spec PyProof.Rows L2
noncomputable abbrev big:Nat:=100000
theorem gM{n:Nat}(h:n<=big):n<=sizeLine:=Nat.le_trans h (by decide)
theorem nZ{n:Nat}(h:n<big):n<sizeLine:=Nat.lt_of_lt_of_le h (by decide)
open Classical in
noncomputable def grd{β:Type}(P:Prop)(x:Option β):Option β:=if P then x else none
theorem gA{β:Type}{P:Prop}{x:Option β}(h:P):grd P x=x:=if_pos h
theorem lJ{β:Type}{P:Prop}{x:Option β}{z:β}(h:grd P x=some z):P/\x=some z:=by
 by_cases q:P
 ·rw[gA q] at h;exact⟨q,h⟩
 ·have e:grd P x=none:=if_neg q
  rw[e] at h;cases h
section
variable {X:Cx} {C:Cl} {a b c x:Expr} {f g h:Den} {r:D->D->Option D} {pos:Pos}
noncomputable def dN:D->D->Option D
 | .int i,.int j=>some (.int (i+j))
 | .lst xs,.lst ys=>if xs.length+ys.length<=big then some (.lst (xs++ys)) else none
 | .str p,.str q=>if p.length+q.length<=big then some (.str (p++q)) else none
 | _,_=>none
theorem Oa{d₁ d₂ z:D}(q:dN d₁ d₂=some z):(∃i j,d₁=.int i/\d₂=.int j/\z=.int (i+j))\/(∃xs ys,d₁=.lst xs/\d₂=.lst ys/\xs.length+ys.length<=big/\z=.lst (xs++ys)) \/
  ∃xs ys,d₁=.str xs/\d₂=.str ys/\xs.length+ys.length<=big/\z=.str (xs++ys):=by
 unfold dN at q
 split at q
 ·cases q;exact .inl ⟨_,_,rfl,rfl,rfl⟩
 ·split at q
  ·cases q;exact .inr (.inl ⟨_,_,rfl,rfl,‹_›,rfl⟩)
  ·cases q
 ·split at q
  ·cases q;exact .inr (.inr ⟨_,_,rfl,rfl,‹_›,rfl⟩)
  ·cases q
 ·cases q
theorem iD:OpD X C (binaryOp .Add) dN:=by
 intro pins s σ H x y v u Q I rx ry hw
 obtain⟨e,Ω,d₁,d₂,z,eH,w,i1,i2,q,kk⟩:=hw
 subst eH
 rcases Oa q with⟨i,j,rfl,rfl,rfl⟩ |⟨xs,ys,rfl,rfl,hl,rfl⟩ |⟨i,j,rfl,rfl,hl,rfl⟩
 ·rw[Is] at i1 i2
  subst i1 i2
  exact Rh pins s σ _ _ _ v u Q I rx ry ⟨i,j,rfl,rfl,kk _ e (Ext.refl e) w (by rw[Is])⟩
 ·rw[Is] at i1 i2
  obtain⟨l,vs,rfl,h1,r1⟩:=i1
  obtain⟨m,us,rfl,h2,r2⟩:=i2
  refine Rz pins s σ _ _ _ v u Q I rx ry ⟨l,m,vs,us,rfl,rfl,w.fh _ _ h1,w.fh _ _ h2,by rw[<-r1.length,<-r2.length];exact gM hl,fun p hp=>?_⟩
  refine kk _ (e.new p _) (w.new_ext hp) (w.new hp) ?_
  rw[Is]
  exact⟨p,_,rfl,aJ,(r1.append r2).ext (w.new_ext hp)⟩
 ·rw[Is] at i1 i2
  subst i1 i2
  exact Dz pins s σ _ _ _ v u Q I rx ry ⟨i,j,rfl,rfl,gM hl,kk _ e (Ext.refl e) w (by rw[Is])⟩
noncomputable def cX:D->D->Option D
 | .int i,.int j=>grd ((-(2 ^ 64)<i/\i<2 ^ 64)\/(-(2 ^ 64)<j/\j<2 ^ 64)) (some (.int (i*j)))
 | .lst xs,.int k=>grd (-(2 ^ 62)<=k/\k<2 ^ 62/\xs.length*k.toNat<=big) (some (.lst (List.replicate k.toNat xs).flatten))
 | _,_=>none
theorem Oc{d₁ d₂ z:D}(q:cX d₁ d₂=some z):(∃i j,d₁=.int i/\d₂=.int j/\((-(2 ^ 64)<i/\i<2 ^ 64)\/(-(2 ^ 64)<j/\j<2 ^ 64))/\z=.int (i*j)) \/
  ∃xs k,d₁=.lst xs/\d₂=.int k/\(-(2 ^ 62)<=k/\k<2 ^ 62/\xs.length*k.toNat<=big)/\z=.lst (List.replicate k.toNat xs).flatten:=by
 unfold cX at q
 split at q
 ·obtain⟨hl,q⟩:=lJ q;cases q;exact .inl ⟨_,_,rfl,rfl,hl,rfl⟩
 ·obtain⟨hl,q⟩:=lJ q;cases q;exact .inr ⟨_,_,rfl,rfl,hl,rfl⟩
 ·cases q
theorem lK:OpD X C (binaryOp .Mult) cX:=by
 intro pins s σ H x y v u Q I rx ry hw
 obtain⟨e,Ω,d₁,d₂,z,eH,w,i1,i2,q,kk⟩:=hw
 subst eH
 rcases Oc q with⟨i,j,rfl,rfl,hl,rfl⟩ |⟨xs,k,rfl,rfl,hl,rfl⟩
 ·rw[Is] at i1 i2
  subst i1 i2
  exact Rj pins s σ _ _ _ v u Q I rx ry ⟨i,j,rfl,rfl,hl,kk _ e (Ext.refl e) w (by rw[Is])⟩
 ·rw[Is] at i1
  rw[Is] at i2
  obtain⟨l,vs,rfl,h1,r1⟩:=i1
  subst i2
  refine RB pins s σ _ _ _ v u Q I rx ry ⟨l,k,vs,rfl,rfl,w.fh _ _ h1,by omega,by omega,by rw[<-r1.length];exact gM hl.2.2,fun p hp=>?_⟩
  refine kk _ (e.new p _) (w.new_ext hp) (w.new hp) ?_
  rw[Is]
  exact⟨p,_,rfl,aJ,(r1.rep _).ext (w.new_ext hp)⟩
noncomputable abbrev Ea:D->D->Option D:=dI (fun _ _=>true) fun i j=>i-j
theorem Od:OpD X C (binaryOp .Sub) Ea:=RQ Ri
noncomputable abbrev bG:D->D->Option D:=dI (fun _ j=>decide (0<j)) fun i j=>i%j
theorem bY:OpD X C (binaryOp .Mod) bG:=Mh Rk fun _ _ h=>of_decide_eq_true h
noncomputable abbrev cQ:D->D->Option D:=dI (fun _ j=>decide (0<j) && decide (j<1073741824)) fun i j=>i / j
theorem fV:OpD X C (binaryOp .FloorDiv) cQ:=Mh Nh fun _ _ h=>by
 rw[Bool.and_eq_true,decide_eq_true_eq,decide_eq_true_eq] at h
 exact h
noncomputable abbrev ltD:D->D->Option D:=dB fun i j=>decide (i<j)
theorem Gr:OpD X C (compareOp .Lt) ltD:=Mi TX
noncomputable abbrev gtD:D->D->Option D:=dB fun i j=>decide (j<i)
theorem RV:OpD X C (compareOp .Gt) gtD:=Mi TY
mutual
noncomputable def toP:D->PyData
 | .non=>.none
 | .bl b=>.bool b
 | .int i=>.int i
 | .str x=>.str x
 | .tup xs=>.tuple (fK xs)
 | .lst xs=>.list (fK xs)
 | .scr ns=>.list (ns.map PyData.int)
 | .obj _=>.dict []
noncomputable def fK:List D->List PyData
 | []=>[]
 | d::ds=>toP d::fK ds
end
end
section
variable {X:Cx} {pins:List (Addr×Obj)} {σ:St} {H:Hp} {s:Shared} {K:PySem.W.Frag} {α:List Addr} {F:Hp}
mutual
theorem fW(I:Inv X pins σ H s)(hK:K=X.K)(ff:bC F H):∀(d:D) {v:V} {u:Value},(toP d).canLay0=true->Is K α F d v->RelV v u->∃as,Reads s.heap u (toP d) as
 | .non,v,u,_,h,r=>by
  rw[Is] at h;subst h;cases (show u=Value.none from r);rw[toP];exact⟨_,.none⟩
 | .bl b,v,u,_,h,r=>by
  rw[Is] at h;subst h;cases (show u=Value.bool b from r);rw[toP];exact⟨_,.bool b⟩
 | .int i,v,u,_,h,r=>by
  rw[Is] at h;subst h;obtain⟨t,q⟩:=(show ∃t,u=Value.int i t from r);subst q;rw[toP];exact⟨_,.int i t⟩
 | .str x,v,u,_,h,r=>by
  rw[Is] at h;subst h;obtain⟨t,q⟩:=(show ∃t,u=Value.str x t from r);subst q;rw[toP];exact⟨_,.str x t⟩
 | .tup xs,v,u,hc,h,r=>by
  rw[Is] at h
  obtain⟨a,vs,rfl,e,q⟩:=h
  cases (show u=Value.ref a from r)
  obtain⟨_,its,rv,o,e1,e2,n,e3⟩:=(show bI X.prog X.w H s.heap a (.tup vs) from I.hok a _ (ff _ _ e))
  rw[toP] at hc ⊢
  obtain⟨as,z⟩:=pC I hK ff xs (by simpa [PyData.canLay0] using hc) q rv
  exact⟨as,.tuple e1 e2 e3 (by simpa using z)⟩
 | .lst xs,v,u,hc,h,r=>by
  rw[Is] at h
  obtain⟨a,vs,rfl,e,q⟩:=h
  cases (show u=Value.ref a from r)
  obtain⟨_,its,n,rv,e1⟩:=(show bI X.prog X.w H s.heap a (.lst vs) from I.hok a _ (ff _ _ e))
  rw[toP] at hc ⊢
  obtain⟨as,z⟩:=pC I hK ff xs (by simpa [PyData.canLay0] using hc) q rv
  exact⟨_,.list e1 rfl rfl (by simpa using z)⟩
 | .scr ns,v,u,hc,h,r=>by
  rw[Is] at h
  obtain⟨a,rfl,q⟩:=h
  cases (show u=Value.ref a from r)
  subst hK
  obtain⟨its,rv,pl,_⟩:=I.list (ff.seq q)
  rw[toP]
  exact⟨_,reads_newData pl.isList (PySem.W.ke_carried (intsAre_of rv))⟩
 | .obj n,v,u,hc,h,r=>by rw[toP] at hc;simp[PyData.canLay0] at hc
theorem pC(I:Inv X pins σ H s)(hK:K=X.K)(ff:bC F H):∀(ds:List D) {vs:List V} {us:List Value},PyData.canLayAll0 (fK ds)=true->IsL K α F ds vs->Vals vs us->∃as,ReadsAll s.heap us (fK ds) as
 | [],vs,us,_,h,r=>by
  rw[h.of_nil] at r;cases r;rw[fK];exact⟨_,.nil⟩
 | d::ds,vs,us,hc,h,r=>by
  obtain⟨v,t,rfl,h1,h2⟩:=h.of_cons
  cases r with
  | cons r1 r2 =>
   rw[fK] at hc ⊢
   have hc':(toP d).canLay0=true/\PyData.canLayAll0 (fK ds)=true:=by simpa [PyData.canLayAll0] using hc
   obtain⟨as,z1⟩:=fW I hK ff d hc'.1 h1 r1
   obtain⟨bs,z2⟩:=pC I hK ff ds hc'.2 h2 r2
   exact⟨_,.cons z1 z2⟩
end
end
end DL
namespace DL
open PySem PySem.Spec PyProof.Rows L2
section
variable {X:Cx} {C:Cl} {a b c x:Expr} {f g h:Den} {r:D->D->Option D} {pos:Pos}
noncomputable def eqD(neg:Bool)(p q:D):Option D:=if SeqAt.shaped (toP p) && SeqAt.shaped (toP q) then some (.bl (if neg then !PyData.eqv (toP p) (toP q) else PyData.eqv (toP p) (toP q))) else none
theorem bO(hu:X.A.units+64<cLine):OpD X C (compareOp .Eq) (eqD false):=by
 intro pins s σ H x y v u Q I rx ry hw
 obtain⟨e,Ω,d₁,d₂,z,eH,w,i1,i2,q,kk⟩:=hw
 subst eH
 unfold eqD at q
 split at q
 ·rename_i hs
  rw[Bool.and_eq_true] at hs
  cases q
  obtain⟨as,r1⟩:=fW I rfl w.fh d₁ (SeqAt.canLay_of_shaped hs.1) i1 rx
  obtain⟨bs,r2⟩:=fW I rfl w.fh d₂ (SeqAt.canLay_of_shaped hs.2) i2 ry
  exact eq_dataH r1 r2 hs.1 hs.2 hu ⟨.bl _,e.H,I,rfl,kk _ e (Ext.refl e) w (by rw[Is];rfl)⟩
 ·cases q
theorem qm(hu:X.A.units+64<cLine):OpD X C (compareOp .NotEq) (eqD true):=by
 intro pins s σ H x y v u Q I rx ry hw
 obtain⟨e,Ω,d₁,d₂,z,eH,w,i1,i2,q,kk⟩:=hw
 subst eH
 unfold eqD at q
 split at q
 ·rename_i hs
  rw[Bool.and_eq_true] at hs
  cases q
  obtain⟨as,r1⟩:=fW I rfl w.fh d₁ (SeqAt.canLay_of_shaped hs.1) i1 rx
  obtain⟨bs,r2⟩:=fW I rfl w.fh d₂ (SeqAt.canLay_of_shaped hs.2) i2 ry
  exact ne_dataH r1 r2 hs.1 hs.2 hu ⟨.bl _,e.H,I,rfl,kk _ e (Ext.refl e) w (by rw[Is];rfl)⟩
 ·cases q
noncomputable def isNone:D->Bool
 | .non=>true
 | _=>false
noncomputable def Jz:D->Bool
 | .non=>true
 | .int _=>true
 | .tup _=>true
 | .lst _=>true
 | _=>false
noncomputable def isB(neg p:Bool):D->Option D
 | .bl q=>some (.bl (if neg then !(q==p) else q==p))
 | d=>if Jz d then some (.bl neg) else none
noncomputable def isD(neg:Bool)(d:D):D->Option D
 | .non=>some (.bl (if neg then !isNone d else isNone d))
 | .bl p=>isB neg p d
 | _=>none
theorem JB{K:PySem.W.Frag}{α:List Addr}{F:Hp}{d:D}{v:V}(h:Is K α F d v):decide (v=.non)=isNone d:=by
 cases d<;>rw[Is] at h
 ·subst h;rfl
 ·subst h;rfl
 ·subst h;rfl
 ·subst h;rfl
 ·obtain⟨a,vs,rfl,_⟩:=h;rfl
 ·obtain⟨a,vs,rfl,_⟩:=h;rfl
 ·obtain⟨a,rfl,_⟩:=h;rfl
 ·obtain⟨a,_,rfl⟩:=h;rfl
theorem Oe{K:PySem.W.Frag}{α:List Addr}{F:Hp}{d:D}{v:V}{u:Value}{p:Bool}(h:Jz d=true)(i:Is K α F d v)(r:RelV v u):plainIs u (.bool p)=true/\u ≠ .bool p:=by
 cases d with
 | non=>rw[Is] at i;subst i;cases (show u=Value.none from r);exact⟨rfl,fun z=>by cases z⟩
 | int i'=>rw[Is] at i;subst i;obtain⟨t,rfl⟩:=(show ∃t,u=Value.int i' t from r);exact⟨rfl,fun z=>by cases z⟩
 | tup _=>rw[Is] at i;obtain⟨l,vs,rfl,_⟩:=i;cases (show u=Value.ref l from r);exact⟨rfl,fun z=>by cases z⟩
 | lst _=>rw[Is] at i;obtain⟨l,vs,rfl,_⟩:=i;cases (show u=Value.ref l from r);exact⟨rfl,fun z=>by cases z⟩
 | _=>cases h
theorem Og{neg p:Bool}{d z:D}(q:isB neg p d=some z):(∃r,d=.bl r/\z=.bl (if neg then !(r==p) else r==p))\/(Jz d=true/\z=.bl neg):=by
 unfold isB at q
 split at q
 ·cases q;exact .inl ⟨_,rfl,rfl⟩
 ·split at q
  ·cases q;exact .inr ⟨‹_›,rfl⟩
  ·cases q
theorem Oh{neg:Bool}{d₁ d₂ z:D}(q:isD neg d₁ d₂=some z):(d₂=.non/\z=.bl (if neg then !isNone d₁ else isNone d₁))\/∃p,d₂=.bl p/\isB neg p d₁=some z:=by
 unfold isD at q
 split at q
 ·cases q;exact .inl ⟨rfl,rfl⟩
 ·exact .inr ⟨_,rfl,q⟩
 ·cases q
theorem Gs(p r:Bool):(Value.bool p==Value.bool r)=(p==r):=by cases p<;>cases r<;>rfl
theorem RW:OpD X C (compareOp .Is) (isD false):=by
 intro pins s σ H x y v u Q I rx ry hw
 obtain⟨e,Ω,d₁,d₂,z,eH,w,i1,i2,q,kk⟩:=hw
 subst eH
 rcases Oh q with⟨rfl,rfl⟩ |⟨p,rfl,q⟩
 ·rw[Is] at i2
  subst i2
  refine Rn pins s σ _ _ _ v u Q I rx ry ⟨rfl,?_⟩
  rw[JB i1]
  exact kk _ e (Ext.refl e) w (by rw[Is];rfl)
 ·rw[Is] at i2
  subst i2
  cases (show u=Value.bool p from ry)
  rcases Og q with⟨r,rfl,rfl⟩ |⟨ho,rfl⟩
  ·rw[Is] at i1
   subst i1
   cases (show v=Value.bool r from rx)
   refine wpAny_is_plain rfl ?_
   rw[Gs]
   exact⟨.bl _,e.H,I,rfl,kk _ e (Ext.refl e) w (by rw[Is];rfl)⟩
  ·obtain⟨h1,h2⟩:=Oe (p:=p) ho i1 rx
   exact wpAny_is_other h1 h2 ⟨.bl _,e.H,I,rfl,kk _ e (Ext.refl e) w (by rw[Is])⟩
noncomputable def dZ(p q:bV):bV:=fun ρ Ω=>match p ρ Ω with
 | some (true,Ω')=>q ρ Ω'
 | some (false,Ω')=>some (false,Ω')
 | none=>none
noncomputable def pU(p q:bV):bV:=fun ρ Ω=>match p ρ Ω with
 | some (true,Ω')=>some (true,Ω')
 | some (false,Ω')=>q ρ Ω'
 | none=>none
noncomputable def gU(p:bV):bV:=fun ρ Ω=>match p ρ Ω with
 | some (k,Ω')=>some (!k,Ω')
 | none=>none
variable {p q:bV} {rest:List Expr}
theorem JC{K:PySem.W.Frag}{σ:St}{H:Hp}{Q:Bool->Hp->Prop}(hw:tDT K C (dZ p q) σ H Q):QS (tDT K C p) (tDT K C q) σ H Q:=by
 obtain⟨e,Ω,ρ,k,Ω',eH,w,rl,e1,kk⟩:=hw
 unfold dZ at e1
 cases e2:p ρ Ω with
 | none=>rw[e2] at e1;cases e1
 | some z =>
  obtain⟨k1,Ω1⟩:=z
  rw[e2] at e1
  refine⟨e,Ω,ρ,k1,Ω1,eH,w,rl,e2,fun e' x' w'=>?_⟩
  cases k1 with
  | true =>
   rw[if_pos rfl]
   exact⟨e',Ω1,ρ,k,Ω',rfl,w',rl.ext x',e1,fun e'' x'' w''=>kk e'' (x'.trans x'') w''⟩
  | false =>
   rw[if_neg (by decide)]
   cases e1
   exact kk e' x' w'
theorem Oi{K:PySem.W.Frag}{σ:St}{H:Hp}{Q:Bool->Hp->Prop}(hw:tDT K C (pU p q) σ H Q):tOr (tDT K C p) (tDT K C q) σ H Q:=by
 obtain⟨e,Ω,ρ,k,Ω',eH,w,rl,e1,kk⟩:=hw
 unfold pU at e1
 cases e2:p ρ Ω with
 | none=>rw[e2] at e1;cases e1
 | some z =>
  obtain⟨k1,Ω1⟩:=z
  rw[e2] at e1
  refine⟨e,Ω,ρ,k1,Ω1,eH,w,rl,e2,fun e' x' w'=>?_⟩
  cases k1 with
  | true =>
   rw[if_pos rfl]
   cases e1
   exact kk e' x' w'
  | false =>
   rw[if_neg (by decide)]
   exact⟨e',Ω1,ρ,k,Ω',rfl,w',rl.ext x',e1,fun e'' x'' w''=>kk e'' (x'.trans x'') w''⟩
theorem lM(ha:PDT X C a p):PDW X C (.BoolOp .And [a] pos) p:=Nb ha
theorem Cz(ha:PDT X C a p):PDW X C (.BoolOp .Or [a] pos) p:=QT ha
theorem lN(ha:PDT X C a p)(hb:PDW X C (.BoolOp .And (b::rest) pos) q):PDW X C (.BoolOp .And (a::b::rest) pos) (dZ p q):=Gn (QV ha hb) fun _ _ _ h=>JC h
theorem vB(ha:PDT X C a p)(hb:PDW X C (.BoolOp .Or (b::rest) pos) q):PDW X C (.BoolOp .Or (a::b::rest) pos) (pU p q):=Gn (Tz ha hb) fun _ _ _ h=>Oi h
theorem PDW.pt(h:PDW X C x p):PDT X C x p:=PW.pt h
theorem nM(ha:PDT X C a p):PDT X C (.UnaryOp .Not a pos) (gU p):=nY (QW ha) fun σ H Q hw'=>by
 obtain⟨e,Ω,ρ,k,Ω',eH,w,rl,e1,kk⟩:=hw'
 unfold gU at e1
 cases e2:p ρ Ω with
 | none=>rw[e2] at e1;cases e1
 | some z =>
  obtain⟨k1,Ω1⟩:=z
  rw[e2] at e1
  cases e1
  exact⟨e,Ω,ρ,k1,_,eH,w,rl,e2,kk⟩
end
end DL
namespace DL
open PySem PySem.Spec PyProof.Rows L2
section
variable {X:Cx} {C:Cl} {a b c x:Expr} {es:List Expr} {f g h:Den} {ga:bA} {pos:Pos}
noncomputable def aA:bA:=fun _ Ω=>some ([],Ω)
noncomputable def ak(f:Den)(g:bA):bA:=fun ρ Ω=>match f ρ Ω with
 | some (d,Ω1)=>match g ρ Ω1 with
  | some (ds,Ω2)=>some (d::ds,Ω2)
  | none=>none
 | none=>none
theorem az:PDA X C [] aA:=Gp cY fun σ H Q hw'=>by
 obtain⟨e,Ω,ρ,ds,Ω',eH,w,rl,e1,kk⟩:=hw'
 subst eH
 cases e1
 exact kk [] e (Ext.refl e) w .nil
theorem aq(ha:PD X C x f)(hr:PDA X C es ga)(hs:starEach (x::es) X.env=(false,eval x X.env)::starEach es X.env:=by rfl):PDA X C (x::es) (ak f ga) :=
 Gp (bL ha hr hs) fun σ H Q hw'=>by
  obtain⟨e,Ω,ρ,ds,Ω',eH,w,rl,e1,kk⟩:=hw'
  unfold ak at e1
  cases q1:f ρ Ω with
  | none=>rw[q1] at e1;cases e1
  | some p1 =>
   obtain⟨d,Ω1⟩:=p1
   rw[q1] at e1
   dsimp only at e1
   cases q2:ga ρ Ω1 with
   | none=>rw[q2] at e1;cases e1
   | some p2 =>
    obtain⟨ds',Ω2⟩:=p2
    rw[q2] at e1
    cases e1
    refine⟨e,Ω,ρ,d,Ω1,eH,w,rl,q1,fun v e' x' w' i'=>?_⟩
    exact⟨e',Ω1,ρ,ds',_,rfl,w',rl.ext x',q2,fun vs e'' x'' w'' i''=>kk _ e'' (x'.trans x'') w'' (.cons (i'.ext x'') i'')⟩
noncomputable def bu(g:bA):Den:=fun ρ Ω=>match g ρ Ω with
 | some (ds,Ω')=>if ds.length<=big then some (.tup ds,Ω') else none
 | none=>none
noncomputable def bH(g:bA):Den:=fun ρ Ω=>match g ρ Ω with
 | some (ds,Ω')=>if ds.length<=big then some (.lst ds,Ω') else none
 | none=>none
theorem bJ{x1}(ha:PDA X C es ga):PD X C (.Tuple es x1 pos) (bu ga):=bj (zx ha) fun σ H Q hw'=>by
 obtain⟨e,Ω,ρ,d,Ω',eH,w,rl,e1,kk⟩:=hw'
 unfold bu at e1
 cases q1:ga ρ Ω with
 | none=>rw[q1] at e1;cases e1
 | some p1 =>
  obtain⟨ds,Ω1⟩:=p1
  rw[q1] at e1
  dsimp only at e1
  split at e1
  ·rename_i hl
   cases e1
   refine⟨e,Ω,ρ,ds,_,eH,w,rl,q1,fun vs e' x' w' i'=>⟨by rw[<-i'.length];exact gM hl,fun p hp=>?_⟩⟩
   refine kk _ (e'.new p (.tup vs)) (x'.trans (w'.new_ext hp)) (w'.new hp) ?_
   rw[Is]
   exact⟨p,vs,rfl,aJ,i'.ext (w'.new_ext hp)⟩
  ·cases e1
theorem bR(ha:PDA X C es ga):PD X C (.List es pos) (bH ga):=bj (vq ha) fun σ H Q hw'=>by
 obtain⟨e,Ω,ρ,d,Ω',eH,w,rl,e1,kk⟩:=hw'
 unfold bH at e1
 cases q1:ga ρ Ω with
 | none=>rw[q1] at e1;cases e1
 | some p1 =>
  obtain⟨ds,Ω1⟩:=p1
  rw[q1] at e1
  dsimp only at e1
  split at e1
  ·rename_i hl
   cases e1
   refine⟨e,Ω,ρ,ds,_,eH,w,rl,q1,fun vs e' x' w' i'=>⟨by rw[<-i'.length];exact gM hl,fun p hp=>?_⟩⟩
   refine kk _ (e'.new p (.lst vs)) (x'.trans (w'.new_ext hp)) (w'.new hp) ?_
   rw[Is]
   exact⟨p,vs,rfl,aJ,i'.ext (w'.new_ext hp)⟩
  ·cases e1
noncomputable def ixD:D->D->Option D
 | .lst xs,.int i=>atI xs i
 | .tup xs,.int i=>atI xs i
 | .scr ns,.int i=>(atI ns i).map D.int
 | .str z,.int i=>if z.length<=big then(atI z.cps.toList i).map fun c=>D.str ⟨#[c]⟩ else none
 | _,_=>none
theorem zH{K:PySem.W.Frag}{α:List Addr}{F:Hp}{ds:List D}{vs:List V}{i:Int}{d:D}(r:IsL K α F ds vs)(h:atI ds i=some d):∃v,atI vs i=some v/\Is K α F d v:=by
 unfold atI at h ⊢
 rw[<-r.length]
 cases q:ixN ds.length i with
 | none=>rw[q] at h;cases h
 | some j =>
  rw[q] at h
  exact r.get h
theorem JD{K:PySem.W.Frag}:∀x y H Q,(∃e Ω d₁ d₂ z,e.H=H/\Wf K C e Ω/\Is K e.α e.F d₁ x/\Is K e.α e.F d₂ y/\ixD d₁ d₂=some z/\∀v e',Ext e e'->Wf K C e' Ω->Is K e'.α e'.F z v->Q v e'.H)->rIx K x y H Q:=by
 rintro x y H Q ⟨e,Ω,d₁,d₂,z,eH,w,i1,i2,q,kk⟩
 subst eH
 unfold ixD at q
 cases d₁<;>cases d₂<;>first |cases q |skip
 ·rename_i zz i
  dsimp only at q
  simp only[Is] at i1 i2
  subst i1 i2
  split at q
  ·rename_i hl
   cases e2:atI zz.cps.toList i with
   | none=>rw[e2] at q;cases q
   | some c =>
    rw[e2] at q
    cases q
    exact .inr (.inr ⟨zz,i,c,rfl,rfl,gM hl,e2,kk _ e (Ext.refl e) w (by rw[Is])⟩)
  ·cases q
 ·rename_i xs i
  simp only[Is] at i1 i2
  obtain⟨p,vs,rfl,h1,r1⟩:=i1
  subst i2
  obtain⟨v,e1,i3⟩:=zH r1 q
  exact .inr (.inl ⟨p,vs,i,v,rfl,rfl,SqT.of (w.fh _ _ h1),e1,kk v e (Ext.refl e) w i3⟩)
 ·rename_i xs i
  simp only[Is] at i1 i2
  obtain⟨p,vs,rfl,h1,r1⟩:=i1
  subst i2
  obtain⟨v,e1,i3⟩:=zH r1 q
  exact .inl ⟨p,vs,i,v,rfl,rfl,SqL.of (w.fh _ _ h1),e1,kk v e (Ext.refl e) w i3⟩
 ·rename_i ns i
  simp only[Is] at i1 i2
  obtain⟨p,rfl,h1⟩:=i1
  subst i2
  dsimp only at q
  cases e2:atI ns i with
  | none=>rw[e2] at q;cases q
  | some n =>
   rw[e2] at q
   cases q
   refine .inl ⟨p,ns.map V.int,i,.int n,rfl,rfl,w.fh.seq h1,?_,kk _ e (Ext.refl e) w (by rw[Is])⟩
   unfold atI at e2 ⊢
   rw[List.length_map]
   cases e3:ixN ns.length i with
   | none=>rw[e3] at e2;cases e2
   | some j =>
    rw[e3] at e2
    show(ns.map V.int)[j]? = _
    rw[List.getElem?_map,show ns[j]? = some n from e2]
    rfl
theorem gb(ha:PD X C a f)(hb:PD X C b g)(hs:wL b:=by intro _ _;rfl):PD X C (.Subscript a b pos) (gOp ixD f g) :=
 bj (Ma Rv ha hb hs) fun σ H Q hw=>tY JD hw
noncomputable abbrev uM:=List Sl->List OS->Option (Option Int×List OS)
noncomputable def tZ:uM:=fun _ Ω=>some (none,Ω)
noncomputable def vC(g:Den):uM:=fun ρ Ω=>match g ρ Ω with
 | some (.int i,Ω')=>some (some i,Ω')
 | _=>none
noncomputable def tDO(K:PySem.W.Frag)(C:Cl)(g:uM):TO:=fun σ H Q=>∃e Ω ρ o Ω',e.H=H/\Wf K C e Ω/\RelE K e σ ρ/\g ρ Ω=some (o,Ω')/\∀e',Ext e e'->Wf K C e' Ω'->Q o e'.H
noncomputable def PDO(X:Cx)(C:Cl)(e:Option Expr)(g:uM):Prop:=PO X e (tDO X.K C g)
theorem Gu{o:Option Expr}{t t':TO}(h:PO X o t)(i:∀σ H Q,t' σ H Q->t σ H Q):PO X o t':=fun pins s σ H Q I hw=>h pins s σ H Q I (i σ H Q hw)
theorem JF:PDO X C none tZ:=Gu Nu fun σ H Q hw'=>by
 obtain⟨e,Ω,ρ,o,Ω',eH,w,rl,e1,kk⟩:=hw'
 subst eH
 cases e1
 exact kk e (Ext.refl e) w
theorem JG(h:PD X C x g):PDO X C (some x) (vC g):=Gu (Nv h) fun σ H Q hw'=>by
 obtain⟨e,Ω,ρ,o,Ω',eH,w,rl,e1,kk⟩:=hw'
 unfold vC at e1
 cases q1:g ρ Ω with
 | none=>rw[q1] at e1;cases e1
 | some p1 =>
  obtain⟨d,Ω1⟩:=p1
  rw[q1] at e1
  cases d with
  | int i =>
   cases e1
   refine⟨e,Ω,ρ,_,_,eH,w,rl,q1,fun v e' x' w' i'=>?_⟩
   rw[Is] at i'
   exact⟨i,i',kk e' x' w'⟩
  | _=>cases e1
noncomputable def su{β:Type}(xs:List β)(lo hi:Option Int):List β:=(xs.drop (HT.sIx xs.length 0 lo)).take (HT.sIx xs.length xs.length hi-HT.sIx xs.length 0 lo)
noncomputable def slD:D->Option Int->Option Int->Option D
 | .lst xs,lo,hi=>some (.lst (su xs lo hi))
 | .scr ns,lo,hi=>some (.lst ((su ns lo hi).map D.int))
 | _,_,_=>none
noncomputable def gSl(f:Den)(lo hi:uM):Den:=fun ρ Ω=>match f ρ Ω with
 | some (d,Ω1)=>match lo ρ Ω1 with
  | some (l,Ω2)=>match hi ρ Ω2 with
   | some (u,Ω3)=>match slD d l u with
    | some z=>some (z,Ω3)
    | none=>none
   | none=>none
  | none=>none
 | none=>none
theorem Ug{lo hi:Option Expr}{gl gh:uM}{p2:Pos}(ha:PD X C a f)(hl:PDO X C lo gl)(hh:PDO X C hi gh):PD X C (.Subscript a (.Slice lo hi none p2) pos) (gSl f gl gh) :=
 bj (Jp Nz ha hl hh) fun σ H Q hw'=>by
  obtain⟨e,Ω,ρ,d,Ω',eH,w,rl,e1,kk⟩:=hw'
  unfold gSl at e1
  cases q1:f ρ Ω with
  | none=>rw[q1] at e1;cases e1
  | some p1 =>
   obtain⟨d1,Ω1⟩:=p1
   rw[q1] at e1
   dsimp only at e1
   cases q2:gl ρ Ω1 with
   | none=>rw[q2] at e1;cases e1
   | some p2 =>
    obtain⟨l,Ω2⟩:=p2
    rw[q2] at e1
    dsimp only at e1
    cases q3:gh ρ Ω2 with
    | none=>rw[q3] at e1;cases e1
    | some p3 =>
     obtain⟨u,Ω3⟩:=p3
     rw[q3] at e1
     dsimp only at e1
     cases q4:slD d1 l u with
     | none=>rw[q4] at e1;cases e1
     | some z =>
      rw[q4] at e1
      cases e1
      refine⟨e,Ω,ρ,d1,Ω1,eH,w,rl,q1,fun v e' x' w' i'=>?_⟩
      refine⟨e',Ω1,ρ,l,Ω2,rfl,w',rl.ext x',q2,fun e2 x2 w2=>?_⟩
      refine⟨e2,Ω2,ρ,u,_,rfl,w2,(rl.ext x').ext x2,q3,fun e3 x3 w3=>?_⟩
      have i3:=i'.ext (x2.trans x3)
      unfold slD at q4
      cases d1 with
      | lst xs =>
       cases q4
       rw[Is] at i3
       obtain⟨p,vs,rfl,h1,r1⟩:=i3
       refine⟨p,vs,rfl,SqL.of (w3.fh _ _ h1),fun p' hp=>?_⟩
       refine kk _ (e3.new p' _) (((x'.trans x2).trans x3).trans (w3.new_ext hp)) (w3.new hp) ?_
       rw[Is]
       refine⟨p',_,rfl,aJ,?_⟩
       unfold su wJ
       rw[<-r1.length]
       exact((r1.drop _).take _).ext (w3.new_ext hp)
      | scr ns =>
       cases q4
       rw[Is] at i3
       obtain⟨p,rfl,h1⟩:=i3
       refine⟨p,_,rfl,w3.fh.seq h1,fun p' hp=>?_⟩
       refine kk _ (e3.new p' _) (((x'.trans x2).trans x3).trans (w3.new_ext hp)) (w3.new hp) ?_
       rw[Is]
       refine⟨p',_,rfl,aJ,?_⟩
       unfold su wJ
       rw[List.length_map,List.map_take,List.map_drop]
       exact(((IsL.ints ns).drop _).take _)
      | _=>cases q4
noncomputable def CallD(X:Cx)(C:Cl)(f:Value)(r:List D->Option D):Prop :=
 fH X f fun xs H Q=>∃e Ω ds z,e.H=H/\Wf X.K C e Ω/\IsL X.K e.α e.F ds xs/\r ds=some z/\∀v e',Ext e e'->Wf X.K C e' Ω->Is X.K e'.α e'.F z v->Q v e'.H
noncomputable def gCB(r:List D->Option D)(g:bA):Den:=fun ρ Ω=>match g ρ Ω with
 | some (ds,Ω1)=>match r ds with
  | some z=>some (z,Ω1)
  | none=>none
 | none=>none
theorem CG{K:PySem.W.Frag}{r:List D->Option D}{σ:St}{H:Hp}{Q:VK}(hw:tD K C (gCB r ga) σ H Q) :
  tCB (fun xs H Q=>∃e Ω ds z,e.H=H/\Wf K C e Ω/\IsL K e.α e.F ds xs/\r ds=some z/\∀v e',Ext e e'->Wf K C e' Ω->Is K e'.α e'.F z v->Q v e'.H) (tDA K C ga) σ H Q:=by
 obtain⟨e,Ω,ρ,d,Ω',eH,w,rl,e1,kk⟩:=hw
 unfold gCB at e1
 cases q1:ga ρ Ω with
 | none=>rw[q1] at e1;cases e1
 | some p1 =>
  obtain⟨ds,Ω1⟩:=p1
  rw[q1] at e1
  dsimp only at e1
  cases q2:r ds with
  | none=>rw[q2] at e1;cases e1
  | some z =>
   rw[q2] at e1
   cases e1
   exact⟨e,Ω,ρ,ds,_,eH,w,rl,q1,fun vs e' x' w' i'=>⟨e',_,ds,_,rfl,w',i',q2,fun v e'' x'' w''=>kk v e'' (x'.trans x'') w''⟩⟩
theorem cB{id:String}{n:Str}{p:Pos}{r:List D->Option D}(hc:CallD X C (.builtin id) r)(hg:Gl X n)(hm:X.mg n=none)(hv:bootBuiltins n=some (.builtin id))(ha:PDA X C (x::es) ga)(hn:n ≠ "__name__":=by decide)(hdb:(n==("__debug__":Str))=false:=by decide)
  (he:starEach (x::es) X.env=(false,eval x X.env)::starEach es X.env:=by rfl) (hpl:(backTo pos (starEach es X.env)).any (·.1)=false:=by rfl):PD X C (.Call (.Name n p) (x::es) [] pos) (gCB r ga) :=
 bj (iu hc hg hm hv ha hn hdb he hpl) fun _ _ _ hw=>CG hw
theorem sy{T:String}{n:Str}{p:Pos}{r:List D->Option D}(hc:CallD X C (.type T) r)(hg:Gl X n)(hm:X.mg n=none)(hv:bootBuiltins n=some (.type T))(ha:PDA X C (x::es) ga)(hn:n ≠ "__name__":=by decide)(hdb:(n==("__debug__":Str))=false:=by decide)
  (he:starEach (x::es) X.env=(false,eval x X.env)::starEach es X.env:=by rfl) (hpl:(backTo pos (starEach es X.env)).any (·.1)=false:=by rfl):PD X C (.Call (.Name n p) (x::es) [] pos) (gCB r ga) :=
 bj (rZ hc hg hm hv ha hn hdb he hpl) fun _ _ _ hw=>CG hw
theorem gB{K:PySem.W.Frag}{α:List Addr}{F:Hp}{d:D}{vs:List V}(h:IsL K α F [d] vs):∃v,vs=[v]/\Is K α F d v:=by
 obtain⟨v,r,rfl,i,t⟩:=h.of_cons
 rw[t.of_nil]
 exact⟨v,rfl,i⟩
theorem CJ{K:PySem.W.Frag}{α:List Addr}{F:Hp}{d d':D}{vs:List V}(h:IsL K α F [d,d'] vs):∃v u,vs=[v,u]/\Is K α F d v/\Is K α F d' u:=by
 obtain⟨v,r,rfl,i,t⟩:=h.of_cons
 obtain⟨u,rfl,i2⟩:=gB t
 exact⟨v,u,rfl,i,i2⟩
noncomputable def lO:List D->Option D
 | [.lst xs]=>some (.int xs.length)
 | [.tup xs]=>some (.int xs.length)
 | [.scr ns]=>some (.int ns.length)
 | [.str z]=>if z.length<=big then some (.int z.length) else none
 | _=>none
theorem iW:CallD X C (.builtin "len") lO:=by
 intro pins s σ H xs us Q I r hw
 obtain⟨e,Ω,ds,z,eH,w,i,q,kk⟩:=hw
 subst eH
 match ds,q with
 | [.lst ys],q =>
  obtain⟨v,rfl,iv⟩:=gB i
  rw[Is] at iv
  obtain⟨p,vs,rfl,h1,r1⟩:=iv
  cases q
  exact nW pins s σ _ _ us Q I r ⟨p,vs,rfl,.inl (SqL.of (w.fh _ _ h1)),kk _ e (Ext.refl e) w (by rw[Is,r1.length])⟩
 | [.tup ys],q =>
  obtain⟨v,rfl,iv⟩:=gB i
  rw[Is] at iv
  obtain⟨p,vs,rfl,h1,r1⟩:=iv
  cases q
  exact nW pins s σ _ _ us Q I r ⟨p,vs,rfl,.inr (SqT.of (w.fh _ _ h1)),kk _ e (Ext.refl e) w (by rw[Is,r1.length])⟩
 | [.scr ns],q =>
  obtain⟨v,rfl,iv⟩:=gB i
  rw[Is] at iv
  obtain⟨p,rfl,h1⟩:=iv
  cases q
  exact nW pins s σ _ _ us Q I r ⟨p,_,rfl,.inl (w.fh.seq h1),kk _ e (Ext.refl e) w (by rw[Is,List.length_map])⟩
 | [.str zz],q =>
  obtain⟨v,rfl,iv⟩:=gB i
  rw[Is] at iv
  subst iv
  have q:(if zz.length<=big then some (D.int zz.length) else none)=some z:=q
  split at q
  ·rename_i hl
   cases q
   exact zB pins s σ _ _ us Q I r ⟨zz,rfl,gM hl,kk _ e (Ext.refl e) w (by rw[Is])⟩
  ·cases q
noncomputable def jj:List D->Option D
 | [.int i,.int j]=>some (.int (if j<i then j else i))
 | _=>none
theorem mq(hc:X.calm=true):CallD X C (.builtin "min") jj:=by
 intro pins s σ H xs us Q I r hw
 obtain⟨e,Ω,ds,z,eH,w,i,q,kk⟩:=hw
 subst eH
 obtain⟨k,j,rfl,rfl⟩:∃k j,ds=[.int k,.int j]/\z=.int (if j<k then j else k):=by
  unfold jj at q
  split at q
  ·cases q;exact⟨_,_,rfl,rfl⟩
  ·cases q
 ·obtain⟨v,u,rfl,i1,i2⟩:=CJ i
  rw[Is] at i1 i2
  subst i1 i2
  exact FQ hc pins s σ _ _ us Q I r ⟨k,j,rfl,kk _ e (Ext.refl e) w (by rw[Is])⟩
noncomputable def kh:List D->Option D
 | [.int i,.int j]=>some (.int (if j>i then j else i))
 | _=>none
theorem pF(hc:X.calm=true):CallD X C (.builtin "max") kh:=by
 intro pins s σ H xs us Q I r hw
 obtain⟨e,Ω,ds,z,eH,w,i,q,kk⟩:=hw
 subst eH
 obtain⟨k,j,rfl,rfl⟩:∃k j,ds=[.int k,.int j]/\z=.int (if j>k then j else k):=by
  unfold kh at q
  split at q
  ·cases q;exact⟨_,_,rfl,rfl⟩
  ·cases q
 ·obtain⟨v,u,rfl,i1,i2⟩:=CJ i
  rw[Is] at i1 i2
  subst i1 i2
  exact FP hc pins s σ _ _ us Q I r ⟨k,j,rfl,kk _ e (Ext.refl e) w (by rw[Is])⟩
noncomputable def Mj:List D->Option D
 | [.int i]=>some (.int i)
 | [.bl k]=>some (.int (if k then 1 else 0))
 | _=>none
theorem Gv:CallD X C (.type "int") Mj:=by
 intro pins s σ H xs us Q I r hw
 obtain⟨e,Ω,ds,z,eH,w,i,q,kk⟩:=hw
 subst eH
 match ds,q with
 | [.int k],q =>
  obtain⟨v,rfl,iv⟩:=gB i
  rw[Is] at iv
  subst iv
  cases q
  exact yc pins s σ _ _ us Q I r (.inl ⟨k,rfl,kk _ e (Ext.refl e) w (by rw[Is])⟩)
 | [.bl k],q =>
  obtain⟨v,rfl,iv⟩:=gB i
  rw[Is] at iv
  subst iv
  cases q
  exact yc pins s σ _ _ us Q I r (.inr ⟨k,rfl,kk _ e (Ext.refl e) w (by rw[Is])⟩)
noncomputable def n_:List D->Option D
 | [.lst xs]=>some (.lst xs)
 | [.tup xs]=>some (.lst xs)
 | [.scr ns]=>some (.lst (ns.map D.int))
 | _=>none
theorem vD:CallD X C (.type "list") n_:=by
 intro pins s σ H xs us Q I r hw
 obtain⟨e,Ω,ds,z,eH,w,i,q,kk⟩:=hw
 subst eH
 match ds,q with
 | [.lst ys],q =>
  obtain⟨v,rfl,iv⟩:=gB i
  rw[Is] at iv
  obtain⟨p,vs,rfl,h1,r1⟩:=iv
  cases q
  refine jZ pins s σ _ _ us Q I r ⟨p,vs,rfl,.inl (SqL.of (w.fh _ _ h1)),fun l hl=>kk _ (e.new l _) (w.new_ext hl) (w.new hl) ?_⟩
  rw[Is]
  exact⟨l,vs,rfl,aJ,r1.ext (w.new_ext hl)⟩
 | [.tup ys],q =>
  obtain⟨v,rfl,iv⟩:=gB i
  rw[Is] at iv
  obtain⟨p,vs,rfl,h1,r1⟩:=iv
  cases q
  refine jZ pins s σ _ _ us Q I r ⟨p,vs,rfl,.inr (SqT.of (w.fh _ _ h1)),fun l hl=>kk _ (e.new l _) (w.new_ext hl) (w.new hl) ?_⟩
  rw[Is]
  exact⟨l,vs,rfl,aJ,r1.ext (w.new_ext hl)⟩
 | [.scr ns],q =>
  obtain⟨v,rfl,iv⟩:=gB i
  rw[Is] at iv
  obtain⟨p,rfl,h1⟩:=iv
  cases q
  refine jZ pins s σ _ _ us Q I r ⟨p,_,rfl,.inl (w.fh.seq h1),fun l hl=>kk _ (e.new l _) (w.new_ext hl) (w.new hl) ?_⟩
  rw[Is]
  exact⟨l,_,rfl,aJ,IsL.ints ns⟩
noncomputable def tyD:D->Option String
 | .non=>some "NoneType"
 | .bl _=>some "bool"
 | .int _=>some "int"
 | .str _=>some "str"
 | .tup _=>some "tuple"
 | .lst _=>some "list"
 | _=>none
noncomputable def gf(T:String)(d:D):Option D:=match tyD d with
 | some t=>some (.bl (decide (t=T) || (decide (t = "bool") && decide (T = "int"))))
 | none=>none
noncomputable def gUn(r:D->Option D)(g:Den):Den:=fun ρ Ω=>match g ρ Ω with
 | some (d,Ω1)=>match r d with
  | some z=>some (z,Ω1)
  | none=>none
 | none=>none
theorem Oj{K:PySem.W.Frag}{α:List Addr}{F H:Hp}(ff:bC F H){d:D}{v:V}{t:String}(i:Is K α F d v)(h:tyD d=some t):TyOf K H v (.type t):=by
 cases d<;>rw[Is] at i<;>(try cases h)
 ·subst i;exact .non
 ·subst i;exact .bl _
 ·subst i;exact .int _
 ·subst i;exact .str _
 ·obtain⟨a,vs,rfl,e,_⟩:=i;exact .tup (ff _ _ e)
 ·obtain⟨a,vs,rfl,e,_⟩:=i;exact .lst (ff _ _ e)
theorem iY{T:String}{n:Str}{p:Pos}{y:Expr}(ha:PD X C x g)(hy:PE X y (tC (.ty T)))(hg:Gl X n)(hm:X.mg n=none)(hv:bootBuiltins n=some (.builtin "isinstance"))
  (hk:∀t∈["NoneType","bool","int","str","tuple","list"],PySem.W.kitOne X.K (.type t) (.type T)=some (decide (t=T) || (decide (t = "bool") && decide (T = "int"))))
  (hn:n ≠ "__name__":=by decide) (hdb:(n==("__debug__":Str))=false:=by decide)
  (he:starEach [x,y] X.env=(false,eval x X.env)::starEach [y] X.env:=by rfl) (he2:starEach [y] X.env=(false,eval y X.env)::starEach [] X.env:=by rfl) (hpl:(backTo pos (starEach [y] X.env)).any (·.1)=false:=by rfl) :
  PD X C (.Call (.Name n p) [x,y] [] pos) (gUn (gf T) g):=by
 have hc:fH X (.builtin "isinstance") (fun xs H Q=>∃v t k,xs=[v,.ty T]/\TyOf X.K H v (.type t)/\PySem.W.kitOne X.K (.type t) (.type T)=some k/\Q (.bl k) H):=by
  intro pins s σ H xs us Q I r hw
  obtain⟨v,t,k,rfl,ty,e,q⟩:=hw
  obtain⟨u,w',rfl,r1,r2⟩:=vals2 r
  cases (show w'=Value.type T from r2)
  exact FZ I r1 ty e fun tk=>⟨.bl k,H,I.tok tk,rfl,q⟩
 refine bj (iu hc hg hm hv (bL ha (bL hy cY he2) he) hn hdb he hpl) fun σ H Q hw'=>?_
 obtain⟨e,Ω,ρ,d,Ω',eH,w,rl,e1,kk⟩:=hw'
 unfold gUn at e1
 cases q1:g ρ Ω with
 | none=>rw[q1] at e1;cases e1
 | some p1 =>
  obtain⟨d1,Ω1⟩:=p1
  rw[q1] at e1
  dsimp only at e1
  unfold gf at e1
  cases q2:tyD d1 with
  | none=>rw[q2] at e1;cases e1
  | some t =>
   rw[q2] at e1
   cases e1
   refine⟨e,Ω,ρ,d1,_,eH,w,rl,q1,fun v e' x' w' i'=>?_⟩
   refine⟨v,t,_,rfl,Oj w'.fh i' q2,hk t ?_,kk _ e' x' w' (by rw[Is])⟩
   cases d1<;>cases q2<;>simp
end
end DL
namespace DL
open PySem PySem.Spec PyProof.Rows L2
inductive Out where
 | nx (ρ:List Sl) (Ω:List OS) |rt (d:D) (Ω:List OS) |bk (ρ:List Sl) (Ω:List OS) |ct (ρ:List Sl) (Ω:List OS)
noncomputable abbrev aN:=List Sl->List OS->Option Out
structure RelS(K:PySem.W.Frag)(C:Cl)(e₀ e:E4)(Ω:List OS)(σ:St)(ρ:List Sl):Prop where
 wf:Wf K C e Ω
 rel:RelE K e σ ρ
 ext:Ext e₀ e
 fresh:∀(i:Nat) (ds:List D) (a:Addr),ρ[i]? = some (.own ds)->σ[i]? = some (some (.ref a))->e₀.H a=none
noncomputable def Uh(K:PySem.W.Frag)(C:Cl)(e₀:E4)(Dn:Ends):Out->Prop
 | .nx ρ Ω=>∀e σ,RelS K C e₀ e Ω σ ρ->Dn.nx σ e.H
 | .bk ρ Ω=>∀e σ,RelS K C e₀ e Ω σ ρ->Dn.bk σ e.H
 | .ct ρ Ω=>∀e σ,RelS K C e₀ e Ω σ ρ->Dn.ct σ e.H
 | .rt d Ω=>∀e v,Ext e₀ e->Wf K C e Ω->Is K e.α e.F d v->Dn.rt v e.H
noncomputable def tDS(K:PySem.W.Frag)(C:Cl)(e₀:E4)(g:aN):TS:=fun Dn σ H=>∃e Ω ρ o,e.H=H/\RelS K C e₀ e Ω σ ρ/\g ρ Ω=some o/\Uh K C e₀ Dn o
noncomputable def PDS(X:Cx)(C:Cl)(st:Stmt)(g:aN):Prop:=∀e₀,PS X st (tDS X.K C e₀ g)
noncomputable def PDB(X:Cx)(C:Cl)(st:List Stmt)(g:aN):Prop:=∀e₀,PSs X st (tDS X.K C e₀ g)
section
variable {K:PySem.W.Frag} {C:Cl} {e₀ e e':E4} {Ω Ω':List OS} {σ:St} {ρ:List Sl}
theorem RelS.to(r:RelS K C e₀ e Ω σ ρ)(x:Ext e e')(w:Wf K C e' Ω'):RelS K C e₀ e' Ω' σ ρ:=⟨w,r.rel.ext x,r.ext.trans x,r.fresh⟩
theorem jk{i j:Nat}{d:D}{ds:List D}(h:(ρ.set i (.dat d))[j]? = some (.own ds)):i≠j:=fun e1=>by
 subst e1
 have hl:i<ρ.length:=by
  have:=(List.getElem?_eq_some_iff.mp h).1
  simpa using this
 rw[List.getElem?_set_self hl] at h
 cases h
theorem RelS.set(r:RelS K C e₀ e Ω σ ρ)(i:Nat){d:D}{v:V}(h:Is K e.α e.F d v):RelS K C e₀ e Ω (σ.set i (some v)) (ρ.set i (.dat d)) :=
 ⟨r.wf,r.rel.set i h,r.ext,fun j ds a h1 h2=>by
  have n:=jk h1
  rw[List.getElem?_set_ne n] at h1 h2
  exact r.fresh j ds a h1 h2⟩
end
section
variable {X:Cx} {C:Cl} {a b c x:Expr} {f g:Den} {p:bV} {st:Stmt} {rest sts sts':List Stmt} {s t:aN} {pos:Pos}
noncomputable def aR:aN:=fun ρ Ω=>some (.nx ρ Ω)
noncomputable def aG(s t:aN):aN:=fun ρ Ω=>match s ρ Ω with
 | some (.nx ρ' Ω')=>t ρ' Ω'
 | r=>r
theorem aZ:PDB X C [] aR:=fun e₀=>nH Nf fun Dn σ H hw'=>by
 obtain⟨e,Ω,ρ,o,eH,r,q,k⟩:=hw'
 subst eH
 cases q
 exact k e σ r
theorem aD(h1:PDS X C st s)(h2:PDB X C rest t):PDB X C (st::rest) (aG s t):=fun e₀=>nH (uH (h1 e₀) (h2 e₀)) fun Dn σ H hw'=>by
 obtain⟨e,Ω,ρ,o,eH,r,q,k⟩:=hw'
 unfold aG at q
 cases q1:s ρ Ω with
 | none=>rw[q1] at q;cases q
 | some o1 =>
  rw[q1] at q
  refine⟨e,Ω,ρ,o1,eH,r,q1,?_⟩
  cases o1 with
  | nx ρ' Ω'=>exact fun e' σ' r'=>⟨e',Ω',ρ',o,rfl,r',q,k⟩
  | rt d Ω'=>cases q;exact k
  | bk ρ' Ω'=>cases q;exact k
  | ct ρ' Ω'=>cases q;exact k
theorem aH(h1:PDS X C st s):PDB X C [st] s:=fun e₀=>Cj (h1 e₀)
noncomputable def sE(γ:List Sl->Option (List Sl))(s:aN):aN:=fun ρ Ω=>match γ ρ with
 | some ρ'=>s ρ' Ω
 | none=>none
noncomputable def Ml(γ:List Sl->Option (List Sl)):Prop:=∀(K:PySem.W.Frag) (C:Cl) (e₀ e:E4) (Ω:List OS) (σ:St) (ρ ρ':List Sl),γ ρ=some ρ'->RelS K C e₀ e Ω σ ρ->∃e',e'.H=e.H/\RelS K C e₀ e' Ω σ ρ'
theorem ym{γ:List Sl->Option (List Sl)}(hγ:Ml γ)(h:PDB X C sts s):PDB X C sts (sE γ s):=fun e₀=>nH (h e₀) fun Dn σ H hw'=>by
 obtain⟨e,Ω,ρ,o,eH,r,q,k⟩:=hw'
 unfold sE at q
 cases q1:γ ρ with
 | none=>rw[q1] at q;cases q
 | some ρ' =>
  rw[q1] at q
  obtain⟨e',he,r'⟩:=hγ _ _ _ _ _ _ _ _ q1 r
  exact⟨e',Ω,ρ',o,he.trans eH,r',q,k⟩
noncomputable def frz(i:Nat):List Sl->Option (List Sl):=fun ρ=>match ρ[i]? with
 | some (.own ds)=>some (ρ.set i (.dat (.lst ds)))
 | _=>some ρ
theorem yo(i:Nat):Ml (frz i):=by
 intro K C e₀ e Ω σ ρ ρ' h r
 unfold frz at h
 cases q:ρ[i]? with
 | none=>rw[q] at h;cases h;exact⟨e,rfl,r⟩
 | some sl =>
  rw[q] at h
  cases sl with
  | und=>cases h;exact⟨e,rfl,r⟩
  | dat d=>cases h;exact⟨e,rfl,r⟩
  | own ds =>
   cases h
   obtain⟨a,vs,e1,e2,i1,n1,n2⟩:=r.rel.own i ds q
   have h0:=r.fresh i ds a q e1
   have ff:bC e.F (upd e.F a (.lst vs)):=fun b o hb=>by rw[aC (aM hb n1)];exact hb
   have fh:bC (upd e.F a (.lst vs)) e.H:=fun b o hb=>by
    by_cases hba:b=a
    ·subst hba;rw[aJ] at hb;cases hb;exact e2
    ·rw[aC hba] at hb;exact r.wf.fh b o hb
   have fn:∀b o,(upd e.F a (.lst vs)) b=some o->e.F b=some o\/b=a:=fun b o hb=>by
    by_cases hba:b=a
    ·exact .inr hba
    ·rw[aC hba] at hb;exact .inl hb
   refine⟨⟨e.α,upd e.F a (.lst vs),e.A,e.H⟩,rfl,⟨fh,fun b hb=>?_,r.wf.ah,r.wf.ol,r.wf.nd,fun n b o h1 h2=>⟨(r.wf.ob n b o h1 h2).1,(r.wf.ob n b o h1 h2).2.keep (fun u hu=>hu) ff ⟨[],by simp⟩⟩⟩,⟨by simp[r.rel.len],fun j d hj=>?_,fun j es hj=>?_,fun j k ds' es b hj hk hj' hk'=>?_⟩,⟨r.ext.fz,r.ext.hk,r.ext.dm,r.ext.ff.trans ff,fun b o hb=>?_,r.ext.an,r.ext.aa,r.ext.al⟩,fun j es b hj hj'=>?_⟩
   ·show upd e.F a _ b=none
    rw[aC (fun z=>n2 (by rw[<-z];exact hb))]
    exact r.wf.fa b hb
   ·by_cases e3:i=j
    ·subst e3
     have hl:i<ρ.length:=(List.getElem?_eq_some_iff.mp q).1
     rw[List.getElem?_set_self hl] at hj
     cases hj
     refine⟨.ref a,e1,?_⟩
     rw[Is]
     exact⟨a,vs,rfl,aJ,IsL.mono ff ⟨[],by simp⟩ ds i1⟩
    ·rw[List.getElem?_set_ne e3] at hj
     obtain⟨v,z1,z2⟩:=r.rel.dat j d hj
     exact⟨v,z1,Is.mono ff ⟨[],by simp⟩ d z2⟩
   ·have n:=jk hj
    rw[List.getElem?_set_ne n] at hj
    obtain⟨a',vs',z1,z2,z3,z4,z5⟩:=r.rel.own j es hj
    have na:a'≠a:=fun z=>n (r.rel.sep i j ds es a q hj e1 (by rw[<-z];exact z1))
    exact⟨a',vs',z1,z2,IsL.mono ff ⟨[],by simp⟩ es z3,by show upd e.F a _ a'=none;rw[aC na];exact z4,z5⟩
   ·have n:=jk hj
    have n':=jk hk
    rw[List.getElem?_set_ne n] at hj
    rw[List.getElem?_set_ne n'] at hk
    exact r.rel.sep j k ds' es b hj hk hj' hk'
   ·rcases fn b o hb with z |z
    ·exact r.ext.fn b o z
    ·subst z;exact .inr (.inl h0)
   ·have n:=jk hj
    rw[List.getElem?_set_ne n] at hj
    exact r.fresh j es b hj hj'
noncomputable def bF(i:Nat)(g:Den):aN:=fun ρ Ω=>match g ρ Ω with
 | some (d,Ω')=>some (.nx (ρ.set i (.dat d)) Ω')
 | none=>none
theorem JH{K:PySem.W.Frag}{e₀:E4}{i:Nat}{Dn:Ends}{σ:St}{H:Hp}(hw:tDS K C e₀ (bF i g) Dn σ H):Jc (tD K C g) (Dw i) Dn σ H:=by
 obtain⟨e,Ω,ρ,o,eH,r,q,k⟩:=hw
 unfold bF at q
 cases q1:g ρ Ω with
 | none=>rw[q1] at q;cases q
 | some p1 =>
  obtain⟨d,Ω'⟩:=p1
  rw[q1] at q
  cases q
  exact⟨e,Ω,ρ,d,Ω',eH,r.wf,r.rel,q1,fun v e' x' w' i'=>k e' _ ((r.to x' w').set i i')⟩
theorem bM{i:Nat}{n:Str}{pos':Pos}(hN:X.N.Nodup)(hi:X.N[i]? = some n)(hx:Loc X.env.scope n)(he:PD X C x g)(hs:swapsWith x (some (.Name n pos')) pos.line X.env=pure false:=by rfl)(hf:X.fn n=true\/X.env.scope.names.lookup n=some .local:=by first |exact .inl rfl |exact .inr rfl |assumption) :
  PDS X C (.Assign [.Name n pos'] x pos) (bF i g):=fun e₀=>di (Fy hN hi hx he hs hf) fun Dn σ H h=>JH h
noncomputable def bx(g:Den):aN:=fun ρ Ω=>match g ρ Ω with
 | some (d,Ω')=>some (.rt d Ω')
 | none=>none
theorem aO(he:PD X C x g):PDS X C (.Return (some x) pos) (bx g):=fun e₀=>di (Fw he) fun Dn σ H hw'=>by
 obtain⟨e,Ω,ρ,o,eH,r,q,k⟩:=hw'
 unfold bx at q
 cases q1:g ρ Ω with
 | none=>rw[q1] at q;cases q
 | some p1 =>
  obtain⟨d,Ω'⟩:=p1
  rw[q1] at q
  cases q
  exact⟨e,Ω,ρ,d,Ω',eH,r.wf,r.rel,q1,fun v e' x' w' i'=>k e' v (r.ext.trans x') w' i'⟩
noncomputable def sIf(p:bV)(s t:aN):aN:=fun ρ Ω=>match p ρ Ω with
 | some (true,Ω')=>s ρ Ω'
 | some (false,Ω')=>t ρ Ω'
 | none=>none
theorem bw(hc:PDT X C c p)(ha:PDB X C sts s)(hb:PDB X C sts' t):PDS X C (.If c sts sts' pos) (sIf p s t):=fun e₀=>di (Lz hc (ha e₀) (hb e₀)) fun Dn σ H hw'=>by
 obtain⟨e,Ω,ρ,o,eH,r,q,k⟩:=hw'
 unfold sIf at q
 cases q1:p ρ Ω with
 | none=>rw[q1] at q;cases q
 | some p1 =>
  obtain⟨d,Ω'⟩:=p1
  rw[q1] at q
  refine⟨e,Ω,ρ,d,Ω',eH,r.wf,r.rel,q1,fun e' x' w'=>?_⟩
  cases d with
  | true=>rw[if_pos rfl];exact⟨e',Ω',ρ,o,rfl,r.to x' w',q,k⟩
  | false=>rw[if_neg (by decide)];exact⟨e',Ω',ρ,o,rfl,r.to x' w',q,k⟩
noncomputable def cV(g:Den):aN:=fun ρ Ω=>match g ρ Ω with
 | some (_,Ω')=>some (.nx ρ Ω')
 | none=>none
theorem dO(he:PD X C x g)(hs:swapsWith x none pos.line X.env=pure false:=by rfl):PDS X C (.Expr x pos) (cV g):=fun e₀=>di (tW he hs) fun Dn σ H hw'=>by
 obtain⟨e,Ω,ρ,o,eH,r,q,k⟩:=hw'
 unfold cV at q
 cases q1:g ρ Ω with
 | none=>rw[q1] at q;cases q
 | some p1 =>
  obtain⟨d,Ω'⟩:=p1
  rw[q1] at q
  cases q
  exact⟨e,Ω,ρ,d,Ω',eH,r.wf,r.rel,q1,fun v e' x' w' i'=>k e' σ (r.to x' w')⟩
noncomputable def kj:aN:=fun _ _=>none
theorem iZ:PDS X C st kj:=fun e₀=>di Ja fun Dn σ H hw'=>by obtain⟨e,Ω,ρ,o,eH,r,q,k⟩:=hw';cases q
noncomputable def wO(i:Nat)(g:bA):aN:=fun ρ Ω=>match g ρ Ω with
 | some (ds,Ω')=>if ds.length<=big then some (.nx (ρ.set i (.own ds)) Ω') else none
 | none=>none
theorem wQ{i:Nat}{n:Str}{pos' lp:Pos}{es:List Expr}{ga:bA}(hN:X.N.Nodup)(hi:X.N[i]? = some n)(hx:Loc X.env.scope n)(he:PDA X C es ga)(hs:swapsWith (.List es lp) (some (.Name n pos')) pos.line X.env=pure false:=by rfl)(hf:X.fn n=true\/X.env.scope.names.lookup n=some .local:=by first |exact .inl rfl |exact .inr rfl |assumption) :
  PDS X C (.Assign [.Name n pos'] (.List es lp) pos) (wO i ga):=fun e₀=>di (Fy hN hi hx (vq he) hs hf) fun Dn σ H hw'=>by
 obtain⟨e,Ω,ρ,o,eH,r,q,k⟩:=hw'
 unfold wO at q
 cases q1:ga ρ Ω with
 | none=>rw[q1] at q;cases q
 | some p1 =>
  obtain⟨ds,Ω'⟩:=p1
  rw[q1] at q
  dsimp only at q
  split at q
  ·rename_i hl
   cases q
   refine⟨e,Ω,ρ,ds,Ω',eH,r.wf,r.rel,q1,fun vs e' x' w' i'=>⟨by rw[<-i'.length];exact gM hl,fun a ha=>?_⟩⟩
   have r':=r.to x' w'
   have hne:∀b u,e'.H b=some u->b≠a:=fun b u hb=>aM hb ha
   have hF:e'.F a=none:=w'.nF ha
   have hA:¬e'.A a:=fun z=>(w'.ah a z).1 ha
   have own1:∀(j:Nat) (es:List D),(ρ.set i (.own ds))[j]? = some (.own es)->(j=i/\es=ds/\i<ρ.length)\/(j≠i/\ρ[j]? = some (.own es)):=fun j es hj=>by
    by_cases e1:i=j
    ·subst e1
     have hl:i<ρ.length:=by
      have:=(List.getElem?_eq_some_iff.mp hj).1
      simpa using this
     rw[List.getElem?_set_self hl] at hj
     cases hj
     exact .inl ⟨rfl,rfl,hl⟩
    ·rw[List.getElem?_set_ne e1] at hj
     exact .inr ⟨fun z=>e1 z.symm,hj⟩
   refine k ⟨e'.α,e'.F,e'.A,upd e'.H a (.lst vs)⟩ _ ⟨⟨fun b u hb=>?_,w'.fa,fun b hb=>?_,w'.ol,w'.nd,fun n b u h1 h2=>⟨(w'.ob n b u h1 h2).1,(w'.ob n b u h1 h2).2.keep (fun z hz=>?_) (bC.refl _) ⟨[],by simp⟩⟩⟩,⟨by simp[r'.rel.len],fun j d hj=>?_,fun j es hj=>?_,fun j m es fs b hj hm h1 h2=>?_⟩,⟨fun b o' u hb=>by show upd e'.H a _ b=some (.frz o' u);rw[aC (hne b _ (r'.ext.fz b o' u hb))];exact r'.ext.fz b o' u hb,fun b u hb hn=>?_,fun b u hb=>?_,r'.ext.ff,r'.ext.fn,r'.ext.an,r'.ext.aa,r'.ext.al⟩,fun j es b hj h1=>?_⟩
   ·show upd e'.H a _ b=some u
    rw[aC (hne b u (w'.fh b u hb))];exact w'.fh b u hb
   ·show upd e'.H a _ b≠none/\∀xs,upd e'.H a _ b≠some (.tup xs)
    rw[aC (fun z=>hA (by rw[<-z];exact hb))];exact w'.ah b hb
   ·show upd e'.H a _ b=some z
    rw[aC (hne b z hz)];exact hz
   ·have n:i≠j:=fun e1=>by
     subst e1
     have hl:i<ρ.length:=by
      have:=(List.getElem?_eq_some_iff.mp hj).1
      simpa using this
     rw[List.getElem?_set_self hl] at hj
     cases hj
    rw[List.getElem?_set_ne n] at hj ⊢
    exact r'.rel.dat j d hj
   ·rcases own1 j es hj with⟨rfl,rfl,hq⟩ |⟨n,hj'⟩
    ·exact⟨a,vs,List.getElem?_set_self (by rw[r'.rel.len];exact hq),aJ,i',hF,hA⟩
    ·obtain⟨b,us,z1,z2,z3,z4,z5⟩:=r'.rel.own j es hj'
     exact⟨b,us,by rw[List.getElem?_set_ne n.symm];exact z1,by show upd e'.H a _ b=_;rw[aC (hne b _ z2)];exact z2,z3,z4,z5⟩
   ·rcases own1 j es hj with⟨rfl,rfl,hq⟩ |⟨n,hj'⟩
    ·rcases own1 m fs hm with⟨rfl,_,_⟩ |⟨n',hm'⟩
     ·rfl
     ·rw[List.getElem?_set_self (by rw[r'.rel.len];exact hq)] at h1
      rw[List.getElem?_set_ne n'.symm] at h2
      obtain⟨b',us,z1,z2,_⟩:=r'.rel.own m fs hm'
      rw[h2] at z1
      cases h1
      cases z1
      exact absurd rfl (hne _ _ z2)
    ·rcases own1 m fs hm with⟨rfl,_,hq⟩ |⟨n',hm'⟩
     ·rw[List.getElem?_set_self (by rw[r'.rel.len];exact hq)] at h2
      rw[List.getElem?_set_ne n.symm] at h1
      obtain⟨b',us,z1,z2,_⟩:=r'.rel.own j es hj'
      rw[h1] at z1
      cases h2
      cases z1
      exact absurd rfl (hne _ _ z2)
     ·rw[List.getElem?_set_ne n.symm] at h1
      rw[List.getElem?_set_ne n'.symm] at h2
      exact r'.rel.sep j m es fs b hj' hm' h1 h2
   ·show upd e'.H a _ b=some u
    have z:=r'.ext.hk b u hb hn
    rw[aC (hne b u z)];exact z
   ·obtain⟨u',z⟩:=r'.ext.dm b u hb
    exact⟨u',by show upd e'.H a _ b=some u';rw[aC (hne b u' z)];exact z⟩
   ·rcases own1 j es hj with⟨rfl,rfl,hq⟩ |⟨n,hj'⟩
    ·rw[List.getElem?_set_self (by rw[r'.rel.len];exact hq)] at h1
     cases h1
     exact r'.ext.back ha
    ·rw[List.getElem?_set_ne n.symm] at h1
     exact r'.fresh j es b hj' h1
  ·cases q
noncomputable def pW(i:Nat)(g:Den):aN:=fun ρ Ω=>match g ρ Ω with
 | some (d,Ω')=>match ρ[i]? with
  | some (.own ds)=>if ds.length<big then some (.nx (ρ.set i (.own (ds++[d]))) Ω') else none
  | _=>none
 | none=>none
theorem JK{K:PySem.W.Frag}{e₀:E4}{i:Nat}{Dn:Ends}{σ:St}{H:Hp}(hw:tDS K C e₀ (pW i g) Dn σ H) :
  Ly (tBM K "list" Cr (wH i) (zj (tD K C g) zu)) Dn σ H:=by
 obtain⟨e,Ω,ρ,o,eH,r,q,k⟩:=hw
 subst eH
 unfold pW at q
 cases q1:g ρ Ω with
 | none=>rw[q1] at q;cases q
 | some p1 =>
  obtain⟨d,Ω'⟩:=p1
  rw[q1] at q
  dsimp only at q
  cases q2:ρ[i]? with
  | none=>rw[q2] at q;cases q
  | some sl =>
   rw[q2] at q
   cases sl with
   | own ds =>
    dsimp only at q
    split at q
    ·rename_i hl
     cases q
     obtain⟨a,vs,e1,e2,i1,n1,n2⟩:=r.rel.own i ds q2
     refine⟨.ref a,e1,.inl ⟨rfl,_,SqL.of e2⟩,?_⟩
     refine⟨e,Ω,ρ,d,Ω',rfl,r.wf,r.rel,q1,fun v e' x' w' i'=>?_⟩
     have r':=r.to x' w'
     obtain⟨a',vs',e1',e2',i1',n1',n2'⟩:=r'.rel.own i ds q2
     rw[e1] at e1'
     cases e1'
     refine⟨a,vs',v,rfl,rfl,e2',by rw[<-i1'.length];exact nZ hl,?_⟩
     have hil:i<ρ.length:=(List.getElem?_eq_some_iff.mp q2).1
     have neH:∀(j:Nat) (es:List D) (b:Addr),j≠i->ρ[j]? = some (.own es)->σ[j]? = some (some (.ref b))->b≠a:=fun j es b n hj h1 z=>by
      subst z
      exact n (r'.rel.sep j i es ds b hj q2 h1 e1)
     have own1:∀(j:Nat) (es:List D),(ρ.set i (.own (ds++[d])))[j]? = some (.own es)->(j=i/\es=ds++[d])\/(j≠i/\ρ[j]? = some (.own es)):=fun j es hj=>by
      by_cases e3:i=j
      ·subst e3
       rw[List.getElem?_set_self hil] at hj
       cases hj
       exact .inl ⟨rfl,rfl⟩
      ·rw[List.getElem?_set_ne e3] at hj
       exact .inr ⟨fun z=>e3 z.symm,hj⟩
     refine k ⟨e'.α,e'.F,e'.A,upd e'.H a (.lst (vs'++[v]))⟩ σ ⟨⟨fun b u hb=>?_,w'.fa,fun b hb=>?_,w'.ol,w'.nd,fun n b u h1 h2=>⟨(w'.ob n b u h1 h2).1,(w'.ob n b u h1 h2).2.keep (fun z hz=>?_) (bC.refl _) ⟨[],by simp⟩⟩⟩,⟨by simp[r'.rel.len],fun j d' hj=>?_,fun j es hj=>?_,fun j m es fs b hj hm h1 h2=>?_⟩,⟨fun b o' u hb=>by have q:=r'.ext.fz b o' u hb;show upd e'.H a _ b=some (.frz o' u);rw[aC (fun z=>by rw[z,e2'] at q;cases q)];exact q,fun b u hb hn=>?_,fun b u hb=>?_,r'.ext.ff,r'.ext.fn,r'.ext.an,r'.ext.aa,r'.ext.al⟩,fun j es b hj h1=>?_⟩
     ·show upd e'.H a _ b=some u
      rw[aC (fun z=>by subst z;rw[n1'] at hb;cases hb)]
      exact w'.fh b u hb
     ·show upd e'.H a _ b≠none/\∀xs,upd e'.H a _ b≠some (.tup xs)
      rw[aC (fun z=>n2' (by rw[<-z];exact hb))]
      exact w'.ah b hb
     ·show upd e'.H a _ b=some z
      rw[aC (fun y=>n2' (by rw[<-y];exact(w'.ob n b u h1 h2).1))]
      exact hz
     ·have n:i≠j:=fun e3=>by
       subst e3
       rw[List.getElem?_set_self hil] at hj
       cases hj
      rw[List.getElem?_set_ne n] at hj
      exact r'.rel.dat j d' hj
     ·rcases own1 j es hj with⟨rfl,rfl⟩ |⟨n,hj'⟩
      ·exact⟨a,_,e1,aJ,i1'.append (.cons i' .nil),n1',n2'⟩
      ·obtain⟨b,us,z1,z2,z3,z4,z5⟩:=r'.rel.own j es hj'
       exact⟨b,us,z1,by show upd e'.H a _ b=_;rw[aC (neH j es b n hj' z1)];exact z2,z3,z4,z5⟩
     ·rcases own1 j es hj with⟨rfl,_⟩ |⟨n,hj'⟩
      ·rcases own1 m fs hm with⟨rfl,_⟩ |⟨n',hm'⟩
       ·rfl
       ·exact r'.rel.sep _ m ds fs b q2 hm' h1 h2
      ·rcases own1 m fs hm with⟨rfl,_⟩ |⟨n',hm'⟩
       ·exact r'.rel.sep j _ es ds b hj' q2 h1 h2
       ·exact r'.rel.sep j m es fs b hj' hm' h1 h2
     ·show upd e'.H a _ b=some u
      have h0:=r'.fresh i ds a q2 e1
      rw[aC (aM hb h0)]
      exact r'.ext.hk b u hb hn
     ·have h0:=r'.fresh i ds a q2 e1
      obtain⟨u',z⟩:=r'.ext.dm b u hb
      exact⟨u',by show upd e'.H a _ b=some u';rw[aC (aM hb h0)];exact z⟩
     ·rcases own1 j es hj with⟨rfl,_⟩ |⟨n,hj'⟩
      ·exact r'.fresh _ ds b q2 h1
      ·exact r'.fresh j es b hj' h1
    ·cases q
   | und=>cases q
   | dat _=>cases q
end
end DL
namespace DL
open PySem PySem.Spec PyProof.Rows L2
open Classical in
noncomputable def hid(P:Addr->Prop)(H:Hp):Hp:=fun b=>if P b then none else H b
theorem CK{P:Addr->Prop}{H:Hp}{b:Addr}(h:P b):hid P H b=none:=if_pos h
theorem t_{P:Addr->Prop}{H:Hp}{b:Addr}(h:¬P b):hid P H b=H b:=if_neg h
theorem qW{P:Addr->Prop}{H:Hp}{b:Addr}{o:HO}(h:hid P H b=some o):H b=some o:=by
 by_cases q:P b
 ·rw[CK q] at h;cases h
 ·rw[t_ q] at h;exact h
section
variable {K:PySem.W.Frag} {C:Cl} {e₀ e e':E4} {Ω Ω':List OS} {σ:St} {ρ:List Sl}
theorem RelS.mark(r:RelS K C e₀ e Ω σ ρ):∃e₁:E4,e₁.F=e.F/\e₁.α=e.α/\RelS K C e₁ e Ω σ ρ/\(∀e',Ext e₁ e'->Ext e₀ e')/\(∀b,e₁.H b=none->e₀.H b=none)/\∀b o u,e.H b=some (.frz o u)->e₁.H b=some (.frz o u):=by
 have ho:∀b,(∃(i:Nat) (ds:List D),ρ[i]? = some (Sl.own ds)/\σ[i]? = some (some (V.ref b)))->e₀.H b=none:=fun b ⟨i,ds,h1,h2⟩=>r.fresh i ds b h1 h2
 generalize hP:(fun b:Addr=>∃(i:Nat) (ds:List D),ρ[i]? = some (Sl.own ds)/\σ[i]? = some (some (V.ref b)))=P
 have ho':∀b,P b->e₀.H b=none:=fun b h=>ho b (by rw[<-hP] at h;exact h)
 have hno:∀b,hid P e.H b=none->e₀.H b=none:=fun b h=>by
  by_cases q:P b
  ·exact ho' b q
  ·rw[t_ q] at h;exact r.ext.back h
 have hs:∀b o,e₀.H b=some o->hid P e.H b=e.H b:=fun b o h=>t_ (fun q=>by rw[ho' b q] at h;cases h)
 refine⟨⟨e.α,e.F,e.A,hid P e.H⟩,rfl,rfl,⟨r.wf,r.rel,⟨fun b o u h=>qW h,fun b o h _=>qW h,fun b o h=>⟨o,qW h⟩,bC.refl _,fun b o h=>.inl h,fun b h=>.inl h,fun b h=>h,[],by simp⟩,fun i ds a h1 h2=>?_⟩,fun e' x=>⟨fun b o u h=>x.fz b o u ((hs b _ h).trans (r.ext.fz b o u h)),fun b o h hn=>?_,fun b o h=>?_,r.ext.ff.trans x.ff,fun b o h=>?_,fun b h=>?_,fun b h=>x.aa b (r.ext.aa b h),?_⟩,hno,fun b o u h=>(t_ (fun q=>?_)).trans h⟩
 ·exact CK (by rw[<-hP];exact⟨i,ds,h1,h2⟩)
 ·have z:=r.ext.hk b o h hn
  refine x.hk b o ((hs b o h).trans z) fun hA=>?_
  rcases r.ext.an b hA with q |q
  ·exact hn q
  ·rw[q] at h;cases h
 ·obtain⟨o',z⟩:=r.ext.dm b o h
  exact x.dm b o' ((hs b o h).trans z)
 ·rcases x.fn b o h with q |q |⟨q1,q2,q3⟩
  ·exact r.ext.fn b o q
  ·exact .inr (.inl (hno b q))
  ·have n:¬e₀.A b:=fun z=>q3 (r.ext.aa b z)
   cases z:e₀.H b with
   | none=>exact .inr (.inl rfl)
   | some o' =>
    have z':=r.ext.hk b o' z n
    rw[qW q2] at z'
    cases z'
    exact .inr (.inr ⟨q1,rfl,n⟩)
 ·rcases x.an b h with q |q
  ·exact r.ext.an b q
  ·exact .inr (hno b q)
 ·obtain⟨m,e1⟩:=r.ext.al
  obtain⟨n,e2⟩:=x.al
  exact⟨m++n,by rw[e2];show e.α++n=_;rw[e1,List.append_assoc]⟩
 ·rw[<-hP] at q
  obtain⟨i,ds,h1,h2⟩:=q
  obtain⟨a',vs,e1,e2,_⟩:=r.rel.own i ds h1
  rw[h2] at e1
  cases e1
  rw[h] at e2
  cases e2
end
noncomputable abbrev dG:=D->List Sl->Option (List Sl)
noncomputable def tDG(K:PySem.W.Frag)(C:Cl)(β:dG):TG:=fun v σ H Q=>∃e Ω ρ d ρ',e.H=H/\Wf K C e Ω/\RelE K e σ ρ/\Is K e.α e.F d v/\β d ρ=some ρ' /\
 ∀σ',RelE K e σ' ρ'->(∀(j:Nat) (ds:List D),ρ'[j]? = some (.own ds)->ρ[j]? = some (.own ds)/\σ'[j]? = σ[j]?)->Q σ' e.H
noncomputable def PDG(X:Cx)(C:Cl)(tg:Expr)(β:dG):Prop:=PG X tg (tDG X.K C β)
theorem Gw{X:Cx}{tg:Expr}{t t':TG}(h:PG X tg t)(i:∀v σ H Q,t' v σ H Q->t v σ H Q):PG X tg t':=fun pins s σ H v u Q I r hw=>h pins s σ H v u Q I r (i v σ H Q hw)
theorem CN{X:Cx}{ts:List Expr}{t t':TGs}(h:PGs X ts t)(i:∀v σ H Q,t' v σ H Q->t v σ H Q):PGs X ts t':=fun pins s σ H v u Q I r hw=>h pins s σ H v u Q I r (i v σ H Q hw)
noncomputable def bT(i:Nat):dG:=fun d ρ=>some (ρ.set i (.dat d))
theorem CP{ρ:List Sl}{σ:St}{i:Nat}{d:D}{v:V}(j:Nat)(ds:List D)(h:(ρ.set i (.dat d))[j]? = some (.own ds)):ρ[j]? = some (.own ds)/\(σ.set i (some v))[j]? = σ[j]?:=by
 have n:=jk h
 rw[List.getElem?_set_ne n] at h
 exact⟨h,List.getElem?_set_ne n⟩
section
variable {X:Cx} {C:Cl} {pos:Pos}
theorem e_{i:Nat}{x:Str}(hN:X.N.Nodup)(hi:X.N[i]? = some x)(hx:Loc X.env.scope x)(hf:X.fn x=true\/X.env.scope.names.lookup x=some .local:=by first |exact .inl rfl |exact .inr rfl |assumption):PDG X C (.Name x pos) (bT i) :=
 Gw (Ck hN hi hx hf) fun v σ H Q hw'=>by
  obtain⟨e,Ω,ρ,d,ρ',eH,w,r,is,b,k⟩:=hw'
  subst eH
  cases b
  exact k _ (r.set i is) CP
noncomputable def sG:List Nat->List D->List Sl->Option (List Sl)
 | [],[],ρ=>some ρ
 | i::is,d::ds,ρ=>sG is ds (ρ.set i (.dat d))
 | _,_,_=>none
noncomputable def Vv(K:PySem.W.Frag)(C:Cl)(is:List Nat):TGs:=fun vs σ H Q=>∃e Ω ρ ds ρ',e.H=H/\Wf K C e Ω/\RelE K e σ ρ/\IsL K e.α e.F ds vs/\sG is ds ρ=some ρ' /\
 ∀σ',RelE K e σ' ρ'->(∀(j:Nat) (ds:List D),ρ'[j]? = some (.own ds)->ρ[j]? = some (.own ds)/\σ'[j]? = σ[j]?)->Q σ' e.H
noncomputable def Eb(X:Cx)(C:Cl)(ts:List Expr)(is:List Nat):Prop:=PGs X ts (Vv X.K C is)
theorem oh:Eb X C [] []:=CN Ng fun vs σ H Q hw'=>by
 obtain⟨e,Ω,ρ,ds,ρ',eH,w,r,is,b,k⟩:=hw'
 subst eH
 cases ds with
 | nil=>cases b;exact⟨is.of_nil,k _ r fun _ _ h=>⟨h,rfl⟩⟩
 | cons=>cases b
theorem dz{i:Nat}{is:List Nat}{x:Str}{ts:List Expr}{px:Pos}(hN:X.N.Nodup)(hi:X.N[i]? = some x)(hx:Loc X.env.scope x)(h2:Eb X C ts is)(hf:X.fn x=true\/X.env.scope.names.lookup x=some .local:=by first |exact .inl rfl |exact .inr rfl |assumption)
  (hs:(assignEach (.Name x px::ts) X.env).map (·.2)=assign (.Name x px) X.env::(assignEach ts X.env).map (·.2):=by rfl):Eb X C (.Name x px::ts) (i::is):=by
 refine CN (Jb (Ck hN hi hx hf) h2 hs) fun vs σ H Q hw'=>?_
 obtain⟨e,Ω,ρ,ds,ρ',eH,w,r,il,b,k⟩:=hw'
 subst eH
 cases ds with
 | nil=>cases b
 | cons d ds =>
  obtain⟨v,vr,rfl,i1,i2⟩:=il.of_cons
  refine⟨v,vr,rfl,?_⟩
  refine⟨e,Ω,_,ds,ρ',rfl,w,r.set i i1,i2,b,fun σ' r' o'=>k σ' r' fun j es hj=>?_⟩
  obtain⟨z1,z2⟩:=o' j es hj
  obtain⟨y1,y2⟩:=CP (σ:=σ) (v:=v) j es z1
  exact⟨y1,z2.trans y2⟩
noncomputable def jx(is:List Nat):dG:=fun d ρ=>match d with
 | .tup ds=>sG is ds ρ
 | _=>none
theorem vG:∀{is:List Nat} {ds:List D} {ρ ρ':List Sl},sG is ds ρ=some ρ'->ds.length=is.length
 | [],[],_,_,_=>rfl
 | i::is,d::ds,ρ,ρ',h=>by
  rw[List.length_cons,List.length_cons,vG (is:=is) (ds:=ds) h]
 | [],_::_,_,_,h=>by cases h
 | _::_,[],_,_,h=>by cases h
theorem qp{es:List Expr}{k:Nat}{is:List Nat}(hc:X.calm=true)(h:Eb X C es is)
  (hn:(assignEach es X.env).length=is.length:=by rfl) (hst:(assignEach es X.env).findIdx? (·.1)=none:=by rfl):PDG X C (.Tuple es k pos) (jx is):=by
 refine Gw (QX hc h hn hst) fun v σ H Q hw'=>?_
 obtain⟨e,Ω,ρ,d,ρ',eH,w,r,il,b,k⟩:=hw'
 subst eH
 unfold jx at b
 cases d with
 | tup ds =>
  rw[Is] at il
  obtain⟨a,vs,rfl,e1,i1⟩:=il
  exact⟨a,vs,rfl,SqT.of (w.fh _ _ e1),by rw[<-i1.length];exact vG b,e,Ω,ρ,ds,ρ',rfl,w,r,i1,b,k⟩
 | _=>cases b
noncomputable def sH(β:dG)(g:Den):aN:=fun ρ Ω=>match g ρ Ω with
 | some (d,Ω')=>match β d ρ with
  | some ρ'=>some (.nx ρ' Ω')
  | none=>none
 | none=>none
theorem RelS.by{K:PySem.W.Frag}{e₀ e:E4}{Ω:List OS}{σ σ':St}{ρ ρ':List Sl}(r:RelS K C e₀ e Ω σ ρ)(r':RelE K e σ' ρ')(o:∀(j:Nat) (ds:List D),ρ'[j]? = some (.own ds)->ρ[j]? = some (.own ds)/\σ'[j]? = σ[j]?):RelS K C e₀ e Ω σ' ρ' :=
 ⟨r.wf,r',r.ext,fun i ds a h1 h2=>by
  obtain⟨z1,z2⟩:=o i ds h1
  rw[z2] at h2
  exact r.fresh i ds a z1 h2⟩
theorem wR{tg x:Expr}{β:dG}{g:Den}(he:PD X C x g)(hg:PDG X C tg β)(hs:swapsWithSole [tg] x pos.line X.env=pure false:=by rfl)(hw:swappedStores [tg] x X.env=pure none:=by rfl)
  (h1:(assignEach [tg] X.env).map (·.2)=[assign tg X.env]:=by rfl):PDS X C (.Assign [tg] x pos) (sH β g):=by
 refine fun e₀=>di (QZ he hg hs hw h1) fun Dn σ H hw'=>?_
 obtain⟨e,Ω,ρ,o,eH,r,q,k⟩:=hw'
 unfold sH at q
 cases q1:g ρ Ω with
 | none=>rw[q1] at q;cases q
 | some p1 =>
  obtain⟨d,Ω'⟩:=p1
  rw[q1] at q
  dsimp only at q
  cases q2:β d ρ with
  | none=>rw[q2] at q;cases q
  | some ρ' =>
   rw[q2] at q
   cases q
   refine⟨e,Ω,ρ,d,Ω',eH,r.wf,r.rel,q1,fun v e' x' w' i'=>?_⟩
   have r':=r.to x' w'
   exact⟨e',Ω',ρ,d,ρ',rfl,w',r'.rel,i',q2,fun σ' z o'=>k e' σ' (r'.by z o')⟩
end
noncomputable def Walk(K:PySem.W.Frag)(e:E4)(J:It)(ds:List D):Prop:=∀(i:Nat) (e2:E4),bC e.F e2.F->(∃more,e2.α=e.α++more)->bC e2.F e2.H ->
 (i=ds.length->J.stop i e2.H)/\∀d,ds[i]? = some d->J.go i e2.H/\∀x H',J.yld i e2.H x H'->∃e3:E4,e3.H=H'/\Is K e3.α e3.F d x/\∀(C:Cl) (Ω:List OS),Wf K C e2 Ω->Ext e2 e3/\Wf K C e3 Ω
theorem Walk.still{K:PySem.W.Frag}{e:E4}{J:It}{ds:List D} (h:∀(i:Nat) (e2:E4),bC e.F e2.F->(∃more,e2.α=e.α++more)->bC e2.F e2.H ->
  (i=ds.length->J.stop i e2.H)/\∀d,ds[i]? = some d->J.go i e2.H/\∀x H',J.yld i e2.H x H'->H'=e2.H/\Is K e2.α e2.F d x):Walk K e J ds:=fun i e2 h1 h2 h3=>by
 obtain⟨a,b⟩:=h i e2 h1 h2 h3
 refine⟨a,fun d hd=>⟨(b d hd).1,fun x H' hy=>?_⟩⟩
 obtain⟨z,q⟩:=(b d hd).2 x H' hy
 exact⟨e2,z.symm,q,fun C Ω w=>⟨Ext.refl _,w⟩⟩
noncomputable def tDI(K:PySem.W.Frag)(C:Cl)(γ:bA):TI:=fun σ H R=>∃e Ω ρ ds Ω',e.H=H/\Wf K C e Ω/\RelE K e σ ρ/\γ ρ Ω=some (ds,Ω')/\∀e' J,Ext e e'->Wf K C e' Ω'->Walk K e' J ds->R J e'.H
noncomputable def PDI(X:Cx)(C:Cl)(tg iter:Expr)(γ:bA):Prop:=PI X tg iter (tDI X.K C γ)
theorem zJ{X:Cx}{tg iter:Expr}{t t':TI}(h:PI X tg iter t)(i:∀σ H R,t' σ H R->t σ H R):PI X tg iter t':=fun pins s σ H R I hw=>h pins s σ H R I (i σ H R hw)
section
variable {X:Cx} {C:Cl} {tg iter:Expr} {g:Den} {ga:bA} {pos p:Pos}
noncomputable def JL:D->Option (List D)
 | .lst xs=>some xs
 | .scr ns=>some (ns.map D.int)
 | _=>none
noncomputable def fj(g:Den):bA:=fun ρ Ω=>match g ρ Ω with
 | some (d,Ω')=>match JL d with
  | some ds=>some (ds,Ω')
  | none=>none
 | none=>none
theorem yp{K:PySem.W.Frag}{e:E4}{a:Addr}{vs:List V}{ds:List D}(h:SqL K e.F a vs)(r:IsL K e.α e.F ds vs):Walk K e (Itl K a) ds:=by
 refine Walk.still ?_
 intro i e2 ff al fh
 have h2:SqL K e2.H a vs:=fh.seq (ff.seq h)
 refine⟨fun z=>⟨vs,h2,by rw[<-r.length];exact Nat.le_of_eq z.symm⟩,fun d hd=>?_⟩
 obtain⟨v,hv,iv⟩:=(IsL.mono ff al ds r).get hd
 exact⟨⟨vs,v,h2,hv⟩,fun x H' ⟨z1,z2⟩=>⟨z1,by
  have:=z2 vs h2
  rw[hv] at this
  cases this
  exact iv⟩⟩
theorem i_(h:PD X C iter g):PDI X C tg iter (fj g):=zJ (Cm h) fun σ H R hw'=>by
 obtain⟨e,Ω,ρ,ds,Ω',eH,w,rl,q,k⟩:=hw'
 unfold fj at q
 cases q1:g ρ Ω with
 | none=>rw[q1] at q;cases q
 | some p1 =>
  obtain⟨d,Ω1⟩:=p1
  rw[q1] at q
  dsimp only at q
  refine⟨e,Ω,ρ,d,Ω1,eH,w,rl,q1,fun v e' x' w' i'=>?_⟩
  cases d with
  | lst xs =>
   cases q
   rw[Is] at i'
   obtain⟨a,vs,rfl,h1,r1⟩:=i'
   exact⟨a,rfl,⟨vs,SqL.of (w'.fh _ _ h1)⟩,k e' _ x' w' (yp (SqL.of h1) r1)⟩
  | scr ns =>
   cases q
   rw[Is] at i'
   obtain⟨a,rfl,h1⟩:=i'
   exact⟨a,rfl,⟨_,w'.fh.seq h1⟩,k e' _ x' w' (yp h1 (IsL.ints ns))⟩
  | _=>cases q
theorem Ui{K:PySem.W.Frag}{H H':Hp}{a:Addr}{xs:List V}(e:bC H H')(h:SqT K H a xs):SqT K H' a xs:=by
 rcases h with (h |⟨o,h⟩) |h
 ·exact .inl (.inl (e _ _ h))
 ·exact .inl (.inr ⟨o,e _ _ h⟩)
 ·exact .inr h
noncomputable def upD(lo:Int)(n:Nat):List D:=(List.range n).map fun(k:Nat)=>D.int (lo+(k:Int))
theorem Ec{K:PySem.W.Frag}{e:E4}{lo:Int}{n:Nat}:Walk K e (Itr lo n) (upD lo n):=by
 refine Walk.still ?_
 intro i e2 _ _ _
 refine⟨fun z=>Nat.le_of_eq (by rw[z];simp[upD]),fun d hd=>?_⟩
 have hi:i<n:=by
  have:=(List.getElem?_eq_some_iff.mp hd).1
  simpa [upD] using this
 refine⟨hi,fun x H' ⟨z1,z2⟩=>⟨z1,?_⟩⟩
 have:d=D.int (lo+(i:Int)):=by
  simp[upD,hi] at hd
  exact hd.symm
 subst this z2
 rw[Is]
noncomputable def lQ:List D->Option (List D)
 | [.int j]=>grd (-(2 ^ 62)<=j/\j<2 ^ 62) (some (upD 0 j.toNat))
 | _=>none
noncomputable def kE(r:List D->Option (List D))(g:bA):bA:=fun ρ Ω=>match g ρ Ω with
 | some (ds,Ω')=>match r ds with
  | some es=>some (es,Ω')
  | none=>none
 | none=>none
theorem qX{a:Expr}(hg:Gl X "range")(hm:X.mg "range" = none)(ha:PDA X C [a] ga)(hs:starEach [a] X.env=[(false,eval a X.env)]:=by rfl):PDI X C tg (.Call (.Name "range" p) [a] [] pos) (kE lQ ga) :=
 zJ (FJ hg hm ha hs) fun σ H R hw'=>by
  obtain⟨e,Ω,ρ,ds,Ω',eH,w,rl,q,k⟩:=hw'
  unfold kE at q
  cases q1:ga ρ Ω with
  | none=>rw[q1] at q;cases q
  | some p1 =>
   obtain⟨es,Ω1⟩:=p1
   rw[q1] at q
   dsimp only at q
   refine⟨e,Ω,ρ,es,Ω1,eH,w,rl,q1,fun v e' x' w' i'=>?_⟩
   match es,q,i' with
   | [.int j],q,i' =>
    obtain⟨v,rfl,iv⟩:=gB i'
    rw[Is] at iv
    subst iv
    have ez:lQ [D.int j]=grd (-(2 ^ 62)<=j/\j<2 ^ 62) (some (upD 0 j.toNat)):=rfl
    rw[ez] at q
    by_cases hb:(-(2 ^ 62)<=j/\j<2 ^ 62)
    ·rw[gA hb] at q
     cases q
     exact⟨j,rfl,hb.1,hb.2,k e' _ x' w' Ec⟩
    ·have en:grd (-(2 ^ 62)<=j/\j<2 ^ 62) (some (upD 0 j.toNat))=none:=if_neg hb
     rw[en] at q
     cases q
end
noncomputable def jb(β:dG)(s:aN):List D->aN
 | [],ρ,Ω=>some (.nx ρ Ω)
 | d::ds,ρ,Ω=>match β d ρ with
  | some ρ1=>match s ρ1 Ω with
   | some (.nx ρ' Ω')=>jb β s ds ρ' Ω'
   | some (.ct ρ' Ω')=>jb β s ds ρ' Ω'
   | some (.bk ρ' Ω')=>some (.nx ρ' Ω')
   | some (.rt z Ω')=>some (.rt z Ω')
   | none=>none
  | none=>none
noncomputable def mO(γ:bA)(β:dG)(s:aN):aN:=fun ρ Ω=>match γ ρ Ω with
 | some (ds,Ω')=>jb β s ds ρ Ω'
 | none=>none
section
variable {X:Cx} {C:Cl} {tg iter c:Expr} {γ:bA} {β:dG} {s:aN} {body:List Stmt} {pos:Pos} {p:bV}
theorem Gx{sts:List Stmt}(h:PDB X C sts s):PSs X sts (fun Dn σ H=>∃e₁,tDS X.K C e₁ s Dn σ H):=fun pins sh σ H Dn I ⟨e₁,hw⟩=>h e₁ pins sh σ H Dn I hw
theorem qt(hp:PassesOwn (model X.prog X.w) X.A X.env X.xe)(hc:X.calm=true)(hi:PDI X C tg iter γ)(hg:PDG X C tg β)(hb:PDB X C body s)
  (hs:∀x,foldedSetIterable iter X.env x=pure x:=by intro _;rfl):PDS X C (.For tg iter body [] pos) (mO γ β s):=by
 refine fun e₀=>di (Rc hp hc hi hg (Gx hb) hs) fun Dn σ H hw'=>?_
 obtain⟨e,Ω,ρ,o,eH,r,q,k⟩:=hw'
 unfold mO at q
 cases q1:γ ρ Ω with
 | none=>rw[q1] at q;cases q
 | some p1 =>
  obtain⟨ds,Ω'⟩:=p1
  rw[q1] at q
  dsimp only at q
  refine⟨e,Ω,ρ,ds,Ω',eH,r.wf,r.rel,q1,fun e' J x' w' wk=>?_⟩
  refine⟨fun i m σ H=>m=ds.length-i/\i<=ds.length/\∃e2 Ω2 ρ2,e2.H=H/\RelS X.K C e₀ e2 Ω2 σ ρ2/\bC e'.F e2.F/\(∃more,e2.α=e'.α++more)/\jb β s (ds.drop i) ρ2 Ω2=some o,⟨ds.length,by simp,Nat.zero_le _,e',Ω',ρ,rfl,r.to x' w',bC.refl _,⟨[],by simp⟩,by simpa using q⟩,?_⟩
  rintro i m σ2 H2 ⟨rfl,hil,e2,Ω2,ρ2,rfl,r2,ff,al,q2⟩
  obtain⟨stop,go⟩:=wk i e2 ff al r2.wf.fh
  by_cases hlt:i<ds.length
  ·have hd:ds[i]? = some ds[i]:=List.getElem?_eq_getElem hlt
   obtain⟨g1,y1⟩:=go _ hd
   have edrop:ds.drop i=ds[i]::ds.drop (i+1):=List.drop_eq_getElem_cons hlt
   rw[edrop] at q2
   refine .inr ⟨g1,fun σ' H'=>∃e3 Ω3 ρ3,e3.H=H'/\RelS X.K C e₀ e3 Ω3 σ' ρ3/\bC e'.F e3.F/\(∃more,e3.α=e'.α++more)/\jb β s (ds.drop (i+1)) ρ3 Ω3=some o,fun σ' H' hN=>⟨ds.length-(i+1),by omega,rfl,hlt,hN⟩,fun x H' hy=>?_⟩
   obtain⟨e2',rfl,ix,up⟩:=y1 x H' hy
   obtain⟨x2',w2'⟩:=up C Ω2 r2.wf
   replace r2:=r2.to x2' w2'
   replace ff:=ff.trans x2'.ff
   replace al:∃more,e2'.α=e'.α++more:=by
    obtain⟨m1,z1⟩:=al
    obtain⟨m2,z2⟩:=x2'.al
    exact⟨m1++m2,by rw[z2,z1,List.append_assoc]⟩
   clear y1 g1 stop go
   revert r2 ff al ix
   generalize e2'=e2
   intro ix r2 ff al
   unfold jb at q2
   cases q3:β ds[i] ρ2 with
   | none=>rw[q3] at q2;cases q2
   | some ρ3 =>
    rw[q3] at q2
    dsimp only at q2
    refine⟨e2,Ω2,ρ2,_,ρ3,rfl,r2.wf,r2.rel,ix,q3,fun σ3 r3 o3=>?_⟩
    have r3':=r2.by r3 o3
    obtain⟨e₁,hF,hα,r4,toE,toN,_⟩:=r3'.mark
    cases q4:s ρ3 Ω2 with
    | none=>rw[q4] at q2;cases q2
    | some o4 =>
     rw[q4] at q2
     refine⟨e₁,e2,Ω2,ρ3,o4,rfl,r4,q4,?_⟩
     have back:∀{e5:E4} {Ω5:List OS} {σ5:St} {ρ5:List Sl},RelS X.K C e₁ e5 Ω5 σ5 ρ5->RelS X.K C e₀ e5 Ω5 σ5 ρ5/\bC e'.F e5.F/\∃more,e5.α=e'.α++more:=fun {e5 Ω5 σ5 ρ5} r5=>by
      refine⟨⟨r5.wf,r5.rel,toE _ r5.ext,fun i ds a h1 h2=>toN _ (r5.fresh i ds a h1 h2)⟩,ff.trans (hF ▸ r5.ext.ff),?_⟩
      obtain⟨m1,z1⟩:=al
      obtain⟨m2,z2⟩:=r5.ext.al
      exact⟨m1++m2,by rw[z2,hα,z1,List.append_assoc]⟩
     cases o4 with
     | nx ρ5 Ω5=>exact fun e5 σ5 r5=>⟨e5,Ω5,ρ5,rfl,(back r5).1,(back r5).2.1,(back r5).2.2,q2⟩
     | ct ρ5 Ω5=>exact fun e5 σ5 r5=>⟨e5,Ω5,ρ5,rfl,(back r5).1,(back r5).2.1,(back r5).2.2,q2⟩
     | bk ρ5 Ω5=>cases q2;exact fun e5 σ5 r5=>k e5 σ5 (back r5).1
     | rt z Ω5=>cases q2;exact fun e5 v5 x5 w5 i5=>k e5 v5 (toE _ x5) w5 i5
  ·have ei:i=ds.length:=by omega
   subst ei
   rw[List.drop_length] at q2
   cases q2
   exact .inl ⟨stop rfl,k e2 σ2 r2⟩
noncomputable def fX(p:bV)(s:aN):Nat->aN
 | 0,_,_=>none
 | n+1,ρ,Ω=>match p ρ Ω with
  | some (true,Ω1)=>match s ρ Ω1 with
   | some (.nx ρ' Ω')=>fX p s n ρ' Ω'
   | some (.ct ρ' Ω')=>fX p s n ρ' Ω'
   | some (.bk ρ' Ω')=>some (.nx ρ' Ω')
   | some (.rt z Ω')=>some (.rt z Ω')
   | none=>none
  | some (false,Ω1)=>some (.nx ρ Ω1)
  | none=>none
theorem Gy(fuel:Nat)(hp:PassesOwn (model X.prog X.w) X.A X.env X.xe)(hc:PDT X C c p)(hb:PDB X C body s):PDS X C (.While c body [] pos) (fX p s fuel):=by
 refine fun e₀=>di (Jd hp hc (Gx hb)) fun Dn σ H hw'=>?_
 obtain⟨e,Ω,ρ,o,eH,r,q,k⟩:=hw'
 refine⟨fun m σ H=>∃e2 Ω2 ρ2,e2.H=H/\RelS X.K C e₀ e2 Ω2 σ ρ2/\fX p s m ρ2 Ω2=some o,⟨fuel,e,Ω,ρ,eH,r,q⟩,?_⟩
 rintro m σ2 H2 ⟨e2,Ω2,ρ2,rfl,r2,q2⟩
 cases m with
 | zero=>cases q2
 | succ m =>
  unfold fX at q2
  cases q3:p ρ2 Ω2 with
  | none=>rw[q3] at q2;cases q2
  | some p3 =>
   obtain⟨b,Ω3⟩:=p3
   rw[q3] at q2
   refine⟨e2,Ω2,ρ2,b,Ω3,rfl,r2.wf,r2.rel,q3,fun e3 x3 w3=>?_⟩
   have r3:=r2.to x3 w3
   cases b with
   | false =>
    refine Jx ?_
    cases q2
    exact k e3 σ2 r3
   | true =>
    refine Jy ?_
    dsimp only at q2
    refine⟨fun σ' H'=>∃e5 Ω5 ρ5,e5.H=H'/\RelS X.K C e₀ e5 Ω5 σ' ρ5/\fX p s m ρ5 Ω5=some o,fun σ' H' hN=>⟨m,Nat.lt_succ_self m,hN⟩,e₀,?_⟩
    cases q4:s ρ2 Ω3 with
    | none=>rw[q4] at q2;cases q2
    | some o4 =>
     rw[q4] at q2
     refine⟨e3,Ω3,ρ2,o4,rfl,r3,q4,?_⟩
     cases o4 with
     | nx ρ5 Ω5=>exact fun e5 σ5 r5=>⟨e5,Ω5,ρ5,rfl,r5,q2⟩
     | ct ρ5 Ω5=>exact fun e5 σ5 r5=>⟨e5,Ω5,ρ5,rfl,r5,q2⟩
     | bk ρ5 Ω5=>cases q2;exact fun e5 σ5 r5=>k e5 σ5 r5
     | rt z Ω5=>cases q2;exact k
end
end DL
namespace DL
open PySem PySem.Spec PyProof.Rows L2
noncomputable abbrev bK:=List D->List OS->Option (D×List OS)
noncomputable def spD(K:PySem.W.Frag)(C:Cl)(f:bK):Sp:=fun vs H Q _=>∃e Ω ds d Ω',e.H=H/\Wf K C e Ω/\IsL K e.α e.F ds vs/\f ds Ω=some (d,Ω')/\∀v e',Ext e e'->Wf K C e' Ω'->Is K e'.α e'.F d v->Q v e'.H
noncomputable def cD(n m:Nat)(s:aN):bK:=fun ds Ω=>if ds.length=n then match s (ds.map Sl.dat++List.replicate (m-n) Sl.und) Ω with
  | some (.rt d Ω')=>some (d,Ω')
  | some (.nx _ Ω')=>some (.non,Ω')
  | _=>none
 else none
theorem pG{K:PySem.W.Frag}{C:Cl}{e:E4}{Ω:List OS}{N:List Str}{ds:List D}{vs:List V}(w:Wf K C e Ω)(i:IsL K e.α e.F ds vs):RelS K C e e Ω (L2.start N vs) (ds.map Sl.dat++List.replicate (N.length-ds.length) Sl.und):=by
 have noown:∀(j:Nat) (es:List D),(ds.map Sl.dat++List.replicate (N.length-ds.length) Sl.und)[j]? ≠ some (.own es):=fun j es h=>by
  by_cases hj:j<ds.length
  ·rw[List.getElem?_append_left (by simpa using hj),List.getElem?_map] at h
   cases q:ds[j]? with
   | none=>rw[q] at h;cases h
   | some d=>rw[q] at h;cases h
  ·rw[List.getElem?_append_right (by simpa using hj),List.getElem?_replicate] at h
   split at h<;>cases h
 refine⟨w,⟨?_,fun j d h=>?_,fun j es h=>absurd h (noown j es),fun j k es fs a h=>absurd h (noown j es)⟩,Ext.refl e,fun j es a h=>absurd h (noown j es)⟩
 ·unfold L2.start
  simp[i.length]
 ·by_cases hj:j<ds.length
  ·rw[List.getElem?_append_left (by simpa using hj),List.getElem?_map] at h
   cases q:ds[j]? with
   | none=>rw[q] at h;cases h
   | some d' =>
    rw[q] at h
    cases h
    obtain⟨v,hv,iv⟩:=i.get q
    refine⟨v,?_,iv⟩
    unfold L2.start
    rw[List.getElem?_append_left (by simpa [<-i.length] using hj),List.getElem?_map,hv]
    rfl
  ·rw[List.getElem?_append_right (by simpa using hj),List.getElem?_replicate] at h
   split at h<;>cases h
theorem RX{P:Program}{w:World}{K:PySem.W.Frag}{mg:Str->Option Value}{base:Heap}{C:Cl}{x qual:Str}{st:Stmt}{f:Addr}{fd:FuncData}{N ps:List Str}{k n m:Nat}{s:aN}(F:Fun K x qual st f fd)(S:FnScope N ps (aB st))(hn:ps.length=n)(hm:N.length=m)
  (hbody:∀(cdv:Value) (A:Around) (outer:List Env) (sh:Shared) (H:Hp) (E:XK),Room k (A.deeper (envOfC qual (aB st) sh.heap.objs.size f cdv)) ->
   PDB (bQ CX0 P w K mg base N qual (aB st) f cdv A outer sh H E).nox C (bf st) s):FnOk P w K mg base CX0 (k+1) f fd ps (spD K C (cD n m s)):=by
 refine F.ok S (fun vs H Q E h=>?_) (fun cdv A outer sh H vs Q E hr h=>?_)
 ·obtain⟨e,Ω,ds,d,Ω',_,_,i,q,_⟩:=h
  unfold cD at q
  by_cases hl:ds.length=n
  ·rw[<-i.length,hl,hn]
  ·rw[if_neg hl] at q;cases q
 ·obtain⟨e,Ω,ds,d,Ω',eH,wf,i,q,kk⟩:=h
  unfold cD at q
  by_cases hl:ds.length=n
  ·rw[if_pos hl] at q
   cases q1:s (ds.map Sl.dat++List.replicate (m-n) Sl.und) Ω with
   | none=>rw[q1] at q;cases q
   | some o =>
    rw[q1] at q
    refine⟨_,hbody cdv A outer sh H E hr e,e,Ω,_,o,eH,pG wf i,by rw[hl,hm];exact q1,?_⟩
    cases o with
    | rt d' Ω2=>cases q;exact fun e' v x' w' i'=>kk v e' x' w' i'
    | nx ρ' Ω2=>cases q;exact fun e' σ' r'=>kk .non e' r'.ext r'.wf (by rw[Is])
    | bk ρ' Ω2=>cases q
    | ct ρ' Ω2=>cases q
  ·rw[if_neg hl] at q;cases q
noncomputable def bz(f:bK)(g:bA):Den:=fun ρ Ω=>match g ρ Ω with
 | some (ds,Ω1)=>f ds Ω1
 | none=>none
section
variable {X:Cx} {C:Cl} {k:Nat} {f:Addr} {fd:FuncData} {ps:List Str} {F:bK} {n:Str} {p pos:Pos} {x:Expr} {es:List Expr} {ga:bA}
theorem Gz{K:PySem.W.Frag}{σ:St}{H:Hp}{Q:VK}{E:XK}(hw:tD K C (bz F ga) σ H Q):LQ (spD K C F) [] E (tDA K C ga) σ H Q:=by
 obtain⟨e,Ω,ρ,d,Ω',eH,w,rl,q,kk⟩:=hw
 unfold bz at q
 cases q1:ga ρ Ω with
 | none=>rw[q1] at q;cases q
 | some p1 =>
  obtain⟨ds,Ω1⟩:=p1
  rw[q1] at q
  refine⟨e,Ω,ρ,ds,Ω1,eH,w,rl,q1,fun vs e' x' w' i'=>?_⟩
  show spD K C F (vs++[]) e'.H Q E
  rw[List.append_nil]
  exact⟨e',Ω1,ds,d,Ω',rfl,w',i',q,fun v e'' x'' w'' i''=>kk v e'' (x'.trans x'') w'' i''⟩
theorem Ol(G:FnOk X.prog X.w X.K X.mg X.base CX0 k f fd ps (spD X.K C F))(hr:Room k X.A)(hg:Gl X n)(hm:X.mg n=some (.ref f))(hk:PySem.W.keepIn X.K (.ref f)=true)(hb:Binds X.K fd ps [])
  (ha:PDA X C (x::es) ga) (hdb:(n==("__debug__":Str))=false:=by decide) (he:starEach (x::es) X.env=(false,eval x X.env)::starEach es X.env:=by rfl) (hpl:(backTo pos (starEach es X.env)).any (·.1)=false:=by rfl) :
  PD X C (.Call (.Name n p) (x::es) [] pos) (bz F ga) :=
 bj (Nm G hr hg hm hk hb .nil DX ha hdb he hpl) fun _ _ _ hw=>Gz hw
end
noncomputable def zK(X:Cx)(C:Cl)(ifs:List Expr)(p:bV):Prop:=PTs X ifs (tDT X.K C p)
noncomputable def d_:bV:=fun _ Ω=>some (true,Ω)
theorem jc{X:Cx}{C:Cl}:zK X C [] d_:=fun pins s σ H Q I hw'=>by
 obtain⟨e,Ω,ρ,b,Ω',eH,w,rl,q,k⟩:=hw'
 subst eH
 cases q
 exact NZ pins s σ _ Q I (k e (Ext.refl e) w)
theorem JM{X:Cx}{C:Cl}{c:Expr}{p:bV}(h:PDT X C c p):zK X C [c] p:=N_ h
noncomputable def gm(β:dG)(p:bV)(g:Den):List D->List Sl->List OS->Option (List D×List OS)
 | [],_,Ω=>some ([],Ω)
 | d::ds,ρ,Ω=>match β d ρ with
  | some ρ1=>match p ρ1 Ω with
   | some (true,Ω1)=>match g ρ1 Ω1 with
    | some (y,Ω2)=>match gm β p g ds ρ1 Ω2 with
     | some (ys,Ω3)=>some (y::ys,Ω3)
     | none=>none
    | none=>none
   | some (false,Ω1)=>gm β p g ds ρ1 Ω1
   | none=>none
  | none=>none
noncomputable def cL(μ:List (Option Nat))(ρ:List Sl):List Sl:=μ.map fun o=>match o with
 | none=>Sl.und
 | some j=>match ρ[j]? with
  | some (.dat d)=>.dat d
  | _=>.und
noncomputable def gn(μ:List (Option Nat))(γ:bA)(β:dG)(p:bV)(g:Den):Den:=fun ρ Ω=>match γ ρ Ω with
 | some (ds,Ω1)=>if ds.length<=big then match gm β p g ds (cL μ ρ) Ω1 with
   | some (ys,Ω2)=>some (.lst ys,Ω2)
   | none=>none
  else none
 | none=>none
section
variable {K:PySem.W.Frag} {C:Cl} {e:E4} {σ:St} {ρ:List Sl} {μ:List (Option Nat)}
theorem GC{j:Nat}{d:D}(h:(cL μ ρ)[j]? = some (.dat d)):∃i,μ[j]? = some (some i)/\ρ[i]? = some (.dat d):=by
 unfold cL at h
 rw[List.getElem?_map] at h
 cases q:μ[j]? with
 | none=>rw[q] at h;cases h
 | some o =>
  rw[q] at h
  cases o with
  | none=>cases h
  | some i =>
   cases q2:ρ[i]? with
   | none=>simp[q2] at h
   | some sl =>
    cases sl with
    | dat d'=>simp[q2] at h;subst h;exact⟨i,rfl,q2⟩
    | und=>simp[q2] at h
    | own _=>simp[q2] at h
theorem jV{j:Nat}{ds:List D}:(cL μ ρ)[j]? ≠ some (.own ds):=fun h=>by
 unfold cL at h
 rw[List.getElem?_map] at h
 cases q:μ[j]? with
 | none=>rw[q] at h;cases h
 | some o =>
  rw[q] at h
  cases o with
  | none=>cases h
  | some i =>
   cases q2:ρ[i]? with
   | none=>simp[q2] at h
   | some sl=>cases sl<;>simp[q2] at h
theorem yq(r:RelE K e σ ρ):RelE K e (inner μ σ) (cL μ ρ):=by
 refine⟨by simp[inner,cL],fun j d h=>?_,fun j ds h=>absurd h jV,fun j k ds es a h=>absurd h jV⟩
 obtain⟨i,h1,h2⟩:=GC h
 obtain⟨v,e1,iv⟩:=r.dat i d h2
 refine⟨v,?_,iv⟩
 unfold inner
 rw[List.getElem?_map,h1]
 show some ((σ[i]?).join)=_
 rw[e1]
 rfl
end
section
variable {K:PySem.W.Frag} {C:Cl} {γ:bA} {β:dG} {p:bV} {g:Den} {μ:List (Option Nat)}
structure CI(K:PySem.W.Frag)(C:Cl)(β:dG)(p:bV)(g:Den)(ds:List D)(a:Addr)(ysAll:List D)(Ωf:List OS)(e':E4)(i:Nat)(σ':St)(e2:E4)(Ω2:List OS)(ρ2:List Sl)(vs:List V)(ys0 ys1:List D):Prop where
 w:Wf K C e2 Ω2
 r:RelE K e2 σ' ρ2
 no:∀(j:Nat) (es:List D),ρ2[j]? ≠ some (.own es)
 ha:e2.H a=some (.lst vs)
 hF:e2.F a=none
 hA:¬e2.A a
 iy:IsL K e2.α e2.F ys0 vs
 x:Ext e' e2
 q:gm β p g (ds.drop i) ρ2 Ω2=some (ys1,Ωf)
 ey:ys0++ys1=ysAll
 hy:ys0.length<=i
noncomputable def RZ(K:PySem.W.Frag)(C:Cl)(β:dG)(p:bV)(g:Den)(ds:List D)(a:Addr)(ysAll:List D)(Ωf:List OS)(e':E4)(i:Nat)(σ':St)(H':Hp):Prop :=
 ∃e2 Ω2 ρ2 vs ys0 ys1,e2.H=H'/\CI K C β p g ds a ysAll Ωf e' i σ' e2 Ω2 ρ2 vs ys0 ys1
theorem JN{σ:St}{H:Hp}{Q:VK}{e:E4}{Ω Ω1 Ωf:List OS}{ρ:List Sl}{ds ysAll:List D}(eH:e.H=H)(w:Wf K C e Ω)(rl:RelE K e σ ρ)(q1:γ ρ Ω=some (ds,Ω1))(hbig:ds.length<=big)(q2:gm β p g ds (cL μ ρ) Ω1=some (ysAll,Ωf))
  (fin:∀a vs e2,Ext e e2->Wf K C e2 Ωf->e2.H a=some (.lst vs)->e2.F a=none->¬e2.A a->e.H a=none->IsL K e2.α e2.F ysAll vs->Q (.ref a) e2.H):zp μ (tDI K C γ) (tDG K C β) (tDT K C p) (tD K C g) σ H Q:=by
 refine⟨e,Ω,ρ,ds,Ω1,eH,w,rl,q1,fun e' J x' w' wk a ha=>?_⟩
 refine⟨fun i m σ' H'=>m=ds.length-i/\i<=ds.length/\RZ K C β p g ds a ysAll Ωf e' i σ' H',⟨ds.length,by simp,Nat.zero_le _,⟨e'.α,e'.F,e'.A,upd e'.H a (.lst [])⟩,Ω1,cL μ ρ,[],[],ysAll,rfl,⟨?_,?_,fun j es=>jV,aJ,w'.nF ha,fun z=>(w'.ah a z).1 ha,.nil,?_,by simpa using q2,rfl,Nat.zero_le _⟩⟩,?_⟩
 ·refine⟨fun b u hb=>?_,w'.fa,fun b hb=>?_,w'.ol,w'.nd,fun n b u h1 h2=>⟨(w'.ob n b u h1 h2).1,(w'.ob n b u h1 h2).2.keep (fun z hz=>?_) (bC.refl _) ⟨[],by simp⟩⟩⟩
  ·show upd e'.H a _ b=some u
   rw[aC (aM (w'.fh b u hb) ha)];exact w'.fh b u hb
  ·show upd e'.H a _ b≠none/\∀xs,upd e'.H a _ b≠some (.tup xs)
   rw[aC (fun z=>(w'.ah b hb).1 (by rw[z];exact ha))];exact w'.ah b hb
  ·show upd e'.H a _ b=some z
   rw[aC (aM hz ha)];exact hz
 ·have r1:=yq (μ:=μ) (rl.ext x')
  exact⟨r1.len,r1.dat,fun j es h=>absurd h jV,r1.sep⟩
 ·refine⟨fun b o' u hb=>by show upd e'.H a _ b=some (.frz o' u);rw[aC (aM hb ha)];exact hb,fun b u hb _=>?_,fun b u hb=>⟨u,?_⟩,bC.refl _,fun b u hb=>.inl hb,fun b hb=>.inl hb,fun b hb=>hb,[],by simp⟩
  ·show upd e'.H a _ b=some u
   rw[aC (aM hb ha)];exact hb
  ·show upd e'.H a _ b=some u
   rw[aC (aM hb ha)];exact hb
 ·rintro i m σ2 H2 ⟨rfl,hil,e2,Ω2,ρ2,vs,ys0,ys1,rfl,⟨w2,r2,no2,ha2,hF2,hA2,iy,x2,q3,ey,hy⟩⟩
  obtain⟨stop,go⟩:=wk i e2 x2.ff x2.al w2.fh
  by_cases hlt:i<ds.length
  ·have hd:ds[i]? = some ds[i]:=List.getElem?_eq_getElem hlt
   obtain⟨g1,y1⟩:=go _ hd
   have edrop:ds.drop i=ds[i]::ds.drop (i+1):=List.drop_eq_getElem_cons hlt
   rw[edrop] at q3
   refine .inr ⟨g1,fun σ' H'=>i+1<=ds.length/\RZ K C β p g ds a ysAll Ωf e' (i+1) σ' H',fun σ' H' hN=>⟨ds.length-(i+1),by omega,rfl,hN⟩,fun x H' hyl=>?_⟩
   obtain⟨e2',rfl,ix,up⟩:=y1 x H' hyl
   obtain⟨xx,ww⟩:=up C Ω2 w2
   obtain⟨hh',hf',ha'⟩:=xx.keepOwn ha2 hF2 hA2
   replace r2:=r2.ext xx
   replace iy:=iy.ext xx
   replace x2:=x2.trans xx
   clear y1 g1 stop go w2 ha2 hF2 hA2
   revert r2 iy x2 ww hh' hf' ha' ix
   generalize e2'=e2
   intro ix w2 ha2 hF2 hA2 r2 iy x2
   unfold gm at q3
   cases q4:β ds[i] ρ2 with
   | none=>rw[q4] at q3;cases q3
   | some ρ3 =>
    rw[q4] at q3
    dsimp only at q3
    refine⟨e2,Ω2,ρ2,_,ρ3,rfl,w2,r2,ix,q4,fun σ3 r3 o3=>?_⟩
    have no3:∀(j:Nat) (es:List D),ρ3[j]? ≠ some (.own es):=fun j es h=>no2 j es (o3 j es h).1
    cases q5:p ρ3 Ω2 with
    | none=>rw[q5] at q3;cases q3
    | some p5 =>
     obtain⟨b,Ω3⟩:=p5
     rw[q5] at q3
     refine⟨e2,Ω2,ρ3,b,Ω3,rfl,w2,r3,q5,fun e3 x3 w3=>?_⟩
     cases b with
     | false =>
      refine Jx ?_
      obtain⟨z1,z2,z3⟩:=x3.keepOwn ha2 hF2 hA2
      exact⟨hlt,e3,Ω3,ρ3,vs,ys0,ys1,rfl,⟨w3,r3.ext x3,no3,z1,z2,z3,iy.ext x3,x2.trans x3,q3,ey,Nat.le_succ_of_le hy⟩⟩
     | true =>
      refine Jy ?_
      dsimp only at q3
      cases q6:g ρ3 Ω3 with
      | none=>rw[q6] at q3;cases q3
      | some p6 =>
       obtain⟨y,Ω4⟩:=p6
       rw[q6] at q3
       dsimp only at q3
       cases q7:gm β p g (ds.drop (i+1)) ρ3 Ω4 with
       | none=>rw[q7] at q3;cases q3
       | some p7 =>
        obtain⟨ys2,Ω5⟩:=p7
        rw[q7] at q3
        cases q3
        refine⟨e3,Ω3,ρ3,y,Ω4,rfl,w3,r3.ext x3,q6,fun v e4 x4 w4 i4=>?_⟩
        obtain⟨z1,z2,z3⟩:=(x3.trans x4).keepOwn ha2 hF2 hA2
        have x24:=x3.trans x4
        refine⟨vs,z1,by rw[<-iy.length];exact nZ (by omega),hlt,⟨e4.α,e4.F,e4.A,upd e4.H a (.lst (vs++[v]))⟩,Ω4,ρ3,_,ys0++[y],ys2,rfl,⟨⟨fun b u hb=>?_,w4.fa,fun b hb=>?_,w4.ol,w4.nd,fun n b u h1 h2=>⟨(w4.ob n b u h1 h2).1,(w4.ob n b u h1 h2).2.keep (fun z hz=>?_) (bC.refl _) ⟨[],by simp⟩⟩⟩,
         ⟨((r3.ext x3).ext x4).len,((r3.ext x3).ext x4).dat,fun j es h=>absurd h (no3 j es),((r3.ext x3).ext x4).sep⟩,no3,aJ,z2,z3,(iy.ext x24).append (.cons i4 .nil),⟨fun b o' u hb=>by show upd e4.H a _ b=some (.frz o' u);rw[aC (aM hb ha)];exact(x2.trans x24).fz b o' u hb,fun b u hb hn=>?_,fun b u hb=>?_,(x2.trans x24).ff,(x2.trans x24).fn,(x2.trans x24).an,(x2.trans x24).aa,(x2.trans x24).al⟩,q7,by rw[<-ey];simp,by simp;omega⟩⟩
        ·show upd e4.H a _ b=some u
         rw[aC (fun z=>by subst z;rw[z2] at hb;cases hb)];exact w4.fh b u hb
        ·show upd e4.H a _ b≠none/\∀xs,upd e4.H a _ b≠some (.tup xs)
         rw[aC (fun z=>z3 (by rw[<-z];exact hb))];exact w4.ah b hb
        ·show upd e4.H a _ b=some z
         rw[aC (fun y=>z3 (by rw[<-y];exact(w4.ob n b u h1 h2).1))];exact hz
        ·show upd e4.H a _ b=some u
         rw[aC (aM hb ha)];exact(x2.trans x24).hk b u hb hn
        ·obtain⟨u',z⟩:=(x2.trans x24).dm b u hb
         exact⟨u',by show upd e4.H a _ b=some u';rw[aC (aM hb ha)];exact z⟩
  ·have ei:i=ds.length:=by omega
   subst ei
   rw[List.drop_length] at q3
   cases q3
   rw[List.append_nil] at ey
   subst ey
   refine .inl ⟨stop rfl,?_⟩
   exact fin a vs e2 (x'.trans x2) w2 ha2 hF2 hA2 (x'.back ha) iy
theorem GD{σ:St}{H:Hp}{Q:VK}(hw:tD K C (gn μ γ β p g) σ H Q):zp μ (tDI K C γ) (tDG K C β) (tDT K C p) (tD K C g) σ H Q:=by
 obtain⟨e,Ω,ρ,d,Ωf,eH,w,rl,q,kk⟩:=hw
 unfold gn at q
 cases q1:γ ρ Ω with
 | none=>rw[q1] at q;cases q
 | some p1 =>
  obtain⟨ds,Ω1⟩:=p1
  rw[q1] at q
  dsimp only at q
  split at q
  ·rename_i hbig
   cases q2:gm β p g ds (cL μ ρ) Ω1 with
   | none=>rw[q2] at q;cases q
   | some p2 =>
    obtain⟨ysAll,Ω2⟩:=p2
    rw[q2] at q
    cases q
    refine JN eH w rl q1 hbig q2 fun a vs e2 x2 w2 ha2 hF2 hA2 ha iy=>?_
    have ff:bC e2.F (upd e2.F a (.lst vs)):=fun b o hb=>by rw[aC (aM hb hF2)];exact hb
    refine kk (.ref a) ⟨e2.α,upd e2.F a (.lst vs),e2.A,e2.H⟩ ⟨x2.fz,x2.hk,x2.dm,x2.ff.trans ff,fun b u hb=>?_,x2.an,x2.aa,x2.al⟩ ⟨fun b u hb=>?_,fun b hb=>?_,w2.ah,w2.ol,w2.nd,fun n b u h1 h2=>⟨(w2.ob n b u h1 h2).1,(w2.ob n b u h1 h2).2.keep (fun z hz=>hz) ff ⟨[],by simp⟩⟩⟩ ?_
    ·have hb:upd e2.F a (.lst vs) b=some u:=hb
     by_cases hba:b=a
     ·subst hba;exact .inr (.inl ha)
     ·rw[aC hba] at hb;exact x2.fn b u hb
    ·have hb:upd e2.F a (.lst vs) b=some u:=hb
     by_cases hba:b=a
     ·subst hba;rw[aJ] at hb;cases hb;exact ha2
     ·rw[aC hba] at hb;exact w2.fh b u hb
    ·show upd e2.F a _ b=none
     rw[aC (fun z=>hA2 (by rw[<-z];exact hb))];exact w2.fa b hb
    ·rw[Is]
     exact⟨a,vs,rfl,aJ,IsL.mono ff ⟨[],by simp⟩ _ iy⟩
  ·cases q
end
section
variable {X:Cx} {C:Cl} {tg iter elt:Expr} {ifs:List Expr} {scope:Scope} {pos:Pos} {N:List Str} {μ:List (Option Nat)} {γ:bA} {β:dG} {p:bV} {g:Den}
theorem Om(hc:X.calm=true)(hcell:∀y∈scope.names,y.2 ≠ .cell)(hkind:scope.kind=.function)(hnames:∀y∈scope.names,y.2=.local->scope.names.lookup y.1=some .local)
  (hfree:∀y∈scope.names,y.2=.free->X.env.kindOf y.1=some .cell\/X.env.kindOf y.1=some .free)
  (hhas:∀x,((relabel scope X.env).names.lookup x=some .cell\/(relabel scope X.env).names.lookup x=some .free)->(x,NameKind.free)∈scope.names)
  (hμ:pR X.N X.env.scope N (relabel scope X.env) μ=true) (hi:PDI X C tg iter γ)
  (hg:∀fp A s H,PDG (cj X N scope (clos X.env.cells scope.names []) A fp s H) C tg β) (ht:∀fp A s H,zK (cj X N scope (clos X.env.cells scope.names []) A fp s H) C ifs p) (he:∀fp A s H,PD (cj X N scope (clos X.env.cells scope.names []) A fp s H) C elt g)
  (hs:∀x,foldedSetIterable iter X.env x=pure x:=by intro _;rfl):PD X C (.ListComp elt [⟨tg,iter,ifs,0⟩] scope pos) (gn μ γ β p g) :=
 bj (Cy (g:=tDG X.K C β) (tt:=tDT X.K C p) (te:=tD X.K C g) hc hcell hkind hnames hfree hhas hμ hi hg ht he hs) fun _ _ _ hw=>GD hw
end
end DL
namespace DL
open PySem PySem.Spec PyProof.Rows L2
structure Fn(P:Program)(w:World)(K:PySem.W.Frag)(mg:Str->Option Value)(base:Heap)(C:Cl)(k:Nat)(n:Str)(F:bK):Prop where
 ex:∃f fd ps,mg n=some (.ref f)/\PySem.W.keepIn K (.ref f)=true/\Binds K fd ps []/\FnOk P w K mg base CX0 k f fd ps (spD K C F)
structure TF(K:PySem.W.Frag)(mg:Str->Option Value)(n:Str)(st:Stmt):Prop where
 ex:∃f fd,mg n=some (.ref f)/\Fun K n n st f fd
theorem ou{P:Program}{w:World}{K:PySem.W.Frag}{mg:Str->Option Value}{base:Heap}{C:Cl}{x:Str}{st:Stmt}{N ps:List Str}{k n m:Nat}{s:aN}(T:TF K mg x st)(S:FnScope N ps (aB st))(hn:ps.length=n)(hm:N.length=m)
  (hb:∀(kV doc pm:Value) (an:Option Addr) (cdv ct:Value) (us:List Value),us.length=ps.length->bindArgs (PySem.W.fnOf x x (bB st) (bf st) (aB st) .none kV doc pm an cdv ct) ⟨us,[]⟩=pure (ps.zip us))
  (hbody:∀(f:Addr) (cdv:Value) (A:Around) (outer:List Env) (sh:Shared) (H:Hp) (E:XK),Room k (A.deeper (envOfC x (aB st) sh.heap.objs.size f cdv)) ->
   PDB (bQ CX0 P w K mg base N x (aB st) f cdv A outer sh H E).nox C (bf st) s):Fn P w K mg base C (k+1) x (cD n m s):=by
 obtain⟨f,fd,hm',F⟩:=T.ex
 exact⟨f,fd,ps,hm',F.kp,F.binds hb,RX F S hn hm (hbody f)⟩
section
variable {X:Cx} {C:Cl} {k:Nat} {F:bK} {n:Str} {p pos:Pos} {x:Expr} {es:List Expr} {ga:bA}
theorem bN(G:Fn X.prog X.w X.K X.mg X.base C k n F)(hr:Room k X.A)(hg:Gl X n)
  (ha:PDA X C (x::es) ga) (hdb:(n==("__debug__":Str))=false:=by decide) (he:starEach (x::es) X.env=(false,eval x X.env)::starEach es X.env:=by rfl) (hpl:(backTo pos (starEach es X.env)).any (·.1)=false:=by rfl) :
  PD X C (.Call (.Name n p) (x::es) [] pos) (bz F ga):=by
 obtain⟨f,fd,ps,hm,hk,hb,ok⟩:=G.ex
 exact Ol ok hr hg hm hk hb ha hdb he hpl
end
noncomputable def oE(scope osc:Scope):Scope :=
 { scope with names:=scope.names.map fun(n,k)=>if(k == .free && osc.kind == .function && osc.names.lookup n==some .cell) then(n,.cell) else(n,k) }
noncomputable def GF(oN:List Str)(osc:Scope)(N:List Str)(scope:Scope)(μ:List (Option Nat)):Bool :=
 scope.names.all (fun y=>decide (y.2 ≠ .cell)) && decide (scope.kind=.function) && scope.names.all (fun y=>!decide (y.2=.local) || decide (scope.names.lookup y.1=some .local)) &&
  scope.names.all (fun y=>!decide (y.2=.free) || decide (osc.names.lookup y.1=some .cell)) &&
  (oE scope osc).names.all (fun y=>!(decide (y.2=.cell) || decide (y.2=.free)) || decide ((y.1,NameKind.free)∈scope.names)) && pR oN osc N (oE scope osc) μ
structure CompOk(X:Cx)(N:List Str)(scope:Scope)(μ:List (Option Nat)):Prop where
 cell:∀y∈scope.names,y.2 ≠ .cell
 kind:scope.kind=.function
 names:∀y∈scope.names,y.2=.local->scope.names.lookup y.1=some .local
 free:∀y∈scope.names,y.2=.free->X.env.kindOf y.1=some .cell\/X.env.kindOf y.1=some .free
 has:∀x,((relabel scope X.env).names.lookup x=some .cell\/(relabel scope X.env).names.lookup x=some .free)->(x,NameKind.free)∈scope.names
 mu:pR X.N X.env.scope N (relabel scope X.env) μ=true
theorem gG{X:Cx}{oN:List Str}{osc:Scope}{N:List Str}{scope:Scope}{μ:List (Option Nat)}(hN:X.N=oN)(hs:X.env.scope=osc)(h:GF oN osc N scope μ=true):CompOk X N scope μ:=by
 subst hN hs
 unfold GF at h
 simp only[Bool.and_eq_true] at h
 obtain⟨⟨⟨⟨⟨h1,h2⟩,h3⟩,h4⟩,h5⟩,h6⟩:=h
 refine⟨fun y hy=>of_decide_eq_true (List.all_eq_true.mp h1 y hy),of_decide_eq_true h2,fun y hy e=>?_,fun y hy e=>.inl ?_,fun x hx=>?_,h6⟩
 ·have:=List.all_eq_true.mp h3 y hy
  simp only[Bool.or_eq_true,Bool.not_eq_true',decide_eq_false_iff_not,decide_eq_true_eq] at this
  exact this.resolve_left fun z=>z e
 ·have:=List.all_eq_true.mp h4 y hy
  simp only[Bool.or_eq_true,Bool.not_eq_true',decide_eq_false_iff_not,decide_eq_true_eq] at this
  exact this.resolve_left fun z=>z e
 ·have hx:(oE scope X.env.scope).names.lookup x=some .cell\/(oE scope X.env.scope).names.lookup x=some .free:=hx
  have q:∀k:NameKind,(k=.cell\/k=.free)->(oE scope X.env.scope).names.lookup x=some k->(x,NameKind.free)∈scope.names:=fun k hk hl=>by
   have:=List.all_eq_true.mp h5 (x,k) (PySem.mem_of_lookup hl)
   simp only[Bool.or_eq_true,Bool.not_eq_true',Bool.or_eq_false_iff,decide_eq_false_iff_not,decide_eq_true_eq] at this
   rcases this with⟨a,b⟩ |c
   ·exact(hk.elim a b).elim
   ·exact c
  rcases hx with hx |hx
  ·exact q _ (.inl rfl) hx
  ·exact q _ (.inr rfl) hx
section
variable {X:Cx} {C:Cl} {tg iter elt:Expr} {ifs:List Expr} {scope:Scope} {pos:Pos} {N:List Str} {μ:List (Option Nat)} {γ:bA} {β:dG} {p:bV} {g:Den}
theorem jN(hc:X.calm=true)(ok:CompOk X N scope μ)(hi:PDI X C tg iter γ)
  (hg:∀fp A s H,PDG (cj X N scope (clos X.env.cells scope.names []) A fp s H) C tg β) (ht:∀fp A s H,zK (cj X N scope (clos X.env.cells scope.names []) A fp s H) C ifs p) (he:∀fp A s H,PD (cj X N scope (clos X.env.cells scope.names []) A fp s H) C elt g)
  (hs:∀x,foldedSetIterable iter X.env x=pure x:=by intro _;rfl):PD X C (.ListComp elt [⟨tg,iter,ifs,0⟩] scope pos) (gn μ γ β p g) :=
 Om hc ok.cell ok.kind ok.names ok.free ok.has ok.mu hi hg ht he hs
end
section
variable {X:Cx} {C:Cl} {x b:Expr} {g:Den} {pos:Pos}
theorem wU{i:Nat}{n:Str}{p ap cp:Pos}(hv:PE X (.Name n p) (wH i))(he:PD X C x g)
  (hbase:attributeBase (.Name n p) "append" X.env (eval (.Name n p) X.env)=eval (.Name n p) X.env:=by rfl)
  (hline:(ap.endLine==cp.line)=true:=by rfl) (hs1:starEach [x] X.env=(false,eval x X.env)::starEach [] X.env:=by rfl)
  (hfew:((backTo cp (starEach [x] X.env)).all (fun x=>!x.1) && (backToKw cp (keywordEach [] X.env)).all (fun x=>x.1.isSome)
   && decide ([x].length+([]:List Keyword).length+(if([]:List Keyword).isEmpty then 0 else 1)<30))=true:=by rfl)
  (hpl:(backTo cp (starEach [] X.env)).any (·.1)=false:=by rfl)
  (hs:swapsWith (.Call (.Attribute (.Name n p) "append" ap) [x] [] cp) none pos.line X.env=pure false:=by rfl) :
  PDS X C (.Expr (.Call (.Attribute (.Name n p) "append" ap) [x] [] cp) pos) (pW i g):=fun e₀ =>
 di (tW (vy PySem.F.plainAttrs_list PySem.F.slot_list_append PySem.F.type_list_append sr hv (bL he cY hs1) hbase hfew hline hs1 hpl) hs) fun Dn σ H hw=>JK hw
end
noncomputable abbrev C0:Cl:=fun _=>none
end DL
namespace DL
open PySem
section
variable (ρ:List Sl) (Ω:List OS)
@[simp] theorem sI(i:Nat):aj i ρ Ω=match ρ[i]? with |some (.dat d)=>some (d,Ω) |_=>none:=(rfl)
@[simp] theorem Xe(d:D):gC d ρ Ω=some (d,Ω):=(rfl)
@[simp] theorem vH(r:D->D->Option D)(f g:Den):gOp r f g ρ Ω=match f ρ Ω with
 | some (x,Ω₁)=>(match g ρ Ω₁ with
  | some (y,Ω₂)=>(match r x y with
   | some z=>some (z,Ω₂)
   | none=>none)
  | none=>none)
 | none=>none:=(rfl)
@[simp] theorem R_(g:Den):gT g ρ Ω=match g ρ Ω with |some (.bl b,Ω')=>some (b,Ω') |_=>none:=(rfl)
@[simp] theorem CQ(p q:bV):dZ p q ρ Ω=match p ρ Ω with |some (true,Ω')=>q ρ Ω' |some (false,Ω')=>some (false,Ω') |none=>none:=(rfl)
@[simp] theorem Wq(p q:bV):pU p q ρ Ω=match p ρ Ω with |some (true,Ω')=>some (true,Ω') |some (false,Ω')=>q ρ Ω' |none=>none:=(rfl)
@[simp] theorem Oo(p:bV):gU p ρ Ω=match p ρ Ω with |some (k,Ω')=>some (!k,Ω') |none=>none:=(rfl)
@[simp] theorem GJ:aA ρ Ω=some ([],Ω):=(rfl)
@[simp] theorem qu(f:Den)(g:bA):ak f g ρ Ω=match f ρ Ω with
 | some (d,Ω1)=>(match g ρ Ω1 with |some (ds,Ω2)=>some (d::ds,Ω2) |none=>none)
 | none=>none:=(rfl)
@[simp] theorem Sd(g:bA):bu g ρ Ω=match g ρ Ω with |some (ds,Ω')=>(if ds.length<=100000 then some (.tup ds,Ω') else none) |none=>none:=(rfl)
@[simp] theorem GK(g:bA):bH g ρ Ω=match g ρ Ω with |some (ds,Ω')=>(if ds.length<=100000 then some (.lst ds,Ω') else none) |none=>none:=(rfl)
@[simp] theorem Va:tZ ρ Ω=some (none,Ω):=(rfl)
@[simp] theorem VM(g:Den):vC g ρ Ω=match g ρ Ω with |some (.int i,Ω')=>some (some i,Ω') |_=>none:=(rfl)
@[simp] theorem Uj(f:Den)(lo hi:uM):gSl f lo hi ρ Ω=match f ρ Ω with
 | some (d,Ω1)=>(match lo ρ Ω1 with
  | some (l,Ω2)=>(match hi ρ Ω2 with
   | some (u,Ω3)=>(match slD d l u with |some z=>some (z,Ω3) |none=>none)
   | none=>none)
  | none=>none)
 | none=>none:=(rfl)
@[simp] theorem Mm(r:List D->Option D)(g:bA):gCB r g ρ Ω=match g ρ Ω with |some (ds,Ω1)=>(match r ds with |some z=>some (z,Ω1) |none=>none) |none=>none:=(rfl)
@[simp] theorem WN(r:D->Option D)(g:Den):gUn r g ρ Ω=match g ρ Ω with |some (d,Ω1)=>(match r d with |some z=>some (z,Ω1) |none=>none) |none=>none:=(rfl)
@[simp] theorem CT(f:bK)(g:bA):bz f g ρ Ω=match g ρ Ω with |some (ds,Ω1)=>f ds Ω1 |none=>none:=(rfl)
@[simp] theorem GP(g:Den):fj g ρ Ω=match g ρ Ω with |some (d,Ω')=>(match JL d with |some ds=>some (ds,Ω') |none=>none) |none=>none:=(rfl)
@[simp] theorem Sg(r:List D->Option (List D))(g:bA):kE r g ρ Ω=match g ρ Ω with |some (ds,Ω')=>(match r ds with |some es=>some (es,Ω') |none=>none) |none=>none:=(rfl)
@[simp] theorem nO(μ:List (Option Nat))(γ:bA)(β:dG)(p:bV)(g:Den):gn μ γ β p g ρ Ω=match γ ρ Ω with
 | some (ds,Ω1)=>(if ds.length<=100000 then(match gm β p g ds (cL μ ρ) Ω1 with |some (ys,Ω2)=>some (.lst ys,Ω2) |none=>none) else none)
 | none=>none:=(rfl)
@[simp] theorem VN:d_ ρ Ω=some (true,Ω):=(rfl)
@[simp] theorem VP:aR ρ Ω=some (.nx ρ Ω):=(rfl)
@[simp] theorem wV(s t:aN):aG s t ρ Ω=match s ρ Ω with |some (.nx ρ' Ω')=>t ρ' Ω' |r=>r:=(rfl)
@[simp] theorem JP(γ:List Sl->Option (List Sl))(s:aN):sE γ s ρ Ω=match γ ρ with |some ρ'=>s ρ' Ω |none=>none:=(rfl)
@[simp] theorem vI(i:Nat)(g:Den):bF i g ρ Ω=match g ρ Ω with |some (d,Ω')=>some (.nx (ρ.set i (.dat d)) Ω') |none=>none:=(rfl)
@[simp] theorem my(g:Den):bx g ρ Ω=match g ρ Ω with |some (d,Ω')=>some (.rt d Ω') |none=>none:=(rfl)
@[simp] theorem zL(p:bV)(s t:aN):sIf p s t ρ Ω=match p ρ Ω with |some (true,Ω')=>s ρ Ω' |some (false,Ω')=>t ρ Ω' |none=>none:=(rfl)
@[simp] theorem Wr(i:Nat)(g:bA):wO i g ρ Ω=match g ρ Ω with |some (ds,Ω')=>(if ds.length<=100000 then some (.nx (ρ.set i (.own ds)) Ω') else none) |none=>none:=(rfl)
@[simp] theorem Sh(i:Nat)(g:Den):pW i g ρ Ω=match g ρ Ω with
 | some (d,Ω')=>(match ρ[i]? with |some (.own ds)=>(if ds.length<100000 then some (.nx (ρ.set i (.own (ds++[d]))) Ω') else none) |_=>none)
 | none=>none:=(rfl)
@[simp] theorem Sq(β:dG)(g:Den):sH β g ρ Ω=match g ρ Ω with |some (d,Ω')=>(match β d ρ with |some ρ'=>some (.nx ρ' Ω') |none=>none) |none=>none:=(rfl)
@[simp] theorem sJ(γ:bA)(β:dG)(s:aN):mO γ β s ρ Ω=match γ ρ Ω with |some (ds,Ω')=>jb β s ds ρ Ω' |none=>none:=(rfl)
@[simp] theorem Vw(i:Nat)(d:D):bT i d ρ=some (ρ.set i (.dat d)):=(rfl)
@[simp] theorem VR(is:List Nat)(ds:List D):jx is (.tup ds) ρ=sG is ds ρ:=(rfl)
@[simp] theorem VV(β:dG)(s:aN):jb β s [] ρ Ω=some (.nx ρ Ω):=(rfl)
theorem jO(β:dG)(s:aN)(d:D)(ds:List D):jb β s (d::ds) ρ Ω=match β d ρ with
  | some ρ1=>(match s ρ1 Ω with
   | some (.nx ρ' Ω')=>jb β s ds ρ' Ω'
   | some (.ct ρ' Ω')=>jb β s ds ρ' Ω'
   | some (.bk ρ' Ω')=>some (.nx ρ' Ω')
   | some (.rt z Ω')=>some (.rt z Ω')
   | none=>none)
  | none=>none:=(rfl)
theorem jW(β:dG)(p:bV)(g:Den)(d:D)(ds:List D):gm β p g (d::ds) ρ Ω=match β d ρ with
  | some ρ1=>(match p ρ1 Ω with
   | some (true,Ω1)=>(match g ρ1 Ω1 with
    | some (y,Ω2)=>(match gm β p g ds ρ1 Ω2 with
     | some (ys,Ω3)=>some (y::ys,Ω3)
     | none=>none)
    | none=>none)
   | some (false,Ω1)=>gm β p g ds ρ1 Ω1
   | none=>none)
  | none=>none:=(rfl)
theorem zM(n m:Nat)(s:aN)(ds:List D):cD n m s ds Ω=if ds.length=n then(match s (ds.map Sl.dat++List.replicate (m-n) Sl.und) Ω with
  | some (.rt d Ω')=>some (d,Ω')
  | some (.nx _ Ω')=>some (.non,Ω')
  | _=>none)
 else none:=(rfl)
@[simp] theorem WQ(c:Int->Int->Bool)(f:Int->Int->Int)(i j:Int):dI c f (.int i) (.int j)=if c i j=true then some (.int (f i j)) else none:=(rfl)
@[simp] theorem WR(f:Int->Int->Bool)(i j:Int):dB f (.int i) (.int j)=some (.bl (f i j)):=(rfl)
@[simp] theorem add_int(i j:Int):dN (.int i) (.int j)=some (.int (i+j)):=(rfl)
@[simp] theorem Ss(xs:List D)(i:Int):ixD (.lst xs) (.int i)=L2.atI xs i:=(rfl)
@[simp] theorem Gb(xs:List D)(i:Int):ixD (.tup xs) (.int i)=L2.atI xs i:=(rfl)
@[simp] theorem Ws(ns:List Int)(i:Int):ixD (.scr ns) (.int i)=(L2.atI ns i).map D.int:=(rfl)
@[simp] theorem Wt(xs:List D)(lo hi:Option Int):slD (.lst xs) lo hi=some (.lst (su xs lo hi)):=(rfl)
@[simp] theorem V_(xs:List D):lO [.lst xs]=some (.int xs.length):=(rfl)
@[simp] theorem Wa(ns:List Int):lO [.scr ns]=some (.int ns.length):=(rfl)
@[simp] theorem WT(i j:Int):kh [.int i,.int j]=some (.int (if j>i then j else i)):=(rfl)
@[simp] theorem WW(i j:Int):jj [.int i,.int j]=some (.int (if j<i then j else i)):=(rfl)
@[simp] theorem Wb(xs:List D):JL (.lst xs)=some xs:=(rfl)
theorem Ed{j:Int}(h0:-1000000<=j)(h:j<=1000000):lQ [.int j]=some (upD 0 j.toNat):=gA (by omega)
theorem uc{i j:Int}(h:(-1000000000000000000<i/\i<1000000000000000000)\/(-1000000000000000000<j/\j<1000000000000000000)):cX (.int i) (.int j)=some (.int (i*j)):=gA (by omega)
end
theorem a_{n m:Nat}{s:aN}{ds:List D}{Ω Ω':List OS}{d:D}(hl:ds.length=n)(h:s (ds.map Sl.dat++List.replicate (m-n) Sl.und) Ω=some (.rt d Ω')):cD n m s ds Ω=some (d,Ω'):=by
 rw[zM,if_pos hl,h]
theorem aK{s t:aN}{ρ ρ':List Sl}{Ω Ω':List OS}(h:s ρ Ω=some (.nx ρ' Ω')):aG s t ρ Ω=t ρ' Ω':=by rw[wV,h]
theorem dH{s t:aN}{ρ:List Sl}{Ω Ω':List OS}{d:D}(h:s ρ Ω=some (.rt d Ω')):aG s t ρ Ω=some (.rt d Ω'):=by rw[wV,h]
@[simp] theorem Uk(lo:Int)(n:Nat):(upD lo n).length=n:=by simp[upD]
theorem lR{β:Type}(xs:List β)(i:Nat)(h:i<xs.length):L2.atI xs (i:Int)=some xs[i]:=L2.Cp (List.getElem?_eq_getElem h)
theorem vJ{β:Type}{xs:List β}{i:Int}(h0:0<=i)(h:i.toNat<xs.length):L2.atI xs i=some xs[i.toNat]:=by
 have e:i=(i.toNat:Int):=by omega
 have q:=lR xs i.toNat h
 rw[<-e] at q
 exact q
theorem wW{β γ:Type}(f:β->γ)(xs:List β)(i:Int):L2.atI (xs.map f) i=(L2.atI xs i).map f:=by
 unfold L2.atI
 rw[List.length_map]
 cases L2.ixN xs.length i with
 | none=>rfl
 | some j=>simp
theorem JQ{β:Type}(xs:List β)(k:Nat):su xs (some (k:Int)) none=xs.drop k:=by
 unfold su
 rw[HT.Jo,HT.Nq]
 rcases Nat.le_total k xs.length with h |h
 ·rw[Nat.min_eq_left h,List.take_of_length_le (by simp)]
 ·rw[Nat.min_eq_right h,List.drop_length,List.drop_eq_nil_of_le h];simp
theorem zN{β:Type}(f:β->D)(g:β->PyData)(h:∀x,toP (f x)=g x):∀xs:List β,fK (xs.map f)=xs.map g
 | []=>by rw[List.map_nil,List.map_nil,fK]
 | x::xs=>by rw[List.map_cons,List.map_cons,fK,h,zN f g h xs]
theorem uN(ns:List Int):toP (.lst (ns.map D.int))=.list (ns.map PyData.int):=by
 rw[toP,zN D.int PyData.int (fun _=>by rw[toP])]
theorem vK(i:Int):SeqAt.shaped (toP (.int i))=true:=by rw[toP];rfl
theorem pH(b:Bool):SeqAt.shaped (toP (.bl b))=true:=by rw[toP];rfl
theorem shaped_ints(ns:List Int):SeqAt.shaped (toP (.lst (ns.map D.int)))=true:=by rw[uN];exact PySem.W.ke_shaped_ints ns
@[simp] theorem Ul(neg:Bool)(i j:Int):eqD neg (.int i) (.int j)=some (.bl (if neg then !decide (i=j) else decide (i=j))):=by
 unfold eqD
 rw[vK,vK]
 have e:PyData.eqv (toP (.int i)) (toP (.int j))=decide (i=j):=by
  rw[toP,toP,PyData.eqv]
  by_cases h:i=j<;>simp[h]
 rw[e]
 rfl
@[simp] theorem JR(neg:Bool)(i j:Bool):eqD neg (.bl i) (.bl j)=some (.bl (if neg then !decide (i=j) else decide (i=j))):=by
 unfold eqD
 rw[pH,pH]
 have e:PyData.eqv (toP (.bl i)) (toP (.bl j))=decide (i=j):=by
  rw[toP,toP]
  cases i<;>cases j<;>rfl
 rw[e]
 rfl
theorem Oq(neg:Bool)(ns ms:List Int):eqD neg (.lst (ns.map D.int)) (.lst (ms.map D.int))=some (.bl (if neg then !decide (ns=ms) else decide (ns=ms))):=by
 unfold eqD
 rw[shaped_ints,shaped_ints]
 have e:PyData.eqv (toP (.lst (ns.map D.int))) (toP (.lst (ms.map D.int)))=decide (ns=ms):=by
  rw[uN,uN,PyData.eqv,PySem.W.ked_eqvAll]
 rw[e]
 rfl
end DL
namespace DL
open PySem PySem.Spec PyProof.Rows L2
theorem yr(p:bV)(s:aN)(n:Nat)(ρ:List Sl)(Ω:List OS):fX p s (n+1) ρ Ω=match p ρ Ω with
  | some (true,Ω1)=>(match s ρ Ω1 with
   | some (.nx ρ' Ω')=>fX p s n ρ' Ω'
   | some (.ct ρ' Ω')=>fX p s n ρ' Ω'
   | some (.bk ρ' Ω')=>some (.nx ρ' Ω')
   | some (.rt z Ω')=>some (.rt z Ω')
   | none=>none)
  | some (false,Ω1)=>some (.nx ρ Ω1)
  | none=>none:=(rfl)
end DL
namespace DL
open PySem PySem.Spec PyProof.Rows L2
noncomputable def OIs(K:PySem.W.Frag)(α:List Addr)(F:Hp):Option D->Option V->Prop
 | none,none=>True
 | some d,some v=>Is K α F d v
 | _,_=>False
section
variable {κ:Type} [DecidableEq κ]
noncomputable def dR(kvs:List (κ×D))(k:κ):Option D:=(kvs.find? fun kv=>decide (kv.1=k)).map (·.2)
noncomputable def putD(kvs:List (κ×D))(k:κ)(v:D):List (κ×D) :=
 if(kvs.any fun kv=>decide (kv.1=k))=true then kvs.map (fun kv=>if kv.1=k then(kv.1,v) else kv) else kvs++[(k,v)]
noncomputable def jl(kvs:List (κ×D))(k:κ):List (κ×D):=kvs.filter fun kv=>decide (kv.1≠k)
variable {K:PySem.W.Frag} {α:List Addr} {F:Hp}
theorem cF.len:∀{ps:List (κ×D)} {vs:List (κ×V)},cF K α F ps vs->ps.length=vs.length
 | [],_,h=>by rw[show _=[] from h];rfl
 | p::r,_,⟨v,t,e,_,q⟩=>by rw[e,List.length_cons,List.length_cons,q.len]
theorem cF.keys:∀{ps:List (κ×D)} {vs:List (κ×V)},cF K α F ps vs->ps.map (·.1)=vs.map (·.1)
 | [],_,h=>by rw[show _=[] from h];rfl
 | p::r,_,⟨v,t,e,_,q⟩=>by rw[e,List.map_cons,List.map_cons,q.keys]
theorem cF.val(k:κ):∀{ps:List (κ×D)} {vs:List (κ×V)},cF K α F ps vs->OIs K α F (dR ps k) (cW vs k)
 | [],_,h=>by rw[show _=[] from h];exact trivial
 | p::r,_,⟨v,t,e,i,q⟩=>by
  subst e
  by_cases h:p.1=k
  ·have e1:dR (p::r) k=some p.2:=by simp[dR,List.find?_cons,h]
   rw[e1,qP h];exact i
  ·have e1:dR (p::r) k=dR r k:=by simp[dR,List.find?_cons,h]
   rw[e1,qQ h];exact q.val k
theorem cF.repl(k:κ){d:D}{y:V}(iy:Is K α F d y):∀{ps:List (κ×D)} {vs:List (κ×V)},cF K α F ps vs->cF K α F (ps.map fun kv=>if kv.1=k then(kv.1,d) else kv) (vs.map fun kv=>if kv.1=k then(kv.1,y) else kv)
 | [],_,h=>by rw[show _=[] from h];exact rfl
 | p::r,_,⟨v,t,e,i,q⟩=>by
  subst e
  rw[List.map_cons,List.map_cons]
  by_cases h:p.1=k
  ·rw[if_pos h,if_pos h];exact⟨y,_,rfl,iy,q.repl k iy⟩
  ·rw[if_neg h,if_neg h];exact⟨v,_,rfl,i,q.repl k iy⟩
theorem cF.snoc(k:κ){d:D}{y:V}(iy:Is K α F d y):∀{ps:List (κ×D)} {vs:List (κ×V)},cF K α F ps vs->cF K α F (ps++[(k,d)]) (vs++[(k,y)])
 | [],_,h=>by rw[show _=[] from h];exact⟨y,[],rfl,iy,rfl⟩
 | p::r,_,⟨v,t,e,i,q⟩=>by
  subst e
  exact⟨v,_,rfl,i,q.snoc k iy⟩
theorem cF.any(k:κ):∀{ps:List (κ×D)} {vs:List (κ×V)},cF K α F ps vs->(ps.any fun kv=>decide (kv.1=k))=vs.any fun kv=>decide (kv.1=k)
 | [],_,h=>by rw[show _=[] from h];rfl
 | p::r,_,⟨v,t,e,i,q⟩=>by
  subst e
  rw[List.any_cons,List.any_cons,q.any k]
theorem cF.put{ps:List (κ×D)}{vs:List (κ×V)}(h:cF K α F ps vs)(k:κ){d:D}{y:V}(iy:Is K α F d y):cF K α F (putD ps k d) (putK vs k y):=by
 unfold putD putK
 rw[h.any k]
 split
 ·exact h.repl k iy
 ·exact h.snoc k iy
theorem cF.drop(k:κ):∀{ps:List (κ×D)} {vs:List (κ×V)},cF K α F ps vs->cF K α F (jl ps k) (eY vs k)
 | [],_,h=>by rw[show _=[] from h];exact rfl
 | p::r,_,⟨v,t,e,i,q⟩=>by
  subst e
  unfold jl eY
  by_cases h:p.1=k
  ·rw[List.filter_cons_of_neg (by simp[h]),List.filter_cons_of_neg (by simp[h])];exact q.drop k
  ·rw[List.filter_cons_of_pos (by simp[h]),List.filter_cons_of_pos (by simp[h])];exact⟨v,_,rfl,i,q.drop k⟩
end
section
variable {K:PySem.W.Frag} {α:List Addr} {F:Hp}
theorem cF.look(f:Str):∀{ps:List (Str×D)} {vs:List (Str×V)},cF K α F ps vs->OIs K α F (ps.lookup f) (vs.lookup f)
 | [],_,h=>by rw[show _=[] from h];exact trivial
 | (g,d)::r,_,⟨v,t,e,i,q⟩=>by
  subst e
  by_cases h:(f==g)=true
  ·rw[List.lookup_cons,List.lookup_cons,h];exact i
  ·have h':(f==g)=false:=by cases z:(f==g) with |true=>exact absurd z h |false=>rfl
   rw[List.lookup_cons,List.lookup_cons,h'];exact q.look f
noncomputable def pI(f:Str)(v:D):List (Str×D)->List (Str×D)
 | []=>[(f,v)]
 | (g,x)::r=>if g=f then(g,v)::r else(g,x)::pI f v r
theorem cF.gq(f:Str){d:D}{y:V}(iy:Is K α F d y):∀{ps:List (Str×D)} {vs:List (Str×V)},cF K α F ps vs->cF K α F (pI f d ps) (L2.gq f y vs)
 | [],_,h=>by rw[show _=[] from h];exact⟨y,[],rfl,iy,rfl⟩
 | (g,x)::r,_,⟨v,t,e,i,q⟩=>by
  subst e
  unfold pI L2.gq
  by_cases h:g=f
  ·rw[if_pos h,if_pos h];exact⟨y,t,rfl,iy,q⟩
  ·rw[if_neg h,if_neg h];exact⟨v,_,rfl,i,q.gq f iy⟩
end
noncomputable def E4.obj(e:E4)(p:Addr)(H':Hp):E4:=⟨e.α++[p],e.F,fun b=>e.A b\/b=p,H'⟩
noncomputable def E4.at(e:E4)(a:Addr)(o:HO):E4:=⟨e.α,e.F,e.A,upd e.H a o⟩
section
variable {K:PySem.W.Frag} {C:Cl} {e:E4} {Ω:List OS}
theorem Wf.objA(w:Wf K C e Ω){n:Nat}{a:Addr}(h:e.α[n]? = some a):e.A a/\∃o,Ω[n]? = some o:=by
 have hl:n<Ω.length:=by rw[<-w.ol];exact(List.getElem?_eq_some_iff.mp h).1
 exact⟨(w.ob n a _ h (List.getElem?_eq_getElem hl)).1,_,List.getElem?_eq_getElem hl⟩
theorem Wf.obj(w:Wf K C e Ω){p:Addr}{H':Hp}{o:OS}(hp:e.H p=none)(hk:∀b u,e.H b=some u->H' b=some u)(hn:H' p≠none/\∀xs,H' p≠some (.tup xs))(ho:uL K C (e.obj p H') p o) :
  Wf K C (e.obj p H') (Ω++[o])/\Ext e (e.obj p H'):=by
 have nA:¬e.A p:=fun z=>(w.ah p z).1 hp
 have npα:p∉e.α:=fun z=>by
  obtain⟨n,h⟩:=List.getElem?_of_mem z
  exact nA (w.objA h).1
 refine⟨⟨fun b u h=>hk b u (w.fh b u h),fun b h=>?_,fun b h=>?_,?_,?_,fun n b u h1 h2=>?_⟩,⟨fun b o' u h=>hk b _ h,fun b u h _=>hk b u h,fun b u h=>⟨u,hk b u h⟩,bC.refl _,fun b u h=>.inl h,fun b h=>?_,fun b h=>.inl h,[p],rfl⟩⟩
 ·rcases h with h |rfl
  ·exact w.fa b h
  ·exact w.nF hp
 ·rcases h with h |rfl
  ·obtain⟨h1,h2⟩:=w.ah b h
   cases q:e.H b with
   | none=>exact absurd q h1
   | some u =>
    show H' b≠none/\∀xs,H' b≠some (.tup xs)
    rw[hk b u q,<-q]
    exact⟨h1,h2⟩
  ·exact hn
 ·show(e.α++[p]).length=(Ω++[o]).length
  rw[List.length_append,List.length_append,w.ol];rfl
 ·show(e.α++[p]).Nodup
  rw[List.nodup_append]
  refine⟨w.nd,by simp,fun x hx y hy=>?_⟩
  simp only[List.mem_singleton] at hy
  subst hy
  exact fun z=>npα (z ▸ hx)
 ·have h1:(e.α++[p])[n]? = some b:=h1
  by_cases hl:n<e.α.length
  ·rw[List.getElem?_append_left hl] at h1
   rw[List.getElem?_append_left (by rw[<-w.ol];exact hl)] at h2
   exact⟨.inl (w.ob n b u h1 h2).1,(w.ob n b u h1 h2).2.keep (fun v hv=>hk b v hv) (bC.refl _) ⟨[p],rfl⟩⟩
  ·have en:n=e.α.length:=by
    have:=(List.getElem?_eq_some_iff.mp h1).1
    rw[List.length_append] at this
    simp at this
    omega
   subst en
   rw[List.getElem?_append_right (Nat.le_refl _),Nat.sub_self] at h1
   rw[w.ol,List.getElem?_append_right (Nat.le_refl _),Nat.sub_self] at h2
   cases h1
   cases h2
   exact⟨.inr rfl,ho⟩
 ·rcases h with h |rfl
  ·exact .inl h
  ·exact .inr hp
theorem Wf.atW(w:Wf K C e Ω){n:Nat}{a:Addr}{o':OS}{ho:HO}(hα:e.α[n]? = some a)(hn:∀xs,ho ≠ .tup xs)(h':uL K C (e.at a ho) a o'):Wf K C (e.at a ho) (Ω.set n o'):=by
 have hA:=(w.objA hα).1
 have hF:=w.fa a hA
 have neF:∀b u,e.F b=some u->b≠a:=fun b u h z=>by subst z;rw[hF] at h;cases h
 refine⟨fun b u h=>?_,w.fa,fun b h=>?_,by simp[E4.at,w.ol],w.nd,fun m b u h1 h2=>?_⟩
 ·show upd e.H a ho b=some u
  rw[aC (neF b u h)];exact w.fh b u h
 ·show upd e.H a ho b≠none/\∀xs,upd e.H a ho b≠some (.tup xs)
  by_cases z:b=a
  ·subst z;rw[aJ];exact⟨by simp,fun xs q=>hn xs (Option.some.inj q)⟩
  ·rw[aC z];exact w.ah b h
 ·by_cases z:m=n
  ·subst z
   have h1:e.α[m]? = some b:=h1
   rw[hα] at h1
   cases h1
   have hl:m<Ω.length:=by rw[<-w.ol];exact(List.getElem?_eq_some_iff.mp hα).1
   rw[List.getElem?_set_self hl] at h2
   cases h2
   exact⟨hA,h'⟩
  ·rw[List.getElem?_set_ne (fun q=>z q.symm)] at h2
   have nb:b≠a:=fun q=>by
    subst q
    exact z ((List.getElem?_inj (List.getElem?_eq_some_iff.mp h1).1 w.nd).mp (h1.trans hα.symm))
   refine⟨(w.ob m b u h1 h2).1,(w.ob m b u h1 h2).2.keep (fun v hv=>?_) (bC.refl _) ⟨[],by simp[E4.at]⟩⟩
   show upd e.H a ho b=some v
   rw[aC nb];exact hv
theorem Wf.at(w:Wf K C e Ω){n:Nat}{a:Addr}{o':OS}{ho:HO}(hα:e.α[n]? = some a)(hn:∀xs,ho ≠ .tup xs)(h':uL K C (e.at a ho) a o')(hz:∀o u,e.H a≠some (.frz o u)) :
  Wf K C (e.at a ho) (Ω.set n o')/\Ext e (e.at a ho):=by
 have hA:=(w.objA hα).1
 refine⟨w.atW hα hn h',⟨fun b o' u h=>?_,fun b u h hn=>?_,fun b u h=>?_,bC.refl _,fun b u h=>.inl h,fun b h=>.inl h,fun b h=>h,[],by simp[E4.at]⟩⟩
 ·show upd e.H a ho b=some (.frz o' u)
  rw[aC (fun z=>hz o' u (by rw[<-z];exact h))];exact h
 ·show upd e.H a ho b=some u
  rw[aC (fun z=>hn (by rw[z];exact hA))];exact h
 ·by_cases z:b=a
  ·subst z;exact⟨ho,aJ⟩
  ·exact⟨u,by show upd e.H a ho b=some u;rw[aC z];exact h⟩
end
noncomputable def oF:D->Option Key
 | .int i=>some (.inl i)
 | .str x=>some (.inr x)
 | _=>none
noncomputable def ud:List D->Option (List Key)
 | []=>some []
 | d::ds=>match oF d with
  | some k=>(match ud ds with |some ks=>some (k::ks) |none=>none)
  | none=>none
noncomputable def jm:D->Option (List Key)
 | .tup xs=>ud xs
 | _=>none
noncomputable def ofK:Key->D
 | .inl i=>.int i
 | .inr x=>.str x
section
variable {K:PySem.W.Frag} {α:List Addr} {F:Hp}
theorem sO{d:D}{k:Key}{v:V}(h:oF d=some k)(i:Is K α F d v):v=kV k:=by
 cases d<;>first |cases h |skip
 ·rw[Is] at i;exact i
 ·rw[Is] at i;exact i
theorem CV:∀{ds:List D} {ks:List Key} {vs:List V},ud ds=some ks->IsL K α F ds vs->vs=ks.map kV
 | [],ks,vs,h,i=>by cases h;rw[i.of_nil];rfl
 | d::ds,ks,vs,h,i=>by
  obtain⟨v,r,rfl,i1,i2⟩:=i.of_cons
  unfold ud at h
  cases q:oF d with
  | none=>rw[q] at h;cases h
  | some k =>
   rw[q] at h
   dsimp only at h
   cases q2:ud ds with
   | none=>rw[q2] at h;cases h
   | some ks' =>
    rw[q2] at h
    cases h
    rw[List.map_cons,sO q i1,CV q2 i2]
theorem qw{d:D}{ks:List Key}{v:V}(h:jm d=some ks)(i:Is K α F d v):∃b,v=.ref b/\F b=some (.tup (ks.map kV)):=by
 cases d<;>first |cases h |skip
 rw[Is] at i
 obtain⟨a,vs,rfl,e,q⟩:=i
 rw[CV h q] at e
 exact⟨a,rfl,e⟩
theorem GQ(k:Key):Is K α F (ofK k) (kV k):=by
 cases k with
 | inl i=>show Is K α F (.int i) (.int i);rw[Is]
 | inr x=>show Is K α F (.str x) (.str x);rw[Is]
theorem CW:∀ks:List Key,IsL K α F (ks.map ofK) (ks.map kV)
 | []=>.nil
 | k::ks=>.cons (GQ k) (CW ks)
end
noncomputable def jn:OS->D->Option (Option D)
 | .fzK kvs,d=>(match oF d with |some k=>some (dR kvs k) |none=>none)
 | .dK kvs,d=>(match oF d with |some k=>some (dR kvs k) |none=>none)
 | .dT kvs,d=>(match jm d with |some k=>some (dR kvs k) |none=>none)
 | _,_=>none
noncomputable def qY:OS->D->D->Option OS
 | .dK kvs,d,v=>(match oF d with |some k=>if kvs.length<100000 then some (.dK (putD kvs k v)) else none |none=>none)
 | .dT kvs,d,v=>(match jm d with |some k=>if kvs.length<100000 then some (.dT (putD kvs k v)) else none |none=>none)
 | _,_,_=>none
noncomputable def mZ:OS->Bool
 | .fzK _=>true
 | .dK _=>true
 | .dT _=>true
 | _=>false
section
variable {K:PySem.W.Frag} {C:Cl} {e:E4} {Ω:List OS}
theorem wX(w:Wf K C e Ω){n:Nat}{a:Addr}{o:OS}{d:D}{r:Option D}{y:V}(hα:e.α[n]? = some a)(hΩ:Ω[n]? = some o)(hl:jn o d=some r)(i:Is K e.α e.F d y) :
  ∃r',iV e.H a y r'/\OIs K e.α e.F r r':=by
 have ob:=(w.ob n a o hα hΩ).2
 unfold jn at hl
 cases o with
 | fzK kvs =>
  obtain⟨vs,ob',h1,h2⟩:=ob
  dsimp only at hl
  cases q:oF d with
  | none=>rw[q] at hl;cases hl
  | some k =>
   rw[q] at hl
   cases hl
   rw[sO q i]
   exact⟨_,.inl ⟨vs,k,.inr ⟨_,h1⟩,rfl,rfl⟩,h2.val k⟩
 | dK kvs =>
  obtain⟨vs,h1,h2⟩:=ob
  dsimp only at hl
  cases q:oF d with
  | none=>rw[q] at hl;cases hl
  | some k =>
   rw[q] at hl
   cases hl
   rw[sO q i]
   exact⟨_,iV.k h1,h2.val k⟩
 | dT kvs =>
  obtain⟨vs,h1,h2⟩:=ob
  dsimp only at hl
  cases q:jm d with
  | none=>rw[q] at hl;cases hl
  | some k =>
   rw[q] at hl
   cases hl
   obtain⟨b,rfl,hb⟩:=qw q i
   exact⟨_,iV.t h1 (w.fh _ _ hb),h2.val k⟩
 | _=>cases hl
theorem zO(w:Wf K C e Ω){n:Nat}{a:Addr}{o:OS}(hα:e.α[n]? = some a)(hΩ:Ω[n]? = some o)(h:mZ o=true):IsD e.H a:=by
 have ob:=(w.ob n a o hα hΩ).2
 cases o with
 | fzK kvs=>obtain⟨vs,ob',h1,_⟩:=ob;exact .inl ⟨vs,.inr ⟨_,h1⟩⟩
 | dK kvs=>obtain⟨vs,h1,_⟩:=ob;exact .inl ⟨vs,.inl h1⟩
 | dT kvs=>obtain⟨vs,h1,_⟩:=ob;exact .inr ⟨vs,.inl h1⟩
 | _=>cases h
theorem Ot(w:Wf K C e Ω){n:Nat}{a:Addr}{o o':OS}{d x:D}{y v:V}(hα:e.α[n]? = some a)(hΩ:Ω[n]? = some o)(hp:qY o d x=some o')(i:Is K e.α e.F d y)(ix:Is K e.α e.F x v) :
  ∃H',qU e.H a y v H'/\∃e',e'.H=H'/\Wf K C e' (Ω.set n o')/\Ext e e':=by
 have ob:=(w.ob n a o hα hΩ).2
 unfold qY at hp
 cases o with
 | dK kvs =>
  obtain⟨vs,h1,h2⟩:=ob
  dsimp only at hp
  cases q:oF d with
  | none=>rw[q] at hp;cases hp
  | some k =>
   rw[q] at hp
   dsimp only at hp
   split at hp
   ·rename_i hl
    cases hp
    rw[sO q i]
    refine⟨_,qU.k h1 (by rw[<-h2.len];exact nZ hl),e.at a _,rfl,w.at hα (fun xs z=>nomatch z) ⟨_,aJ,h2.put k ix⟩ fun o u z=>by rw[h1] at z;cases z⟩
   ·cases hp
 | dT kvs =>
  obtain⟨vs,h1,h2⟩:=ob
  dsimp only at hp
  cases q:jm d with
  | none=>rw[q] at hp;cases hp
  | some k =>
   rw[q] at hp
   dsimp only at hp
   split at hp
   ·rename_i hl
    cases hp
    obtain⟨b,rfl,hb⟩:=qw q i
    refine⟨_,qU.t h1 (w.fh _ _ hb) (by rw[<-h2.len];exact nZ hl),e.at a _,rfl,w.at hα (fun xs z=>nomatch z) ⟨_,aJ,h2.put k ix⟩ fun o u z=>by rw[h1] at z;cases z⟩
   ·cases hp
 | _=>cases hp
end
noncomputable def jF:Den:=fun _ Ω=>some (.obj Ω.length,Ω++[.dT []])
noncomputable def eE(go gi:Den):Den:=fun ρ Ω=>match go ρ Ω with
 | some (.obj n,Ω1)=>(match gi ρ Ω1 with
  | some (k,Ω2)=>(match Ω2[n]? with
   | some o=>(match jn o k with |some (some d)=>some (d,Ω2) |_=>none)
   | none=>none)
  | none=>none)
 | _=>none
noncomputable def jy(neg:Bool)(gk go:Den):Den:=fun ρ Ω=>match gk ρ Ω with
 | some (k,Ω1)=>(match go ρ Ω1 with
  | some (.obj n,Ω2)=>(match Ω2[n]? with
   | some o=>(match jn o k with |some r=>some (.bl (if neg then !r.isSome else r.isSome),Ω2) |none=>none)
   | none=>none)
  | _=>none)
 | none=>none
noncomputable def sS(go gk gx:Den):Den:=fun ρ Ω=>match go ρ Ω with
 | some (.obj n,Ω1)=>(match Ω1[n]? with
  | some o=>if mZ o=true then(match gk ρ Ω1 with
   | some (k,Ω2)=>(match gx ρ Ω2 with
    | some (x,Ω3)=>(match Ω3[n]? with
     | some o2=>(match jn o2 k with |some r=>some (r.getD x,Ω3) |none=>none)
     | none=>none)
    | none=>none)
   | none=>none) else none
  | none=>none)
 | _=>none
noncomputable def jE(go gi gv:Den):aN:=fun ρ Ω=>match gv ρ Ω with
 | some (v,Ω1)=>(match go ρ Ω1 with
  | some (.obj n,Ω2)=>(match gi ρ Ω2 with
   | some (k,Ω3)=>(match Ω3[n]? with
    | some o=>(match qY o k v with |some o'=>some (.nx ρ (Ω3.set n o')) |none=>none)
    | none=>none)
   | none=>none)
  | _=>none)
 | none=>none
noncomputable def qZ(go:Den):Den:=fun ρ Ω=>match go ρ Ω with
 | some (.obj n,Ω1)=>(match Ω1[n]? with
  | some (.dK kvs)=>some (.int kvs.length,Ω1)
  | some (.dT kvs)=>some (.int kvs.length,Ω1)
  | _=>none)
 | _=>none
section
variable {X:Cx} {C:Cl} {a b c x y:Expr} {f g h:Den} {pos pos' ap cp:Pos}
theorem nP:PD X C (.Dict [] [] pos) jF:=bj Ju fun σ H Q hw'=>by
 obtain⟨e,Ω,ρ,d,Ω',eH,w,rl,q,kk⟩:=hw'
 subst eH
 cases q
 intro p hp
 obtain⟨w',x'⟩:=w.obj (H':=upd e.H p (.dT [])) (o:=.dT []) hp (fun b u hb=>by rw[aC (aM hb hp)];exact hb) (by rw[aJ];exact⟨by simp,fun xs z=>nomatch z⟩) ⟨[],aJ,rfl⟩
 refine kk _ (e.obj p _) x' w' ?_
 rw[Is]
 exact⟨p,by show(e.α++[p])[Ω.length]? = some p;rw[<-w.ol];simp,rfl⟩
theorem OIs.some_of{K:PySem.W.Frag}{α:List Addr}{F:Hp}{d:D}{r:Option V}(h:OIs K α F (some d) r):∃v,r=some v/\Is K α F d v:=by
 cases r with
 | none=>exact h.elim
 | some v=>exact⟨v,rfl,h⟩
theorem OIs.isSome{K:PySem.W.Frag}{α:List Addr}{F:Hp}{d:Option D}{r:Option V}(h:OIs K α F d r):r.isSome=d.isSome:=by
 cases r<;>cases d<;>first |rfl |exact h.elim
theorem OIs.getD{K:PySem.W.Frag}{α:List Addr}{F:Hp}{d:Option D}{r:Option V}{x:D}{v:V}(h:OIs K α F d r)(i:Is K α F x v):Is K α F (d.getD x) (r.getD v):=by
 cases r<;>cases d<;>first |exact h.elim |exact i |exact h
theorem iG(hu:X.A.units+1<cLine)(ho:PD X C a f)(hi:PD X C b g)(hs:Js b):PD X C (.Subscript a b pos) (eE f g):=bj (NQ hu ho hi hs) fun σ H Q hw'=>by
 obtain⟨e,Ω,ρ,d,Ω',eH,w,rl,q,kk⟩:=hw'
 unfold eE at q
 cases q1:f ρ Ω with
 | none=>rw[q1] at q;cases q
 | some p1 =>
  obtain⟨d1,Ω1⟩:=p1
  rw[q1] at q
  cases d1 with
  | obj n =>
   dsimp only at q
   cases q2:g ρ Ω1 with
   | none=>rw[q2] at q;cases q
   | some p2 =>
    obtain⟨k,Ω2⟩:=p2
    rw[q2] at q
    dsimp only at q
    cases q3:Ω2[n]? with
    | none=>rw[q3] at q;cases q
    | some o =>
     rw[q3] at q
     dsimp only at q
     cases q4:jn o k with
     | none=>rw[q4] at q;cases q
     | some r =>
      rw[q4] at q
      cases r with
      | none=>cases q
      | some d' =>
       cases q
       refine⟨e,Ω,ρ,_,Ω1,eH,w,rl,q1,fun v e1 x1 w1 i1=>?_⟩
       refine⟨e1,Ω1,ρ,k,_,rfl,w1,rl.ext x1,q2,fun u e2 x2 w2 i2=>?_⟩
       have i3:=i1.ext x2
       rw[Is] at i3
       obtain⟨p,hα,rfl⟩:=i3
       obtain⟨r',g1,o1⟩:=wX w2 hα q3 q4 i2
       obtain⟨v',rfl,iv⟩:=o1.some_of
       exact⟨p,v',rfl,g1,kk v' e2 (x1.trans x2) w2 iv⟩
  | _=>cases q
theorem zP{K:PySem.W.Frag}{neg:Bool}{σ:St}{H:Hp}{Q:VK}(h:tD K C (jy neg f g) σ H Q) :
  tD K C f σ H fun y H1=>tD K C g σ H1 fun x H2=>∃a o,x=.ref a/\iV H2 a y o/\Q (.bl (if neg then !o.isSome else o.isSome)) H2:=by
 obtain⟨e,Ω,ρ,d,Ω',eH,w,rl,q,kk⟩:=h
 unfold jy at q
 cases q1:f ρ Ω with
 | none=>rw[q1] at q;cases q
 | some p1 =>
  obtain⟨k,Ω1⟩:=p1
  rw[q1] at q
  dsimp only at q
  cases q2:g ρ Ω1 with
  | none=>rw[q2] at q;cases q
  | some p2 =>
   obtain⟨d2,Ω2⟩:=p2
   rw[q2] at q
   cases d2 with
   | obj n =>
    dsimp only at q
    cases q3:Ω2[n]? with
    | none=>rw[q3] at q;cases q
    | some o =>
     rw[q3] at q
     dsimp only at q
     cases q4:jn o k with
     | none=>rw[q4] at q;cases q
     | some r =>
      rw[q4] at q
      cases q
      refine⟨e,Ω,ρ,k,Ω1,eH,w,rl,q1,fun v e1 x1 w1 i1=>?_⟩
      refine⟨e1,Ω1,ρ,_,_,rfl,w1,rl.ext x1,q2,fun u e2 x2 w2 i2=>?_⟩
      rw[Is] at i2
      obtain⟨p,hα,rfl⟩:=i2
      obtain⟨r',g1,o1⟩:=wX w2 hα q3 q4 (i1.ext x2)
      refine⟨p,r',rfl,g1,?_⟩
      rw[o1.isSome]
      exact kk _ e2 (x1.trans x2) w2 (by rw[Is])
   | _=>cases q
theorem wY(hu:X.A.units+1<cLine)(hk:PD X C a f)(ho:PD X C b g)(h1:behindInMarks .In b=false:=by rfl):PDT X C (.Compare a [.In] [b] pos) (gT (jy false f g)) :=
 nY (Fv (RC hu hk ho) h1) fun σ H Q h=>zP (nJ h)
theorem kI(hu:X.A.units+1<cLine)(hk:PD X C a f)(ho:PD X C b g)(h1:behindInMarks .NotIn b=false:=by rfl):PDT X C (.Compare a [.NotIn] [b] pos) (gT (jy true f g)) :=
 nY (Fv (Gi hu hk ho) h1) fun σ H Q h=>zP (nJ h)
theorem JS(hu:X.A.units+1<cLine)(ho:PD X C a f)(hi:PD X C b g)(hx:PD X C c h)(m:M2 X a "get" ap b c cp):PD X C (.Call (.Attribute a "get" ap) [b,c] [] cp) (sS f g h):=bj (Jv hu ho hi hx m) fun σ H Q hw'=>by
 obtain⟨e,Ω,ρ,d,Ω',eH,w,rl,q,kk⟩:=hw'
 unfold sS at q
 cases q1:f ρ Ω with
 | none=>rw[q1] at q;cases q
 | some p1 =>
  obtain⟨d1,Ω1⟩:=p1
  rw[q1] at q
  cases d1 with
  | obj n =>
   dsimp only at q
   cases q0:Ω1[n]? with
   | none=>rw[q0] at q;cases q
   | some o0 =>
    rw[q0] at q
    dsimp only at q
    by_cases hd:mZ o0=true
    ·rw[if_pos hd] at q
     cases q2:g ρ Ω1 with
     | none=>rw[q2] at q;cases q
     | some p2 =>
      obtain⟨k,Ω2⟩:=p2
      rw[q2] at q
      dsimp only at q
      cases q5:h ρ Ω2 with
      | none=>rw[q5] at q;cases q
      | some p5 =>
       obtain⟨xd,Ω3⟩:=p5
       rw[q5] at q
       dsimp only at q
       cases q3:Ω3[n]? with
       | none=>rw[q3] at q;cases q
       | some o =>
        rw[q3] at q
        dsimp only at q
        cases q4:jn o k with
        | none=>rw[q4] at q;cases q
        | some r =>
         rw[q4] at q
         cases q
         refine⟨e,Ω,ρ,_,Ω1,eH,w,rl,q1,fun v e1 x1 w1 i1=>?_⟩
         rw[Is] at i1
         obtain⟨p,hα,rfl⟩:=i1
         refine⟨p,rfl,zO w1 hα q0 hd,?_⟩
         refine⟨e1,Ω1,ρ,k,_,rfl,w1,rl.ext x1,q2,fun u e2 x2 w2 i2=>?_⟩
         refine⟨e2,Ω2,ρ,xd,_,rfl,w2,(rl.ext x1).ext x2,q5,fun u3 e3 x3 w3 i3'=>?_⟩
         have hα2:e3.α[n]? = some p:=by
          have i3:Is X.K e3.α e3.F (.obj n) (.ref p):=Is.ext (x2.trans x3) (by rw[Is];exact⟨p,hα,rfl⟩)
          rw[Is] at i3
          obtain⟨p',z,zz⟩:=i3
          cases zz
          exact z
         obtain⟨r',g1,o1⟩:=wX w3 hα2 q3 q4 (i2.ext x3)
         exact⟨r',g1,kk _ e3 ((x1.trans x2).trans x3) w3 (o1.getD i3')⟩
    ·rw[if_neg hd] at q;cases q
  | _=>cases q
theorem q_(hu:X.A.units+1<cLine)(ho:PD X C a f)(hi:PD X C b g)(hv:PD X C x h)(hs:swapsWith x (some (.Subscript a b pos')) pos.line X.env=pure false:=by rfl) :
  PDS X C (.Assign [.Subscript a b pos'] x pos) (jE f g h):=fun e₀=>di (NT hu ho hi hv hs) fun Dn σ H hw'=>by
 obtain⟨e,Ω,ρ,o,eH,r,q,k⟩:=hw'
 unfold jE at q
 cases q1:h ρ Ω with
 | none=>rw[q1] at q;cases q
 | some p1 =>
  obtain⟨v,Ω1⟩:=p1
  rw[q1] at q
  dsimp only at q
  cases q2:f ρ Ω1 with
  | none=>rw[q2] at q;cases q
  | some p2 =>
   obtain⟨d2,Ω2⟩:=p2
   rw[q2] at q
   cases d2 with
   | obj n =>
    dsimp only at q
    cases q3:g ρ Ω2 with
    | none=>rw[q3] at q;cases q
    | some p3 =>
     obtain⟨kd,Ω3⟩:=p3
     rw[q3] at q
     dsimp only at q
     cases q4:Ω3[n]? with
     | none=>rw[q4] at q;cases q
     | some ob =>
      rw[q4] at q
      dsimp only at q
      cases q5:qY ob kd v with
      | none=>rw[q5] at q;cases q
      | some ob' =>
       rw[q5] at q
       cases q
       refine⟨e,Ω,ρ,v,Ω1,eH,r.wf,r.rel,q1,fun uv e1 x1 w1 i1=>?_⟩
       refine⟨e1,Ω1,ρ,_,Ω2,rfl,w1,r.rel.ext x1,q2,fun uo e2 x2 w2 i2=>?_⟩
       refine⟨e2,Ω2,ρ,kd,Ω3,rfl,w2,(r.rel.ext x1).ext x2,q3,fun uk e3 x3 w3 i3=>?_⟩
       have i2':=i2.ext x3
       rw[Is] at i2'
       obtain⟨p,hα,rfl⟩:=i2'
       obtain⟨H',hp,e4,rfl,w4,x4⟩:=Ot w3 hα q4 q5 i3 (i1.ext (x2.trans x3))
       exact⟨p,e4.H,rfl,hp,k e4 σ (r.to (((x1.trans x2).trans x3).trans x4) w4)⟩
   | _=>cases q
end
end DL
namespace DR
open PySem PyProof.Rows
open Sem (wp)
noncomputable def jz(h:Heap)(a:Addr)(es:Array DictEntry)(ep:Nat):Prop:=∃o,h.get? a=some o/\o.ExactDict/\o.data=.dict es ep
theorem jz.ty{s:Shared}{a:Addr}{es:Array DictEntry}{ep:Nat}(r:jz s.heap a es ep):s.TypeIs (.ref a) "dict":=let⟨o,h1,h2,_⟩:=r;⟨o,h1,h2.1⟩
theorem jz.to{h h':Heap}{a:Addr}{es:Array DictEntry}{ep:Nat}(r:jz h a es ep)(k:∀o,h.get? a=some o->h'.get? a=some o):jz h' a es ep:=let⟨o,h1,h2⟩:=r;⟨o,k o h1,h2⟩
theorem jz.lt{h:Heap}{a:Addr}{es:Array DictEntry}{ep:Nat}(r:jz h a es ep):a<h.objs.size:=let⟨_,h1,_⟩:=r;Heap.lt_size h1
section
variable {prog:Program} {w:World} {A:Around} {E:Value->Shared->Prop} {s:Shared} {d it:Addr} {es:Array DictEntry} {ep i:Nat}
theorem JT{Q:Value->Shared->Prop}(hd:(d==sysModules)=false)(hm:jz s.heap d es ep)
  (hq:Q (.ref s.heap.objs.size) { s with heap:=s.heap.push { cls:=.type "dict_keyiterator",data:=.fields #[.ref d,.int 0 0,.int es.size 0,.int ep 0] } }):wpAny (model prog w) A (pyIter (.ref d)) Q E s:=by
 obtain⟨o,ho,hc,hx⟩:=id hm
 have ty:=hm.ty
 refine wpAny_pyIter_slot ty F.slot_dict_iter (wpAny_call_entry F.slot_dict_iter ty F.entry_dict_iter ?_ (F.args_dict_iter_1 _))
 unfold Builtin.«dict.__iter__»;refine wpAny_bind ?_
 unfold Builtin.Dict.dictSlotNone;refine wpAny_bind (wpAny_notOrdered_dict ty ?_)
 show wpAny _ _ (pure (Value.ref d)) _ _ s;refine wpAny_pure ?_
 show wpAny _ _ (Builtin.Dict.showsAll d>>=_) _ _ s;unfold Builtin.Dict.showsAll
 rw[if_neg (by rw[hd];exact Bool.false_ne_true)];refine wpAny_bind (wpAny_pure ?_)
 refine wpAny_bind (wpAny_dictEntries ho hx ?_);refine wpAny_bind (wpAny_dictEpoch ho hx ?_)
 refine wpAny_bind (wpAny_newObj_type (wpAny_pure ⟨_,rfl,"dict_keyiterator",_,⟨_,Heap.get?_push_size _ rfl,rfl⟩,F.slot_dict_keyiterator_next.lookup,?_⟩));simpa [rawInt] using hq
theorem JV{Q:Option Value->Shared->Prop}(hit:s.heap.IsKeyIter it d i es.size ep)(hm:jz s.heap d es ep)(hl:i<es.size)
  (hq:∀h',h'.IsKeyIter it d (i+1) es.size ep->Heap.SameBut it s.heap h'->Q (some es[i].key) { s with heap:=h' }):wpAny (model prog w) A (pyNext (.ref it)) Q E s:=by
 obtain⟨o,ho,hc,hd⟩:=id hit
 obtain⟨od,hod,hcd,hdd⟩:=id hm
 unfold pyNext
 refine wpAny_bind (wpAny_attempt (wpAny_callSpecial?_slot (name:=Str.ofString "__next__") hit.typeIs F.slot_dict_keyiterator_next (wpAny_call_entry F.slot_dict_keyiterator_next hit.typeIs F.entry_dict_keyiterator_next ?_ (F.args_dict_keyiterator_next_1 _))))
 refine wpAny_bind (wpAny_pure ?_);refine wpAny_bind ?_;refine wpAny_bind ?_
 first |exact(wpAny_bind (wpAny_typeNameOfWhole_keyiter hit.typeIs (wpAny_pure (by fail)))) |(first |refine wpAny_bind (wpAny_typeNameOfWhole_keyiter hit.typeIs (wpAny_pure ?_)) |refine wpAny_bind (wpAny_typeNameOf_keyiter hit.typeIs (wpAny_pure ?_)))
 refine wpAny_bind (wpAny_fieldsOf ho hd ?_);have own0:Builtin.Dict_items.ownsTuple "dict_keyiterator" = false:=by decide
 simp only[own0,Bool.false_eq_true,if_false];show wpAny _ _ (if(Value.ref d==Value.none)=true then _ else _) _ _ s
 rw[if_neg (show ¬((Value.ref d==Value.none)=true) from Bool.false_ne_true)];refine wpAny_bind (wpAny_pure ?_)
 refine wpAny_bind (wpAny_dictEntries hod hdd ?_);rw[if_neg (by simp)]
 refine wpAny_bind (wpAny_pure ?_);refine wpAny_bind (wpAny_dictEpoch hod hdd ?_)
 rw[if_neg (by simp)];refine wpAny_pure ?_
 simp only[show ¬((i:Int)<0) from by omega,if_false,Int.toNat_natCast,Array.getElem?_eq_getElem hl];refine wpAny_bind ?_
 first |refine wpAny_bind (wpAny_typeNameOfWhole_keyiter hit.typeIs (wpAny_pure ?_)) |skip
 first |refine wpAny_bind (wpAny_typeNameOf_keyiter hit.typeIs (wpAny_pure ?_)) |skip
 refine wpAny_bind (wpAny_isOneOf_keyiter hit.typeIs ?_);show wpAny _ _ (setField (.ref it) 1 (rawInt ((i:Int)+1))>>=_) _ _ s
 refine wpAny_bind (wpAny_setField ho hd (by simp) ?_)
 have it2:(s.heap.update it (Obj.mapFields (·.setIfInBounds 1 (rawInt ((i:Int)+1))))).IsKeyIter it d (i+1) es.size ep :=
  ⟨_,Heap.get?_update_self _ ho (Obj.isFreed_of_fields (Obj.data_mapFields hd _)),(Obj.cls_mapFields ..).trans hc,by rw[Obj.data_mapFields hd];simp[rawInt]⟩
 refine wpAny_bind (wpAny_holding ?_);refine wpAny_bind (wpAny_isOneOf_keyiter (s:={ s with heap:=s.heap.update it (Obj.mapFields (·.setIfInBounds 1 (rawInt ((i:Int)+1)))) }) it2.typeIs ?_)
 show wpAny _ _ (pure es[i].key) _ _ _;exact wpAny_pure (wpAny_pure ⟨_,rfl,wpAny_pure (hq _ it2 (Heap.SameBut.update ..))⟩)
theorem Ou{Q:Option Value->Shared->Prop}(hh:A.handled=none)(hit:s.heap.IsKeyIter it d i es.size ep)(hm:jz s.heap d es ep)(hl:es.size<=i)
  (hq:∀h',Heap.ExtBut it s.heap h'->Q none { s with heap:=h' }):wpAny (model prog w) A (pyNext (.ref it)) Q E s:=by
 obtain⟨o,ho,hc,hd⟩:=id hit
 obtain⟨od,hod,hcd,hdd⟩:=id hm
 unfold pyNext
 refine wpAny_bind (wpAny_attempt (wpAny_callSpecial?_slot (name:=Str.ofString "__next__") hit.typeIs F.slot_dict_keyiterator_next (wpAny_call_entry F.slot_dict_keyiterator_next hit.typeIs F.entry_dict_keyiterator_next ?_ (F.args_dict_keyiterator_next_1 _))))
 refine wpAny_bind (wpAny_pure ?_);refine wpAny_bind ?_;refine wpAny_bind ?_
 first |exact(wpAny_bind (wpAny_typeNameOfWhole_keyiter hit.typeIs (wpAny_pure (by fail)))) |(first |refine wpAny_bind (wpAny_typeNameOfWhole_keyiter hit.typeIs (wpAny_pure ?_)) |refine wpAny_bind (wpAny_typeNameOf_keyiter hit.typeIs (wpAny_pure ?_)))
 refine wpAny_bind (wpAny_fieldsOf ho hd ?_);have own0:Builtin.Dict_items.ownsTuple "dict_keyiterator" = false:=by decide
 simp only[own0,Bool.false_eq_true,if_false];show wpAny _ _ (if(Value.ref d==Value.none)=true then _ else _) _ _ s
 rw[if_neg (show ¬((Value.ref d==Value.none)=true) from Bool.false_ne_true)];refine wpAny_bind (wpAny_pure ?_)
 refine wpAny_bind (wpAny_dictEntries hod hdd ?_);rw[if_neg (by simp)]
 refine wpAny_bind (wpAny_pure ?_);refine wpAny_bind (wpAny_dictEpoch hod hdd ?_)
 rw[if_neg (by simp)];refine wpAny_pure ?_
 simp only[show ¬((i:Int)<0) from by omega,if_false,Int.toNat_natCast,Array.getElem?_eq_none hl];refine wpAny_bind ?_
 first |refine wpAny_bind (wpAny_typeNameOfWhole_keyiter hit.typeIs (wpAny_pure ?_)) |skip
 first |refine wpAny_bind (wpAny_typeNameOf_keyiter hit.typeIs (wpAny_pure ?_)) |skip
 show wpAny _ _ (setField (.ref it) 0 .none>>=_) _ _ s;refine wpAny_bind (wpAny_setField ho hd (by simp) ?_)
 show wpAny _ _ (newExc (.type "StopIteration") []>>=_) _ _ _;refine wpAny_bind ?_
 simp only[newExc,newTuple];refine wpAny_bind (wpAny_newObj_type ?_ (by size_fits))
 refine wpAny_bind (m:=firstArgMember _ _) (wpAny_of_eq (a:=Value.none) (by first |rfl |(simp only[firstArgMember];rfl)) ?_);refine wpAny_newObj_type ?_ (by size_fits)
 simp only[raiseNew];refine wpAny_bind (wpAny_handled ?_)
 rw[show A.in1.handled=none from hh];refine wpAny_bind (wpAny_pure (wpAny_throw ?_))
 refine wpAny_bind (wpAny_isInstance (T:="StopIteration") (b:=true) ⟨_,Heap.get?_push_size _ rfl,rfl⟩ isSubtype_stop ?_);exact wpAny_pure (hq _ (((Heap.SameBut.update ..).extBut.push _).push _))
theorem JW(hh:A.handled=none)(I:Addr)(hne:d≠I):Walks prog w A I [I,d] [I] es.size (fun i v=>(es[i]?).map (·.key)=some v) (fun i h=>h.IsKeyIter I d i es.size ep/\jz h d es ep) where
 sub:=fun b hb=>by simp at hb;simp[hb]
 frame:=fun _ _ _ st hk=>⟨st.1.at (hk I (by simp)),st.2.to (hk d (by simp))⟩
 item:=fun i s Q E hi st hQ=>JV st.1 st.2 hi fun h' it' hs'=>hQ _ h' s.toks (by simp[hi]) ⟨it',st.2.to fun o e=>hs'.extBut d o hne e⟩ fun b o hb e=>hs'.extBut b o (fun z=>hb (by simp[z])) e
 done:=fun s Q E st hQ=>Ou hh st.1 st.2 (Nat.le_refl _) fun h' he'=>hQ h' s.toks fun b o hb e=>he' b o (fun z=>hb (by simp[z])) e
 self:=fun _ _ _ _ st hQ=>wpAny_pyIter_keyiter st.1 hQ
theorem CZ(lo:(d==sysModules)=false):PySem.W.KdlSrc prog w "dict" d d es.size (fun i v=>(es[i]?).map (·.key)=some v) (fun h=>jz h d es ep) where
 type:=fun s hm=>jz.ty hm
 there:=fun _ hm=>⟨hm.lt,hm.lt⟩
 keep:=fun _ _ hm hk=>hm.to fun o e=>hk d (.inl rfl) o e
 notList:=by decide
 notTuple:=by decide
 hint:=fun _ _ s _ hm hq=>PySem.W.kdl_hint_dict (jz.ty hm) hq
 iter:=fun _ s hh hm=>⟨_,_,(fun _ _ hq=>JT lo hm hq),JW hh _ (Nat.ne_of_lt hm.lt),⟨⟨_,Heap.get?_push_size _ rfl,rfl,rfl⟩,hm.to fun o e=>Heap.get?_push_of_some _ e⟩⟩
theorem Ov{Q:Value->Shared->Prop}(hd:(d==sysModules)=false)(hm:jz s.heap d es ep)(hfit:(es.size:Int)<2 ^ 63)
  (h:Q (.int es.size (s.toks+1)) { s with toks:=s.toks+1+1 }):wpAny (model prog w) A (call (.builtin "len") [.ref d]) Q E s:=by
 obtain⟨o,ho,hc,hx⟩:=id hm
 have ty:=hm.ty
 have ml:MeetsIn prog w (Builtin.«dict.__len__» ⟨[.ref d],[]⟩) (fun _ R s=>jz s.heap d es ep/\R (.ok (.ret (.int es.size s.toks))) { s with toks:=s.toks+1 }):=.of_wp fun A R s ⟨⟨o,ho,hc,hx⟩,h⟩=>by
  show wpAny _ _ (dictSize d>>=_) _ _ s;unfold dictSize
  refine wpAny_bind (wpAny_bind (wpAny_dictEntries ho hx (wpAny_pure ?_)))
  show wpAny _ _ (Builtin.Dict.pendingCount d>>=_) _ _ s;refine wpAny_bind (wpAny_pendingCount_other hd ?_)
  refine wpAny_ret_mkInt ?_;rw[Nat.add_zero];exact h
 refine Calls.call_function_entry kind_len plain_len entry_len (args_len1 _) ?_
 unfold Builtin.«len»;refine wpAny_bind (m:=oneArg "len" _) (wpAny_pure ?_)
 refine wpAny_bind (m:=callSpecial? (.ref d) (Str.ofString "__len__")) (wpAny_callSpecial?_slot (name:=Str.ofString "__len__") ty F.slot_dict_len (call_meetsIn F.slot_dict_len ty F.entry_dict_len (F.args_dict_len_1 _) ml ⟨hm,?_⟩))
 show wpAny _ _ _ _ _ { s with toks:=s.toks+1 };refine wpAny_bind (wpAny_holding (wpAny_pure ?_))
 refine wpAny_bind (wpAny_letGo ?_);show wpAny _ _ (if((es.size:Nat):Int)<0 then _ else _) _ _ _
 rw[if_neg (by omega)];show wpAny _ _ (if((es.size:Nat):Int) ≥ 2 ^ 63 then _ else _) _ _ _
 rw[if_neg (by omega)];exact wpAny_bind (wpAny_mkInt (wpAny_pure ⟨_,rfl,h⟩))
end
section
variable {κ:Type} [DecidableEq κ]
noncomputable def rm(xs:List (κ×Addr×Value))(k:κ):List (κ×Addr×Value):=xs.filter fun x=>decide (x.1≠k)
theorem Ow:∀{xs:List (κ×Addr×Value)} {k:κ},k∉xs.map (·.1)->rm xs k=xs:=fun {xs k} h=>by
 unfold rm
 rw[List.filter_eq_self]
 intro x hx
 exact decide_eq_true fun e=>h (List.mem_map.mpr ⟨x,hx,e⟩)
theorem vL:∀{xs:List (κ×Addr×Value)} {k:κ} {j:Nat} {p:Addr×Value},(xs.map (·.1)).Nodup->xs[j]? = some (k,p)->rm xs k=xs.eraseIdx j
 | [],_,_,_,_,h=>by simp at h
 | x::r,k,0,p,hn,h=>by
  rw[List.getElem?_cons_zero] at h
  cases h
  rw[List.map_cons,List.nodup_cons] at hn
  rw[List.eraseIdx_cons_zero]
  show List.filter _ _=_
  rw[List.filter_cons_of_neg (by simp)]
  exact Ow hn.1
 | x::r,k,j+1,p,hn,h=>by
  rw[List.getElem?_cons_succ] at h
  rw[List.map_cons,List.nodup_cons] at hn
  have ne:¬x.1=k:=fun e=>hn.1 (e ▸ List.mem_map.mpr ⟨(k,p),List.mem_of_getElem? h,rfl⟩)
  rw[List.eraseIdx_cons_succ,<-vL hn.2 h]
  show List.filter _ _=_
  rw[List.filter_cons_of_pos (by simp[ne])]
  rfl
theorem yt{α β:Type}(f:α->β):∀(l:List α) (j:Nat),(l.eraseIdx j).map f=(l.map f).eraseIdx j
 | [],_=>rfl
 | _::_,0=>rfl
 | x::l,j+1=>by rw[List.eraseIdx_cons_succ,List.map_cons,List.map_cons,List.eraseIdx_cons_succ,yt f l j]
variable {prog:Program} {w:World} {knd:HeapKind prog w κ} {A:Around} {E:Value->Shared->Prop} {s:Shared}
theorem zQ{d a:Addr}{xs:List (κ×Addr×Value)}{k:κ}{p:Addr×Value}{Q:Option DictEntry->Shared->Prop}(hu:knd.room A)(hkey:knd.is s.heap k a)(hm:s.heap.DictOfH knd d xs)(hp:atKey xs k=some p)
  (hsome:∀e h',e.val=p.2->h'.DictOfH knd d (rm xs k)->Heap.SameBut d s.heap h'->Q (some e) { s with heap:=h',toks:=s.toks+knd.draws k }) (hsz:xs.length<=sizeLine) :
  wpAny (model prog w) A (Builtin.Dict.takeOut d (.ref a)) Q E s:=by
 obtain⟨o,es,ep,ho,hc,hd,he,his,hn⟩:=hm
 unfold Builtin.Dict.takeOut
 try with_reducible refine wpAny_holding ?_
 refine wpAny_bind (knd.pyHash hu hkey (wpAny_bind (wpAny_dictFind_heap (s:={ s with toks:=s.toks+knd.draws k }) hu hkey ho hd he his hn (fun hno=>?_) (fun j p' hj=>?_))))
 ·rw[atKey_none_of_get hno] at hp;cases hp
 ·rw[atKey_of_get hn hj] at hp
  cases hp
  refine wpAny_bind (wpAny_dictEntries (s:={ s with toks:=s.toks+knd.draws k }) ho hd ?_)
  rw[entry_at he j,hj]
  refine wpAny_bind (wpAny_updateDictKeys (hz:=by have e:=size_of_entries he;omega) (s:={ s with toks:=s.toks+knd.draws k }) ho hd (wpAny_pure (hsome _ _ rfl ⟨_,_,ep+1,Heap.get?_update_self _ ho (Obj.isFreed_of_dict (Obj.data_mapDictKeys hd _)),hc.mapDictKeys _,Obj.data_mapDictKeys hd _,?_,?_,?_⟩ (Heap.SameBut.update ..))))
  ·rw[vL hn hj,yt,<-he]
   obtain⟨l⟩:=es
   simp
  ·intro x hx
   exact knd.keeps (his x (List.mem_filter.mp hx).1) ho hd (Heap.SameBut.update ..)
  ·exact hn.sublist (List.filter_sublist.map _)
theorem JX{d a:Addr}{xs:List (κ×Addr×Value)}{k:κ}{p:Addr×Value}{R:Result->Shared->Prop}(hu:knd.room A.in1)(hkey:knd.is s.heap k a)(hm:s.heap.DictOfH knd d xs)(hp:atKey xs k=some p)(hsz:xs.length<=sizeLine)
  (h:∀h',h'.DictOfH knd d (rm xs k)->Heap.SameBut d s.heap h'->R (.ok (.ret p.2)) { s with heap:=h',toks:=s.toks+knd.draws k }) :
  wpAny (model prog w) A.in1 (Builtin.«dict.pop» ⟨[.ref d,.ref a],[]⟩) (fun fin s'=>match fin with |.done f=>R (.ok f) s' |.again c'=>c'.quiet=true/\codeAny (model prog w) A c' R s') (fun e s'=>R (.error e) s') s:=by
 obtain⟨o,es,ep,ho,hc,hd,he,his,hn⟩:=id hm
 have ne:es.isEmpty=false:=by
  rw[Array.isEmpty_eq_false_iff]
  intro z
  rw[z] at he
  have e2:xs=[]:=by
   cases xs with
   | nil=>rfl
   | cons x r=>simp at he
  rw[e2] at hp
  cases hp
 unfold Builtin.«dict.pop»;refine wpAny_bind ?_
 unfold Builtin.Dict.keyAndDefault;refine wpAny_bind (wpAny_notOrdered_dict hm.typeIs ?_)
 show wpAny _ _ (pure (d,Value.ref a,none)) _ _ s;refine wpAny_pure ?_
 dsimp only;rw[if_neg (show ¬((keyPart (Value.ref a)).isSome=true) from by simp[keyPart])]
 refine wpAny_bind (wpAny_dictEntries ho hd ?_);refine wpAny_bind (wpAny_pure ?_)
 rw[ne];simp only[Bool.false_eq_true,if_false]
 refine wpAny_bind (zQ hu hkey hm hp (fun e h' hv hm' hs'=>?_) hsz)
 simp only[Option.isNone_some,Bool.false_eq_true,if_false];refine wpAny_bind (wpAny_letGo (wpAny_pure ?_))
 show R (.ok (.ret e.val)) _
 rw[hv];exact h h' hm' hs'
theorem Vx(d a:Addr):MeetsIn prog w (Builtin.«dict.pop» ⟨[.ref d,.ref a],[]⟩) (fun A R s=>knd.room A.in1/\∃k xs p,knd.is s.heap k a/\s.heap.DictOfH knd d xs/\atKey xs k=some p/\xs.length<=sizeLine /\
  ∀h',h'.DictOfH knd d (rm xs k)->Heap.SameBut d s.heap h'->R (.ok (.ret p.2)) { s with heap:=h',toks:=s.toks+knd.draws k }) :=
 fun A R s hw'=>by obtain⟨hu,k,xs,p,h1,h2,h3,h4,h⟩:=hw';exact JX hu h1 h2 h3 h4 h
end
end DR
namespace L2
open PySem PySem.Spec PyProof.Rows
theorem KT.out{H:Hp}{kvs:List (List Key×V)}{xs:List (List Key×Addr×Value)}(r:KT H kvs xs)(k:List Key):KT H (eY kvs k) (DR.rm xs k):=by
 induction r with
 | nil=>exact .nil
 | @cons p q ps qs h t ih =>
  unfold eY DR.rm
  by_cases e:p.1=k
  ·rw[List.filter_cons_of_neg (by simp[e]),List.filter_cons_of_neg (by simp[<-h.1,e])];exact ih
  ·rw[List.filter_cons_of_pos (by simp[e]),List.filter_cons_of_pos (by simp[<-h.1,e])];exact .cons h ih
section
variable {X:Cx} {pins:List (Addr×Obj)} {σ:St} {H:Hp} {s:Shared} {a b:Addr} {A:Around} {E:Value->Shared->Prop}
theorem Su{kvs:List (List Key×V)}{k:List Key}{v:V}{Q:Value->Shared->Prop}(hu:A.units+1<cLine)(I:Inv X pins σ H s)(e:H a=some (.dT kvs))(eb:H b=some (.tup (k.map kV)))(l:cW kvs k=some v)
  (h:∀w' s',Inv X pins σ (upd H a (.dT (eY kvs k))) s'->RelV v w'->Q w' s'):wpAny (model X.prog X.w) A (call (.builtin "dict.pop") [.ref a,.ref b]) Q E s:=by
 obtain⟨z,hd,xs,rel,dd⟩:=zm I.hok e
 obtain⟨w',hw,rw'⟩:=gW.some_of (v:=v) (o:=(atKey xs k).map (·.2)) (by rw[<-l];exact rel.val k)
 obtain⟨p,hp,hp2⟩:=Option.map_eq_some_iff.mp hw
 have hz:xs.length<=sizeLine:=by rw[<-Paired.length rel];exact z
 have hl:(eY kvs k).length<=sizeLine:=Nat.le_trans (uJ kvs k) z
 refine call_meetsIn PySem.F.slot_dict_pop dd.typeIs PySem.F.entry_dict_pop (PySem.F.args_dict_pop_2 _ _) (DR.Vx (knd:=tupleKind (cA X.prog X.w)) a b) ⟨tupleKind_room_in1 hu,k,xs,p,j_ I.hok eb,dd,hp,hz,fun h' dd' hs=>?_⟩
 obtain⟨q,es,ep,hq,h2,h3,h4,_,h5⟩:=dd'
 show Q p.2 _
 rw[hp2]
 refine h w' _ (nG I (by rw[e];exact True.intro) hs ⟨q,hq⟩ ⟨hl,hd,_,(rel.out k).keeps fun c ys ec=>?_,q,es,ep,hq,h2,h3,h4,h5⟩) rw'
 rw[aC (zg ec e (fun z=>nomatch z))]
 exact ec
theorem Sv{kvs:List (List Key×V)}{Q:Value->Shared->Prop}(I:Inv X pins σ H s)(e:H a=some (.dT kvs))(h:∀t s',Inv X pins σ H s'->Q (.int kvs.length t) s'):wpAny (model X.prog X.w) A (call (.builtin "len") [.ref a]) Q E s:=by
 obtain⟨z,hd,xs,rel,o,es,ep,h1,h2,h3,h4,h5⟩:=(show bI X.prog X.w H s.heap a (.dT kvs) from I.hok a _ e)
 have en:es.size=kvs.length:=by rw[<-Array.length_toList,h4,List.length_map,Paired.length rel]
 refine DR.Ov hd ⟨o,h1,h2,h3⟩ (by rw[en];rw[sizeLine_eq] at z;omega) ?_
 rw[en]
 exact h _ _ (I.tok _)
theorem Ox{kvs:List (List Key×V)}{Q:Value->Shared->Prop}(hh:A.handled=none)(I:Inv X pins σ H s)(e:H a=some (.dT kvs))
  (h:∀(bs:List Addr) (p:Addr) s',H p=none->Paired (fun(x:List Key×V) (b:Addr)=>H b=some (.tup (x.1.map kV))) kvs bs->Inv X pins σ (upd H p (.lst (bs.map V.ref))) s'->Q (.ref p) s') :
  wpAny (model X.prog X.w) A (call (.type "list") [.ref a]) Q E s:=by
 obtain⟨z,hd,xs,rel,o,es,ep,h1,h2,h3,h4,h5⟩:=(show bI X.prog X.w H s.heap a (.dT kvs) from I.hok a _ e)
 have en:es.size=kvs.length:=by rw[<-Array.length_toList,h4,List.length_map,Paired.length rel]
 refine PySem.W.kdl_call (DR.CZ (es:=es) (ep:=ep) hd) hh ⟨o,h1,h2,h3⟩ (by rw[en];exact z) fun h' tk acc' c' hk hS hacc=>?_
 have ea:acc'.toList=(xs.map fun x=>Value.ref x.2.1):=by
  apply List.ext_getElem?
  intro i
  rw[List.getElem?_map,Array.getElem?_toList]
  by_cases hi:i<acc'.size
  ·have q:(es[i]?).map (·.key)=some acc'[i]:=hacc.2 i acc'[i] (Array.getElem?_eq_getElem hi)
   rw[entry_at h4 i] at q
   rw[Array.getElem?_eq_getElem hi,<-q]
   cases xs[i]? <;> rfl
  ·have hx:xs.length<=i:=by rw[<-Paired.length rel,<-en,<-hacc.1];omega
   rw[Array.getElem?_eq_none (by omega),List.getElem?_eq_none hx];rfl
 have pr:∀{l:List (List Key×V)} {m:List (List Key×Addr×Value)},KT H l m->Paired (fun(x:List Key×V) (b:Addr)=>H b=some (.tup (x.1.map kV))) l (m.map (·.2.1)):=by
  intro l m q
  induction q with
  | nil=>exact .nil
  | cons h t ih=>exact .cons h.2.1 ih
 have vr:∀l:List (List Key×Addr×Value),Vals ((l.map (·.2.1)).map V.ref) (l.map fun x=>Value.ref x.2.1):=by
  intro l
  induction l with
  | nil=>exact .nil
  | cons x r ih=>exact .cons rfl ih
 refine h (xs.map (·.2.1)) s.heap.objs.size _ (I.hok.fresh (Nat.le_refl _)) (pr rel) (I.laid hk (Nat.le_refl _) ⟨?_,(xs.map fun x=>Value.ref x.2.1),c',vr xs,?_⟩)
 ·rw[List.length_map,List.length_map,<-Paired.length rel];exact z
 ·rw[hS,<-ea]
theorem Oz{kvs:List (Key×V)}{Q:Value->Shared->Prop}(hh:A.handled=none)(I:Inv X pins σ H s)(e:H a=some (.dK kvs))
  (h:∀(p:Addr) s',H p=none->Inv X pins σ (upd H p (.lst (kvs.map fun x=>kV x.1))) s'->Q (.ref p) s') :
  wpAny (model X.prog X.w) A (call (.type "list") [.ref a]) Q E s:=by
 obtain⟨z,hd,vs,rel,dd⟩:=DW I.hok e
 obtain⟨ep,da⟩:=dd.dictAt
 refine PySem.W.kdl_call (PySem.W.kdl_dict (knd:=cA X.prog X.w) (kvs:=vs) (ep:=ep) hd) hh da (by rw[<-rel.length];exact z) fun h' tk acc' c' hk hS hacc=>?_
 have va:∀(l:List (Key×V)) (us:List Value),us.length=l.length->(∀(i:Nat) (u:Value),us[i]? = some u->∃(k:Key) (x:Unit),(l[i]?).map (fun(y:Key×V)=>y.1)=some k/\(cA X.prog X.w).is k u=true/\x=())->Vals (l.map fun x=>kV x.1) us:=by
  intro l
  induction l with
  | nil=>intro us hl _;cases us with
   | nil=>exact .nil
   | cons u r=>simp at hl
  | cons p r ih =>
   intro us hl hx
   cases us with
   | nil=>simp at hl
   | cons u t =>
    obtain⟨k,_,h1,h2,_⟩:=hx 0 u rfl
    simp at h1
    subst h1
    refine .cons ?_ (ih t (by simpa using hl) fun i u hi=>?_)
    ·rcases cZ h2 with⟨i,t,e1,e2⟩ |⟨x,t,e1,e2⟩
     ·show RelV (kV p.1) u;rw[e1];exact⟨t,e2⟩
     ·show RelV (kV p.1) u;rw[e1];exact⟨t,e2⟩
    ·obtain⟨k,x,z1,z2⟩:=hx (i+1) u (by simpa using hi)
     exact⟨k,x,by simpa using z1,z2⟩
 have hk2:=rel.keys
 refine h s.heap.objs.size _ (I.hok.fresh (Nat.le_refl _)) (I.laid hk (Nat.le_refl _) ⟨by rw[List.length_map];exact z,acc'.toList,c',va kvs _ ?_ fun i u hi=>?_,?_⟩)
 ·rw[Array.length_toList,hacc.1,rel.length]
 ·rw[Array.getElem?_toList] at hi
  obtain⟨k,x,z1,z2⟩:=hacc.2 i u hi
  refine⟨k,(),?_,z2,rfl⟩
  have q:(kvs.map (·.1))[i]? = (vs.map (·.1))[i]?:=by rw[hk2]
  rw[List.getElem?_map,List.getElem?_map,z1] at q
  exact q
 ·rw[hS]
end
noncomputable def Vy(td ty:TE):TE:=fun σ H Q=>td σ H fun x H1=>∃a,x=.ref a/\IsD H1 a/\ty σ H1 fun y H2=>(∃kvs k v,H2 a=some (.dK kvs)/\y=kV k/\cW kvs k=some v/\Q v (upd H2 a (.dK (eY kvs k)))) \/
 ∃kvs k b v,H2 a=some (.dT kvs)/\y=.ref b/\H2 b=some (.tup (k.map kV))/\cW kvs k=some v/\Q v (upd H2 a (.dT (eY kvs k)))
section
variable {X:Cx} {o e:Expr} {apos cpos:Pos} {td ty:TE}
theorem Sx(hu:X.A.units+1<cLine)(ho:PE X o td)(he:PE X e ty)(m:M1 X o "pop" apos e cpos):PE X (.Call (.Attribute o "pop" apos) [e] [] cpos) (Vy td ty):=by
 intro pins s σ H Q I h
 refine wpAny_Call_method m.base m.few m.line PySem.F.plainAttrs_dict PySem.F.slot_dict_pop PySem.F.type_dict_pop (thn (ho pins s σ H _ I h) fun u s1 hw'=>?_)
 obtain⟨x,H1,I1,rx,a,ex,d,q1⟩:=hw'
 subst ex;obtain rfl:u=Value.ref a:=rx
 obtain⟨t1,t2,_⟩:=vz I1 d
 refine⟨t1,t2,?_⟩;rw[m.trees]
 refine Calls.callWith_builtin rfl (Calls.evalArgs_plain (Calls.spliced_cons (thn (he pins s1 σ H1 _ I1 q1) fun iv s2 ⟨y,H2,I2,ry,q2⟩=>Calls.spliced_nil ?_)))
 rcases q2 with⟨kvs,k,v,ea,ey,l,q2⟩ |⟨kvs,k,b,v,ea,ey,eb,l,q2⟩
 ·subst ey;exact Uc I2 ea ry l (.inl rfl) fun w' s3 I3 rw'=>⟨v,_,I3,rw',q2⟩
 ·subst ey;obtain rfl:iv=Value.ref b:=ry;exact Su hu I2 ea eb l fun w' s3 I3 rw'=>⟨v,_,I3,rw',q2⟩
theorem GR:fH X (.builtin "len") (fun xs H Q=>∃a n,xs=[V.ref a]/\((∃kvs,H a=some (.dK kvs)/\kvs.length=n)\/∃kvs,H a=some (.dT kvs)/\kvs.length=n)/\Q (.int n) H):=by
 intro pins s σ H xs us Q I r h
 obtain⟨a,n,rfl,h,q⟩:=h
 obtain⟨u,rfl,ru⟩:=vals1 r
 cases ru
 rcases h with⟨kvs,ha,rfl⟩ |⟨kvs,ha,rfl⟩
 ·exact Ud I (.inl ha) fun t s' I'=>⟨.int kvs.length,H,I',⟨t,rfl⟩,q⟩
 ·exact Sv I ha fun t s' I'=>⟨.int kvs.length,H,I',⟨t,rfl⟩,q⟩
theorem Ef(hh:X.A.handled=none):fH X (.type "list") (fun xs H Q=>∃a,xs=[V.ref a]/\((∃kvs,H a=some (.dK kvs)/\∀p,H p=none->Q (.ref p) (upd H p (.lst (kvs.map fun x=>kV x.1)))) \/
  ∃kvs,H a=some (.dT kvs)/\∀(bs:List Addr) p,H p=none->Paired (fun(x:List Key×V) (b:Addr)=>H b=some (.tup (x.1.map kV))) kvs bs->Q (.ref p) (upd H p (.lst (bs.map V.ref))))):=by
 intro pins s σ H xs us Q I r h
 obtain⟨a,rfl,h⟩:=h
 obtain⟨u,rfl,ru⟩:=vals1 r
 cases ru
 rcases h with⟨kvs,ha,q⟩ |⟨kvs,ha,q⟩
 ·exact Oz hh I ha fun p s' hp I'=>⟨.ref p,_,I',rfl,q p hp⟩
 ·exact Ox hh I ha fun bs p s' hp pr I'=>⟨.ref p,_,I',rfl,q bs p hp pr⟩
end
end L2
namespace DL
open PySem PySem.Spec PyProof.Rows L2
noncomputable def m_:OS->D->Option (D×OS)
 | .dK kvs,d=>(match oF d with |some k=>(match dR kvs k with |some v=>some (v,.dK (jl kvs k)) |none=>none) |none=>none)
 | .dT kvs,d=>(match jm d with |some k=>(match dR kvs k with |some v=>some (v,.dT (jl kvs k)) |none=>none) |none=>none)
 | _,_=>none
noncomputable def iQ(go gk:Den):Den:=fun ρ Ω=>match go ρ Ω with
 | some (.obj n,Ω1)=>(match Ω1[n]? with
  | some o=>if mZ o=true then(match gk ρ Ω1 with
   | some (k,Ω2)=>(match Ω2[n]? with
    | some o2=>(match m_ o2 k with |some (v,o3)=>some (v,Ω2.set n o3) |none=>none)
    | none=>none)
   | none=>none) else none
  | none=>none)
 | _=>none
noncomputable def vM:OS->Option (List D)
 | .dK kvs=>some (kvs.map fun x=>ofK x.1)
 | .dT kvs=>some (kvs.map fun x=>.tup (x.1.map ofK))
 | _=>none
noncomputable def dJ(go:Den):Den:=fun ρ Ω=>match go ρ Ω with
 | some (.obj n,Ω1)=>(match Ω1[n]? with
  | some o=>(match vM o with |some ks=>some (.lst ks,Ω1) |none=>none)
  | none=>none)
 | _=>none
section
variable {K:PySem.W.Frag} {C:Cl} {e:E4} {Ω:List OS}
theorem Wf.tups(w:Wf K C e Ω):∃e1:E4,e1.H=e.H/\e1.α=e.α/\Ext e e1/\Wf K C e1 Ω/\∀b xs,e.H b=some (.tup xs)->e1.F b=some (.tup xs):=by
 let F':Hp:=fun b=>match e.H b with
  | some (.tup xs)=>some (.tup xs)
  | _=>e.F b
 have ft:∀b xs,e.H b=some (.tup xs)->F' b=some (.tup xs):=fun b xs h=>by show(match e.H b with |some (.tup xs)=>some (HO.tup xs) |_=>e.F b)=_;rw[h]
 have fo:∀b,(∀xs,e.H b≠some (.tup xs))->F' b=e.F b:=fun b h=>by
  show(match e.H b with |some (.tup xs)=>some (HO.tup xs) |_=>e.F b)=_
  cases q:e.H b with
  | none=>rfl
  | some o=>cases o<;>first |rfl |exact absurd q (h _)
 have ff:bC e.F F':=fun b o h=>by
  by_cases q:∃xs,e.H b=some (.tup xs)
  ·obtain⟨xs,q⟩:=q
   rw[ft b xs q,<-q];exact w.fh b o h
  ·rw[fo b fun xs z=>q ⟨xs,z⟩];exact h
 have fh:bC F' e.H:=fun b o h=>by
  by_cases q:∃xs,e.H b=some (.tup xs)
  ·obtain⟨xs,q⟩:=q
   rw[ft b xs q] at h;rw[q];exact h
  ·rw[fo b fun xs z=>q ⟨xs,z⟩] at h;exact w.fh b o h
 refine⟨⟨e.α,F',e.A,e.H⟩,rfl,rfl,⟨fun _ _ _ h=>h,fun _ _ h _=>h,fun _ o h=>⟨o,h⟩,ff,fun b o h=>?_,fun _ h=>.inl h,fun _ h=>h,[],by simp⟩,⟨fh,fun b h=>?_,w.ah,w.ol,w.nd,fun n a o h1 h2=>⟨(w.ob n a o h1 h2).1,(w.ob n a o h1 h2).2.keep (fun _ z=>z) ff ⟨[],by simp⟩⟩⟩,ft⟩
 ·have h:F' b=some o:=h
  by_cases q:∃xs,e.H b=some (.tup xs)
  ·obtain⟨xs,q⟩:=q
   rw[ft b xs q] at h
   cases h
   exact .inr (.inr ⟨⟨xs,rfl⟩,q,fun z=>(w.ah b z).2 xs q⟩)
  ·rw[fo b fun xs z=>q ⟨xs,z⟩] at h;exact .inl h
 ·show F' b=none
  rw[fo b (w.ah b h).2];exact w.fa b h
theorem OD(w:Wf K C e Ω){n:Nat}{a:Addr}{o o':OS}{d x:D}{y:V}{Q:VK}(hα:e.α[n]? = some a)(hΩ:Ω[n]? = some o)(hp:m_ o d=some (x,o'))(i:Is K e.α e.F d y)
  (k:∀v e',Ext e e'->Wf K C e' (Ω.set n o')->Is K e'.α e'.F x v->Q v e'.H) :
  (∃kvs k v,e.H a=some (.dK kvs)/\y=kV k/\cW kvs k=some v/\Q v (upd e.H a (.dK (eY kvs k)))) \/
  ∃kvs k b v,e.H a=some (.dT kvs)/\y=.ref b/\e.H b=some (.tup (k.map kV))/\cW kvs k=some v/\Q v (upd e.H a (.dT (eY kvs k))):=by
 have ob:=(w.ob n a o hα hΩ).2
 unfold m_ at hp
 cases o with
 | dK kvs =>
  obtain⟨vs,h1,h2⟩:=ob
  dsimp only at hp
  cases q:oF d with
  | none=>rw[q] at hp;cases hp
  | some kk =>
   rw[q] at hp
   dsimp only at hp
   cases q2:dR kvs kk with
   | none=>rw[q2] at hp;cases hp
   | some v0 =>
    rw[q2] at hp
    cases hp
    have ov:=h2.val kk
    rw[q2] at ov
    obtain⟨v,e1,iv⟩:=ov.some_of
    obtain⟨w',x'⟩:=w.at (o':=.dK (jl kvs kk)) (ho:=.dK (eY vs kk)) hα (fun xs z=>nomatch z) ⟨_,aJ,h2.drop kk⟩ fun o u z=>by rw[h1] at z;cases z
    exact .inl ⟨vs,kk,v,h1,sO q i,e1,k v (e.at a _) x' w' iv⟩
 | dT kvs =>
  obtain⟨vs,h1,h2⟩:=ob
  dsimp only at hp
  cases q:jm d with
  | none=>rw[q] at hp;cases hp
  | some kk =>
   rw[q] at hp
   dsimp only at hp
   cases q2:dR kvs kk with
   | none=>rw[q2] at hp;cases hp
   | some v0 =>
    rw[q2] at hp
    cases hp
    have ov:=h2.val kk
    rw[q2] at ov
    obtain⟨v,e1,iv⟩:=ov.some_of
    obtain⟨b,rfl,hb⟩:=qw q i
    obtain⟨w',x'⟩:=w.at (o':=.dT (jl kvs kk)) (ho:=.dT (eY vs kk)) hα (fun xs z=>nomatch z) ⟨_,aJ,h2.drop kk⟩ fun o u z=>by rw[h1] at z;cases z
    exact .inr ⟨vs,kk,b,v,h1,rfl,w.fh _ _ hb,e1,k v (e.at a _) x' w' iv⟩
 | _=>cases hp
end
theorem nQ{K:PySem.W.Frag}{e e':E4}{n:Nat}{p:Addr}(x:Ext e e')(h:e.α[n]? = some p):e'.α[n]? = some p:=by
 obtain⟨more,z⟩:=x.al
 rw[z,List.getElem?_append_left (List.getElem?_eq_some_iff.mp h).1];exact h
section
variable {X:Cx} {C:Cl} {a b x:Expr} {f g h:Den} {ga:bA} {pos pos' ap cp:Pos}
theorem qx(hu:X.A.units+1<cLine)(ho:PD X C a f)(hi:PD X C b g)(m:M1 X a "pop" ap b cp):PD X C (.Call (.Attribute a "pop" ap) [b] [] cp) (iQ f g):=bj (Sx hu ho hi m) fun σ H Q hw'=>by
 obtain⟨e,Ω,ρ,d,Ω',eH,w,rl,q,kk⟩:=hw'
 unfold iQ at q
 cases q1:f ρ Ω with
 | none=>rw[q1] at q;cases q
 | some p1 =>
  obtain⟨d1,Ω1⟩:=p1
  rw[q1] at q
  cases d1 with
  | obj n =>
   dsimp only at q
   cases q0:Ω1[n]? with
   | none=>rw[q0] at q;cases q
   | some o0 =>
    rw[q0] at q
    dsimp only at q
    by_cases hd:mZ o0=true
    ·rw[if_pos hd] at q
     cases q2:g ρ Ω1 with
     | none=>rw[q2] at q;cases q
     | some p2 =>
      obtain⟨k,Ω2⟩:=p2
      rw[q2] at q
      dsimp only at q
      cases q3:Ω2[n]? with
      | none=>rw[q3] at q;cases q
      | some o =>
       rw[q3] at q
       dsimp only at q
       cases q4:m_ o k with
       | none=>rw[q4] at q;cases q
       | some r =>
        obtain⟨v0,o3⟩:=r
        rw[q4] at q
        cases q
        refine⟨e,Ω,ρ,_,Ω1,eH,w,rl,q1,fun v e1 x1 w1 i1=>?_⟩
        rw[Is] at i1
        obtain⟨p,hα,rfl⟩:=i1
        refine⟨p,rfl,zO w1 hα q0 hd,?_⟩
        refine⟨e1,Ω1,ρ,k,_,rfl,w1,rl.ext x1,q2,fun u e2 x2 w2 i2=>?_⟩
        exact OD w2 (nQ (K:=X.K) x2 hα) q3 q4 i2 fun v e' x' w' iv=>kk v e' ((x1.trans x2).trans x') w' iv
    ·rw[if_neg hd] at q;cases q
  | _=>cases q
theorem OJ{n:Str}{p:Pos}(hg:Gl X n)(hm:X.mg n=none)(hv:bootBuiltins n=some (.builtin "len"))(ho:PD X C a f)(hn:n ≠ "__name__":=by decide)(hdb:(n==("__debug__":Str))=false:=by decide)
  (he:starEach [a] X.env=(false,eval a X.env)::starEach [] X.env:=by rfl) (hpl:(backTo pos (starEach [] X.env)).any (·.1)=false:=by rfl):PD X C (.Call (.Name n p) [a] [] pos) (qZ f) :=
 bj (iu GR hg hm hv (bL ho cY he) hn hdb he hpl) fun σ H Q hw'=>by
  obtain⟨e,Ω,ρ,d,Ω',eH,w,rl,q,kk⟩:=hw'
  unfold qZ at q
  cases q1:f ρ Ω with
  | none=>rw[q1] at q;cases q
  | some p1 =>
   obtain⟨d1,Ω1⟩:=p1
   rw[q1] at q
   cases d1 with
   | obj n =>
    dsimp only at q
    cases q0:Ω1[n]? with
    | none=>rw[q0] at q;cases q
    | some o0 =>
     rw[q0] at q
     refine⟨e,Ω,ρ,_,Ω1,eH,w,rl,q1,fun v e1 x1 w1 i1=>?_⟩
     rw[Is] at i1
     obtain⟨p,hα,rfl⟩:=i1
     have ob:=(w1.ob n p _ hα q0).2
     cases o0 with
     | dK kvs =>
      cases q
      obtain⟨vs,h1,h2⟩:=ob
      exact⟨p,_,rfl,.inl ⟨vs,h1,h2.len.symm⟩,kk _ e1 x1 w1 (by rw[Is])⟩
     | dT kvs =>
      cases q
      obtain⟨vs,h1,h2⟩:=ob
      exact⟨p,_,rfl,.inr ⟨vs,h1,h2.len.symm⟩,kk _ e1 x1 w1 (by rw[Is])⟩
     | _=>cases q
   | _=>cases q
theorem uO{K:PySem.W.Frag}{α:List Addr}{F H:Hp}(hF:∀b xs,H b=some (.tup xs)->F b=some (.tup xs)):∀{kvs:List (List Key×D)} {vs:List (List Key×V)} {bs:List Addr},kvs.map (·.1)=vs.map (·.1) ->
  Paired (fun(x:List Key×V) (b:Addr)=>H b=some (.tup (x.1.map kV))) vs bs->IsL K α F (kvs.map fun x=>.tup (x.1.map ofK)) (bs.map V.ref)
 | [],vs,bs,e,h=>by
  cases h with
  | nil=>exact .nil
  | cons h q=>simp at e
 | p::r,vs,bs,e,h=>by
  cases h with
  | nil=>simp at e
  | cons h q =>
   rw[List.map_cons,List.map_cons] at e
   injection e with e1 e2
   refine .cons ?_ (uO hF e2 q)
   rw[Is,e1]
   exact⟨_,_,rfl,hF _ _ h,CW _⟩
theorem zR{K:PySem.W.Frag}{α:List Addr}{F:Hp}:∀{kvs:List (Key×D)} {vs:List (Key×V)},kvs.map (·.1)=vs.map (·.1)->IsL K α F (kvs.map fun x=>ofK x.1) (vs.map fun x=>kV x.1)
 | [],vs,e=>by
  cases vs with
  | nil=>exact .nil
  | cons v t=>simp at e
 | p::r,vs,e=>by
  cases vs with
  | nil=>simp at e
  | cons v t =>
   rw[List.map_cons,List.map_cons] at e
   injection e with e1 e2
   refine .cons ?_ (zR e2)
   show Is K α F (ofK p.1) (kV v.1)
   rw[e1];exact GQ v.1
theorem rn{n:Str}{p:Pos}(hh:X.A.handled=none)(hg:Gl X n)(hm:X.mg n=none)(hv:bootBuiltins n=some (.type "list"))(ho:PD X C a f)(hn:n ≠ "__name__":=by decide)(hdb:(n==("__debug__":Str))=false:=by decide)
  (he:starEach [a] X.env=(false,eval a X.env)::starEach [] X.env:=by rfl) (hpl:(backTo pos (starEach [] X.env)).any (·.1)=false:=by rfl):PD X C (.Call (.Name n p) [a] [] pos) (dJ f) :=
 bj (rZ (Ef hh) hg hm hv (bL ho cY he) hn hdb he hpl) fun σ H Q hw'=>by
  obtain⟨e,Ω,ρ,d,Ω',eH,w,rl,q,kk⟩:=hw'
  unfold dJ at q
  cases q1:f ρ Ω with
  | none=>rw[q1] at q;cases q
  | some p1 =>
   obtain⟨d1,Ω1⟩:=p1
   rw[q1] at q
   cases d1 with
   | obj n =>
    dsimp only at q
    cases q0:Ω1[n]? with
    | none=>rw[q0] at q;cases q
    | some o0 =>
     rw[q0] at q
     refine⟨e,Ω,ρ,_,Ω1,eH,w,rl,q1,fun v e1 x1 w1 i1=>?_⟩
     rw[Is] at i1
     obtain⟨p,hα,rfl⟩:=i1
     have ob:=(w1.ob n p _ hα q0).2
     cases o0 with
     | dK kvs =>
      cases q
      obtain⟨vs,h1,h2⟩:=ob
      refine⟨p,rfl,.inl ⟨vs,h1,fun p' hp=>kk _ (e1.new p' _) (x1.trans (w1.new_ext hp)) (w1.new hp) ?_⟩⟩
      rw[Is]
      exact⟨p',_,rfl,aJ,zR h2.keys⟩
     | dT kvs =>
      cases q
      obtain⟨vs,h1,h2⟩:=ob
      refine⟨p,rfl,.inr ⟨vs,h1,fun bs p' hp pr=>?_⟩⟩
      obtain⟨e2,eH2,eα2,x2,w2,ft⟩:=w1.tups
      have hp2:e2.H p'=none:=by rw[eH2];exact hp
      have z:=kk (.ref p') (e2.new p' (.lst (bs.map V.ref))) ((x1.trans x2).trans (w2.new_ext hp2)) (w2.new hp2) (by
       rw[Is]
       refine⟨p',_,rfl,aJ,uO (H:=e1.H) (fun b xs hb=>?_) h2.keys pr⟩
       show upd e2.F p' _ b=_
       rw[aC (fun z=>by subst z;rw[hp] at hb;cases hb)]
       exact ft b xs hb)
      have eq:(e2.new p' (.lst (bs.map V.ref))).H=upd e1.H p' (.lst (bs.map V.ref)):=by show upd e2.H p' _=_;rw[eH2]
      rw[<-eq];exact z
     | _=>cases q
   | _=>cases q
structure ClD(K:PySem.W.Frag)(C:Cl)(c:Str):Prop where
 ex:∃Ca,C c=some Ca/\Cls K Ca
noncomputable def NoA(K:PySem.W.Frag)(C:Cl)(c f:Str):Prop:=∀Ca,C c=some Ca->mj K Ca f
noncomputable def eQ(c fl:Str)(g:Den):Den:=fun ρ Ω=>match g ρ Ω with
 | some (.obj n,Ω1)=>(match Ω1[n]? with
  | some (.ins c' fs)=>if c'=c then(match fs.lookup fl with |some d=>some (d,Ω1) |none=>none) else none
  | _=>none)
 | _=>none
noncomputable def vN(c fl:Str)(go gv:Den):aN:=fun ρ Ω=>match gv ρ Ω with
 | some (v,Ω1)=>(match go ρ Ω1 with
  | some (.obj n,Ω2)=>(match Ω2[n]? with
   | some (.ins c' fs)=>if c'=c/\fs.length<1000 then some (.nx ρ (Ω2.set n (.ins c (pI fl v fs)))) else none
   | _=>none)
  | _=>none)
 | none=>none
theorem dM{c fl:Str}(T:ClD X.K C c)(hn:NoA X.K C c fl)(h:PD X C a f)(hb:attributeBase a fl X.env (eval a X.env)=eval a X.env:=by rfl):PD X C (.Attribute a fl pos) (eQ c fl f):=bj (Ro h hb) fun σ H Q hw'=>by
 obtain⟨e,Ω,ρ,d,Ω',eH,w,rl,q,kk⟩:=hw'
 obtain⟨Ca,hC,cl⟩:=T.ex
 unfold eQ at q
 cases q1:f ρ Ω with
 | none=>rw[q1] at q;cases q
 | some p1 =>
  obtain⟨d1,Ω1⟩:=p1
  rw[q1] at q
  cases d1 with
  | obj n =>
   dsimp only at q
   cases q0:Ω1[n]? with
   | none=>rw[q0] at q;cases q
   | some o0 =>
    rw[q0] at q
    refine⟨e,Ω,ρ,_,Ω1,eH,w,rl,q1,fun v e1 x1 w1 i1=>?_⟩
    rw[Is] at i1
    obtain⟨p,hα,rfl⟩:=i1
    have ob:=(w1.ob n p _ hα q0).2
    cases o0 with
    | ins c' fs =>
     dsimp only at q
     by_cases ec:c'=c
     ·rw[if_pos ec] at q
      subst ec
      cases q2:fs.lookup fl with
      | none=>rw[q2] at q;cases q
      | some v0 =>
       rw[q2] at q
       cases q
       obtain⟨Cb,dx,fvs,h1,h2,h3⟩:=ob
       rw[hC] at h1
       cases h1
       have ov:=h3.look fl
       rw[q2] at ov
       obtain⟨v',e2,iv⟩:=ov.some_of
       exact⟨p,Ca,dx,fvs,v',rfl,h2,cl,hn Ca hC,e2,kk _ e1 x1 w1 iv⟩
     ·rw[if_neg ec] at q;cases q
    | _=>cases q
  | _=>cases q
theorem C_{c fl:Str}(T:ClD X.K C c)(hn:NoA X.K C c fl)(ho:PD X C a f)(hv:PD X C x g)(hs:swapsWith x (some (.Attribute a fl pos')) pos.line X.env=pure false:=by rfl) :
  PDS X C (.Assign [.Attribute a fl pos'] x pos) (vN c fl f g):=fun e₀=>di (Rp ho hv hs) fun Dn σ H hw'=>by
 obtain⟨e,Ω,ρ,o,eH,r,q,k⟩:=hw'
 obtain⟨Ca,hC,cl⟩:=T.ex
 unfold vN at q
 cases q1:g ρ Ω with
 | none=>rw[q1] at q;cases q
 | some p1 =>
  obtain⟨v,Ω1⟩:=p1
  rw[q1] at q
  dsimp only at q
  cases q2:f ρ Ω1 with
  | none=>rw[q2] at q;cases q
  | some p2 =>
   obtain⟨d2,Ω2⟩:=p2
   rw[q2] at q
   cases d2 with
   | obj n =>
    dsimp only at q
    cases q0:Ω2[n]? with
    | none=>rw[q0] at q;cases q
    | some o0 =>
     rw[q0] at q
     refine⟨e,Ω,ρ,v,Ω1,eH,r.wf,r.rel,q1,fun uv e1 x1 w1 i1=>?_⟩
     refine⟨e1,Ω1,ρ,_,Ω2,rfl,w1,r.rel.ext x1,q2,fun uo e2 x2 w2 i2=>?_⟩
     rw[Is] at i2
     obtain⟨p,hα,rfl⟩:=i2
     have ob:=(w2.ob n p _ hα q0).2
     cases o0 with
     | ins c' fs =>
      dsimp only at q
      by_cases ec:c'=c/\fs.length<1000
      ·rw[if_pos ec] at q
       obtain⟨rfl,hl⟩:=ec
       cases q
       obtain⟨Cb,dx,fvs,h1,h2,h3⟩:=ob
       rw[hC] at h1
       cases h1
       obtain⟨w',x'⟩:=w2.at (o':=.ins c' (pI fl v fs)) (ho:=.ins Ca dx (gq fl uv fvs)) hα (fun xs z=>nomatch z) ⟨Ca,dx,_,hC,aJ,h3.gq fl (i1.ext x2)⟩ fun o u z=>by rw[h2] at z;cases z
       exact⟨p,Ca,dx,fvs,rfl,h2,cl,hn Ca hC,by rw[<-h3.len];exact hl,k (e2.at p _) σ (r.to ((x1.trans x2).trans x') w')⟩
      ·rw[if_neg ec] at q;cases q
     | _=>cases q
   | _=>cases q
structure Mt(P:Program)(w:World)(K:PySem.W.Frag)(mg:Str->Option Value)(base:Heap)(C:Cl)(k:Nat)(c m:Str)(F:bK)(dfl:List D):Prop where
 ex:∃Ca f fd ps ds dvs,C c=some Ca/\Cls K Ca/\Meth K Ca m f/\Binds K fd ps ds/\Vals dvs ds/\(∀α H,IsL K α H dfl dvs)/\FnOk P w K mg base CX0 k f fd ps (spD K C F)
noncomputable def cz(c m:Str)(F:bK)(dfl:List D)(go:Den)(ga:bA):Den:=fun ρ Ω=>match go ρ Ω with
 | some (.obj n,Ω1)=>(match Ω1[n]? with
  | some (.ins c' fs)=>if c'=c then(match fs.lookup m with
   | none=>(match ga ρ Ω1 with |some (ds,Ω2)=>F (.obj n::(ds++dfl)) Ω2 |none=>none)
   | some _=>none) else none
  | _=>none)
 | _=>none
theorem yu{K:PySem.W.Frag}{c m:Str}{F:bK}{dfl:List D}{dvs:List V}{Ca:Addr}(hC:C c=some Ca)(hd:∀α H,IsL K α H dfl dvs){σ:St}{H:Hp}{Q:VK}{E:XK}(hw:tD K C (cz c m F dfl f ga) σ H Q) :
  LR Ca m (spD K C F) dvs E (tD K C f) (tDA K C ga) σ H Q:=by
 obtain⟨e,Ω,ρ,d,Ω',eH,w,rl,q,kk⟩:=hw
 unfold cz at q
 cases q1:f ρ Ω with
 | none=>rw[q1] at q;cases q
 | some p1 =>
  obtain⟨d1,Ω1⟩:=p1
  rw[q1] at q
  cases d1 with
  | obj n =>
   dsimp only at q
   cases q0:Ω1[n]? with
   | none=>rw[q0] at q;cases q
   | some o0 =>
    rw[q0] at q
    refine⟨e,Ω,ρ,_,Ω1,eH,w,rl,q1,fun v e1 x1 w1 i1=>?_⟩
    rw[Is] at i1
    obtain⟨p,hα,rfl⟩:=i1
    have ob:=(w1.ob n p _ hα q0).2
    cases o0 with
    | ins c' fs =>
     dsimp only at q
     by_cases ec:c'=c
     ·rw[if_pos ec] at q
      subst ec
      cases q2:fs.lookup m with
      | some v0=>rw[q2] at q;cases q
      | none =>
       rw[q2] at q
       dsimp only at q
       cases q3:ga ρ Ω1 with
       | none=>rw[q3] at q;cases q
       | some p3 =>
        obtain⟨ds,Ω2⟩:=p3
        rw[q3] at q
        obtain⟨Cb,dx,fvs,h1,h2,h3⟩:=ob
        rw[hC] at h1
        cases h1
        have ov:=h3.look m
        rw[q2] at ov
        have e2:fvs.lookup m=none:=by
         cases z:fvs.lookup m with
         | none=>rfl
         | some v=>rw[z] at ov;exact ov.elim
        refine⟨p,dx,fvs,rfl,h2,e2,e1,Ω1,ρ,ds,Ω2,rfl,w1,rl.ext x1,q3,fun vs e3 x3 w3 i3=>?_⟩
        exact⟨e3,Ω2,_,d,Ω',rfl,w3,.cons (by rw[Is];exact⟨p,nQ (K:=K) x3 hα,rfl⟩) (i3.append (hd _ _)),q,fun v' e4 x4 w4 i4=>kk v' e4 ((x1.trans x3).trans x4) w4 i4⟩
     ·rw[if_neg ec] at q;cases q
    | _=>cases q
  | _=>cases q
theorem zT{k:Nat}{c m:Str}{F:bK}{dfl:List D}{pl:Sem Bool}(G:Mt X.prog X.w X.K X.mg X.base C k c m F dfl)(hr:Room k X.A)(ho:PD X C a f)
  (ht:eval (.Call (.Attribute a m ap) [] [] cp) X.env=(do
   let ov <-eval a X.env
   standAt ap.atName
   let (f,first) <-holding [ov] (getMethod ov m pl)
   callWith cp f first (backTo cp (starEach [] X.env)) (backToKw cp (keywordEach [] X.env))):=by rfl) :
  PD X C (.Call (.Attribute a m ap) [] [] cp) (cz c m F dfl f aA):=by
 obtain⟨Ca,fa,fd,ps,ds,dvs,hC,cl,me,hb,hd,hdd,ok⟩:=G.ex
 exact bj (Jk ho cl me ok hr hb hd DX ht) fun σ H Q hw=>by
  have z:=yu (ga:=aA) (E:=E0) hC hdd hw
  obtain⟨e,Ω,ρ,d,Ω',eH,w,rl,q,kk⟩:=z
  refine⟨e,Ω,ρ,d,Ω',eH,w,rl,q,fun v e1 x1 w1 i1=>?_⟩
  obtain⟨a',dx,fs,e2,e3,e4,z⟩:=kk v e1 x1 w1 i1
  refine⟨a',dx,fs,e2,e3,e4,?_⟩
  obtain⟨e5,Ω5,ρ5,ds5,Ω6,eH5,w5,rl5,q5,kk5⟩:=z
  cases q5
  have:=kk5 [] e5 (Ext.refl _) w5 .nil
  rw[eH5] at this
  exact this
structure MkD(P:Program)(w:World)(K:PySem.W.Frag)(mg:Str->Option Value)(base:Heap)(C:Cl)(k:Nat)(c:Str)(F:bK)(dfl:List D):Prop where
 ex:∃Ca f fd ps ds dvs,C c=some Ca/\mg c=some (.ref Ca)/\Mk K Ca f/\Binds K fd ps ds/\Vals dvs ds/\(∀α H,IsL K α H dfl dvs)/\FnOk P w K mg base CX0 k f fd ps (spD K C F)
noncomputable def pJ(c:Str)(F:bK)(dfl:List D)(ga:bA):Den:=fun ρ Ω=>match ga ρ Ω with
 | some (ds,Ω1)=>(match F (.obj Ω1.length::(ds++dfl)) (Ω1++[.ins c []]) with
  | some (.non,Ω2)=>some (.obj Ω1.length,Ω2)
  | _=>none)
 | none=>none
theorem GX{K:PySem.W.Frag}{c:Str}{F:bK}{dfl:List D}{dvs:List V}{Ca:Addr}(hC:C c=some Ca)(hd:∀α H,IsL K α H dfl dvs){σ:St}{H:Hp}{Q:VK}{E:XK}(hw:tD K C (pJ c F dfl ga) σ H Q) :
  L_ Ca (spD K C F) dvs E (tDA K C ga) σ H Q:=by
 obtain⟨e,Ω,ρ,d,Ω',eH,w,rl,q,kk⟩:=hw
 unfold pJ at q
 cases q1:ga ρ Ω with
 | none=>rw[q1] at q;cases q
 | some p1 =>
  obtain⟨ds,Ω1⟩:=p1
  rw[q1] at q
  dsimp only at q
  cases q2:F (.obj Ω1.length::(ds++dfl)) (Ω1++[.ins c []]) with
  | none=>rw[q2] at q;cases q
  | some p2 =>
   obtain⟨d2,Ω2⟩:=p2
   rw[q2] at q
   cases d2 with
   | non =>
    cases q
    refine⟨e,Ω,ρ,ds,Ω1,eH,w,rl,q1,fun vs e1 x1 w1 i1 p dx hp hdx hne=>?_⟩
    obtain⟨w2,x2⟩:=w1.obj (H':=upd (upd e1.H dx (.own p)) p (.ins Ca dx [])) (o:=.ins c []) hp (fun b u hb=>by rw[aC (aM hb hp),aC (aM hb hdx)];exact hb)
     (by rw[aJ];exact⟨by simp,fun xs z=>nomatch z⟩) ⟨Ca,dx,[],hC,aJ,rfl⟩
    have ip:(e1.obj p (upd (upd e1.H dx (.own p)) p (.ins Ca dx []))).α[Ω1.length]? = some p:=by show(e1.α++[p])[Ω1.length]? = some p;rw[<-w1.ol];simp
    refine⟨e1.obj p (upd (upd e1.H dx (.own p)) p (.ins Ca dx [])),Ω1++[.ins c []],_,.non,_,rfl,w2,.cons (by rw[Is];exact⟨p,ip,rfl⟩) ((i1.ext x2).append (hd _ _)),q2,fun v' e4 x4 w4 i4=>?_⟩
    rw[Is] at i4
    exact⟨i4,kk _ e4 ((x1.trans x2).trans x4) w4 (by rw[Is];exact⟨p,nQ (K:=K) x4 ip,rfl⟩)⟩
   | _=>cases q
theorem zU{k:Nat}{c:Str}{F:bK}{dfl:List D}{p:Pos}(G:MkD X.prog X.w X.K X.mg X.base C k c F dfl)(hr:Room (k+1) X.A)(hg:Gl X c)
  (hdb:(c==("__debug__":Str))=false:=by decide):PD X C (.Call (.Name c p) [] [] cp) (pJ c F dfl aA):=by
 obtain⟨Ca,fa,fd,ps,ds,dvs,hC,hm,mk,hb,hd,hdd,ok⟩:=G.ex
 exact bj (Jm mk ok hr hg hm hb hd DX hdb) fun σ H Q hw=>by
  have z:=GX (ga:=aA) (E:=E0) hC hdd hw
  obtain⟨e,Ω,ρ,ds5,Ω',eH,w,rl,q,kk⟩:=z
  cases q
  have:=kk [] e (Ext.refl _) w .nil
  rw[eH] at this
  exact this
end
theorem O_{K:PySem.W.Frag}{C:Cl}{F:bK}{H:Hp}{a:Addr}{ns:List Int}{E:XK}(hS:SqL K H a (ns.map V.int))(h:∃Ω,F [.scr ns] []=some (.bl true,Ω)):spD K C F [.ref a] H (fun v _=>v=.bl true) E:=by
 obtain⟨Ω,h⟩:=h
 refine⟨⟨[],H,fun _=>False,H⟩,[],[.scr ns],.bl true,Ω,rfl,⟨bC.refl _,fun _ h=>h.elim,fun _ h=>h.elim,rfl,List.nodup_nil,fun n a o h=>by simp at h⟩,?_,h,fun v e' _ _ i=>?_⟩
 ·exact .cons (by rw[Is];exact⟨a,rfl,hS⟩) .nil
 ·rw[Is] at i;exact i
end DL
namespace DL
open PySem PySem.Spec PyProof.Rows L2
structure FunV(K:PySem.W.Frag)(x qual:Str)(st:Stmt)(dV:Value)(f:Addr)(fd:FuncData):Prop where
 ex:∃(oc:Value) (od:Option Addr) (kV doc pm:Value) (an:Option Addr) (cdv ct:Value) (osl:Array (Option Value)),
  fd=PySem.W.fnOf x qual (bB st) (bf st) (aB st) dV kV doc pm an cdv ct/\K.lookup f=some ⟨oc,od,.func fd,osl⟩/\PySem.W.codeIn K cdv qual=true
theorem iH{K:PySem.W.Frag}{x qual:Str}{st:Stmt}{dV:Value}{f:Addr}{oc:Value}{od an:Option Addr}{osl:Array (Option Value)}{kV doc pm cdv ct:Value}
  (l:K.lookup f=some ⟨oc,od,.func (PySem.W.fnOf x qual (bB st) (bf st) (aB st) dV kV doc pm an cdv ct),osl⟩) (c:PySem.W.codeIn K cdv qual=true) :
  FunV K x qual st dV f (PySem.W.fnOf x qual (bB st) (bf st) (aB st) dV kV doc pm an cdv ct):=⟨oc,od,kV,doc,pm,an,cdv,ct,osl,rfl,l,c⟩
theorem Eg{P:Program}{w:World}{K:PySem.W.Frag}{mg:Str->Option Value}{base:Heap}{C:Cl}{x qual:Str}{st:Stmt}{dV:Value}{f:Addr}{fd:FuncData}{N ps:List Str}{k n m:Nat}{s:aN}(F:FunV K x qual st dV f fd)(S:FnScope N ps (aB st))(hn:ps.length=n)(hm:N.length=m)
  (hbody:∀(cdv:Value) (A:Around) (outer:List Env) (sh:Shared) (H:Hp) (E:XK),Room k (A.deeper (envOfC qual (aB st) sh.heap.objs.size f cdv)) ->
   PDB (bQ CX0 P w K mg base N qual (aB st) f cdv A outer sh H E).nox C (bf st) s):FnOk P w K mg base CX0 (k+1) f fd ps (spD K C (cD n m s)):=by
 obtain⟨oc,od,kV,doc,pm,an,cdv,ct,osl,rfl,lk,hcd⟩:=F.ex
 refine DQ lk hcd S (fun vs H Q E h=>?_) fun A outer sh H vs Q E hr h=>?_
 ·obtain⟨e,Ω,ds,d,Ω',_,_,i,q,_⟩:=h
  unfold cD at q
  by_cases hl:ds.length=n
  ·rw[<-i.length,hl,hn]
  ·rw[if_neg hl] at q;cases q
 ·obtain⟨e,Ω,ds,d,Ω',eH,wf,i,q,kk⟩:=h
  unfold cD at q
  by_cases hl:ds.length=n
  ·rw[if_pos hl] at q
   cases q1:s (ds.map Sl.dat++List.replicate (m-n) Sl.und) Ω with
   | none=>rw[q1] at q;cases q
   | some o =>
    rw[q1] at q
    refine⟨_,(hbody cdv A outer sh H E hr e).nox,e,Ω,_,o,eH,pG wf i,by rw[hl,hm];exact q1,?_⟩
    cases o with
    | rt d' Ω2=>cases q;exact fun e' v x' w' i'=>kk v e' x' w' i'
    | nx ρ' Ω2=>cases q;exact fun e' σ' r'=>kk .non e' r'.ext r'.wf (by rw[Is])
    | bk ρ' Ω2=>cases q
    | ct ρ' Ω2=>cases q
  ·rw[if_neg hl] at q;cases q
theorem jD{K:PySem.W.Frag}{fd:FuncData}{ps:List Str}(h:∀us:List Value,us.length=ps.length->bindArgs fd ⟨us,[]⟩=pure (ps.zip us)):Binds K fd ps []:=.all h
noncomputable def spC(K:PySem.W.Frag)(F:bK):Sp:=fun vs H Q E=>∀C:Cl,spD K C F vs H Q E
theorem Pa{K:PySem.W.Frag}{F:bK}{H:Hp}{a:Addr}{ns:List Int}{E:XK}(hS:SqL K H a (ns.map V.int))(h:∃Ω,F [.scr ns] []=some (.bl true,Ω)):spC K F [.ref a] H (fun v _=>v=.bl true) E:=fun C=>O_ hS h
noncomputable def au(C:Cl)(c:Str)(a:Addr):Cl:=fun x=>if x=c then some a else C x
theorem kJ{C:Cl}{c:Str}{a:Addr}:au C c a c=some a:=if_pos rfl
theorem GZ{K:PySem.W.Frag}{C:Cl}{c f:Str}{a:Addr}(h:C c=some a)(n:mj K a f):NoA K C c f:=fun Ca e=>by rw[h] at e;cases e;exact n
section
variable (ρ:List Sl) (Ω:List OS)
@[simp] theorem Wc:jF ρ Ω=some (.obj Ω.length,Ω++[.dT []]):=(rfl)
@[simp] theorem Wd(go gi:Den):eE go gi ρ Ω=match go ρ Ω with
 | some (.obj n,Ω1)=>(match gi ρ Ω1 with
  | some (k,Ω2)=>(match Ω2[n]? with
   | some o=>(match jn o k with |some (some d)=>some (d,Ω2) |_=>none)
   | none=>none)
  | none=>none)
 | _=>none:=(rfl)
@[simp] theorem Wu(neg:Bool)(gk go:Den):jy neg gk go ρ Ω=match gk ρ Ω with
 | some (k,Ω1)=>(match go ρ Ω1 with
  | some (.obj n,Ω2)=>(match Ω2[n]? with
   | some o=>(match jn o k with |some r=>some (.bl (if neg then !r.isSome else r.isSome),Ω2) |none=>none)
   | none=>none)
  | _=>none)
 | none=>none:=(rfl)
@[simp] theorem Vz(go gk gx:Den):sS go gk gx ρ Ω=match go ρ Ω with
 | some (.obj n,Ω1)=>(match Ω1[n]? with
  | some o=>(if mZ o=true then(match gk ρ Ω1 with
   | some (k,Ω2)=>(match gx ρ Ω2 with
    | some (x,Ω3)=>(match Ω3[n]? with
     | some o2=>(match jn o2 k with |some r=>some (r.getD x,Ω3) |none=>none)
     | none=>none)
    | none=>none)
   | none=>none) else none)
  | none=>none)
 | _=>none:=(rfl)
@[simp] theorem Dc(go gi gv:Den):jE go gi gv ρ Ω=match gv ρ Ω with
 | some (v,Ω1)=>(match go ρ Ω1 with
  | some (.obj n,Ω2)=>(match gi ρ Ω2 with
   | some (k,Ω3)=>(match Ω3[n]? with
    | some o=>(match qY o k v with |some o'=>some (.nx ρ (Ω3.set n o')) |none=>none)
    | none=>none)
   | none=>none)
  | _=>none)
 | none=>none:=(rfl)
@[simp] theorem We(go:Den):qZ go ρ Ω=match go ρ Ω with
 | some (.obj n,Ω1)=>(match Ω1[n]? with
  | some (.dK kvs)=>some (.int kvs.length,Ω1)
  | some (.dT kvs)=>some (.int kvs.length,Ω1)
  | _=>none)
 | _=>none:=(rfl)
@[simp] theorem Wg(go gk:Den):iQ go gk ρ Ω=match go ρ Ω with
 | some (.obj n,Ω1)=>(match Ω1[n]? with
  | some o=>(if mZ o=true then(match gk ρ Ω1 with
   | some (k,Ω2)=>(match Ω2[n]? with
    | some o2=>(match m_ o2 k with |some (v,o3)=>some (v,Ω2.set n o3) |none=>none)
    | none=>none)
   | none=>none) else none)
  | none=>none)
 | _=>none:=(rfl)
@[simp] theorem VB(go:Den):dJ go ρ Ω=match go ρ Ω with
 | some (.obj n,Ω1)=>(match Ω1[n]? with
  | some o=>(match vM o with |some ks=>some (.lst ks,Ω1) |none=>none)
  | none=>none)
 | _=>none:=(rfl)
@[simp] theorem Wv(c fl:Str)(g:Den):eQ c fl g ρ Ω=match g ρ Ω with
 | some (.obj n,Ω1)=>(match Ω1[n]? with
  | some (.ins c' fs)=>(if c'=c then(match fs.lookup fl with |some d=>some (d,Ω1) |none=>none) else none)
  | _=>none)
 | _=>none:=(rfl)
@[simp] theorem Wh(c fl:Str)(go gv:Den):vN c fl go gv ρ Ω=match gv ρ Ω with
 | some (v,Ω1)=>(match go ρ Ω1 with
  | some (.obj n,Ω2)=>(match Ω2[n]? with
   | some (.ins c' fs)=>(if c'=c/\fs.length<1000 then some (.nx ρ (Ω2.set n (.ins c (pI fl v fs)))) else none)
   | _=>none)
  | _=>none)
 | none=>none:=(rfl)
@[simp] theorem Wi(c m:Str)(F:bK)(dfl:List D)(go:Den)(ga:bA):cz c m F dfl go ga ρ Ω=match go ρ Ω with
 | some (.obj n,Ω1)=>(match Ω1[n]? with
  | some (.ins c' fs)=>(if c'=c then(match fs.lookup m with
   | none=>(match ga ρ Ω1 with |some (ds,Ω2)=>F (.obj n::(ds++dfl)) Ω2 |none=>none)
   | some _=>none) else none)
  | _=>none)
 | _=>none:=(rfl)
@[simp] theorem Wj(c:Str)(F:bK)(dfl:List D)(ga:bA):pJ c F dfl ga ρ Ω=match ga ρ Ω with
 | some (ds,Ω1)=>(match F (.obj Ω1.length::(ds++dfl)) (Ω1++[.ins c []]) with
  | some (.non,Ω2)=>some (.obj Ω1.length,Ω2)
  | _=>none)
 | none=>none:=(rfl)
@[simp] theorem Ww(i j:Int):ud [.int i,.int j]=some [.inl i,.inl j]:=(rfl)
@[simp] theorem qy(g:Den):cV g ρ Ω=match g ρ Ω with |some (_,Ω')=>some (.nx ρ Ω') |none=>none:=(rfl)
end
end DL
namespace KS
open PySem PySem.W PyProof.Rows
noncomputable def kw{α:Type}(N:Nat)(lt:Nat->Nat->Bool):KasT α->(α->Prop)->Prop
 | .ret a,Q=>Q a
 | .ask i j k,Q=>i<N/\j<N/\kw N lt (k (lt i j)) Q
theorem nR{α β:Type}{N:Nat}{lt:Nat->Nat->Bool}{f:α->KasT β}{Q:β->Prop}:∀t:KasT α,kw N lt t (fun a=>kw N lt (f a) Q)->kw N lt (t.bind f) Q
 | .ret _,h=>h
 | .ask i j k,⟨h1,h2,h3⟩=>⟨h1,h2,nR (k (lt i j)) h3⟩
theorem G_{α:Type}{N:Nat}{lt:Nat->Nat->Bool}{cmp:Nat->Nat->(Bool->Shared->Prop)->Shared->Prop}{Q:α->Prop}{Q':α->Shared->Prop}{s:Shared}
  (hc:∀i j (C:Bool->Shared->Prop),i<N->j<N->C (lt i j) s->cmp i j C s) (hq:∀a,Q a->Q' a s):∀t:KasT α,kw N lt t Q->t.kasWp cmp Q' s
 | .ret a,h=>hq a h
 | .ask i j k,⟨h1,h2,h3⟩=>hc i j _ h1 h2 (G_ hc hq (k (lt i j)) h3)
noncomputable abbrev rk(r:Nat->Nat)(p:Array Nat)(m:Nat):Nat:=r (p.getD m 0)
structure Pm(N:Nat)(p:Array Nat):Prop where
 perm:p.Perm (List.range N).toArray
 pos:0<N
theorem Pm.size{N:Nat}{p:Array Nat}(h:Pm N p):p.size=N:=by rw[h.perm.size_eq];simp
theorem Pm.lt{N:Nat}{p:Array Nat}(h:Pm N p)(m:Nat):p.getD m 0<N:=by
 by_cases hm:m<p.size
 ·have e:p.getD m 0=p[m]:=by simp[Array.getD,hm]
  rw[e]
  have:p[m]∈(List.range N).toArray:=h.perm.mem_iff.mp (Array.getElem_mem hm)
  simpa using this
 ·have e:p.getD m 0=0:=by simp[Array.getD,hm]
  rw[e];exact h.pos
theorem lU{p:Array Nat}(m:Nat):p.getD m 0=(p[m]?).getD 0:=by simp[Array.getD_eq_getD_getElem?]
theorem sU(r:Nat->Nat){p:Array Nat}{i j:Nat}(hj:j<=p.size)(k:Nat):rk r (kas_rev p i j) k=if i<=k/\k<j then rk r p (i+j-1-k) else rk r p k:=by
 have e:=getElem?_mirror_all (i:=i) hj k
 unfold rk kas_rev
 rw[lU,lU,lU,e]
 split<;>rfl
theorem yw(r:Nat->Nat){p:Array Nat}{src d:Nat}(hs:src<p.size)(hd:d<=src)(k:Nat) :
  rk r (bubble p src d) k=if k=src-d then rk r p src else if src-d<k/\k<=src then rk r p (k-1) else rk r p k:=by
 have e:=getElem?_bubble hs d hd k
 unfold rk
 rw[lU,lU,lU,lU,e]
 split
 ·rfl
 ·split<;>rfl
noncomputable def Up(r:Nat->Nat)(p:Array Nat)(n:Nat):Prop:=∀i j,i<=j->j<n->rk r p i<=rk r p j
noncomputable def Dn(r:Nat->Nat)(p:Array Nat)(n:Nat):Prop:=∀i j,i<=j->j<n->rk r p j<=rk r p i
section
variable {N:Nat} {r:Nat->Nat}
noncomputable abbrev ltR(r:Nat->Nat)(i j:Nat):Bool:=decide (r i<r j)
theorem Pm.rev{p:Array Nat}(h:Pm N p)(i j:Nat):Pm N (kas_rev p i j):=⟨(mirror_perm p i j _).trans h.perm,h.pos⟩
theorem Pm.bub{p:Array Nat}(h:Pm N p)(i j:Nat):Pm N (bubble p i j):=⟨(bubble_perm p i j).trans h.perm,h.pos⟩
theorem Pb{p:Array Nat}{n:Nat}(h:Up r p n)(h1:1<=n)(hl:rk r p (n-1)<=rk r p n):Up r p (n+1):=fun i j hij hj=>by
 by_cases hjn:j<n
 ·exact h i j hij hjn
 ·have:j=n:=by omega
  subst this
  by_cases hi:i=j
  ·subst hi;exact Nat.le_refl _
  ·exact Nat.le_trans (h i (j-1) (by omega) (by omega)) hl
theorem qz{p:Array Nat}{n:Nat}(h:Dn r p n)(h1:1<=n)(hl:rk r p n<=rk r p (n-1)):Dn r p (n+1):=fun i j hij hj=>by
 by_cases hjn:j<n
 ·exact h i j hij hjn
 ·have:j=n:=by omega
  subst this
  by_cases hi:i=j
  ·subst hi;exact Nat.le_refl _
  ·exact Nat.le_trans hl (h i (j-1) (by omega) (by omega))
theorem asc{p:Array Nat}{Q:Nat->Prop}(hB:Pm N p):∀(f n:Nat),1<=n->n+f<=N->Up r p n->(∀m,n<=m->m<=n+f->Up r p m->(m=n+f\/rk r p m<rk r p (m-1))->Q m)->kw N (ltR r) (kas_asc p f n) Q
 | 0,n,h1,hn,hs,h=>h n (Nat.le_refl _) (Nat.le_refl _) hs (.inl rfl)
 | f+1,n,h1,hn,hs,h=>by
  refine⟨hB.lt n,hB.lt (n-1),?_⟩
  by_cases hc:rk r p n<rk r p (n-1)
  ·have e:ltR r (p.getD n 0) (p.getD (n-1) 0)=true:=decide_eq_true hc
   rw[e];dsimp only;rw[if_pos rfl]
   exact h n (Nat.le_refl _) (by omega) hs (.inr hc)
  ·have e:ltR r (p.getD n 0) (p.getD (n-1) 0)=false:=decide_eq_false hc
   rw[e];dsimp only;rw[if_neg (by decide)]
   exact asc hB f (n+1) (by omega) (by omega) (Pb hs h1 (by omega)) fun m a b c d=>h m (by omega) (by omega) c (d.elim (fun d=>.inl (by omega)) .inr)
theorem pX{p:Array Nat}{i j:Nat}(hj:j<=p.size)(he:∀k,i<=k->k<j->rk r p k=rk r p (j-1))(k:Nat):rk r (kas_rev p i j) k=rk r p k:=by
 rw[sU r hj]
 split
 ·rw[he _ (by omega) (by omega),he k (by omega) (by omega)]
 ·rfl
theorem desc{Q:Array Nat×Nat×Nat->Prop}{hi:Nat}:∀(f:Nat) (p:Array Nat) (n q:Nat),Pm N p->1<=n->n+f=hi->hi<=N->Dn r p n->q+1<=n->(∀i,n-(q+1)<=i->i<n->rk r p i=rk r p (n-1)) ->
  (∀p' m q',Pm N p'->1<=m->m<=hi->Dn r p' m->q'+1<=m->(∀i,m-(q'+1)<=i->i<m->rk r p' i=rk r p' (m-1))->Q (p',m,q'))->kw N (ltR r) (kas_desc f p n q) Q
 | 0,p,n,q,hB,h1,hn,hN,hs,hq,he,h=>h p n q hB h1 (by omega) hs hq he
 | f+1,p,n,q,hB,h1,hn,hN,hs,hq,he,h=>by
  have hsz:=hB.size
  refine⟨hB.lt n,hB.lt (n-1),?_⟩
  by_cases hc:rk r p n<rk r p (n-1)
  ·have e:ltR r (p.getD n 0) (p.getD (n-1) 0)=true:=decide_eq_true hc
   rw[e];dsimp only;rw[if_pos rfl]
   by_cases hq0:q>0
   ·rw[if_pos hq0]
    have same:=pX (r:=r) (p:=p) (i:=n-(q+1)) (j:=n) (by omega) he
    refine desc f _ (n+1) 0 (hB.rev _ _) (by omega) (by omega) hN ?_ (by omega) (fun i a b=>by congr 1;congr 1;omega) h
    refine qz (fun i j a b=>?_) h1 ?_
    ·rw[same,same];exact hs i j a b
    ·rw[same,same];omega
   ·rw[if_neg hq0]
    exact desc f p (n+1) 0 hB (by omega) (by omega) hN (qz hs h1 (by omega)) (by omega) (fun i a b=>by congr 1;congr 1;omega) h
  ·have e:ltR r (p.getD n 0) (p.getD (n-1) 0)=false:=decide_eq_false hc
   rw[e];dsimp only;rw[if_neg (by decide)]
   refine⟨hB.lt (n-1),hB.lt n,?_⟩
   by_cases hd:rk r p (n-1)<rk r p n
   ·have e:ltR r (p.getD (n-1) 0) (p.getD n 0)=true:=decide_eq_true hd
    rw[e];dsimp only;rw[if_pos rfl]
    exact h p n q hB h1 (by omega) hs hq he
   ·have e:ltR r (p.getD (n-1) 0) (p.getD n 0)=false:=decide_eq_false hd
    rw[e];dsimp only;rw[if_neg (by decide)]
    refine desc f p (n+1) (q+1) hB (by omega) (by omega) hN (qz hs h1 (by omega)) (by omega) (fun i a b=>?_) h
    show rk r p i=rk r p n
    by_cases hi:i=n
    ·rw[hi]
    ·rw[he i (by omega) (by omega)];omega
theorem tail3{p:Array Nat}{Q:Nat×Array Nat->Prop}{n nrem:Nat}(hB:Pm N p)(h1:1<=n)(hn:n<=nrem)(hN:nrem<=N)(hs:Dn r p n)
  (h:∀m p',Pm N p'->1<=m->m<=nrem->Up r p' m->Q (m,p')):kw N (ltR r) (kas_tail3 n nrem p) Q:=by
 have hsz:=hB.size
 unfold kas_tail3
 refine nR _ (asc (hB.rev 0 n) _ n h1 (by omega) (fun i j a b=>?_) fun m a b c _=>h m _ (hB.rev 0 n) (by omega) (by omega) c)
 rw[sU r (by omega),sU r (by omega),if_pos (by omega),if_pos (by omega)]
 exact hs _ _ (by omega) (by omega)
theorem descPart{p:Array Nat}{Q:Nat×Array Nat->Prop}{n nrem:Nat}(hB:Pm N p)(hn:n+1<=nrem)(hN:nrem<=N)(hs:Dn r p (n+1))
  (h:∀m p',Pm N p'->1<=m->m<=nrem->Up r p' m->Q (m,p')):kw N (ltR r) (kas_descPart n nrem p) Q:=by
 unfold kas_descPart
 refine nR _ (desc (hi:=nrem) _ p (n+1) 0 hB (by omega) (by omega) hN hs (by omega) (fun i a b=>by congr 1;congr 1;omega) fun p' m q' hB' m1 m2 hs' hq' he'=>?_)
 dsimp only
 have hsz:=hB'.size
 by_cases hq0:q'>0
 ·rw[if_pos hq0]
  have same:=pX (r:=r) (p:=p') (i:=m-(q'+1)) (j:=m) (by omega) he'
  exact tail3 (hB'.rev _ _) m1 m2 hN (fun i j a b=>by rw[same,same];exact hs' i j a b) h
 ·rw[if_neg hq0]
  exact tail3 hB' m1 m2 hN hs' h
theorem count{p:Array Nat}{Q:Nat×Array Nat->Prop}{nrem:Nat}(hB:Pm N p)(h1:1<=nrem)(hN:nrem<=N)
  (h:∀m p',Pm N p'->1<=m->m<=nrem->Up r p' m->Q (m,p')):kw N (ltR r) (kas_count nrem p) Q:=by
 have hsz:=hB.size
 unfold kas_count
 refine nR _ (asc hB _ 1 (Nat.le_refl _) (by omega) (fun i j a b=>by have:i=j:=(by omega);subst this;exact Nat.le_refl _) fun n n1 n2 hs hor=>?_)
 by_cases hnn:n=nrem
 ·rw[if_pos (by simpa using hnn)]
  exact h n p hB n1 (by omega) hs
 ·rw[if_neg (by simpa using hnn)]
  have hlt:rk r p n<rk r p (n-1):=hor.resolve_left (by omega)
  by_cases hg:n>1
  ·rw[if_pos hg]
   refine⟨hB.lt 0,hB.lt (n-1),?_⟩
   by_cases hc:rk r p 0<rk r p (n-1)
   ·have e:ltR r (p.getD 0 0) (p.getD (n-1) 0)=true:=decide_eq_true hc
    rw[e];dsimp only;rw[if_pos rfl]
    exact h n p hB n1 (by omega) hs
   ·have e:ltR r (p.getD 0 0) (p.getD (n-1) 0)=false:=decide_eq_false hc
    rw[e];dsimp only;rw[if_neg (by decide)]
    have all:∀k,0<=k->k<n->rk r p k=rk r p (n-1):=fun k _ hk=>by
     have a1:=hs 0 k (by omega) hk
     have a2:=hs k (n-1) (by omega) (by omega)
     omega
    have same:=pX (r:=r) (p:=p) (i:=0) (j:=n) (by omega) all
    refine descPart (hB.rev _ _) (by omega) hN (qz (fun i j a b=>?_) n1 ?_) h
    ·rw[same,same,all i (by omega) (by omega),all j (by omega) b];exact Nat.le_refl _
    ·rw[same,same];omega
  ·rw[if_neg hg]
   have:n=1:=by omega
   subst this
   exact descPart hB (by omega) hN (qz (fun i j a b=>by have:i=j:=(by omega);subst this;exact Nat.le_refl _) (Nat.le_refl _) (by omega)) h
theorem place{p:Array Nat}{Q:Nat->Prop}{k:Nat}(hB:Pm N p)(hs:Up r p k):∀(f l q:Nat),l<=q->q<=k->q-l<=f->(∀i,i<l->rk r p i<=rk r p k)->(∀i,q<=i->i<k->rk r p k<rk r p i) ->
  (∀m,m<=k->(∀i,i<m->rk r p i<=rk r p k)->(∀i,m<=i->i<k->rk r p k<rk r p i)->Q m)->kw N (ltR r) (kas_place p k f l q) Q
 | 0,l,q,a,b,c,lo,hi,h=>h l (by omega) lo (fun i x y=>hi i (by omega) y)
 | f+1,l,q,a,b,c,lo,hi,h=>by
  unfold kas_place
  by_cases hge:l ≥ q
  ·rw[if_pos hge]
   exact h l (by omega) lo (fun i x y=>hi i (by omega) y)
  ·rw[if_neg hge]
   refine⟨hB.lt k,hB.lt _,?_⟩
   by_cases hc:rk r p k<rk r p ((l+q) / 2)
   ·have e:ltR r (p.getD k 0) (p.getD ((l+q) / 2) 0)=true:=decide_eq_true hc
    rw[e];dsimp only;rw[if_pos rfl]
    exact place hB hs f l ((l+q) / 2) (by omega) (by omega) (by omega) lo (fun i x y=>Nat.lt_of_lt_of_le hc (hs _ _ x y)) h
   ·have e:ltR r (p.getD k 0) (p.getD ((l+q) / 2) 0)=false:=decide_eq_false hc
    rw[e];dsimp only;rw[if_neg (by decide)]
    exact place hB hs f ((l+q) / 2+1) q (by omega) (by omega) (by omega) (fun i x=>Nat.le_trans (hs i ((l+q) / 2) (by omega) (by omega)) (by omega)) hi h
theorem ins{p:Array Nat}{k l:Nat}(hB:Pm N p)(hk:k<N)(hl:l<=k)(hs:Up r p k)(lo:∀i,i<l->rk r p i<=rk r p k)(hi:∀i,l<=i->i<k->rk r p k<rk r p i):Up r (bubble p k (k-l)) (k+1):=fun i j a b=>by
 have hsz:=hB.size
 rw[yw r (by omega) (by omega),yw r (by omega) (by omega),show k-(k-l)=l by omega]
 by_cases c1:i=l
 ·rw[if_pos c1]
  by_cases d1:j=l
  ·rw[if_pos d1];exact Nat.le_refl _
  ·rw[if_neg d1,if_pos (by omega)]
   exact Nat.le_of_lt (hi (j-1) (by omega) (by omega))
 ·rw[if_neg c1]
  by_cases c2:l<i/\i<=k
  ·rw[if_pos c2,if_neg (by omega),if_pos (by omega)]
   exact hs _ _ (by omega) (by omega)
  ·rw[if_neg c2]
   by_cases d1:j=l
   ·rw[if_pos d1];exact lo i (by omega)
   ·rw[if_neg d1]
    by_cases d2:l<j/\j<=k
    ·rw[if_pos d2];exact hs _ _ (by omega) (by omega)
    ·rw[if_neg d2];exact hs _ _ (by omega) (by omega)
theorem bin{Q:Array Nat->Prop}:∀(f:Nat) (p:Array Nat) (k:Nat),Pm N p->k+f=N->1<=k->Up r p k->(∀p',Pm N p'->Up r p' N->Q p')->kw N (ltR r) (kas_bin f p k) Q
 | 0,p,k,hB,hf,h1,hs,h=>h p hB (by rw[<-hf];exact hs)
 | f+1,p,k,hB,hf,h1,hs,h=>by
  unfold kas_bin
  exact nR _ (place hB hs k 0 k (by omega) (Nat.le_refl _) (by omega) (fun i x=>by omega) (fun i x y=>by omega) fun m hm lo hi =>
   bin f _ (k+1) (hB.bub _ _) (by omega) (by omega) (ins hB (by omega) hm hs lo hi) h)
theorem sort{Q:Array Nat->Prop}(h2:2<=N)(h:∀p,Pm N p->Up r p N->Q p):kw N (ltR r) (kas_sort N) Q:=by
 unfold kas_sort
 have hB:Pm N (List.toArray (List.range N)):=⟨Array.Perm.refl _,by omega⟩
 refine nR _ (count hB (by omega) (Nat.le_refl _) fun m p' hB' m1 m2 hs=>?_)
 dsimp only
 by_cases hm:m<N
 ·rw[if_pos hm]
  rw[show max m 1=m by omega]
  exact bin _ p' m hB' (by omega) m1 hs h
 ·rw[if_neg hm]
  exact h p' hB' (by have:m=N:=(by omega);subst this;exact hs)
end
section
variable {β:Type} (lt:β->β->Bool)
noncomputable def rank(ks:List β)(x:β):Nat:=(ks.filter fun y=>lt y x).length
theorem Pg(ir:∀a,lt a a=false)(tr:∀a b c,lt a b=true->lt b c=true->lt a c=true){ks:List β}{x y:β}(hx:x∈ks)(h:lt x y=true):rank lt ks x<rank lt ks y:=by
 unfold rank
 have sub:∀l:List β,(l.filter fun z=>lt z x).length<=(l.filter fun z=>lt z y).length/\(x∈l->(l.filter fun z=>lt z x).length<(l.filter fun z=>lt z y).length):=by
  intro l
  induction l with
  | nil=>exact⟨Nat.le_refl _,fun h=>nomatch h⟩
  | cons a l ih =>
   by_cases ha:lt a x=true
   ·rw[List.filter_cons_of_pos (p:=fun z=>lt z x) ha,List.filter_cons_of_pos (p:=fun z=>lt z y) (tr _ _ _ ha h)]
    refine⟨Nat.succ_le_succ ih.1,fun hm=>?_⟩
    rcases List.mem_cons.mp hm with rfl |hm
    ·rw[ir] at ha;cases ha
    ·exact Nat.succ_lt_succ (ih.2 hm)
   ·rw[List.filter_cons_of_neg (p:=fun z=>lt z x) ha]
    by_cases hy:lt a y=true
    ·rw[List.filter_cons_of_pos (p:=fun z=>lt z y) hy]
     exact⟨Nat.le_succ_of_le ih.1,fun _=>Nat.lt_succ_of_le ih.1⟩
    ·rw[List.filter_cons_of_neg (p:=fun z=>lt z y) hy]
     refine⟨ih.1,fun hm=>?_⟩
     rcases List.mem_cons.mp hm with rfl |hm
     ·exact absurd h hy
     ·exact ih.2 hm
 exact(sub ks).2 hx
theorem Ph(nt:∀a b c,lt a c=true->lt a b=true\/lt b c=true){ks:List β}{x y:β}(h:lt y x=false):rank lt ks x<=rank lt ks y:=by
 unfold rank
 induction ks with
 | nil=>exact Nat.le_refl _
 | cons a l ih =>
  by_cases ha:lt a x=true
  ·have:lt a y=true:=by
    rcases nt a y x ha with z |z
    ·exact z
    ·rw[h] at z;cases z
   rw[List.filter_cons_of_pos (p:=fun z=>lt z x) ha,List.filter_cons_of_pos (p:=fun z=>lt z y) this];exact Nat.succ_le_succ ih
  ·rw[List.filter_cons_of_neg (p:=fun z=>lt z x) ha]
   by_cases hy:lt a y=true
   ·rw[List.filter_cons_of_pos (p:=fun z=>lt z y) hy];exact Nat.le_succ_of_le ih
   ·rw[List.filter_cons_of_neg (p:=fun z=>lt z y) hy];exact ih
end
end KS
namespace KS
open PySem PySem.W PySem.Calls PyProof.Rows
section
variable {prog:Program} {w:World} {A:Around} {E:Value->Shared->Prop} {s:Shared} {a kS:Addr} {vs ks:List Value} {κ:SortKind}
noncomputable def Kept(s:Shared)(h':Heap)(bs:List Addr):Prop:=∀b o,b∉bs->s.heap.get? b=some o->h'.get? b=some o
end
end KS
namespace L2
open PySem PySem.Spec PyProof.Rows KS PySem.W
theorem Dd{prog:Program}{w:World}{A:Around}{s:Shared}{b fin:Bool}{Q:Bool->Shared->Prop}:∀{xs ys:List Value} {ns ms:List Int} (i:Nat),IntsAre xs ns->IntsAre ys ms->fin=decide (xs.length<ys.length)->Q (HT.lexLt ns ms) s->KatLex prog w A b fin Q (xs.zip ys) i s
 | _,_,_,_,i,.nil,.nil,hf,h=>by subst hf;exact h
 | _,_,_,_,i,.nil,.cons m u h2,hf,h=>by subst hf;exact h
 | _,_,_,_,i,.cons n t h1,.nil,hf,h=>by subst hf;exact h
 | _,_,_,_,i,.cons n t h1,.cons m u h2,hf,h=>by
  rw[List.zip_cons_cons]
  refine kat_cons (wpAny_eqBool_int ?_)
  rw[HT.fJ] at h
  by_cases e:n=m
  ·subst e
   rw[beq_self_eq_true]
   rw[if_pos rfl] at h
   exact kat_yes (Dd (i+1) h1 h2 (by rw[hf];simp) h)
  ·have e':(n==m)=false:=by simpa using e
   rw[e']
   rw[if_neg e] at h
   refine kat_no ?_
   cases z:(b && i==0) with
   | true=>exact oneLt_int h
   | false=>exact kat_one _ _ (lt_int (show PySem.W.BoolBack Q (.bool (decide (n<m))) s from h))
theorem getD_get{β:Type}{l:List β}{i:Nat}{d:β}(h:i<l.length):l.getD i d=l[i]:=by rw[List.getD_eq_getElem?_getD,List.getElem?_eq_getElem h];rfl
theorem Inv.adopt{X:Cx}{pins:List (Addr×Obj)}{σ:St}{H:Hp}{s:Shared}{h':Heap}{kS D:Addr}{its:List Value}{xs:List V}{c:Nat}(I:Inv X pins σ H s)(fk:lH X pins H kS)(fd:lH X pins H D)(k:Kept s h' [kS,D])
  (hD:h'.get? D=some (seqObj "list" (List.toArray its) c)) (hv:Vals xs its) (hz:xs.length<=sizeLine):Inv X pins σ (upd H D (.lst xs)) { s with heap:=h' }:=by
 obtain⟨k0,k1,k2,k3,k4,k5⟩:=fk
 obtain⟨d0,d1,d2,d3,d4,d5⟩:=fd
 have nk:∀b u,H b=some u->b≠kS:=fun b u e z=>by rw[z,k0] at e;cases e
 have nD:∀b u,H b=some u->b≠D:=fun b u e z=>by rw[z,d0] at e;cases e
 have kp:∀b o,b∉[kS,D]->s.heap.get? b=some o->h'.get? b=some o:=k
 refine I.step (g':=s.gens) (d':=s.drawn) (t':=s.toks) (ch:=[kS,D]) (fun b hb=>?_) (fun b o _ _ hc e _=>kp b o hc e) (fun b o _ _ hc e _=>⟨o.slots,kp b o hc e⟩) (fun b o hc e n=>?_) (fun b o hc e=>⟨o,kp b o hc e⟩)
  (fun b ys e=>by rw[aC (nD b _ e)];exact e) (fun b o u e=>by rw[aC (nD b _ e)];exact e) (fun b ps e=>⟨#[],by rw[aC (nD b _ e),e];simp⟩) (fun m hm=>?_) (fun b u e=>?_) I.bare
 ·rw[List.mem_cons,List.mem_singleton] at hb
  rcases hb with rfl |rfl
  ·exact⟨k3,k1,k4,k5⟩
  ·exact⟨d3,d1,d4,d5⟩
 ·rw[aC (fun z=>hc (by simp[z]))];exact n
 ·obtain⟨o,es,ep,ho,r⟩:=hm
  exact⟨o,es,ep,kp _ o (by simp[Ne.symm k1,Ne.symm d1]) ho,r⟩
 ·by_cases z:b=D
  ·subst z
   rw[aJ] at e
   cases e
   exact⟨hz,its,c,hv,hD⟩
  ·rw[aC z] at e
   refine(I.hok b u e).stay (fun c v hc q=>kp c v ?_ q) (fun c q=>by rw[aC (nD c _ q)];exact q) fun c ys q=>by rw[aC (nD c _ q)];exact q
   rw[List.mem_cons,List.mem_singleton,not_or]
   rcases hc with z |z
   ·rw[z];exact⟨nk b u e,nD b u e⟩
   ·exact⟨nk c _ z,nD c _ z⟩
noncomputable def KeysAre(H:Hp)(vks:List V)(nss:List (List Int)):Prop:=Paired (fun(v:V) (ns:List Int)=>∃b,v=.ref b/\H b=some (.tup (ns.map V.int))/\ns≠[]) vks nss
section
variable {X:Cx} {k:Nat} {f:Addr} {fd:FuncData} {ps:List Str} {sp:Sp} {pins:List (Addr×Obj)} {σ:St} {H:Hp} {s:Shared}
theorem Paired.get{α β:Type}{R:α->β->Prop}:∀{xs:List α} {ys:List β} {i:Nat} {x:α},Paired R xs ys->xs[i]? = some x->∃y,ys[i]? = some y/\R x y
 | _,_,0,_,.cons r _,e=>by cases e;exact⟨_,rfl,r⟩
 | _,_,i+1,x,.cons _ t,e=>by
  obtain⟨y,h1,h2⟩:=Paired.get (i:=i) (x:=x) t e
  exact⟨y,h1,h2⟩
 | _,_,_,_,.nil,e=>by simp at e
theorem kO:∀a,HT.lexLt a a=false
 | []=>rfl
 | x::a=>by rw[HT.fJ,if_pos rfl];exact kO a
theorem pY:∀a b c,HT.lexLt a b=true->HT.lexLt b c=true->HT.lexLt a c=true
 | [],[],_,h,_=>by cases h
 | [],_::_,[],_,h=>by cases h
 | [],_::_,_::_,_,_=>rfl
 | _::_,[],_,h,_=>by cases h
 | x::a,y::b,[],_,h=>by cases h
 | x::a,y::b,z::c,h1,h2=>by
  rw[HT.fJ] at h1 h2 ⊢
  split at h1
  ·rename_i e
   subst e
   split at h2
   ·rename_i e
    subst e
    rw[if_pos rfl];exact pY a b c h1 h2
   ·rename_i ne
    rw[if_neg ne];exact h2
  ·rename_i ne
   split at h2
   ·rename_i e
    subst e
    rw[if_neg ne];exact h1
   ·have h1:=of_decide_eq_true h1
    have h2:=of_decide_eq_true h2
    rw[if_neg (by omega)];exact decide_eq_true (by omega)
theorem sV:∀a b c,HT.lexLt a c=true->HT.lexLt a b=true\/HT.lexLt b c=true
 | [],[],_,h=>.inr h
 | [],_::_,_,h=>.inl rfl
 | x::a,[],[],h=>by cases h
 | x::a,[],_::_,h=>.inr rfl
 | x::a,y::b,[],h=>by cases h
 | x::a,y::b,z::c,h=>by
  rw[HT.fJ] at h
  rw[HT.fJ,HT.fJ]
  by_cases e1:x=y
  ·subst e1
   rw[if_pos rfl]
   by_cases e2:x=z
   ·subst e2
    rw[if_pos rfl] at h ⊢
    exact sV a b c h
   ·rw[if_neg e2] at h ⊢
    exact .inr h
  ·rw[if_neg e1]
   by_cases e2:y=z
   ·subst e2
    rw[if_neg e1] at h
    exact .inl h
   ·rw[if_neg e2]
    by_cases e3:x=z
    ·subst e3
     rcases Int.lt_trichotomy x y with q |q |q
     ·exact .inl (decide_eq_true q)
     ·exact absurd q e1
     ·exact .inr (decide_eq_true q)
    ·rw[if_neg e3] at h
     have h:=of_decide_eq_true h
     by_cases q:x<y
     ·exact .inl (decide_eq_true q)
     ·exact .inr (decide_eq_true (by omega))
theorem uP:∀a b,HT.lexLt a b=false->HT.lexLt b a=false->a=b
 | [],[],_,_=>rfl
 | [],_::_,h,_=>by cases h
 | _::_,[],_,h=>by cases h
 | x::a,y::b,h1,h2=>by
  rw[HT.fJ] at h1 h2
  by_cases e:x=y
  ·subst e
   rw[if_pos rfl] at h1 h2
   rw[uP a b h1 h2]
  ·rw[if_neg e] at h1
   rw[if_neg (fun z=>e z.symm)] at h2
   have h1:=of_decide_eq_false h1
   have h2:=of_decide_eq_false h2
   omega
noncomputable def rankOf(nss:List (List Int))(i:Nat):Nat:=rank HT.lexLt nss (nss.getD i [])
theorem zV{nss:List (List Int)}{i j:Nat}(hi:i<nss.length)(hj:j<nss.length):ltR (rankOf nss) i j=HT.lexLt nss[i] nss[j]:=by
 have ei:nss.getD i []=nss[i]:=by simp[hi]
 have ej:nss.getD j []=nss[j]:=by simp[hj]
 unfold ltR rankOf
 rw[ei,ej]
 cases h:HT.lexLt nss[i] nss[j] with
 | true=>exact decide_eq_true (Pg HT.lexLt kO pY (List.getElem_mem hi) h)
 | false=>exact decide_eq_false (Nat.not_lt.mpr (Ph HT.lexLt sV h))
noncomputable def qC(nss:List (List Int))(xs out:List V):Prop:=∃p:List Nat,p.Perm (List.range xs.length)/\out=p.map (fun i=>xs.getD i .non)/\∀i j,i<=j->j<p.length->HT.lexLt (nss.getD (p.getD j 0) []) (nss.getD (p.getD i 0) [])=false
theorem yx{xs:List V}{its:List Value}(r:Vals xs its):∀p:List Nat,(∀i∈p,i<xs.length)->Vals (p.map fun i=>xs.getD i .non) (p.map fun i=>its.getD i Value.none)
 | [],_=>.nil
 | i::p,h=>by
  refine .cons ?_ (yx r p fun j hj=>h j (List.mem_cons_of_mem _ hj))
  have hi:=h i List.mem_cons_self
  obtain⟨u,e1,e2⟩:=r.get (List.getElem?_eq_getElem hi)
  have e3:xs.getD i V.non=xs[i]:=by simp[hi]
  have e4:its.getD i Value.none=u:=by rw[List.getD_eq_getElem?_getD,e1];rfl
  show RelV (xs.getD i V.non) (its.getD i Value.none)
  rw[e3,e4];exact e2
end
end L2
namespace DL
open PySem
mutual
noncomputable def pl:D->Bool
 | .non=>true
 | .int _=>true
 | .str x=>(PyData.str x).canLay0
 | .tup xs=>plL xs
 | .lst xs=>plL xs
 | _=>false
noncomputable def plL:List D->Bool
 | []=>true
 | d::ds=>pl d && plL ds
end
mutual
noncomputable def dep:D->Nat
 | .tup xs=>cC xs+1
 | .lst xs=>cC xs+1
 | _=>0
noncomputable def cC:List D->Nat
 | []=>0
 | d::ds=>max (dep d) (cC ds)
end
mutual
theorem Ha:∀d:D,pl d=true->(toP d).canLay0=true
 | .non,_=>by rw[toP];rfl
 | .int _,_=>by rw[toP];rfl
 | .str x,h=>by rw[pl] at h;rw[toP];exact h
 | .tup xs,h=>by rw[pl] at h;rw[toP,PyData.canLay0];exact wZ xs h
 | .lst xs,h=>by rw[pl] at h;rw[toP,PyData.canLay0];exact wZ xs h
 | .bl _,h=>by simp[pl] at h
 | .scr _,h=>by simp[pl] at h
 | .obj _,h=>by simp[pl] at h
theorem wZ:∀ds:List D,plL ds=true->PyData.canLayAll0 (fK ds)=true
 | [],_=>by rw[fK];rfl
 | d::ds,h=>by
  rw[plL,Bool.and_eq_true] at h
  rw[fK,PyData.canLayAll0,Bool.and_eq_true]
  exact⟨Ha d h.1,wZ ds h.2⟩
end
mutual
theorem Hb:∀d:D,pl d=true->(toP d).depth=dep d
 | .non,_=>by rw[toP,dep];rfl;all_goals (intro _ z;cases z)
 | .int _,_=>by rw[toP,dep];rfl;all_goals (intro _ z;cases z)
 | .str x,h=>by rw[toP,dep];rfl;all_goals (intro _ z;cases z)
 | .tup xs,h=>by rw[pl] at h;rw[toP,dep,PyData.depth,xf xs h]
 | .lst xs,h=>by rw[pl] at h;rw[toP,dep,PyData.depth,xf xs h]
 | .bl _,h=>by simp[pl] at h
 | .scr _,h=>by simp[pl] at h
 | .obj _,h=>by simp[pl] at h
theorem xf:∀ds:List D,plL ds=true->PyData.depthAll (fK ds)=cC ds
 | [],_=>by rw[fK,cC];rfl
 | d::ds,h=>by
  rw[plL,Bool.and_eq_true] at h
  rw[fK,cC,PyData.depthAll,Hb d h.1,xf ds h.2]
end
theorem sW{d:D}(h:pl d=true)(hd:dep d<=64):SeqAt.shaped (toP d)=true:=by
 unfold SeqAt.shaped
 rw[Ha d h,Hb d h]
 simp[hd]
mutual
theorem zW:∀(p q:D),pl p=true->pl q=true->(PyData.eqv (toP p) (toP q)=true↔p=q)
 | .non,q,_,hq=>by cases q<;>simp[toP,PyData.eqv,pl] at hq ⊢
 | .int i,q,_,hq=>by cases q<;>simp[toP,PyData.eqv,pl] at hq ⊢
 | .str x,q,_,hq=>by cases q<;>simp[toP,PyData.eqv,pl] at hq ⊢
 | .tup xs,q,hp,hq=>by
  cases q with
  | tup ys =>
   rw[pl] at hp hq
   rw[toP,toP,PyData.eqv,xg xs ys hp hq]
   exact⟨fun h=>by rw[h],fun h=>by injection h⟩
  | _=>simp[toP,PyData.eqv,pl] at hq ⊢
 | .lst xs,q,hp,hq=>by
  cases q with
  | lst ys =>
   rw[pl] at hp hq
   rw[toP,toP,PyData.eqv,xg xs ys hp hq]
   exact⟨fun h=>by rw[h],fun h=>by injection h⟩
  | _=>simp[toP,PyData.eqv,pl] at hq ⊢
 | .bl _,_,h,_=>by simp[pl] at h
 | .scr _,_,h,_=>by simp[pl] at h
 | .obj _,_,h,_=>by simp[pl] at h
theorem xg:∀(ps qs:List D),plL ps=true->plL qs=true->(PyData.eqvAll (fK ps) (fK qs)=true↔ps=qs)
 | [],[],_,_=>by simp[fK,PyData.eqvAll]
 | [],_::_,_,_=>by simp[fK,PyData.eqvAll]
 | _::_,[],_,_=>by simp[fK,PyData.eqvAll]
 | p::ps,q::qs,hp,hq=>by
  rw[plL,Bool.and_eq_true] at hp hq
  rw[fK,fK,PyData.eqvAll,Bool.and_eq_true,zW p q hp.1 hq.1,xg ps qs hp.2 hq.2]
  exact⟨fun h=>by rw[h.1,h.2],fun h=>by injection h with a b;exact⟨a,b⟩⟩
end
theorem kW(neg:Bool){p:D}(h:pl p=true)(hd:dep p<=64):eqD neg p p=some (.bl (!neg)):=by
 unfold eqD
 rw[sW h hd,(zW p p h h).mpr rfl]
 cases neg<;>rfl
theorem uQ(neg:Bool){p q:D}(hp:pl p=true)(hq:pl q=true)(dp:dep p<=64)(dq:dep q<=64)(n:p≠q):eqD neg p q=some (.bl neg):=by
 unfold eqD
 have e:PyData.eqv (toP p) (toP q)=false:=by
  cases z:PyData.eqv (toP p) (toP q) with
  | false=>rfl
  | true=>exact absurd ((zW p q hp hq).mp z) n
 rw[sW hp dp,sW hq dq,e]
 cases neg<;>rfl
end DL
namespace KS
open PySem PySem.W PySem.Calls PyProof.Rows
section
variable {prog:Program} {w:World} {A:Around} {E:Value->Shared->Prop} {s:Shared} {a:Addr} {vs:List Value}
theorem JZ(vs:List Value):((List.toArray (List.range vs.length)).toList.map fun i=>vs.getD i Value.none)=vs:=by
 rw[List.toList_toArray]
 apply List.ext_getElem?
 intro i
 rw[List.getElem?_map]
 by_cases hi:i<vs.length
 ·simp[hi]
 ·simp[List.getElem?_eq_none (Nat.le_of_not_lt hi),List.getElem?_eq_none (show(List.range vs.length).length<=i by simp;omega)]
noncomputable def J_(prog:Program)(w:World)(A:Around)(vs:List Value)(a:Addr)(s:Shared)(P:Shared->Prop):Prop:=∃(κ:SortKind) (r:Nat->Nat),(2<=vs.length->∀(Q:SortKind->Shared->Prop) (E:Value->Shared->Prop),Q κ s->wpAny (model prog w) A (keyKind' vs.toArray) Q E s) /\
 (2<=vs.length->∀(i j:Nat) (C:Bool->Shared->Prop),i<vs.length->j<vs.length->C (ltR r i j) s->kas_ask prog w A κ vs i j C s) /\
 ∀(p:Array Nat) h' c,p.Perm (List.range vs.length).toArray->Up r p vs.length->Kept s h' [a]->h'.get? a=some (seqObj "list" (List.toArray (p.toList.map fun i=>vs.getD i Value.none)) c)->P { s with heap:=h' }
theorem Eh{n:Nat}{P:PySem.Fin->Shared->Prop}(ho:s.heap.get? a=some (seqObj "list" vs.toArray n))(h64:vs.length<64)
  (h:∀e1 h',(∀b o,b≠a->s.heap.get? b=some o->h'.get? b=some o)->h'.get? a=some (seqObj "list" #[] e1)->J_ prog w A vs a { s with heap:=h' } fun s3=>P (.done (.ret .none)) s3) :
  wpAny (model prog w) A (Builtin.«list.sort» ⟨[.ref a],[]⟩) P E s:=by
 have s1:=Heap.SameBut.update s.heap a (Obj.mapSeq fun _=>(#[]:Array Value))
 obtain⟨e1,ho1⟩:∃e1,(s.heap.update a (Obj.mapSeq fun _=>(#[]:Array Value))).get? a=some (seqObj "list" #[] e1):=⟨_,get?_update_seq ho fun _=>#[]⟩
 obtain⟨κ,r,hkind,hcmp,fin⟩:=h e1 (((s.heap.update a (Obj.mapSeq fun _=>(#[]:Array Value))).push (seqObj "tuple" vs.toArray 0)).push (seqObj "list" #[] 0))
  (fun b o hb q=>Heap.get?_push_of_some _ (Heap.get?_push_of_some _ ((s1.2 b hb).trans q))) (Heap.get?_push_of_some _ (Heap.get?_push_of_some _ ho1))
 have na:(((s.heap.update a (Obj.mapSeq fun _=>(#[]:Array Value))).push (seqObj "tuple" vs.toArray 0)).push (seqObj "list" #[] 0)).get? a=some (seqObj "list" #[] e1):=Heap.get?_push_of_some _ (Heap.get?_push_of_some _ ho1)
 rw[list_sort_plain];refine wpAny_bind (listItems_at ho rfl ?_)
 refine wpAny_bind (listUpdate_at ho rfl ?_ (by rw[List.size_toArray,sizeLine_eq];omega) (Nat.zero_le _));refine wpAny_bind (seqEpoch_at ho1 rfl ?_)
 refine wpAny_bind (wpAny_newTuple ?_ (by show vs.length<=_;rw[sizeLine_eq];omega));refine wpAny_bind (wpAny_newList ?_ (Nat.zero_le _));refine wpAny_holding ?_
 show wpAny (model prog w) A _ P E { s with heap:=((s.heap.update a (Obj.mapSeq fun _=>(#[]:Array Value))).push (seqObj "tuple" vs.toArray 0)).push (seqObj "list" #[] 0) }
 generalize ((s.heap.update a (Obj.mapSeq fun _=>(#[]:Array Value))).push (seqObj "tuple" vs.toArray 0)).push (seqObj "list" #[] 0)=hh at *
 try dsimp only
 by_cases hn:vs.length<2
 ·have hn2:vs.toArray.size<2:=by rw[List.size_toArray];exact hn
  rw[if_pos hn2,if_pos hn2];refine wpAny_bind (wpAny_pure ?_)
  rw[StateT.run_pure];refine wpAny_bind (wpAny_pure ?_)
  try dsimp only
  have s2:=Heap.SameBut.update hh a (Obj.mapSeq fun _=>List.toArray vs)
  obtain⟨c2,hc2⟩:∃c2,(hh.update a (Obj.mapSeq fun _=>List.toArray vs)).get? a=some (seqObj "list" (List.toArray vs) c2):=⟨_,get?_update_seq na fun _=>List.toArray vs⟩
  have hout:∀κ:SortKind,(arrOf (SortSt.mk' κ (vs.toArray.zip vs.toArray) #[] 7 none)).map (·.2)=List.toArray vs:=fun κ=>by
   show((vs.toArray.zip vs.toArray).map (·.2))=List.toArray vs
   apply Array.toList_inj.mp
   rw[Array.toList_map,ksk_zip];exact List.map_snd_zip (Nat.le_refl _)
  have hf:∀κ:SortKind,failedOf (SortSt.mk' κ (vs.toArray.zip vs.toArray) #[] 7 none)=none:=fun _=>rfl
  rw[hout];refine wpAny_bind (seqEpoch_at na rfl ?_)
  refine wpAny_bind (listUpdate_at na rfl ?_ (Nat.zero_le _) (by rw[List.size_toArray,sizeLine_eq];omega))
  simp only[bne_self_eq_false,Bool.false_eq_true,if_false]
  exact wpAny_pure (fin (List.toArray (List.range vs.length)) _ c2 (Array.Perm.refl _) (fun i j x y=>by have:i=j:=(by omega);subst this;exact Nat.le_refl _) (fun b o hb q=>(s2.2 b (by simpa using hb)).trans q) (by rw[JZ];exact hc2))
 ·have h2:2<=vs.length:=by omega
  have hn2:¬vs.toArray.size<2:=by rw[List.size_toArray];omega
  rw[if_neg hn2,if_neg hn2];refine wpAny_bind (hkind h2 _ _ ?_)
  have run:=G_ (s:={ s with heap:=hh }) (Q':=fun p s'=>s'={ s with heap:=hh }/\Pm vs.length p/\Up r p vs.length) (hcmp h2) (fun p hp=>⟨rfl,hp⟩) _ (sort (N:=vs.length) (r:=r) (Q:=fun p=>Pm vs.length p/\Up r p vs.length) h2 fun p h1 h2=>⟨h1,h2⟩)
  refine wpAny_bind (wpAny_mono (kat_run (Q:=fun st' s'=>∃p:Array Nat,arrOf st'=p.map (kas_item (vs.toArray.zip vs.toArray))/\failedOf st'=none/\s'={ s with heap:=hh }/\Pm vs.length p/\Up r p vs.length) rfl h2 h64 (fun p' st' s' a1 a2 a3 a4=>⟨p',a2,a3,a4⟩) run) ?_ fun _ _ e=>e)
  rintro⟨⟨⟩,st'⟩ s' ⟨p,har,hf,rfl,hp,hu⟩
  try dsimp only
  have hout:=kat_snds rfl har
  have hsz:(List.toArray (p.toList.map fun i=>vs.getD i Value.none)).size=vs.length:=by rw[List.size_toArray,List.length_map,Array.length_toList,hp.size]
  rw[hout]
  have s2:=Heap.SameBut.update hh a (Obj.mapSeq fun _=>List.toArray (p.toList.map fun i=>vs.getD i Value.none))
  obtain⟨c2,hc2⟩:∃c2,(hh.update a (Obj.mapSeq fun _=>List.toArray (p.toList.map fun i=>vs.getD i Value.none))).get? a=some (seqObj "list" (List.toArray (p.toList.map fun i=>vs.getD i Value.none)) c2):=⟨_,get?_update_seq na fun _=>_⟩
  refine wpAny_bind (seqEpoch_at na rfl ?_)
  refine wpAny_bind (listUpdate_at na rfl ?_ (Nat.zero_le _) (Nat.le_trans (Nat.le_of_eq hsz) (by rw[sizeLine_eq];omega)))
  rw[hf];simp only[bne_self_eq_false,Bool.false_eq_true,if_false]
  exact wpAny_pure (fin p _ c2 hp.perm hu (fun b o hb q=>(s2.2 b (by simpa using hb)).trans q) hc2)
end
end KS
namespace DL
open PySem PySem.Spec PyProof.Rows L2
noncomputable def leK(a b:List Int×D):Bool:=!HT.lexLt b.1 a.1
noncomputable def srt(nss:List (List Int))(ds:List D):List D:=((nss.zip ds).mergeSort leK).map (·.2)
noncomputable def qD(nss:List (List Int))(ds:List D):Prop:=∀a∈nss.zip ds,∀b∈nss.zip ds,a.1=b.1->a=b
theorem pL(a b c:List Int×D)(h1:leK a b=true)(h2:leK b c=true):leK a c=true:=by
 unfold leK at *
 cases h:HT.lexLt c.1 a.1 with
 | false=>rfl
 | true =>
  rcases sV c.1 b.1 a.1 h with q |q
  ·rw[q] at h2;cases h2
  ·rw[q] at h1;cases h1
theorem pM(a b:List Int×D):(leK a b || leK b a)=true:=by
 unfold leK
 cases h:HT.lexLt b.1 a.1 with
 | false=>rfl
 | true =>
  cases h2:HT.lexLt a.1 b.1 with
  | false=>rfl
  | true =>
   have:=pY a.1 b.1 a.1 h2 h
   rw[kO] at this
   cases this
theorem xj{β:Type}(l:List β)(d:β):(List.range l.length).map (fun i=>l.getD i d)=l:=by
 apply List.ext_getElem?
 intro i
 rw[List.getElem?_map]
 by_cases hi:i<l.length
 ·simp[hi]
 ·simp[List.getElem?_eq_none (Nat.le_of_not_lt hi),List.getElem?_eq_none (show(List.range l.length).length<=i by simp;omega)]
theorem vO{nss:List (List Int)}{ds:List D}{p:List Nat}(hl:nss.length=ds.length)(ok:qD nss ds)(hp:p.Perm (List.range ds.length))(hu:∀i j,i<=j->j<p.length->HT.lexLt (nss.getD (p.getD j 0) []) (nss.getD (p.getD i 0) [])=false) :
  p.map (fun i=>ds.getD i .non)=srt nss ds:=by
 have hz:(nss.zip ds).length=ds.length:=by simp[hl]
 have hlt:∀i∈p,i<ds.length:=fun i hi=>by simpa using hp.mem_iff.mp hi
 have eZ:∀i,i<ds.length->(nss.zip ds).getD i ([],.non)=(nss.getD i [],ds.getD i .non):=fun i hi=>by
  have h1:i<nss.length:=by omega
  have h2:i<(nss.zip ds).length:=by omega
  rw[getD_get h1,getD_get hi,getD_get h2,List.getElem_zip]
 have e1:p.map (fun i=>ds.getD i .non)=(p.map fun i=>(nss.zip ds).getD i ([],.non)).map (·.2):=by
  rw[List.map_map]
  apply List.map_congr_left
  intro i hi
  show _=((nss.zip ds).getD i ([],.non)).2
  rw[eZ i (hlt i hi)]
 rw[e1]
 unfold srt
 congr 1
 have pm:(p.map fun i=>(nss.zip ds).getD i ([],.non)).Perm (nss.zip ds):=by
  have:=hp.map fun i=>(nss.zip ds).getD i ([],.non)
  rw[<-hz,xj] at this
  exact this
 refine List.Perm.eq_of_pairwise (le:=fun a b=>leK a b=true) ?_ ?_ (List.pairwise_mergeSort pL pM _) (pm.trans (List.mergeSort_perm _ _).symm)
 ·intro a b ha hb h1 h2
  refine ok a (pm.mem_iff.mp ha) b ((List.mergeSort_perm _ _).mem_iff.mp hb) ?_
  unfold leK at h1 h2
  exact uP a.1 b.1 (by simpa using h2) (by simpa using h1)
 ·rw[List.pairwise_iff_getElem]
  intro i j hi hj hij
  rw[List.length_map] at hi hj
  have hu':=hu i j (by omega) hj
  rw[getD_get hi,getD_get hj] at hu'
  rw[List.getElem_map,List.getElem_map,eZ _ (hlt _ (List.getElem_mem hi)),eZ _ (hlt _ (List.getElem_mem hj))]
  unfold leK
  dsimp only
  rw[hu'];rfl
noncomputable def mz(nss:List (List Int))(ds:List D):Option D:=grd (ds.length<64/\nss.length=ds.length/\qD nss ds) (some (.lst (srt nss ds)))
theorem uR{K:PySem.W.Frag}{α:List Addr}{F:Hp}{ds:List D}{vs:List V}(h:IsL K α F ds vs):∀p:List Nat,(∀i∈p,i<ds.length)->IsL K α F (p.map fun i=>ds.getD i .non) (p.map fun i=>vs.getD i .non)
 | [],_=>.nil
 | i::p,hp=>by
  refine .cons ?_ (uR h p fun j hj=>hp j (List.mem_cons_of_mem _ hj))
  have hi:=hp i List.mem_cons_self
  obtain⟨v,e1,e2⟩:=h.get (List.getElem?_eq_getElem hi)
  show Is K α F (ds.getD i .non) (vs.getD i .non)
  rw[getD_get hi,List.getD_eq_getElem?_getD,e1]
  exact e2
section
variable {X:Cx} {C:Cl} {n:Str} {p pos kpos npos:Pos} {a:Expr} {g:Den} {k:Nat}
theorem Ka{pins:List (Addr×Obj)}{σ:St}{H:Hp}{s:Shared}{l:Addr}{xs:List V}(I:Inv X pins σ H s)(h:H l=some (.lst xs)):∃vs,Vals xs vs/\∀(A:Around) (E:Value->Shared->Prop) (Q':List Value->Shared->Prop),(∀h1,KS.Kept s h1 []->Q' vs { s with heap:=h1 })->wpAny (model X.prog X.w) A (collect (.ref l)) Q' E s:=by
 obtain⟨its,r,⟨o,m,e1,e2,_,e3⟩,hz⟩:=I.list (SqL.of h)
 refine⟨its,r,fun A E Q' hq=>wpAny_collect_seq l (.inl rfl) e1 e2 e3 (fun h' kp=>?_) ?_⟩
 ·have:=hq h' fun b o _ q=>kp b o q
  simpa using this
 ·rw[List.size_toArray,<-r.length];exact hz
noncomputable def vP:List D->Option (List Int)
 | []=>some []
 | .int i::r=>match vP r with
  | some ns=>some (i::ns)
  | none=>none
 | _=>none
noncomputable def Ei:D->Option (List Int)
 | .tup ds=>match vP ds with
  | some (n::ns)=>some (n::ns)
  | _=>none
 | _=>none
theorem yz:∀{ds:List D} {ns:List Int},vP ds=some ns->ds=ns.map D.int
 | [],ns,h=>by cases h;rfl
 | .int i::r,ns,h=>by
  unfold vP at h
  cases q:vP r with
  | none=>rw[q] at h;cases h
  | some ms=>rw[q] at h;cases h;rw[yz q];rfl
 | .non::_,_,h=>nomatch h
 | .bl _::_,_,h=>nomatch h
 | .str _::_,_,h=>nomatch h
 | .tup _::_,_,h=>nomatch h
 | .lst _::_,_,h=>nomatch h
 | .scr _::_,_,h=>nomatch h
 | .obj _::_,_,h=>nomatch h
theorem Pj{d:D}{ns:List Int}(h:Ei d=some ns):d=.tup (ns.map D.int)/\ns≠[]:=by
 unfold Ei at h
 split at h
 ·split at h
  ·rename_i e
   cases h
   exact⟨by rw[yz e],by simp⟩
  ·cases h
 ·cases h
theorem zX{K:PySem.W.Frag}{α:List Addr}{F:Hp}:∀{ns:List Int} {vs:List V},IsL K α F (ns.map D.int) vs->vs=ns.map V.int
 | [],_,h=>h.of_nil
 | n::ns,_,h=>by
  obtain⟨v,r,rfl,h1,t⟩:=h.of_cons
  rw[Is] at h1
  rw[zX t,h1];rfl
end
end DL
namespace DL
open PySem PySem.Spec PyProof.Rows L2
noncomputable def tDL(K:PySem.W.Frag)(C:Cl)(g:bA):TE:=fun σ H Q=>∃e Ω ρ ds Ω',e.H=H/\Wf K C e Ω/\RelE K e σ ρ/\g ρ Ω=some (ds,Ω') /\
 ∀a vs e',Ext e e'->Wf K C e' Ω'->(∀e'' Ω'',Ext e' e''->Wf K C e'' Ω''->e''.H a=some (.lst vs))->IsL K e'.α e'.F ds vs->Q (.ref a) e'.H
noncomputable def PDL(X:Cx)(C:Cl)(x:Expr)(g:bA):Prop:=PE X x (tDL X.K C g)
noncomputable def gO(i:Nat):bA:=fun ρ Ω=>match ρ[i]? with
 | some (.own ds)=>some (ds,Ω)
 | _=>none
noncomputable def zY(gl:bA)(g:Den):Den:=fun ρ Ω=>match gl ρ Ω with
 | some (ds,Ω1)=>match g ρ Ω1 with
  | some (.int i,Ω2)=>match atI ds i with
   | some d=>some (d,Ω2)
   | none=>none
  | _=>none
 | none=>none
noncomputable def vQ(gl:bA):Den:=fun ρ Ω=>match gl ρ Ω with
 | some (ds,Ω1)=>some (.int ds.length,Ω1)
 | none=>none
noncomputable def ni:List D->Option (List (List Int))
 | []=>some []
 | d::ds=>match Ei d with
  | some ns=>match ni ds with
   | some nss=>some (ns::nss)
   | none=>none
  | none=>none
theorem yC{K:PySem.W.Frag}{α:List Addr}{F H:Hp}(ff:bC F H):∀{ds:List D} {nss:List (List Int)} {vs:List V},ni ds=some nss->IsL K α F ds vs->KeysAre H vs nss
 | [],nss,vs,h,i=>by cases h;rw[i.of_nil];exact .nil
 | d::ds,nss,vs,h,i=>by
  obtain⟨v,r,rfl,i1,t⟩:=i.of_cons
  unfold ni at h
  cases q1:Ei d with
  | none=>rw[q1] at h;cases h
  | some ns =>
   rw[q1] at h
   dsimp only at h
   cases q2:ni ds with
   | none=>rw[q2] at h;cases h
   | some mss =>
    rw[q2] at h
    cases h
    refine .cons ?_ (yC ff q2 t)
    obtain⟨rfl,ne⟩:=Pj q1
    rw[Is] at i1
    obtain⟨b,us,rfl,hb,ib⟩:=i1
    rw[zX ib] at hb
    exact⟨b,rfl,ff _ _ hb,ne⟩
section
variable {X:Cx} {C:Cl} {x a b:Expr} {f g:Den} {gl:bA} {n:Str} {p pos:Pos}
theorem De{i:Nat}(hv:PE X (.Name n p) (wH i)):PDL X C (.Name n p) (gO i):=bj hv fun σ H Q hw'=>by
 obtain⟨e,Ω,ρ,ds,Ω',eH,w,rl,q,kk⟩:=hw'
 unfold gO at q
 split at q
 ·rename_i h
  cases q
  obtain⟨a,vs,e1,e2,il,n1,n2⟩:=rl.own _ _ h
  exact⟨.ref a,e1,by rw[<-eH];exact kk a vs e (Ext.refl e) w (fun e'' _ x' _=>x'.hk a _ e2 n2) il⟩
 ·cases q
theorem Um(ha:PDL X C a gl)(hb:PD X C b g)(hs:wL b:=by intro _ _;rfl):PD X C (.Subscript a b pos) (zY gl g):=bj (Ma Cq ha hb hs) fun σ H Q hw'=>by
 obtain⟨e,Ω,ρ,d,Ω',eH,w,rl,q,kk⟩:=hw'
 unfold zY at q
 cases q1:gl ρ Ω with
 | none=>rw[q1] at q;cases q
 | some p1 =>
  obtain⟨ds,Ω1⟩:=p1
  rw[q1] at q
  dsimp only at q
  cases q2:g ρ Ω1 with
  | none=>rw[q2] at q;cases q
  | some p2 =>
   obtain⟨d2,Ω2⟩:=p2
   rw[q2] at q
   cases d2 with
   | int i =>
    dsimp only at q
    cases q3:atI ds i with
    | none=>rw[q3] at q;cases q
    | some z =>
     rw[q3] at q
     cases q
     refine⟨e,Ω,ρ,ds,Ω1,eH,w,rl,q1,fun l vs e1 x1 w1 st il=>⟨e1,Ω1,ρ,_,_,rfl,w1,rl.ext x1,q2,fun v e2 x2 w2 i2=>?_⟩⟩
     rw[Is] at i2
     subst i2
     obtain⟨v,e3,i3⟩:=zH (il.ext x2) q3
     exact⟨l,vs,i,v,rfl,rfl,SqL.of (st e2 _ x2 w2),e3,kk v e2 (x1.trans x2) w2 i3⟩
   | _=>cases q
theorem Sy(hg:Gl X n)(hm:X.mg n=none)(hv:bootBuiltins n=some (.builtin "len"))(ho:PDL X C a gl)(hn:n ≠ "__name__":=by decide)(hdb:(n==("__debug__":Str))=false:=by decide)
  (he:starEach [a] X.env=(false,eval a X.env)::starEach [] X.env:=by rfl) (hpl:(backTo pos (starEach [] X.env)).any (·.1)=false:=by rfl):PD X C (.Call (.Name n p) [a] [] pos) (vQ gl) :=
 bj (iu Jh hg hm hv (bL ho cY he) hn hdb he hpl) fun σ H Q hw'=>by
  obtain⟨e,Ω,ρ,d,Ω',eH,w,rl,q,kk⟩:=hw'
  unfold vQ at q
  cases q1:gl ρ Ω with
  | none=>rw[q1] at q;cases q
  | some p1 =>
   obtain⟨ds,Ω1⟩:=p1
   rw[q1] at q
   cases q
   refine⟨e,Ω,ρ,ds,_,eH,w,rl,q1,fun l vs e1 x1 w1 st il=>⟨.ref l,vs.length,rfl,.inl ⟨vs,SqL.of (st e1 _ (Ext.refl e1) w1),rfl⟩,?_⟩⟩
   exact kk _ e1 x1 w1 (by rw[Is,il.length])
end
end DL
namespace L2
open PySem PySem.Spec PyProof.Rows
section
variable {X:Cx}
theorem Hc(hh:X.A.handled=none):fH X (.builtin "all") (fun xs H Q=>∃(p:Addr) (bs:List Bool),xs=[V.ref p]/\SqL X.K H p (bs.map V.bl)/\Q (.bl (bs.all id)) H):=by
 intro pins s σ H xs us Q I r h
 obtain⟨p,bs,rfl,hp,q⟩:=h
 obtain⟨u,rfl,ru⟩:=vals1 r
 cases ru
 obtain⟨its,rv,pl,_⟩:=I.list hp
 have hlt:p<s.heap.objs.size:=by obtain⟨_,_,e,_⟩:=pl;exact Heap.lt_size e
 have hl:=rv.length
 rw[List.length_map] at hl
 refine call_all_walk (wpAny_pyIter_list pl.isList ?_)
 refine⟨s.heap.objs.size,[s.heap.objs.size,p],[s.heap.objs.size],its.toArray.size,_,_,fun i=>(bs[i]?).getD true,rfl,Walks.list (A:=X.A.in1) hh _ p (Nat.ne_of_lt hlt) its.toArray,⟨⟨_,Heap.get?_push_size _ rfl,rfl,rfl⟩,pl.isList.push _⟩,fun i v s' Q' E' hP hQ=>?_,fun h' tk hk=>?_⟩
 ·have hi:i<its.length:=by
   have:its.toArray[i]? = some v:=hP
   have:=(Array.getElem?_eq_some_iff.mp this).1
   simpa using this
  have hb:i<bs.length:=by omega
  obtain⟨u,e1,e2⟩:=rv.get (i:=i) (x:=V.bl bs[i]) (by rw[List.getElem?_map,List.getElem?_eq_getElem hb];rfl)
  have e3:its.toArray[i]? = some v:=hP
  rw[show its.toArray[i]? = its[i]? by simp,e1] at e3
  cases e3
  cases (show v=Value.bool bs[i] from e2)
  dsimp only at hQ
  rw[List.getElem?_eq_getElem hb,Option.getD_some] at hQ
  exact wpAny_truthy_bool hQ
 ·have e:((List.range its.toArray.size).all fun i=>(bs[i]?).getD true)=bs.all id:=by
   rw[List.size_toArray,<-hl]
   have:∀l:List Bool,((List.range l.length).all fun i=>(l[i]?).getD true)=l.all id:=by
    intro l
    induction l with
    | nil=>rfl
    | cons b l ih =>
     rw[List.length_cons,List.range_succ_eq_map,List.all_cons,List.all_map,List.all_cons,<-ih]
     rfl
   exact this bs
  rw[e]
  refine⟨.bl _,H,I.kept (t':=tk) fun b o q=>?_,rfl,q⟩
  exact hk b o (fun hm=>by rw[List.mem_singleton.mp hm] at q;exact Nat.lt_irrefl _ (Heap.lt_size q)) (Heap.get?_push_of_some _ q)
end
end L2
namespace DL
open PySem PySem.Spec PyProof.Rows L2
noncomputable def rA:List D->Option (List Bool)
 | []=>some []
 | .bl b::r=>match rA r with
  | some bs=>some (b::bs)
  | none=>none
 | _=>none
noncomputable def zZ:List D->Option D
 | [.lst ds]=>match rA ds with
  | some bs=>some (.bl (bs.all id))
  | none=>none
 | _=>none
theorem Df{K:PySem.W.Frag}{α:List Addr}{F:Hp}:∀{ds:List D} {bs:List Bool} {vs:List V},rA ds=some bs->IsL K α F ds vs->vs=bs.map V.bl
 | [],zs,vs,h,i=>by cases h;exact i.of_nil
 | .bl z::r,zs,vs,h,i=>by
  obtain⟨v,t,rfl,i1,i2⟩:=i.of_cons
  unfold rA at h
  cases q:rA r with
  | none=>rw[q] at h;cases h
  | some ys =>
   rw[q] at h
   cases h
   rw[Is] at i1
   rw[i1,Df q i2]
   rfl
 | .non::_,_,_,h,_=>nomatch h
 | .str _::_,_,_,h,_=>nomatch h
 | .int _::_,_,_,h,_=>nomatch h
 | .tup _::_,_,_,h,_=>nomatch h
 | .lst _::_,_,_,h,_=>nomatch h
 | .scr _::_,_,_,h,_=>nomatch h
 | .obj _::_,_,_,h,_=>nomatch h
section
variable {X:Cx} {C:Cl} {x a b tg:Expr} {f g:Den} {n:Str} {p pos ap cp:Pos}
theorem yD(hh:X.A.handled=none):CallD X C (.builtin "all") zZ:=by
 rintro pins s σ H xs us Q I r ⟨e,Ω,ds,z,eH,w,i,q,kk⟩
 subst eH
 match ds,q with
 | [.lst es],q =>
  obtain⟨v,rfl,iv⟩:=gB i
  rw[Is] at iv
  obtain⟨l,vs,rfl,hF,il⟩:=iv
  unfold zZ at q
  dsimp only at q
  cases q1:rA es with
  | none=>rw[q1] at q;cases q
  | some bs =>
   rw[q1] at q
   cases q
   rw[Df q1 il] at hF
   exact Hc hh pins s σ _ _ us Q I r ⟨l,bs,rfl,SqL.of (w.fh _ _ hF),kk _ e (Ext.refl e) w (by rw[Is])⟩
end
end DL
namespace L2
open PySem PySem.Spec PyProof.Rows
section
variable {X:Cx} {x:Str} {C:Addr} {bmB:List Value} {B newId initId:String} {np cpos pos:Pos} {e:Expr} {te:TE}
noncomputable def oG(X:Cx)(C:Addr)(σ:St)(H:Hp):Prop:=∀(pins:List (Addr×Obj)) (s:Shared) (h':Heap) (ea:Addr) (args:List Value),Inv X pins σ H s->Heap.MadeExcOf s.heap h' ea (.ref C) args->X.xe (.ref ea) { s with heap:=h' }
theorem Kc(O:OwnCls x C bmB newId X.mg X.base)(FB:ExcBaseFacts B newId initId bmB)(hh:X.A.handled=none)(hg:Gl X x)(ha:PE X e te)(te_mono:∀{σ:St} {H:Hp},te σ H (fun _ H1=>oG X C σ H1)->te σ H (fun v H1=>[v].length=1/\oG X C σ H1))(he:starEach [e] X.env=(false,eval e X.env)::starEach [] X.env:=by rfl)(hpl:(backTo cpos (starEach [e] X.env)).any (·.1)=false:=by rfl)
  (hd:(x==("__debug__":Str))=false:=by decide):PS X (.Raise (some (.Call (.Name x np) [e] [] cpos)) none pos) (fun _ σ H=>te σ H fun _ H1=>oG X C σ H1):=by
 intro pins s σ H D I h
 obtain⟨tl,N,nm,q,bs,hdct,sn,sub,ab,col,dd,k0,k1,k2,k3,k5,mN,hC,hN,hni,T⟩:=O.obj
 refine wpAny_Raise_call_subT (C:=C) (nm:=nm) (q:=q) (N:=N) (bs:=bs) (bm:=tl) (hdct:=hdct) (sn:=sn) (sub:=sub) (ab:=ab) (col:=col) (dd:=dd) (k0:=k0) (k1:=k1) (k2:=k2) (k3:=k3) (k5:=k5) FB (mN:=mN) (T.hasType FB.hasBase) hh hpl hni (p_ I hg O.bound ⟨rfl,?_⟩ hd)
 have sp:=(bL ha cY he) cpos pins s σ H (fun vs H1=>vs.length=1/\oG X C σ H1) I (show te σ H (fun v H1=>[v].length=1/\oG X C σ H1) from(te_mono h))
 rw[he] at sp ⊢
 refine Calls.evalArgs_plain (thn sp fun us s2 hw'=>?_)
 obtain⟨vs,H1,I1,r1,l1,q1⟩:=hw'
 have k:=I1.bk
 exact⟨rfl,by show us.length<=sizeLine;rw[<-r1.length,l1];decide,k _ _ hC,hN.keeps k,T.keeps k,fun h' ea hm=>q1 pins s2 h' ea us I1 hm⟩
end
theorem z_{P:Program}{w:World}{H:Hp}{h:Heap}{a:Addr}{o:HO}(x:bI P w H h a o):∃ob,h.get? a=some ob:=by
 cases o with
 | lst xs=>obtain⟨_,_,_,_,e⟩:=x;exact⟨_,e⟩
 | tup xs=>obtain⟨_,_,_,ob,e,_⟩:=x;exact⟨ob,e⟩
 | dK kvs=>obtain⟨_,_,_,_,o,_,_,e,_⟩:=x;exact⟨_,e⟩
 | dT kvs=>obtain⟨_,_,_,_,o,_,_,e,_⟩:=x;exact⟨_,e⟩
 | set S n=>obtain⟨o,_,_,_,e,_⟩:=x;exact⟨_,e⟩
 | ins C dx fs=>obtain⟨_,_,_,e,_⟩:=x;exact⟨_,e⟩
 | own y=>exact x
 | xd fs=>obtain⟨_,⟨_,_,_,e,_⟩,_⟩:=x;exact⟨_,e⟩
 | rng lo hi=>obtain⟨_,_,_,e⟩:=x;exact⟨_,e⟩
 | frz ob u=>exact⟨_,x.1⟩
 | tbl ps=>exact⟨_,x⟩
 | met f y=>exact⟨_,x⟩
 | ext φ=>exact x.2.1
noncomputable def CXr(P:Program)(w:World):CXT:=fun outer H s E e s'=>∃(ea C t:Addr) (H':Hp) (B:Heap),e=.ref ea/\E (.ref C) none H'/\s'.os=s.os/\AllBare s'.gens/\Un (frs outer) [] H H' s.heap s'.heap/\HOk P w H' s'.heap /\
 Heap.FlyingW B outer ea (.ref C) (.ref t) s'.heap/\(∀b o,H' b=some o->∃ob,B.get? b=some ob)/\H' ea=none/\∀b o,s.heap.get? b=some o->H b=none->b∉frs outer->B.get? b=some o
theorem yU{P:Program}{w:World}{K:PySem.W.Frag}{mg:Str->Option Value}{base:Heap}{N:List Str}{qual:Str}{scope:Scope}{f C:Addr}{cd:Value}{A:Around}{outer:List Env}{s₀:Shared}{H₀ H:Hp}{E:XK}{σ:St}
  (hE:E (.ref C) none H):oG (bQ (CXr P w) P w K mg base N qual scope f cd A outer s₀ H₀ E) C σ H:=by
 intro pins s h' ea args I hm
 have hst:(bQ (CXr P w) P w K mg base N qual scope f cd A outer s₀ H₀ E).stack=envOfC qual scope s₀.heap.objs.size f cd::outer:=rfl
 have hB:∀b o,s.heap.get? b=some o->b∉frs (envOfC qual scope s₀.heap.objs.size f cd::outer)->(PySem.W.hideAll s.heap (frs (envOfC qual scope s₀.heap.objs.size f cd::outer))).get? b=some o:=fun b o e n=>PySem.W.hideAll_get _ e n
 have sub:∀b∈frs (envOfC qual scope s₀.heap.objs.size f cd::outer),b=s₀.heap.objs.size\/b∈frs outer:=fun b hb=>List.mem_cons.mp (I.stkSub b hb)
 have old:∀b o,s₀.heap.get? b=some o->b∉frs outer->b∉frs (envOfC qual scope s₀.heap.objs.size f cd::outer):=fun b o e n hb=>by
  rcases sub b hb with z |z
  ·exact absurd (Heap.lt_size e) (by rw[z];exact Nat.lt_irrefl _)
  ·exact n z
 have trk:∀b o,H b=some o->b∉frs (envOfC qual scope s₀.heap.objs.size f cd::outer):=fun b o e hb=>by
  have:=I.stkFree b hb
  rw[this] at e;cases e
 refine wpAny_leaves_madeW (base:=PySem.W.hideAll s.heap (frs (envOfC qual scope s₀.heap.objs.size f cd::outer))) (env:=envOfC qual scope s₀.heap.objs.size f cd) (outer:=outer) (L:=s₀.heap.objs.size) (h:=s.heap) I.ok.frames rfl (fun b o q=>PySem.W.of_hideAll _ q)
  (PySem.W.funFrames_hide I.stack fun env he b hb=>List.mem_filterMap.mpr ⟨env,he,hb⟩) hm fun h'' t x1 x2 x3 x4=>?_
 have k1:=x1.1
 have un:Un (frs outer) [] H₀ H s₀.heap h'':=by
  refine⟨fun b o e n nf _=>k1 b o (hB b o (I.base.keep b o e n nf (by intro z;cases z)) (old b o e nf)),fun b o e n hf _=>?_,fun b o e n _=>I.base.free b o e n (by intro z;cases z),fun b o e _=>?_,I.base.tups,I.base.frzs,I.base.tbls⟩
  ·obtain⟨sl,q⟩:=I.base.slot b o e n hf (by intro z;cases z)
   obtain⟨_,o',ho',hd⟩:=I.ok.funs.mem hf
   have ho'':s₀.heap.get? b=some o':=ho'
   rw[e] at ho''
   cases ho''
   obtain⟨sl',q'⟩:=x4 b { o with slots:=sl } (hm.keeps b _ q) hd
   exact⟨sl',q'⟩
  ·by_cases hf:b∈frs outer
   ·obtain⟨_,o',ho',hd⟩:=I.ok.funs.mem hf
    have ho'':s₀.heap.get? b=some o':=ho'
    rw[e] at ho''
    cases ho''
    obtain⟨sl,q⟩:=I.base.slot b o e (I.ok.frf b hf) hf (by intro z;cases z)
    obtain⟨sl',q'⟩:=x4 b { o with slots:=sl } (hm.keeps b _ q) hd
    exact⟨_,q'⟩
   ·obtain⟨o',q⟩:=I.base.there b o e (by intro z;cases z)
    exact⟨o',k1 b o' (hB b o' q (old b o e hf))⟩
 have hok:HOk P w H h'':=fun b o e=>(I.hok b o e).stay (fun c u hc q=>by
  refine k1 c u (hB c u q ?_)
  rcases hc with z |z
  ·rw[z];exact trk b o e
  ·exact trk c _ z) (fun _ q=>q) (fun _ _ q=>q)
 refine⟨ea,C,t,H,PySem.W.hideAll s.heap (frs (envOfC qual scope s₀.heap.objs.size f cd::outer)),rfl,hE,I.os,I.bare,un,hok,x1,fun b o e=>?_,?_,fun b o e n nf=>?_⟩
 ·obtain⟨ob,q⟩:=z_ (I.hok b o e)
  exact⟨ob,hB b ob q (trk b o e)⟩
 ·cases q:H ea with
  | none=>rfl
  | some o =>
   obtain⟨ob,z⟩:=z_ (I.hok ea o q)
   rw[hm.new] at z;cases z
 ·exact hB b o (I.base.keep b o e n nf (by intro z;cases z)) (old b o e nf)
end L2
namespace L2
open PySem PySem.Spec PyProof.Rows
structure Flown(X:Cx)(pins:List (Addr×Obj))(σ:St)(ea C t:Addr)(H:Hp)(B:Heap)(s:Shared):Prop where
 fl:Heap.FlyingW B X.stack ea (.ref C) (.ref t) s.heap
 nea:H ea=none
 inv:∀h',B.StaysIn h'->s.heap.UpToSlots h'->Inv X pins σ H { s with heap:=h' }
 new:∀b o,X.s₀.heap.get? b=some o->X.H₀ b=none->b∉X.ex->b≠ea
 pne:∀p∈X.pn++pins,p.1≠ea
theorem flown{X:Cx}{pins:List (Addr×Obj)}{σ:St}{H:Hp}{s s':Shared}{E:XK}{e:Value}(I:Inv X pins σ H s)(h:CXr X.prog X.w X.stack H s E e s')(hdm:∀C H',E C none H'->∀b o,H b=some o->∃o',H' b=some o') :
  ∃ea C t H' B,e=.ref ea/\E (.ref C) none H'/\Flown X pins σ ea C t H' B s':=by
 obtain⟨ea,C,t,H',B,e1,hE,os,bare,un,hok,fl,trk,nea,old⟩:=h
 have gen:∀b o,s.heap.get? b=some o->H b=none->b≠ea:=fun b o e n z=>by
  subst z
  by_cases hf:b∈frs X.stack
  ·obtain⟨_,o',ho',hd⟩:=I.stack.mem hf
   rw[e] at ho'
   cases ho'
   obtain⟨sl,q⟩:=un.slot b o e n hf (by intro z;cases z)
   obtain⟨oe,ws,hoe,_,hoed,_⟩:=fl.first
   rw[q] at hoe
   cases hoe
   exact hd _ hoed
  ·have z:=old b o e n hf
   rw[fl.2.1] at z
   cases z
 refine⟨ea,C,t,H',B,e1,hE,fl,nea,fun h'' kB up=>?_,fun b o e n nx=>?_,fun p hp=>gen _ _ (I.pin p hp).1 (I.pin p hp).2.1⟩
 rotate_left
 ·obtain⟨o',q⟩:=I.base.there b o e nx
  exact gen b o' q (I.base.free b o e n nx)
 have dm:=hdm _ _ hE
 have slot:∀b o,s.heap.get? b=some o->H b=none->b∈frs X.stack->∃sl,h''.get? b=some { o with slots:=sl }:=fun b o e n hf=>by
  obtain⟨sl,q⟩:=un.slot b o e n hf (by intro z;cases z)
  obtain⟨_,o',ho',hd⟩:=I.stack.mem hf
  rw[e] at ho'
  cases ho'
  obtain⟨sl',q'⟩:=up b { o with slots:=sl } q hd
  exact⟨sl',q'⟩
 have un':Un (frs X.stack) [] H H' s.heap h'':=by
  refine⟨fun b o e n nf _=>kB b o (old b o e n nf),fun b o e n hf _=>slot b o e n hf,un.free,fun b o e _=>?_,un.tups,un.frzs,un.tbls⟩
  cases q:H b with
  | none =>
   by_cases hf:b∈frs X.stack
   ·obtain⟨sl,z⟩:=slot b o e q hf
    exact⟨_,z⟩
   ·exact⟨o,kB b o (old b o e q hf)⟩
  | some u =>
   obtain⟨u',q'⟩:=dm b u q
   obtain⟨ob,z⟩:=trk b u' q'
   exact⟨ob,kB b ob z⟩
 have hok':HOk X.prog X.w H' h'':=fun b o e=>(hok b o e).stay (fun c u hc q=>by
  obtain⟨ob,z⟩:∃ob,B.get? c=some ob:=by
   rcases hc with y |y
   ·rw[y];exact trk b o e
   ·exact trk c _ y
  have z':=fl.1 c ob z
  rw[q] at z'
  cases z'
  exact kB c _ z) (fun _ q=>q) (fun _ _ q=>q)
 exact I.call' (s':={ s' with heap:=h'' }) os un' hok' bare (fun b z=>absurd z (by simp))
noncomputable abbrev Cx.mark(X:Cx)(v:Value):Cx:={ X with A:=X.A.mark (some v),calm:=false }
theorem Inv.mark{X:Cx}{pins:List (Addr×Obj)}{σ:St}{H:Hp}{s:Shared}(I:Inv X pins σ H s)(v:Value):Inv (X.mark v) pins σ H s :=
 ⟨⟨I.ok.mod,I.ok.kind,I.ok.glob,I.ok.blt,I.ok.above,I.ok.inj,I.ok.has,I.ok.cab,(fun z=>absurd z Bool.false_ne_true),I.ok.frames,I.ok.stk,I.ok.exf,I.ok.bs,I.ok.bsz,I.ok.noex,I.ok.exfs,I.ok.funs,I.ok.frf⟩,I.os,I.bare,I.base,I.loc,I.cell,I.free,I.freeC,I.pin,I.hok,I.len⟩
theorem Inv.track{X:Cx}{pins:List (Addr×Obj)}{σ:St}{H:Hp}{s:Shared}{ea:Addr}{oe:Obj}(I:Inv X pins σ H s)(ho:s.heap.get? ea=some oe)(nea:H ea=none)(neL:ea≠X.env.locals)(neC:∀y c,X.env.cells.lookup y=some c->c≠ea)
  (new:∀b o,X.s₀.heap.get? b=some o->X.H₀ b=none->b∉X.ex->b≠ea) (pne:∀p∈X.pn++pins,p.1≠ea):Inv X pins σ (upd H ea (.frz oe (.own 0))) s:=by
 have up:∀b u,H b=some u->upd H ea (.frz oe (.own 0)) b=some u:=fun b u e=>by rw[aC (aM e nea)];exact e
 refine⟨I.ok,I.os,I.bare,⟨I.base.keep,I.base.slot,fun b o e n nx=>?_,I.base.there,fun b xs e=>up _ _ (I.base.tups b xs e),fun b o u e=>up _ _ (I.base.frzs b o u e),fun b ps e=>?_⟩,I.loc,I.cell,?_,fun y c hc=>?_,fun p hp=>?_,fun b o e=>?_,I.len⟩
 ·rw[aC (new b o e n nx)];exact I.base.free b o e n nx
 ·obtain⟨m,z⟩:=I.base.tbls b ps e
  exact⟨m,up _ _ z⟩
 ·rw[aC (Ne.symm neL)];exact I.free
 ·rw[aC (neC y c hc)];exact I.freeC y c hc
 ·have z:=I.pin p hp
  refine⟨z.1,?_,z.2.2⟩
  rw[aC (pne p hp)];exact z.2.1
 ·by_cases hb:b=ea
  ·subst hb
   rw[aJ] at e
   cases e
   exact⟨ho,oe,ho⟩
  ·rw[aC hb] at e
   exact(I.hok b o e).stay (fun c u _ q=>q) (fun c q=>up _ _ q) (fun c xs q=>up _ _ q)
section
variable {X:Cx} {pins:List (Addr×Obj)} {σ:St} {ea C t:Addr} {H:Hp} {B:Heap} {s:Shared} {x n:Str} {np hpos:Pos} {cv:Value} {i:Nat} {b₀:Stmt} {suite:List Stmt} {rest:List ExceptHandler} {Q:Flow->Shared->Prop} {E:Value->Shared->Prop} {b:Bool}
theorem Kd{M:Model}{h:Heap}{ob:Obj}{cls:Value}(ho:h.get? ea=some ob)(hc:ob.cls=cls):PySem.W.Looks M h (typeOf (.ref ea)) cls:=by
 rw[<-hc];exact(show PySem.W.Looks M h (typeOf (.ref ea)) ob.cls from(PySem.W.Looks.ld ho).andThen .now)
theorem Hf(F:Flown X pins σ ea C t H B s)(hs:X.stack=X.env::X.outer)(hfr:X.env.frame=some X.env.locals)(hg:Gl X x)(hm:X.mg x=some cv)(hx:PySem.W.exmOne X.K (.ref C) cv=some true)(hN:X.N.Nodup)(hi:X.N[i]? = some n)(hl:X.env.scope.names.lookup n=some .local)(hd:(x==("__debug__":Str))=false)
  (k:∀s7 oe,Inv (X.mark (.ref ea)) pins (σ.set i (some (.ref ea))) (upd H ea (.frz oe (.own 0))) s7->oe.cls=.ref C ->
   wpAny (model X.prog X.w) (X.A.mark (some (.ref ea))) (execs (b₀::suite) X.env) (fun f s3=>wpAny (model X.prog X.w) X.A (do bindName X.env n .none;unbindBehindTheSuite X.env n hpos) (fun _ s5=>Q f s5) E s3) (fun _ _=>False) s7) :
  wpAny (model X.prog X.w) X.A (noteFrame (.ref ea) X.env) (fun _ s2=>wpAny (model X.prog X.w) X.A (setFlight (.ref ea) none) (fun _ s3=>wpAny (model X.prog X.w) X.A (handleBy (.ref ea) X.env (.ExceptHandler (some (.Name x np)) (some n) (b₀::suite) hpos::rest)) Q E s3) E s2) E s:=by
 have I0:=F.inv s.heap F.fl.1 (Heap.UpToSlots.refl _)
 have fl:=F.fl
 rw[hs] at fl
 have fr:X.A.frames=some (X.env::X.outer):=by rw[<-hs];exact I0.ok.frames
 refine wpAny_looks_onW fr hfr fl fun h4 held4 up4=>?_
 refine wpAny_landsW held4 fun h5 fl5 up5=>?_
 have up45:=up4.trans up5
 have I5:=(F.inv h5 fl5.1 up45).mark (.ref ea)
 obtain⟨ob,hob,hobc⟩:=fl5.there
 refine wpAny_handleBy_cons (codeAny_handlers_test (p_ I5 hg hm ?_ hd)) (by intro q;cases q)
 refine(PySem.W.exm_one I5.kIn (Kd hob hobc) hx).here ?_
 refine codeAny_handlers_suite_as (lands_againW fl5 fun h6 fl6 up6=>?_)
 have I6:=(F.inv h6 fl6.1 (up45.trans up6)).mark (.ref ea)
 obtain⟨oe,ws,hoe,hoec,hoed,_⟩:=fl6.first
 refine xZ (X:=X.mark (.ref ea)) (i:=i) (v:=.ref ea) I6 hN hi (.inl hl) rfl (fun s7 I7 ⟨a,sb,ha⟩=>?_) (.inr hl)
 have neL:ea≠X.env.locals:=fun z=>by
  obtain⟨m,⟨o',es,ep,ho',hd',_⟩,_⟩:=I6.loc
  have ho'':h6.get? X.env.locals=some o':=ho'
  rw[<-z,hoe] at ho''
  cases ho''
  rw[hoed] at hd'
  cases hd'
 have neC:∀y c,X.env.cells.lookup y=some c->c≠ea:=fun y c hc z=>by
  obtain⟨v,o',ho',hd'⟩:=I6.cell y c hc
  have ho'':h6.get? c=some o':=ho'
  rw[z,hoe] at ho''
  cases ho''
  rw[hoed] at hd'
  cases hd'
 have nefs:ea∉X.fs:=fun z=>by
  obtain⟨_,o',ho',hd'⟩:=I6.funs.mem z
  have ho'':h6.get? ea=some o':=ho'
  rw[hoe] at ho''
  cases ho''
  exact hd' _ hoed
 have h7:s7.heap.get? ea=some oe:=by
  rw[sb.2 ea (by
   rcases ha with z |z
   ·rw[z];exact neL
   ·exact fun q=>neC n a z q.symm)]
  exact hoe
 exact wpAny_mono (k s7 oe (I7.track h7 F.nea neL neC F.new F.pne) hoec) (fun f s3 q=>q) fun _ _ z=>z.elim
end
end L2
namespace L2
open PySem PySem.Spec PyProof.Rows
section
variable {X:Cx} {k:Nat} {f C:Addr} {fd:FuncData} {ps:List Str} {sp:Sp} {dvs:List V} {ds:List Value} {x m:Str} {p pos apos:Pos} {e o:Expr} {es:List Expr} {ta:TE} {t:TA}
noncomputable def vR(X:Cx)(σ:St)(H:Hp)(E:XK):Prop:=∀(pins:List (Addr×Obj)) (s:Shared) (e:Value) (s':Shared),Inv X pins σ H s->CXr X.prog X.w X.stack H s E e s'->X.xe e s'
theorem Pk{pins:List (Addr×Obj)}{σ:St}{H:Hp}{s:Shared}{Q:VK}{E:XK}{us:List Value}{vs:List V}(F:FnOk X.prog X.w X.K X.mg X.base (CXr X.prog X.w) k f fd ps sp)(hr:Room k X.A)(hb:Binds X.K fd ps ds)(hd:Vals dvs ds)
  (I:Inv X pins σ H s) (r:Vals vs us) (h:sp (vs++dvs) H Q E) (hx:vR X σ H E):wpAny (model X.prog X.w) X.A (call (.ref f) us) (EP X pins σ Q) X.xe s:=by
 have r2:Vals (vs++dvs) (us++ds):=r.append hd
 have hl:(us++ds).length=ps.length:=by rw[<-r2.length];exact F.len _ _ _ _ h
 refine wpAny_call (codeAny_mono (F.run X.A X.stack s H ⟨us,[]⟩ (us++ds) (vs++dvs) Q E hr I.env0 (hb s us I.kIn hl) r2 h) fun r s' hq=>?_)
 cases r with
 | error e=>exact hx pins s e s' I hq
 | ok fl=>cases fl with
  | ret u=>exact I.after hq
  | _=>exact False.elim hq
noncomputable def Hg(X:Cx)(C:Addr)(m:Str)(sp:Sp)(dvs:List V)(ta:TE)(t:TA):TE:=fun σ H Q=>ta σ H fun x H1=>∃a dx fs,x=.ref a/\H1 a=some (.ins C dx fs)/\fs.lookup m=none/\t σ H1 fun vs H2=>∃E,sp (x::(vs++dvs)) H2 Q E/\vR X σ H2 E
theorem Aa{pl:Sem Bool}(he:PE X o ta)(c:Cls X.K C)(hm:Meth X.K C m f)(F:FnOk X.prog X.w X.K X.mg X.base (CXr X.prog X.w) k f fd ps sp)(hr:Room k X.A)(hb:Binds X.K fd ps ds)(hd:Vals dvs ds)(ha:PA X (e::es) t)
  (hst:starEach (e::es) X.env=(false,eval e X.env)::starEach es X.env:=by rfl) (hpl:(backTo pos (starEach es X.env)).any (·.1)=false:=by rfl)
  (ht:eval (.Call (.Attribute o m apos) (e::es) [] pos) X.env=(do
   let ov <-eval o X.env;standAt apos.atName
   let (f,first) <-holding [ov] (getMethod ov m pl);callWith pos f first (backTo pos (starEach (e::es) X.env)) (backToKw pos (keywordEach [] X.env))):=by rfl) :
  PE X (.Call (.Attribute o m apos) (e::es) [] pos) (Hg X C m sp dvs ta t):=by
 intro pins s σ H Q I h
 refine PySem.W.methodCall_KW (pl:=pl) (thn (he pins s σ H _ I h) fun u s1 hw'=>?_) ht
 obtain⟨x,H1,I1,rx,a,dx,fs,ex,ea,l,q⟩:=hw'
 subst ex;obtain rfl:u=Value.ref a:=rx
 refine vp I1 ea c hm l ?_
 exact PySem.W.callWith_K (first:=[.ref a]) (h₀:=X.base) I.ok.mod.kin hm.kp (thn (ha pos pins s1 σ H1 _ I1 q) fun us s2 ⟨vs,H2,I2,r,E,q2,hx⟩=>⟨I2.kIn,Pk (us:=.ref a::us) (vs:=.ref a::vs) F hr hb hd I2 (.cons rfl r) q2 hx⟩) hst hpl
end
noncomputable abbrev Cx.hold(X:Cx)(pn:List (Addr×Obj))(E:Value->Shared->Prop):Cx:={ X with pn:=pn,xe:=E }
theorem Inv.hold{X:Cx}{pins:List (Addr×Obj)}{σ:St}{H:Hp}{s:Shared}(I:Inv X pins σ H s)(E:Value->Shared->Prop):Inv (X.hold (X.pn++pins) E) [] σ H s :=
 ⟨⟨I.ok.mod,I.ok.kind,I.ok.glob,I.ok.blt,I.ok.above,I.ok.inj,I.ok.has,I.ok.cab,I.ok.hd,I.ok.frames,I.ok.stk,I.ok.exf,I.ok.bs,I.ok.bsz,I.ok.noex,I.ok.exfs,I.ok.funs,I.ok.frf⟩,I.os,I.bare,I.base,I.loc,I.cell,I.free,I.freeC,fun p hp=>I.pin p (by simpa using hp),I.hok,I.len⟩
theorem Inv.unhold{X:Cx}{pins pins':List (Addr×Obj)}{σ:St}{H:Hp}{s:Shared}{E:Value->Shared->Prop}(ok:X.Ok)(I:Inv (X.hold (X.pn++pins) E) pins' σ H s):Inv X pins σ H s :=
 ⟨ok,I.os,I.bare,I.base,I.loc,I.cell,I.free,I.freeC,fun p hp=>I.pin p (List.mem_append_left _ hp),I.hok,I.len⟩
noncomputable def Ends.only(r:VK):Ends:={ nx:=fun _ _=>False,rt:=r,bk:=fun _ _=>False,ct:=fun _ _=>False }
noncomputable def Ab(X:Cx)(pins:List (Addr×Obj))(Hw:St->Addr->Hp->Prop):Value->Shared->Prop:=fun e s'=>∃σ ea C t H' B,e=.ref ea/\Flown X pins σ ea C t H' B s'/\Hw σ C H'
section
variable {X:Cx} {body:List Stmt} {x n:Str} {np hpos pos:Pos} {cv:Value} {i:Nat} {b₀:Stmt} {suite:List Stmt} {tb:List (Addr×Obj)->(Value->Shared->Prop)->TS} {th:TS}
theorem SJ(hb:∀pn E,PSs (X.hold pn E) body (tb pn E))(hh:∀(v:Value) (pn:List (Addr×Obj)),PSs ((X.mark v).hold pn fun _ _=>False) (b₀::suite) th)
  (hs:X.stack=X.env::X.outer) (hfr:X.env.frame=some X.env.locals) (hg:Gl X x) (hm:X.mg x=some cv) (hN:X.N.Nodup) (hi:X.N[i]? = some n) (hl:X.env.scope.names.lookup n=some .local) (hkn:X.env.kindOf n=some .local) (hd:(x==("__debug__":Str))=false:=by decide) :
  PS X (.Try body [.ExceptHandler (some (.Name x np)) (some n) (b₀::suite) hpos] [] [] pos) (fun D σ H=>∀pins,tb (X.pn++pins) (Ab X pins fun σ' C H'=>PySem.W.exmOne X.K (.ref C) cv=some true/\∀ea oe,H' ea=none->oe.cls=.ref C->th (Ends.only D.rt) (σ'.set i (some (.ref ea))) (upd H' ea (.frz oe (.own 0)))) (Ends.only D.rt) σ H):=by
 intro pins s σ H D I h
 have ok:=I.ok
 have sp:=hb (X.pn++pins) (Ab X pins fun σ' C H'=>PySem.W.exmOne X.K (.ref C) cv=some true/\∀ea oe,H' ea=none->oe.cls=.ref C->th (Ends.only D.rt) (σ'.set i (some (.ref ea))) (upd H' ea (.frz oe (.own 0)))) [] s σ H (Ends.only D.rt) (I.hold _) (h pins)
 refine wpAny_Try_except (wpAny_mono sp (fun fl s1 q=>?_) fun e s1 q=>?_)
 ·cases fl with
  | ret u=>obtain⟨v,σ',H',I',r,q⟩:=q;exact⟨v,σ',H',I'.unhold ok,r,q⟩
  | next=>obtain⟨_,_,_,q⟩:=q;exact q.elim
  | brk=>obtain⟨_,_,_,q⟩:=q;exact q.elim
  | cont=>obtain⟨_,_,_,q⟩:=q;exact q.elim
 ·obtain⟨σ1,ea,C,t,H',B,rfl,F,hx,q⟩:=q
  have I1:=F.inv s1.heap F.fl.1 (Heap.UpToSlots.refl _)
  have hiσ:i<σ1.length:=by rw[I1.len];exact(List.getElem?_eq_some_iff.mp hi).1
  refine Hf (i:=i) F hs hfr hg hm hx hN hi hl hd fun s7 oe I7 hoe=>?_
  refine wpAny_mono (hh (.ref ea) (X.pn++pins) [] s7 _ _ _ (I7.hold _) (q ea oe F.nea hoe)) (fun fl s3 q3=>?_) fun _ _ z=>z
  cases fl with
  | ret u =>
   obtain⟨v,σ3,H3,I3,r3,q3⟩:=q3
   obtain⟨m,hn,_⟩:=I3.loc
   refine wpAny_nameGoes hkn hn (by rw[ok.kind];rfl) fun h5 m5 hn5 sb=>?_
   have ne:∀b o,X.s₀.heap.get? b=some o->b≠X.env.locals:=fun b o e z=>by
    have:=Heap.lt_size e
    have a:=ok.above
    rw[z] at this
    exact Nat.lt_irrefl _ (Nat.lt_of_lt_of_le this a)
   have cne:=I3.cne
   have kp:∀b o,b≠X.env.locals->s3.heap.get? b=some o->h5.get? b=some o:=fun b o z e=>(sb.2 b z).trans e
   refine⟨v,List.replicate X.N.length none,H3,⟨ok,I3.os,I3.bare,⟨fun b o e n nf nx=>kp b o (ne b o e) (I3.base.keep b o e n nf nx),fun b o e n hf nx=>?_,I3.base.free,fun b o e nx=>?_,I3.base.tups,I3.base.frzs,I3.base.tbls⟩,⟨m5,hn5,fun j y w _ z=>?_⟩,fun y c hc=>?_,I3.free,I3.freeC,fun p hp=>?_,fun b o e=>?_,by simp⟩,r3,q3⟩
   ·obtain⟨sl,z⟩:=I3.base.slot b o e n hf nx
    exact⟨sl,kp b _ (ne b o e) z⟩
   ·obtain⟨o',z⟩:=I3.base.there b o e nx
    exact⟨o',kp b o' (ne b o e) z⟩
   ·rw[List.getElem?_replicate] at z
    split at z<;>cases z
   ·obtain⟨w,o,ho,hd⟩:=I3.cell y c hc
    exact⟨w,o,kp c o (cne y c hc) ho,hd⟩
   ·have z:=I3.pin p (List.mem_append_left _ hp)
    exact⟨kp _ _ z.2.2.1 z.1,z.2⟩
   ·refine(I3.hok b o e).stay (fun c u hc q=>kp c u (fun z=>?_) q) (fun _ q=>q) (fun _ _ q=>q)
    have f:=I3.free
    rcases hc with y |y
    ·rw[<-y,z] at e
     have f':H3 X.env.locals=none:=f
     rw[f'] at e;cases e
    ·rw[z] at y
     have f':H3 X.env.locals=none:=f
     rw[f'] at y;cases y
  | next=>obtain⟨_,_,_,q⟩:=q3;exact q.elim
  | brk=>obtain⟨_,_,_,q⟩:=q3;exact q.elim
  | cont=>obtain⟨_,_,_,q⟩:=q3;exact q.elim
end
end L2
namespace PySem.W
open PySem PySem.Spec PySem.Calls PyProof.Rows PySem.Builtin.ObjectAttr PySem PySem.Calls PyProof.Rows Builtin Builtin.ObjectAttr Builtin.Getset_descriptor
noncomputable def uT(h:Heap)(x D:Addr):Prop:=∃ox,h.get? x=some ox/\ox.cls=.ref D
theorem uT.type{M:Model}{h:Heap}{x D:Addr}(I:uT h x D):Looks M h (typeOf (.ref x)) (.ref D):=by
 obtain⟨ox,h1,h2⟩:=I
 exact h2 ▸ (Looks.ld h1).andThen .now
section
variable {prog:Program} {w:World} {A:Around} {E:Value->Shared->Prop} {s:Shared} {K:Frag} {x D:Addr}
theorem Ej{M:Model}{Q:Unit->Shared->Prop}{tk:Tok}{y:Str}(X:K.In s.heap)(I:uT s.heap x D)(hsub:subIn K (.ref D) (.type "BaseException")=some true)(h:Q () s) :
  wpAny M A (checkBuiltinCall "BaseException.__getattribute__" ⟨[.ref x,.str y tk],[]⟩) Q E s:=by
 have hsplit:splitId "BaseException.__getattribute__" = some ("BaseException","__getattribute__"):=by decide +kernel
 have hk:builtinKind "BaseException.__getattribute__" = some .slot:=by decide +kernel
 have LI:Looks M s.heap (isInstance (.ref x) (.type "BaseException")) true:=I.type.andThen (looks_subIn X hsub)
 have ha:=F.args_bexc_ga (.ref x) (.str y tk)
 simp only[checkBuiltinCall,hk,hsplit]
 refine wpAny_bind (LI.at ?_)
 simp only[Bool.not_true,Bool.false_eq_true,if_false]
 cases hsig:Manifest.signature? "BaseException.__getattribute__" with
 | none=>exact wpAny_pure h
 | some sig =>
  simp only[argsOk,hsig] at ha
  have h2:Bind.checkArgs "BaseException.__getattribute__" sig ⟨[.ref x,.str y tk],[]⟩=pure ():=ha
  show wpAny M A (Bind.checkArgs _ sig _) Q E s
  rw[h2];exact wpAny_pure h
structure ExcLook(K:Frag)(D:Addr):Prop where
 cl:(clsIn K D).isSome=true
 ga:findIn K (.ref D) "__getattribute__" = some (some (.builtin "BaseException.__getattribute__"))
 hk:findIn K (.ref D) "__getattr__" = some none
 sub:subIn K (.ref D) (.type "BaseException")=some true
 ha:findIn K (.ref D) "__class__" = some (some (.builtin "object.__class__"))
 hn:specialIn K (.builtin "object.__class__") "__get__" = some (some (.builtin "getset_descriptor.__get__"))
 tk:takesIn K (.builtin "object.__class__")=some true
 hm:mroIn K D (.type "object")=some true
theorem ExcLook.find{M:Model}{h:Heap}(T:ExcLook K D)(X:K.In h):Looks M h (find (.ref x) (.ref D) "__class__") (.bind (.builtin "getset_descriptor.__get__") (.builtin "object.__class__")):=by
 have L1:=looks_findIn (M:=M) X T.ha
 have L2:Looks M h (getOf (some (.builtin "object.__class__"))) (some (.builtin "getset_descriptor.__get__")):=looks_specialIn X T.hn
 have L3:=looks_takesIn (M:=M) X T.tk
 unfold Builtin.ObjectAttr.find
 refine L1.andThen (L2.andThen ?_)
 have L4:Looks M h (dataDescriptor? (some (.builtin "object.__class__")) (some (.builtin "getset_descriptor.__get__"))) (some (.builtin "getset_descriptor.__get__",.builtin "object.__class__")):=L3.andThen .now
 exact L4.andThen (Looks.tag .now)
theorem Ek{R:Result->Shared->Prop}{tp:Value}(X:K.In s.heap)(I:uT s.heap x D)(hm:mroIn K D (.type "object")=some true)
  (h:R (.ok (.ret (.ref D))) s):codeAny (model prog w) A (.call (.builtin "getset_descriptor.__get__") ⟨[.builtin "object.__class__",.ref x,tp],[]⟩) R s:=by
 obtain⟨hh,g,dr,t,os⟩:=s
 have L0:=I.type (M:=model prog w)
 have L1:=looks_mroIn (M:=model prog w) X hm
 refine codeAny_call_builtin KF.slot_gs.plain KF.entry_gs (KF.slot_gs.check _ _ _ _ _ _ _ _ KF.type_class (KF.args_gs _ _ _) ?_)
 unfold Builtin.«getset_descriptor.__get__» descrGet
 rw[dga_obj]
 refine wpAny_bind (wpAny_pure ?_)
 unfold descrGetter descrCheckInstance descrNameAndClass isInstance
 simp only[KF.owner_class]
 repeat lk
 refine⟨Code.quiet_builtin _ (by decide +kernel),codeAny_builtin KF.entry_class ?_⟩
 unfold Builtin.«object.__class__» shownTypeOf
 repeat lk
 exact h
theorem Hh{tk:Tok}{Q:Fin->Shared->Prop}(T:ExcLook K D)(X:K.In s.heap)(I:uT s.heap x D)(h:Q (.done (.ret (.ref D))) s) :
  wpAny (model prog w) A (Builtin.«object.__getattribute__» ⟨[.ref x,.str "__class__" tk],[]⟩) Q E s:=by
 obtain⟨hh,gg,d,t,os⟩:=s
 have L0:=I.type (M:=model prog w)
 have L1:=T.find (M:=model prog w) (x:=x) X
 unfold Builtin.«object.__getattribute__»
 repeat (first |with_reducible refine wpAny_bind (L0.at ?_) |with_reducible refine wpAny_bind (L1.at ?_) |wp_step)
 exact Ek X I T.hm (wpAny_pure h)
theorem Hi{Q:Option Value->Shared->Prop}(T:ExcLook K D)(X:K.In s.heap)(I:uT s.heap x D)(h:Q (some (.ref D)) { s with toks:=s.toks+1 }):wpAny (model prog w) A (getAttr? (.ref x) "__class__") Q E s:=by
 obtain⟨hh,g,d,t,os⟩:=s
 have L0:=I.type (M:=model prog w)
 have L1:=looks_findIn (M:=model prog w) X T.ga
 have L2:=looks_findIn (M:=model prog w) X T.hk
 unfold getAttr? getAttrBy? getAttrBy
 refine wpAny_bind (wpAny_mkText (wpAny_bind (wpAny_attempt (wpAny_holding (wpAny_bind (L0.at (wpAny_bind (L1.at ?_))))))))
 show wpAny _ _ (getAttrByItsOwn _ _ _ _ _ _) _ _ _
 unfold getAttrByItsOwn hookBefore
 refine wpAny_bind (L2.at ?_)
 refine wpAny_bind (wpAny_attempt (wpAny_holding ?_))
 show wpAny _ _ (boundAndCalled _ _ _) _ _ _
 unfold boundAndCalled
 rw[F.excAttr_ValueError.ga.bind]
 refine wpAny_bind (wpAny_pure ?_)
 refine wpAny_call (codeAny_call_builtin F.excAttr_ValueError.ga.plain F.entry_bexc_ga (Ej (s:=⟨hh,g,d,t+1,os⟩) X I T.sub (Hh (s:=⟨hh,g,d,t+1,os⟩) T X I ?_)))
 dsimp only
 refine handed_on rfl ?_
 exact wpAny_pure h
theorem Ac(T:ExcLook K D):KitX K (.ref x) (.ref D) (fun h=>uT h x D) where
 ty:=fun _ _ _ I=>I.type
 it:=fun _ _ X _=>by
  obtain⟨cdD,hcD⟩:=Option.isSome_iff_exists.mp T.cl
  unfold clsIn at hcD
  split at hcD
  ·rename_i c' d' cd' sl' ho
   intro A' Q' E' s' k q
   unfold isType loadHead
   exact wpAny_bind (wpAny_loadPart (k _ _ (X _ _ ho)) (wpAny_pure q))
  ·cases hcD
 ne:=fun h tp dd its n sl X htp=>by
  obtain⟨cdD,hcD⟩:=Option.isSome_iff_exists.mp T.cl
  refine Bool.eq_false_iff.mpr fun q=>?_
  have e:D=tp:=Value.ref.inj (beq_iff_eq.mp q)
  subst e
  unfold clsIn at hcD
  split at hcD
  ·rename_i c' d' cd' sl' ho
   have z:=(X _ _ ho).symm.trans htp
   cases z
  ·cases hcD
 ca:=fun X I k=>Hi T X I k
end
end PySem.W
namespace DL
open PySem PySem.Spec PyProof.Rows L2
noncomputable def iK(t:Str->Option Bool)(g:Den):Den:=fun ρ Ω=>match g ρ Ω with
 | some (.obj n,Ω1)=>match Ω1[n]? with
  | some (.exc c)=>match t c with
   | some b=>some (.bl b,Ω1)
   | none=>none
  | _=>none
 | _=>none
section
variable {X:Cx} {C:Cl} {x y:Expr} {g:Den} {pos p:Pos} {n:Str} {t:Str->Option Bool}
theorem Ad{K:PySem.W.Frag}{σ:St}{H:Hp}{Q:VK}{R:VK}(hw:tD K C (iK t g) σ H Q)
  (k:∀a Ca ob u e' Ω' (c:Str) b,Wf K C e' Ω'->e'.H a=some (.frz ob u)->ob.cls=.ref Ca->C c=some Ca->t c=some b->(∀e'',Ext e' e''->Wf K C e'' Ω'->Q (.bl b) e''.H)->R (.ref a) e'.H):tD K C g σ H R:=by
 obtain⟨e,Ω,ρ,d,Ω',eH,w,rl,q,kk⟩:=hw
 unfold iK at q
 cases q1:g ρ Ω with
 | none=>rw[q1] at q;cases q
 | some p1 =>
  obtain⟨d1,Ω1⟩:=p1
  rw[q1] at q
  cases d1 with
  | obj n =>
   dsimp only at q
   cases q2:Ω1[n]? with
   | none=>rw[q2] at q;cases q
   | some o =>
    rw[q2] at q
    cases o with
    | exc c =>
     dsimp only at q
     cases q3:t c with
     | none=>rw[q3] at q;cases q
     | some b =>
      rw[q3] at q
      cases q
      refine⟨e,Ω,ρ,.obj n,_,eH,w,rl,q1,fun v e' x' w' i'=>?_⟩
      rw[Is] at i'
      obtain⟨a,ha,rfl⟩:=i'
      obtain⟨_,Ca,ob,u,h1,h2,h3⟩:=w'.ob n a (.exc c) ha q2
      exact k a Ca ob u e' _ c b w' h2 h3 h1 q3 fun e'' y w''=>kk _ e'' (x'.trans y) w'' (by rw[Is])
    | _=>cases q
  | _=>cases q
theorem sX{v:V}{cv:Value}(ha:PD X C x g)(hy:PE X y (tC v))(hv':∀u,RelV v u->u=cv)(hg:Gl X n)(hm:X.mg n=none)(hv:bootBuiltins n=some (.builtin "isinstance"))
  (hk:∀c Ca b,t c=some b->C c=some Ca->PySem.W.ExcLook X.K Ca/\PySem.W.kitOne X.K (.ref Ca) cv=some b)
  (hn:n ≠ "__name__":=by decide) (hdb:(n==("__debug__":Str))=false:=by decide)
  (he:starEach [x,y] X.env=(false,eval x X.env)::starEach [y] X.env:=by rfl) (he2:starEach [y] X.env=(false,eval y X.env)::starEach [] X.env:=by rfl) (hpl:(backTo pos (starEach [y] X.env)).any (·.1)=false:=by rfl) :
  PD X C (.Call (.Name n p) [x,y] [] pos) (iK t g):=by
 have hc:fH X (.builtin "isinstance") (fun xs H Q=>∃a Ca ob u k,xs=[.ref a,v]/\H a=some (.frz ob u)/\ob.cls=.ref Ca/\PySem.W.ExcLook X.K Ca/\PySem.W.kitOne X.K (.ref Ca) cv=some k/\Q (.bl k) H):=by
  intro pins s σ H xs us Q I r hw
  obtain⟨a,Ca,ob,u,k,rfl,h1,h2,T,e,q⟩:=hw
  obtain⟨u1,w',rfl,r1,r2⟩:=vals2 r
  obtain rfl:u1=Value.ref a:=r1
  obtain rfl:=hv' _ r2
  have ho:s.heap.get? a=some ob:=(show bI X.prog X.w H s.heap a (.frz ob u) from I.hok a _ h1).1
  exact PySem.W.kia_one (PySem.W.Ac T) I.kIn ⟨ob,ho,h2⟩ e (fun z=>nomatch z) fun tk=>⟨.bl k,H,I.tok tk,rfl,q⟩
 refine bj (iu hc hg hm hv (bL ha (bL hy cY he2) he) hn hdb he hpl) fun σ H Q hw=>?_
 refine Ad hw fun a Ca ob u e' Ω' c b w' h1 h2 h3 h4 q=>?_
 obtain⟨T,z⟩:=hk c Ca b h4 h3
 exact⟨a,Ca,ob,u,b,rfl,h1,h2,T,z,q e' (Ext.refl _) w'⟩
theorem Pn{ys:List Expr}{tt:TA}{vs:List V}{cvs:List Value}{x1}{ypos:Pos}(ha:PD X C x g)(hy:PA X ys tt)(htt:∀σ H Q,Q vs H->tt σ H Q)(hvs:∀us,Vals vs us->us=cvs)(hlen:vs.length<=sizeLine)(hg:Gl X n)(hm:X.mg n=none)(hv:bootBuiltins n=some (.builtin "isinstance"))
  (hk:∀c Ca b,t c=some b->C c=some Ca->PySem.W.ExcLook X.K Ca/\PySem.W.kitAny X.K (.ref Ca) cvs=some b)
  (hn:n ≠ "__name__":=by decide) (hdb:(n==("__debug__":Str))=false:=by decide)
  (he:starEach [x,.Tuple ys x1 ypos] X.env=(false,eval x X.env)::starEach [.Tuple ys x1 ypos] X.env:=by rfl) (he2:starEach [.Tuple ys x1 ypos] X.env=(false,eval (.Tuple ys x1 ypos) X.env)::starEach [] X.env:=by rfl) (hpl:(backTo pos (starEach [.Tuple ys x1 ypos] X.env)).any (·.1)=false:=by rfl) :
  PD X C (.Call (.Name n p) [x,.Tuple ys x1 ypos] [] pos) (iK t g):=by
 have hc:fH X (.builtin "isinstance") (fun xs H Q=>∃a tp Ca ob u k,xs=[.ref a,.ref tp]/\H tp=some (.tup vs)/\H a=some (.frz ob u)/\ob.cls=.ref Ca/\PySem.W.ExcLook X.K Ca/\PySem.W.kitAny X.K (.ref Ca) cvs=some k/\Q (.bl k) H):=by
  intro pins s σ H xs us Q I r hw
  obtain⟨a,tp,Ca,ob,u,k,rfl,h0,h1,h2,T,e,q⟩:=hw
  obtain⟨u1,w',rfl,r1,r2⟩:=vals2 r
  obtain rfl:u1=Value.ref a:=r1
  obtain rfl:w'=Value.ref tp:=r2
  have ho:s.heap.get? a=some ob:=(show bI X.prog X.w H s.heap a (.frz ob u) from I.hok a _ h1).1
  obtain⟨_,its,ri,⟨oc,od,odt,osl⟩,g1,g2,m,g3⟩:=(show bI X.prog X.w H s.heap tp (.tup vs) from I.hok tp _ h0)
  obtain rfl:=hvs _ ri
  dsimp only at g2 g3
  subst g2 g3
  exact PySem.W.kia_tup (PySem.W.Ac T) I.kIn ⟨ob,ho,h2⟩ g1 e (fun z=>nomatch z) fun tk=>⟨.bl k,H,I.tok tk,rfl,q⟩
 refine bj (iu hc hg hm hv (bL ha (bL (zx hy) cY he2) he) hn hdb he hpl) fun σ H Q hw=>?_
 unfold tCB zj
 refine Ad hw fun a Ca ob u e' Ω' c b w' h1 h2 h3 h4 q=>?_
 obtain⟨T,z⟩:=hk c Ca b h4 h3
 refine htt _ _ _ ⟨hlen,fun tp hp=>?_⟩
 refine⟨a,tp,Ca,ob,u,b,rfl,aJ,?_,h2,T,z,q (e'.new tp (.tup vs)) (w'.new_ext hp) (w'.new hp)⟩
 rw[aC (aM h1 hp)];exact h1
end
end DL
namespace DL
open PySem PySem.Spec PyProof.Rows L2
noncomputable abbrev sY:=List Sl->List OS->Option (Str×List OS)
noncomputable abbrev gV:=List D->List OS->Option (Str×List OS)
noncomputable abbrev cJ:=List Sl->List OS->Option (Str×List Sl×List OS)
noncomputable abbrev XWt:=St->Addr->Hp->Prop
noncomputable def tR(K:PySem.W.Frag)(C:Cl)(XW:XWt)(r:sY):TE:=fun σ H _=>∃e Ω ρ c Ω' Ca,e.H=H/\Wf K C e Ω/\RelE K e σ ρ/\r ρ Ω=some (c,Ω')/\C c=some Ca/\∀e',Ext e e'->Wf K C e' Ω'->XW σ Ca e'.H
noncomputable def RD(X:Cx)(C:Cl)(XW:XWt)(x:Expr)(r:sY):Prop:=PE X x (tR X.K C XW r)
noncomputable def tRS(K:PySem.W.Frag)(C:Cl)(XW:XWt)(e₀:E4)(r:cJ):TS:=fun _ σ H=>∃e Ω ρ c ρ' Ω' Ca,e.H=H/\RelS K C e₀ e Ω σ ρ/\r ρ Ω=some (c,ρ',Ω')/\C c=some Ca/\∀e' σ',RelS K C e₀ e' Ω' σ' ρ'->XW σ' Ca e'.H
noncomputable def RDS(X:Cx)(C:Cl)(XW:XWt)(st:Stmt)(r:cJ):Prop:=∀e₀,PS X st (tRS X.K C XW e₀ r)
noncomputable def RDB(X:Cx)(C:Cl)(XW:XWt)(sts:List Stmt)(r:cJ):Prop:=∀e₀,PSs X sts (tRS X.K C XW e₀ r)
noncomputable def dmH(H H':Hp):Prop:=∀b o,H b=some o->∃o',H' b=some o'
noncomputable def Dg(X:Cx)(XW:XWt):Prop:=∀Ca σ H,XW σ Ca H->oG X Ca σ H
noncomputable def ue(X:Cx)(XW:XWt):Prop:=∀σ H,vR X σ H fun cv _ H'=>∃Ca,cv=.ref Ca/\XW σ Ca H'/\dmH H H'
section
variable {X:Cx} {C:Cl} {XW:XWt} {a b c x:Expr} {f g:Den} {p:bV} {st:Stmt} {rest sts sts':List Stmt} {s:aN} {r r1 r2:cJ} {rx:sY} {pos:Pos}
theorem gY(h:RDS X C XW st r):RDB X C XW [st] r:=fun e₀=>Cj (h e₀)
theorem dU(h:RDS X C XW st r):RDB X C XW (st::rest) r:=fun e₀=>nH (uH (h e₀) (x_ (sts:=rest))) fun Dn σ H hw'=>by obtain⟨e,Ω,ρ,c,ρ',Ω',Ca,eH,rl,q,hC,k⟩:=hw';exact⟨e,Ω,ρ,c,ρ',Ω',Ca,eH,rl,q,hC,k⟩
noncomputable def kY(s:aN)(r:cJ):cJ:=fun ρ Ω=>match s ρ Ω with
 | some (.nx ρ1 Ω1)=>r ρ1 Ω1
 | _=>none
theorem jP(h1:PDS X C st s)(h2:RDB X C XW rest r):RDB X C XW (st::rest) (kY s r):=fun e₀=>nH (uH (h1 e₀) (h2 e₀)) fun Dn σ H hw'=>by
 obtain⟨e,Ω,ρ,c,ρ',Ω',Ca,eH,rl,q,hC,k⟩:=hw'
 unfold kY at q
 cases q1:s ρ Ω with
 | none=>rw[q1] at q;cases q
 | some o1 =>
  rw[q1] at q
  refine⟨e,Ω,ρ,o1,eH,rl,q1,?_⟩
  cases o1 with
  | nx ρ1 Ω1=>exact fun e' σ' r'=>⟨e',Ω1,ρ1,c,ρ',Ω',Ca,rfl,r',q,hC,k⟩
  | _=>cases q
noncomputable def rOr(r1 r2:cJ):cJ:=fun ρ Ω=>match r1 ρ Ω with
 | some z=>some z
 | none=>r2 ρ Ω
theorem oH(h1:RDB X C XW sts r1)(h2:RDB X C XW sts r2):RDB X C XW sts (rOr r1 r2):=fun e₀ pins sh σ H D I hw'=>by
 obtain⟨e,Ω,ρ,c,ρ',Ω',Ca,eH,rl,q,hC,k⟩:=hw'
 unfold rOr at q
 cases q1:r1 ρ Ω with
 | none=>rw[q1] at q;exact h2 e₀ pins sh σ H D I ⟨e,Ω,ρ,c,ρ',Ω',Ca,eH,rl,q,hC,k⟩
 | some z=>rw[q1] at q;cases q;exact h1 e₀ pins sh σ H D I ⟨e,Ω,ρ,c,ρ',Ω',Ca,eH,rl,q1,hC,k⟩
noncomputable def gZ:cJ:=fun _ _=>none
theorem gH:RDB X C XW sts gZ:=fun e₀=>nH x_ fun Dn σ H hw'=>by obtain⟨e,Ω,ρ,c,ρ',Ω',Ca,eH,rl,q,hC,k⟩:=hw';cases q
noncomputable def rIf(p:bV)(s t:cJ):cJ:=fun ρ Ω=>match p ρ Ω with
 | some (true,Ω')=>s ρ Ω'
 | some (false,Ω')=>t ρ Ω'
 | none=>none
theorem kZ(hc:PDT X C c p)(ha:RDB X C XW sts r1)(hb:RDB X C XW sts' r2):RDS X C XW (.If c sts sts' pos) (rIf p r1 r2):=fun e₀=>di (Lz hc (ha e₀) (hb e₀)) fun Dn σ H hw'=>by
 obtain⟨e,Ω,ρ,c,ρ',Ω',Ca,eH,rl,q,hC,k⟩:=hw'
 unfold rIf at q
 cases q1:p ρ Ω with
 | none=>rw[q1] at q;cases q
 | some p1 =>
  obtain⟨d,Ω1⟩:=p1
  rw[q1] at q
  refine⟨e,Ω,ρ,d,Ω1,eH,rl.wf,rl.rel,q1,fun e' x' w'=>?_⟩
  cases d with
  | true=>rw[if_pos rfl];exact⟨e',Ω1,ρ,c,ρ',Ω',Ca,rfl,rl.to x' w',q,hC,k⟩
  | false=>rw[if_neg (by decide)];exact⟨e',Ω1,ρ,c,ρ',Ω',Ca,rfl,rl.to x' w',q,hC,k⟩
noncomputable def rE(rx:sY):cJ:=fun ρ Ω=>match rx ρ Ω with
 | some (c,Ω')=>some (c,ρ,Ω')
 | none=>none
theorem Dh{K:PySem.W.Frag}{e₀:E4}{σ:St}{H:Hp}{Dn:Ends}{Q:VK}(hw:tRS K C XW e₀ (rE rx) Dn σ H):tR K C XW rx σ H Q:=by
 obtain⟨e,Ω,ρ,c,ρ',Ω',Ca,eH,rl,q,hC,k⟩:=hw
 unfold rE at q
 cases q1:rx ρ Ω with
 | none=>rw[q1] at q;cases q
 | some p1 =>
  obtain⟨c1,Ω1⟩:=p1
  rw[q1] at q
  cases q
  exact⟨e,Ω,ρ,_,_,Ca,eH,rl.wf,rl.rel,q1,hC,fun e' x' w'=>k e' σ (rl.to x' w')⟩
theorem nT(h:RD X C XW x rx):RDS X C XW (.Return (some x) pos) (rE rx):=fun e₀=>di (Fw h) fun Dn σ H hw=>Dh hw
theorem oJ(h:RD X C XW x rx)(hs:swapsWith x none pos.line X.env=pure false:=by rfl):RDS X C XW (.Expr x pos) (rE rx):=fun e₀=>di (tW h hs) fun Dn σ H hw=>Dh hw
end
end DL
namespace DL
open PySem PySem.Spec PyProof.Rows L2
noncomputable def spX(K:PySem.W.Frag)(C:Cl)(F:bK)(R:gV):Sp:=fun vs H Q E=>spD K C F vs H Q E\/∃e Ω ds c Ω' Ca,e.H=H/\Wf K C e Ω/\IsL K e.α e.F ds vs/\R ds Ω=some (c,Ω')/\C c=some Ca/\∀e',Ext e e'->Wf K C e' Ω'->E (.ref Ca) none e'.H
noncomputable def mQ(n m:Nat)(r:cJ):gV:=fun ds Ω=>if ds.length=n then match r (ds.map Sl.dat++List.replicate (m-n) Sl.und) Ω with
 | some (c,_,Ω')=>some (c,Ω')
 | none=>none
 else none
theorem l_{P:Program}{w:World}{K:PySem.W.Frag}{mg:Str->Option Value}{base:Heap}{N:List Str}{qual:Str}{scope:Scope}{f:Addr}{cd:Value}{A:Around}{outer:List Env}{s₀:Shared}{H₀:Hp}{E:XK} :
  Dg (bQ (CXr P w) P w K mg base N qual scope f cd A outer s₀ H₀ E) fun _ Ca H'=>E (.ref Ca) none H':=fun Ca σ H h=>yU h
theorem rB{P:Program}{w:World}{K:PySem.W.Frag}{mg:Str->Option Value}{base:Heap}{C:Cl}{x qual:Str}{st:Stmt}{dV:Value}{f:Addr}{fd:FuncData}{N ps:List Str}{k n m:Nat}{s:aN}{r:cJ}(F:FunV K x qual st dV f fd)(S:FnScope N ps (aB st))(hn:ps.length=n)(hm:N.length=m)
  (hbody:∀(cdv:Value) (A:Around) (outer:List Env) (sh:Shared) (H:Hp) (E:XK),Room k (A.deeper (envOfC qual (aB st) sh.heap.objs.size f cdv)) ->
   PDB (bQ (CXr P w) P w K mg base N qual (aB st) f cdv A outer sh H E).nox C (bf st) s)
  (hout:∀(cdv:Value) (A:Around) (outer:List Env) (sh:Shared) (H:Hp) (E:XK),Room k (A.deeper (envOfC qual (aB st) sh.heap.objs.size f cdv)) ->
   RDB (bQ (CXr P w) P w K mg base N qual (aB st) f cdv A outer sh H E) C (fun _ Ca H'=>E (.ref Ca) none H') (bf st) r):FnOk P w K mg base (CXr P w) (k+1) f fd ps (spX K C (cD n m s) (mQ n m r)):=by
 obtain⟨oc,od,kV,doc,pm,an,cdv,ct,osl,rfl,lk,hcd⟩:=F
 refine DQ lk hcd S (fun vs H Q E h=>?_) fun A outer sh H vs Q E hr h=>?_
 ·rcases h with⟨e,Ω,ds,d,Ω',_,_,i,q,_⟩ |⟨e,Ω,ds,c,Ω',Ca,_,_,i,q,_⟩
  ·unfold cD at q
   by_cases hl:ds.length=n
   ·rw[<-i.length,hl,hn]
   ·rw[if_neg hl] at q;cases q
  ·unfold mQ at q
   by_cases hl:ds.length=n
   ·rw[<-i.length,hl,hn]
   ·rw[if_neg hl] at q;cases q
 ·rcases h with⟨e,Ω,ds,d,Ω',eH,wf,i,q,kk⟩ |⟨e,Ω,ds,c,Ω',Ca,eH,wf,i,q,hC,kk⟩
  ·unfold cD at q
   by_cases hl:ds.length=n
   ·rw[if_pos hl] at q
    cases q1:s (ds.map Sl.dat++List.replicate (m-n) Sl.und) Ω with
    | none=>rw[q1] at q;cases q
    | some o =>
     rw[q1] at q
     refine⟨_,(hbody cdv A outer sh H E hr e).nox,e,Ω,_,o,eH,pG wf i,by rw[hl,hm];exact q1,?_⟩
     cases o with
     | rt d' Ω2=>cases q;exact fun e' v x' w' i'=>kk v e' x' w' i'
     | nx ρ' Ω2=>cases q;exact fun e' σ' r'=>kk .non e' r'.ext r'.wf (by rw[Is])
     | bk ρ' Ω2=>cases q
     | ct ρ' Ω2=>cases q
   ·rw[if_neg hl] at q;cases q
  ·unfold mQ at q
   by_cases hl:ds.length=n
   ·rw[if_pos hl] at q
    cases q1:r (ds.map Sl.dat++List.replicate (m-n) Sl.und) Ω with
    | none=>rw[q1] at q;cases q
    | some p1 =>
     obtain⟨c1,ρ1,Ω1⟩:=p1
     rw[q1] at q
     cases q
     exact⟨_,hout cdv A outer sh H E hr e,e,Ω,_,_,ρ1,_,Ca,eH,pG wf i,by rw[hl,hm];exact q1,hC,fun e' σ' r'=>kk e' r'.ext r'.wf⟩
   ·rw[if_neg hl] at q;cases q
structure MtX(P:Program)(w:World)(K:PySem.W.Frag)(mg:Str->Option Value)(base:Heap)(C:Cl)(k:Nat)(c m:Str)(F:bK)(R:gV)(dfl:List D):Prop where
 ex:∃Ca f fd ps ds dvs,C c=some Ca/\Cls K Ca/\Meth K Ca m f/\Binds K fd ps ds/\Vals dvs ds/\(∀α H,IsL K α H dfl dvs)/\FnOk P w K mg base (CXr P w) k f fd ps (spX K C F R)
theorem Pq{K:PySem.W.Frag}{C:Cl}{g:Den}{σ:St}{H:Hp}{Q Q':VK}(h:tD K C g σ H Q)(i:∀v H',Q v H'->Q' v H'):tD K C g σ H Q':=by
 obtain⟨e,Ω,ρ,d,Ω',eH,w,rl,q,kk⟩:=h
 exact⟨e,Ω,ρ,d,Ω',eH,w,rl,q,fun v e' x' w' i'=>i _ _ (kk v e' x' w' i')⟩
theorem Ke{K:PySem.W.Frag}{C:Cl}{g:bA}{σ:St}{H:Hp}{Q Q':List V->Hp->Prop}(h:tDA K C g σ H Q)(i:∀v H',Q v H'->Q' v H'):tDA K C g σ H Q':=by
 obtain⟨e,Ω,ρ,d,Ω',eH,w,rl,q,kk⟩:=h
 exact⟨e,Ω,ρ,d,Ω',eH,w,rl,q,fun v e' x' w' i'=>i _ _ (kk v e' x' w' i')⟩
theorem El{X:Cx}{σ:St}{H:Hp}:vR X σ H fun _ _ _=>False:=fun pins s e s' I hw'=>by obtain⟨ea,C,t,H',B,_,z,_⟩:=hw';exact z.elim
noncomputable def gJ(c m:Str)(R:gV)(dfl:List D)(go:Den)(ga:bA):sY:=fun ρ Ω=>match go ρ Ω with
 | some (.obj n,Ω1)=>(match Ω1[n]? with
  | some (.ins c' fs)=>if c'=c then(match fs.lookup m with
   | none=>(match ga ρ Ω1 with |some (ds,Ω2)=>R (.obj n::(ds++dfl)) Ω2 |none=>none)
   | some _=>none) else none
  | _=>none)
 | _=>none
section
variable {X:Cx} {C:Cl} {XW:XWt} {a b x:Expr} {f g:Den} {ga:bA} {r:sY} {pos ap cp:Pos}
theorem Em{K:PySem.W.Frag}{c m:Str}{F:bK}{R:gV}{dfl:List D}{dvs:List V}{Ca:Addr}(hX:ue X XW)(hC:C c=some Ca)(hd:∀α H,IsL K α H dfl dvs){σ:St}{H:Hp}{Q:VK}(hw:tR K C XW (gJ c m R dfl f ga) σ H Q) :
  Hg X Ca m (spX K C F R) dvs (tD K C f) (tDA K C ga) σ H Q:=by
 obtain⟨e,Ω,ρ,xc,Ω',Xa,eH,w,rl,q,hXa,kk⟩:=hw
 unfold gJ at q
 cases q1:f ρ Ω with
 | none=>rw[q1] at q;cases q
 | some p1 =>
  obtain⟨d1,Ω1⟩:=p1
  rw[q1] at q
  cases d1 with
  | obj n =>
   dsimp only at q
   cases q0:Ω1[n]? with
   | none=>rw[q0] at q;cases q
   | some o0 =>
    rw[q0] at q
    refine⟨e,Ω,ρ,_,Ω1,eH,w,rl,q1,fun v e1 x1 w1 i1=>?_⟩
    rw[Is] at i1
    obtain⟨p,hα,rfl⟩:=i1
    have ob:=(w1.ob n p _ hα q0).2
    cases o0 with
    | ins c' fs =>
     dsimp only at q
     by_cases ec:c'=c
     ·rw[if_pos ec] at q
      subst ec
      cases q2:fs.lookup m with
      | some v0=>rw[q2] at q;cases q
      | none =>
       rw[q2] at q
       dsimp only at q
       cases q3:ga ρ Ω1 with
       | none=>rw[q3] at q;cases q
       | some p3 =>
        obtain⟨ds,Ω2⟩:=p3
        rw[q3] at q
        obtain⟨Cb,dx,fvs,h1,h2,h3⟩:=ob
        rw[hC] at h1
        cases h1
        have ov:=h3.look m
        rw[q2] at ov
        have e2:fvs.lookup m=none:=by
         cases z:fvs.lookup m with
         | none=>rfl
         | some v=>rw[z] at ov;exact ov.elim
        refine⟨p,dx,fvs,rfl,h2,e2,e1,Ω1,ρ,ds,Ω2,rfl,w1,rl.ext x1,q3,fun vs e3 x3 w3 i3=>?_⟩
        refine⟨_,.inr ⟨e3,Ω2,_,xc,Ω',Xa,rfl,w3,.cons (by rw[Is];exact⟨p,nQ (K:=K) x3 hα,rfl⟩) (i3.append (hd _ _)),q,hXa,fun e4 x4 w4=>?_⟩,hX σ e3.H⟩
        exact⟨Xa,rfl,kk e4 ((x1.trans x3).trans x4) w4,x4.dm⟩
     ·rw[if_neg ec] at q;cases q
    | _=>cases q
  | _=>cases q
theorem g_{k:Nat}{c m:Str}{F:bK}{R:gV}{dfl:List D}{es:List Expr}{pl:Sem Bool}(hX:ue X XW)(G:MtX X.prog X.w X.K X.mg X.base C k c m F R dfl)(hr:Room k X.A)(ho:PD X C a f)(ha:PDA X C (x::es) ga)
  (hst:starEach (x::es) X.env=(false,eval x X.env)::starEach es X.env:=by rfl) (hpl:(backTo cp (starEach es X.env)).any (·.1)=false:=by rfl)
  (ht:eval (.Call (.Attribute a m ap) (x::es) [] cp) X.env=(do
   let ov <-eval a X.env
   standAt ap.atName
   let (f,first) <-holding [ov] (getMethod ov m pl)
   callWith cp f first (backTo cp (starEach (x::es) X.env)) (backToKw cp (keywordEach [] X.env))):=by rfl) :
  RD X C XW (.Call (.Attribute a m ap) (x::es) [] cp) (gJ c m R dfl f ga):=by
 obtain⟨Ca,fa,fd,ps,ds,dvs,hC,cl,me,hb,hd,hdd,ok⟩:=G.ex
 exact bj (Aa ho cl me ok hr hb hd ha hst hpl ht) fun _ _ _ hw=>Em hX hC hdd hw
theorem cG{k:Nat}{c m:Str}{F:bK}{R:gV}{dfl:List D}{es:List Expr}{pl:Sem Bool}(G:MtX X.prog X.w X.K X.mg X.base C k c m F R dfl)(hr:Room k X.A)(ho:PD X C a f)(ha:PDA X C (x::es) ga)
  (hst:starEach (x::es) X.env=(false,eval x X.env)::starEach es X.env:=by rfl) (hpl:(backTo cp (starEach es X.env)).any (·.1)=false:=by rfl)
  (ht:eval (.Call (.Attribute a m ap) (x::es) [] cp) X.env=(do
   let ov <-eval a X.env
   standAt ap.atName
   let (f,first) <-holding [ov] (getMethod ov m pl)
   callWith cp f first (backTo cp (starEach (x::es) X.env)) (backToKw cp (keywordEach [] X.env))):=by rfl) :
  PD X C (.Call (.Attribute a m ap) (x::es) [] cp) (cz c m F dfl f ga):=by
 obtain⟨Ca,fa,fd,ps,ds,dvs,hC,cl,me,hb,hd,hdd,ok⟩:=G.ex
 exact bj (Aa ho cl me ok hr hb hd ha hst hpl ht) fun _ _ _ hw=>Pq (yu (E:=fun _ _ _=>False) hC hdd hw) fun v H1 ⟨a,dx,fs,h1,h2,h3,z⟩=>⟨a,dx,fs,h1,h2,h3,Ke z fun vs H2 z2=>⟨_,.inl z2,El⟩⟩
end
end DL
namespace L2
open PySem PySem.Spec PyProof.Rows
theorem Cx.Ok.unhold{X:Cx}{pn:List (Addr×Obj)}{E:Value->Shared->Prop}(h:(X.hold pn E).Ok):X.Ok :=
 ⟨h.mod,h.kind,h.glob,h.blt,h.above,h.inj,h.has,h.cab,h.hd,h.frames,h.stk,h.exf,h.bs,h.bsz,h.noex,h.exfs,h.funs,h.frf⟩
end L2
namespace DL
open PySem PySem.Spec PyProof.Rows L2
theorem Hj{X:Cx}{pins:List (Addr×Obj)}{Hw:XWt}:ue (X.hold (X.pn++pins) (Ab X pins Hw)) Hw:=fun σ H pins' s e s' I h=>by
 have I':Inv X pins σ H s:=I.unhold I.ok.unhold
 obtain⟨ea,Cc,t,H',B,rfl,⟨Ca,hc,hw,_⟩,F⟩:=flown I' h fun Cv H' ⟨Ca,_,_,dm⟩=>dm
 cases hc
 exact⟨σ,ea,_,t,H',B,rfl,F,hw⟩
noncomputable def uU(s:aN)(r:cJ)(i:Nat)(tc:Str->Bool)(t:aN):aN:=fun ρ Ω=>match s ρ Ω with
 | some (.rt d Ω')=>some (.rt d Ω')
 | some _=>none
 | none=>match r ρ Ω with
  | some (c,ρ1,Ω1)=>if tc c=true then match t (ρ1.set i (.dat (.obj Ω1.length))) (Ω1++[.exc c]) with
    | some (.rt d Ω')=>some (.rt d Ω')
    | _=>none
   else none
  | none=>none
section
variable {X:Cx} {C:Cl} {body:List Stmt} {x n:Str} {np hpos pos:Pos} {cv:Value} {i:Nat} {b₀:Stmt} {suite:List Stmt} {s t:aN} {r:cJ} {tc:Str->Bool}
theorem Pr(hb:∀pn E,PDB (X.hold pn E) C body s)(hr:∀pn E XW,ue (X.hold pn E) XW->RDB (X.hold pn E) C XW body r)(ht:∀v pn,PDB ((X.mark v).hold pn fun _ _=>False) C (b₀::suite) t)
  (htc:∀c,tc c=true->∃Ca,C c=some Ca/\PySem.W.exmOne X.K (.ref Ca) cv=some true)
  (hs:X.stack=X.env::X.outer) (hfr:X.env.frame=some X.env.locals) (hg:Gl X x) (hm:X.mg x=some cv) (hN:X.N.Nodup) (hi:X.N[i]? = some n) (hl:X.env.scope.names.lookup n=some .local) (hkn:X.env.kindOf n=some .local) (hd:(x==("__debug__":Str))=false:=by decide) :
  PDS X C (.Try body [.ExceptHandler (some (.Name x np)) (some n) (b₀::suite) hpos] [] [] pos) (uU s r i tc t):=fun e₀ =>
 di (SJ (tb:=fun pn E Dn σ H=>tDS X.K C e₀ s Dn σ H\/∃XW,ue (X.hold pn E) XW/\tRS X.K C XW e₀ r Dn σ H) (th:=tDS X.K C e₀ t)
  (fun pn E pins sh σ H D I h=>h.elim (fun z=>hb pn E e₀ pins sh σ H D I z) fun⟨XW,hX,z⟩=>hr pn E XW hX e₀ pins sh σ H D I z) (fun v pn=>ht v pn e₀) hs hfr hg hm hN hi hl hkn hd) fun Dn σ H hw' pins=>by
  obtain⟨e,Ω,ρ,o,eH,rl,q,k⟩:=hw'
  unfold uU at q
  cases q1:s ρ Ω with
  | some o1 =>
   rw[q1] at q
   cases o1 with
   | rt d Ω'=>cases q;exact .inl ⟨e,Ω,ρ,_,eH,rl,q1,k⟩
   | _=>cases q
  | none =>
   rw[q1] at q
   dsimp only at q
   cases q2:r ρ Ω with
   | none=>rw[q2] at q;cases q
   | some p2 =>
    obtain⟨c,ρ1,Ω1⟩:=p2
    rw[q2] at q
    dsimp only at q
    by_cases hc:tc c=true
    ·rw[if_pos hc] at q
     obtain⟨Ca,hC,hx⟩:=htc c hc
     refine .inr ⟨_,Hj,e,Ω,ρ,c,ρ1,Ω1,Ca,eH,rl,q2,hC,fun e' σ' r'=>⟨hx,fun ea oe hn ho=>?_⟩⟩
     obtain⟨w',x'⟩:=r'.wf.obj (H':=upd e'.H ea (.frz oe (.own 0))) (o:=.exc c) hn (fun b u hb=>by rw[aC (aM hb hn)];exact hb) (by rw[aJ];exact⟨by simp,fun xs z=>nomatch z⟩) ⟨Ca,oe,_,hC,aJ,ho⟩
     have r2:=(r'.to x' w').set i (d:=.obj Ω1.length) (v:=.ref ea) (by
      rw[Is]
      exact⟨ea,by show(e'.α++[ea])[Ω1.length]? = some ea;rw[<-r'.wf.ol];simp,rfl⟩)
     cases q3:t (ρ1.set i (.dat (.obj Ω1.length))) (Ω1++[.exc c]) with
     | none=>rw[q3] at q;cases q
     | some o3 =>
      rw[q3] at q
      cases o3 with
      | rt d Ω'=>cases q;exact⟨_,_,_,_,rfl,r2,q3,k⟩
      | _=>cases q
    ·rw[if_neg hc] at q;cases q
end
end DL
namespace DL
open PySem PySem.Spec PyProof.Rows L2
noncomputable abbrev uV:=List Sl->List OS->Option (List OS)
noncomputable def tV(K:PySem.W.Frag)(C:Cl)(p:uV):TE:=fun σ H Q=>∃e Ω ρ Ω',e.H=H/\Wf K C e Ω/\RelE K e σ ρ/\p ρ Ω=some Ω'/\∀v e',Ext e e'->Wf K C e' Ω'->Q v e'.H
noncomputable def PV(X:Cx)(C:Cl)(x:Expr)(p:uV):Prop:=PE X x (tV X.K C p)
section
variable {X:Cx} {C:Cl} {XW:XWt} {a x:Expr} {f g:Den} {p:uV} {pos p1 p2:Pos}
noncomputable def bD(i:Int):Prop:=i.natAbs.log2<1920/\(Str.ofString (toString i)).length<=1000
noncomputable instance (i:Int):Decidable (bD i):=by unfold bD;infer_instance
noncomputable def lV(c:Str)(p:uV):cJ:=fun ρ Ω=>match p ρ Ω with
 | some Ω'=>some (c,ρ,Ω')
 | none=>none
theorem nj{cn:Str}{Ca:Addr}{bmB:List Value}{B newId initId:String}{np cpos:Pos}(hX:Dg X XW)(hC:C cn=some Ca)(O:OwnCls cn Ca bmB newId X.mg X.base)(FB:ExcBaseFacts B newId initId bmB)(hh:X.A.handled=none)(hg:Gl X cn)(ha:PV X C x p)
  (he:starEach [x] X.env=(false,eval x X.env)::starEach [] X.env:=by rfl) (hpl:(backTo cpos (starEach [x] X.env)).any (·.1)=false:=by rfl)
  (hd:(cn==("__debug__":Str))=false:=by decide):RDS X C XW (.Raise (some (.Call (.Name cn np) [x] [] cpos)) none pos) (lV cn p):=fun e₀ =>
 di (Kc O FB hh hg ha (fun {σ H} hv=>by
   obtain⟨e,Ω,ρ,Ω',eH,w,rl,q,k⟩:=hv
   exact⟨e,Ω,ρ,Ω',eH,w,rl,q,fun v e' x' w'=>⟨rfl,k v e' x' w'⟩⟩) he hpl hd) fun Dn σ H hw'=>by
  obtain⟨e,Ω,ρ,c,ρ',Ω',Cb,eH,rl,q,hCb,k⟩:=hw'
  unfold lV at q
  cases q1:p ρ Ω with
  | none=>rw[q1] at q;cases q
  | some Ω1 =>
   rw[q1] at q
   cases q
   rw[hC] at hCb
   cases hCb
   exact⟨e,Ω,ρ,_,eH,rl.wf,rl.rel,q1,fun v e' x' w'=>hX Ca σ _ (k e' σ (rl.to x' w'))⟩
end
end DL
namespace L2
open PySem PySem.Spec PyProof.Rows
section
variable {K:PySem.W.Frag} {h:Heap} {bmB:List Value} {newId:String} {mg:Str->Option Value} {x:Str}
noncomputable def rC(K:PySem.W.Frag)(N:Addr):Bool:=match K.lookup N with
 | some o=>(match o.data with
  | .dict es _=>es.all (fun e=>match e.key with |.str _ _=>true |_=>false) && (nsFind es "__init__").isNone
  | _=>false)
 | none=>false
theorem Mp{N:Addr}(X:K.In h)(q:rC K N=true):∃mN,h.Ns N mN/\mN "__init__" = none:=by
 unfold rC at q
 split at q
 ·rename_i o ho
  split at q
  ·rename_i es ep hd
   rw[Bool.and_eq_true] at q
   refine⟨h.nsMap N,.of_isNs ?_,?_⟩
   ·unfold Heap.isNs;rw[X _ _ ho];simp only[hd];exact q.1
   ·unfold Heap.nsMap;rw[X _ _ ho];simp only[hd];exact Option.isNone_iff_eq_none.mp q.2
  ·cases q
 ·cases q
noncomputable def tailIn(K:PySem.W.Frag)(bmB:List Value):List Value->Bool
 | []=>bmB==[]
 | v::tl=>(bmB==v::tl) || (match v with
  | .ref A=>(match K.lookup A with |some o=>(match o.data with |.cls cd=>rC K cd.ns && tailIn K bmB tl |_=>false) |none=>false)
  | _=>false)
theorem Di(X:K.In h):∀{tl:List Value},tailIn K bmB tl=true->OwnTail h bmB tl
 | [],q=>by
  unfold tailIn at q
  rw[beq_iff_eq] at q
  rw[<-q];exact .base
 | v::tl,q=>by
  unfold tailIn at q
  rw[Bool.or_eq_true] at q
  rcases q with q |q
  ·rw[beq_iff_eq] at q
   rw[<-q];exact .base
  ·split at q
   ·split at q
    ·rename_i o ho
     obtain⟨oc,dd,data,sl⟩:=o
     dsimp only at q
     split at q
     ·rw[Bool.and_eq_true] at q
      obtain⟨mA,h1,h2⟩:=Mp X q.1
      exact .own (X _ _ ho) h1 h2 (Di X q.2)
     ·cases q
    ·cases q
   ·cases q
noncomputable def En(l:List (Option Value)):Option Value:=if l.length=6 then(l.getD 4 none) else none
theorem Kf{l:List (Option Value)}{v:Value}(h:En l=some v):∃k0 k1 k2 k3 k5,l=[k0,k1,k2,k3,some v,k5]:=by
 unfold En at h
 by_cases q:l.length=6
 ·rw[if_pos q] at h
  obtain _ |⟨a,l⟩:=l
  ·cases q
  obtain _ |⟨b,l⟩:=l
  ·cases q
  obtain _ |⟨c,l⟩:=l
  ·cases q
  obtain _ |⟨d,l⟩:=l
  ·cases q
  obtain _ |⟨e,l⟩:=l
  ·cases q
  obtain _ |⟨f,l⟩:=l
  ·cases q
  obtain _ |⟨g,l⟩:=l
  ·exact⟨a,b,c,d,f,congrArg (fun z=>[a,b,c,d,z,f]) h⟩
  ·cases q
 ·rw[if_neg q] at h;cases h
noncomputable def ownIn(K:PySem.W.Frag)(C:Addr)(bmB:List Value)(newId:String):Bool:=match K.lookup C with
 | none=>false
 | some o=>(match o.data with
  | .cls cd=>(match cd.mro with
   | []=>false
   | v::bm=>o.cls == .type "type" && v == .ref C && En o.slots.toList==some (.builtin newId) && !cd.hasDel && rC K cd.ns && tailIn K bmB bm)
  | _=>false)
theorem vU{C:Addr}(X:K.In h)(q:ownIn K C bmB newId=true)(hm:mg x=some (.ref C)):OwnCls x C bmB newId mg h:=by
 unfold ownIn at q
 split at q
 ·cases q
 ·rename_i o ho
  obtain⟨oc,dd,data,sl⟩:=o
  dsimp only at q
  split at q
  ·rename_i cd
   obtain⟨nm,bs,mro,ns,qn,hd,sn,sub,ab,col,del⟩:=cd
   dsimp only at q
   cases mro with
   | nil=>cases q
   | cons v bm =>
    simp only[Bool.and_eq_true,beq_iff_eq,Bool.not_eq_true'] at q
    obtain⟨⟨⟨⟨⟨rfl,rfl⟩,hs⟩,hdel⟩,hn⟩,ht⟩:=q
    obtain⟨mN,h1,h2⟩:=Mp X hn
    obtain⟨k0,k1,k2,k3,k5,hs⟩:=Kf hs
    subst hdel
    have hsl:sl = #[k0,k1,k2,k3,some (.builtin newId),k5]:=by
     obtain⟨l⟩:=sl
     simp only at hs
     rw[hs]
    subst hsl
    exact⟨hm,bm,ns,nm,qn,bs,hd,sn,sub,ab,col,dd,k0,k1,k2,k3,k5,mN,X _ _ ho,h1,h2,Di X ht⟩
  ·cases q
end
end L2
namespace L2
open PySem PySem.Spec PyProof.Rows
theorem Pu{X:Cx}{pins:List (Addr×Obj)}{σ:St}{H H':Hp}{s s':Shared}{ea C t:Addr}{B h'':Heap}(I:Inv X pins σ H s)(os:s'.os=s.os)(bare:AllBare s'.gens)(un:Un (frs X.stack) [] H H' s.heap s'.heap)(hok:HOk X.prog X.w H' s'.heap)
  (fl:Heap.FlyingW B X.stack ea (.ref C) (.ref t) s'.heap) (trk:∀b o,H' b=some o->∃ob,B.get? b=some ob) (old:∀b o,s.heap.get? b=some o->H b=none->b∉frs X.stack->B.get? b=some o) (dm:∀b o,H b=some o->∃o',H' b=some o')
  (kB:B.StaysIn h'') (up:s'.heap.UpToSlots h''):Inv X pins σ H' { s' with heap:=h'' }:=by
 have slot:∀b o,s.heap.get? b=some o->H b=none->b∈frs X.stack->∃sl,h''.get? b=some { o with slots:=sl }:=fun b o e n hf=>by
  obtain⟨sl,q⟩:=un.slot b o e n hf (by intro z;cases z)
  obtain⟨_,o',ho',hd⟩:=I.stack.mem hf
  rw[e] at ho'
  cases ho'
  obtain⟨sl',q'⟩:=up b { o with slots:=sl } q hd
  exact⟨sl',q'⟩
 have un':Un (frs X.stack) [] H H' s.heap h'':=by
  refine⟨fun b o e n nf _=>kB b o (old b o e n nf),fun b o e n hf _=>slot b o e n hf,un.free,fun b o e _=>?_,un.tups,un.frzs,un.tbls⟩
  cases q:H b with
  | none =>
   by_cases hf:b∈frs X.stack
   ·obtain⟨sl,z⟩:=slot b o e q hf
    exact⟨_,z⟩
   ·exact⟨o,kB b o (old b o e q hf)⟩
  | some u =>
   obtain⟨u',q'⟩:=dm b u q
   obtain⟨ob,z⟩:=trk b u' q'
   exact⟨ob,kB b ob z⟩
 have hok':HOk X.prog X.w H' h'':=fun b o e=>(hok b o e).stay (fun c u hc q=>by
  obtain⟨ob,z⟩:∃ob,B.get? c=some ob:=by
   rcases hc with y |y
   ·rw[y];exact trk b o e
   ·exact trk c _ y
  have z':=fl.1 c ob z
  rw[q] at z'
  cases z'
  exact kB c _ z) (fun _ q=>q) (fun _ _ q=>q)
 exact I.call' (s':={ s' with heap:=h'' }) os un' hok' bare (fun b z=>absurd z (by simp))
theorem Ae{P:Program}{w:World}{K:PySem.W.Frag}{mg:Str->Option Value}{base:Heap}{N:List Str}{qual:Str}{scope:Scope}{f:Addr}{cd:Value}{A:Around}{outer:List Env}{s₀:Shared}{H₀ H:Hp}{E E':XK}{σ:St}
  (hE:∀C H',E' (.ref C) none H'->E (.ref C) none H'/\∀b o,H b=some o->∃o',H' b=some o') (hE2:∀C H',E' C none H'->∃Ca,C=.ref Ca):vR (bQ (CXr P w) P w K mg base N qual scope f cd A outer s₀ H₀ E) σ H E':=by
 intro pins s e s' I h
 have sub:∀b∈frs (envOfC qual scope s₀.heap.objs.size f cd::outer),b=s₀.heap.objs.size\/b∈frs outer:=fun b hb=>List.mem_cons.mp (I.stkSub b hb)
 have old0:∀b o,s₀.heap.get? b=some o->b∉frs outer->b∉frs (envOfC qual scope s₀.heap.objs.size f cd::outer):=fun b o e n hb=>by
  rcases sub b hb with z |z
  ·exact absurd (Heap.lt_size e) (by rw[z];exact Nat.lt_irrefl _)
  ·exact n z
 have hdm:∀C H',E' C none H'->∀b o,H b=some o->∃o',H' b=some o':=fun C H' z=>by
  obtain⟨Ca,rfl⟩:=hE2 C H' z
  exact(hE Ca H' z).2
 obtain⟨ea,C,t,H',B,e1,hE',os,bare,un,hok,fl,trk,nea,old⟩:=id h
 subst e1
 have dm:=hdm _ _ hE'
 refine wpAny_leaves_onW (base:=B) (env:=envOfC qual scope s₀.heap.objs.size f cd) (outer:=outer) (L:=s₀.heap.objs.size) I.ok.frames rfl fl fun h'' fl'' up=>?_
 have I'':Inv (bQ (CXr P w) P w K mg base N qual scope f cd A outer s₀ H₀ E) pins σ H' { s' with heap:=h'' } :=
  Pu I os bare un hok fl trk old dm fl''.1 up
 refine⟨ea,C,t,H',B,rfl,(hE C H' hE').1,I''.os,I''.bare,I''.base,I''.hok,fl'',trk,nea,fun b o e n nf=>?_⟩
 exact old b o (I.base.keep b o e n nf (by intro z;cases z)) (I.base.free b o e n (by intro z;cases z)) (old0 b o e nf)
end L2
namespace DL
open PySem PySem.Spec PyProof.Rows L2
theorem mC{P:Program}{w:World}{K:PySem.W.Frag}{mg:Str->Option Value}{base:Heap}{N:List Str}{qual:Str}{scope:Scope}{f:Addr}{cd:Value}{A:Around}{outer:List Env}{s₀:Shared}{H₀:Hp}{E:XK} :
  ue (bQ (CXr P w) P w K mg base N qual scope f cd A outer s₀ H₀ E) fun _ Ca H'=>E (.ref Ca) none H':=fun σ H =>
 Ae (fun C H' ⟨Ca,e,q,dm⟩=>by cases e;exact⟨q,dm⟩) fun Cv H' ⟨Ca,e,_⟩=>⟨Ca,e⟩
end DL
namespace DL
open PySem PySem.Spec PyProof.Rows L2
theorem gP{C:Cl}{c x:Str}{a b:Addr}(h:(x==c)=false)(e:C x=some b):au C c a x=some b:=by
 have h':x≠c:=fun z=>by rw[z] at h;simp at h
 show(if x=c then some a else C x)=some b
 rw[if_neg h',e]
@[elab_as_elim] theorem len0{p:List Value->Prop}(us:List Value)(hl:us.length=0)(h:p []):p us:=by
 cases us with
 | nil=>exact h
 | cons a us=>cases hl
@[elab_as_elim] theorem sZ{p:List Value->Prop}(us:List Value)(hl:us.length=1)(h:∀a,p [a]):p us:=by
 cases us with
 | nil=>cases hl
 | cons a us=>exact len0 (p:=fun us=>p (a::us)) us (Nat.succ.inj hl) (h a)
@[elab_as_elim] theorem Af{p:List Value->Prop}(us:List Value)(hl:us.length=2)(h:∀a b,p [a,b]):p us:=by
 cases us with
 | nil=>cases hl
 | cons a us=>exact sZ (p:=fun us=>p (a::us)) us (Nat.succ.inj hl) (fun b=>h a b)
@[elab_as_elim] theorem xm{p:List Value->Prop}(us:List Value)(hl:us.length=3)(h:∀a b c,p [a,b,c]):p us:=by
 cases us with
 | nil=>cases hl
 | cons a us=>exact Af (p:=fun us=>p (a::us)) us (Nat.succ.inj hl) (fun b c=>h a b c)
@[elab_as_elim] theorem Eo{p:List Value->Prop}(us:List Value)(hl:us.length=4)(h:∀a b c d,p [a,b,c,d]):p us:=by
 cases us with
 | nil=>cases hl
 | cons a us=>exact xm (p:=fun us=>p (a::us)) us (Nat.succ.inj hl) (fun b c d=>h a b c d)
@[elab_as_elim] theorem SM{p:List Value->Prop}(us:List Value)(hl:us.length=5)(h:∀a b c d e,p [a,b,c,d,e]):p us:=by
 cases us with
 | nil=>cases hl
 | cons a us=>exact Eo (p:=fun us=>p (a::us)) us (Nat.succ.inj hl) (fun b c d e=>h a b c d e)
@[elab_as_elim] theorem VD{p:List Value->Prop}(us:List Value)(hl:us.length=6)(h:∀a b c d e f,p [a,b,c,d,e,f]):p us:=by
 cases us with
 | nil=>cases hl
 | cons a us=>exact SM (p:=fun us=>p (a::us)) us (Nat.succ.inj hl) (fun b c d e f=>h a b c d e f)
end DL
namespace L2
open PySem PySem.Spec PyProof.Rows
noncomputable def sqN(b:Bool):String:=match b with |true => "tuple" |false => "list"
noncomputable def itN(b:Bool):String:=match b with |true => "tuple_iterator" |false => "list_iterator"
noncomputable def SqB(b:Bool)(h:Heap)(a:Addr)(xs:Array Value):Prop:=∃o,h.get? a=some o/\o.cls=.type (sqN b)/\∃n,o.data=.seq xs n
noncomputable def ItB(b:Bool)(h:Heap)(a l:Addr)(i:Nat):Prop:=∃o,h.get? a=some o/\o.cls=.type (itN b)/\o.data=.fields #[.ref l,.int i 0]
section
variable {b:Bool} {h h':Heap} {a l c:Addr} {i:Nat} {xs:Array Value}
theorem ItB.go(x:ItB b h a l i)(e:∀o,h.get? a=some o->h'.get? a=some o):ItB b h' a l i:=let⟨o,ho,r⟩:=x;⟨o,e o ho,r⟩
theorem ItB.eb(x:ItB b h a l i)(e:Heap.ExtBut c h h')(n:a≠c):ItB b h' a l i:=x.go fun o q=>e a o n q
theorem ItB.lt(x:ItB b h a l i):a<h.objs.size:=let⟨_,ho,_⟩:=x;Heap.lt_size ho
end
end L2
namespace L2
open PySem PySem.Spec PyProof.Rows
section
variable {X:Cx} {pins:List (Addr×Obj)} {σ:St} {H:Hp} {s:Shared} {h':Heap}
theorem Inv.turnL{t':Nat}{ch:List Addr}(I:Inv X pins σ H s)(k:∀b o,b∉ch->s.heap.get? b=some o->h'.get? b=some o)(hf:∀b∈ch,lH X pins H b):Inv X pins σ H { s with heap:=h',toks:=t' }:=by
 have nit:∀b u,H b=some u->b∉ch:=fun b u e z=>by rw[(hf b z).1] at e;cases e
 have nl:X.env.locals∉ch:=fun z=>(hf _ z).2.1 rfl
 refine I.step (g':=s.gens) (d':=s.drawn) (ch:=ch) (fun b hb=>?_) (fun b o _ _ hc e _=>k b o hc e) (fun b o _ _ hc e _=>⟨o.slots,k b o hc e⟩) (fun _ _ _ _ n=>n) (fun b o hc e=>⟨o,k b o hc e⟩) (fun _ _ e=>e) (fun _ _ _ e=>e) (fun b ps e=>⟨#[],by rw[e];simp⟩) (fun m hm=>?_) (fun b u e=>?_) I.bare
 ·obtain⟨f0,f1,f2,f3,f4,f5⟩:=hf b hb
  exact⟨f3,f1,f4,f5⟩
 ·obtain⟨o,es,ep,ho,r⟩:=hm
  exact⟨o,es,ep,k _ o nl ho,r⟩
 ·refine(I.hok b u e).stay (fun c v hc q=>k c v ?_ q) (fun _ q=>q) fun _ _ q=>q
  rcases hc with z |z
  ·rw[z];exact nit b u e
  ·exact nit c _ z
theorem Inv.turnT{t':Nat}{ch:List Addr}{p:Addr}{xs:List V}{us:List Value}(I:Inv X pins σ H s)(k:∀b o,b∉ch->s.heap.get? b=some o->h'.get? b=some o)(hf:∀b∈ch,lH X pins H b)
  (hp:s.heap.objs.size<=p) (hz:xs.length<=sizeLine) (r:Vals xs us) (ht:IsTup h' p us.toArray):Inv X pins σ (upd H p (.tup xs)) { s with heap:=h',toks:=t' }:=by
 have hn:H p=none:=I.hok.fresh hp
 have ne:∀b o,s.heap.get? b=some o->b≠p:=fun b o e z=>absurd (Heap.lt_size e) (by rw[z];exact Nat.not_lt.mpr hp)
 have neH:∀b u,H b=some u->b≠p:=fun b u e z=>by rw[z,hn] at e;cases e
 have nit:∀b u,H b=some u->b∉ch:=fun b u e z=>by rw[(hf b z).1] at e;cases e
 have nl:X.env.locals∉ch:=fun z=>(hf _ z).2.1 rfl
 refine I.step (g':=s.gens) (d':=s.drawn) (ch:=ch) (fun b hb=>?_) (fun b o _ _ hc e _=>k b o hc e) (fun b o _ _ hc e _=>⟨o.slots,k b o hc e⟩) (fun b o _ e n=>by rw[aC (ne b o e)];exact n) (fun b o hc e=>⟨o,k b o hc e⟩)
  (fun b xs e=>by rw[aC (neH b _ e)];exact e) (fun b o u e=>by rw[aC (neH b _ e)];exact e) (fun b ps e=>⟨#[],by rw[aC (neH b _ e),e];simp⟩) (fun m hm=>?_) (fun b u e=>?_) I.bare
 ·obtain⟨f0,f1,f2,f3,f4,f5⟩:=hf b hb
  exact⟨f3,f1,f4,f5⟩
 ·obtain⟨o,es,ep,ho,r⟩:=hm
  exact⟨o,es,ep,k _ o nl ho,r⟩
 ·by_cases z:b=p
  ·subst z
   rw[aJ] at e
   cases e
   exact⟨hz,us,r,ht⟩
  ·rw[aC z] at e
   refine(I.hok b u e).stay (fun c v hc q=>k c v ?_ q) (fun c q=>by rw[aC (neH c _ q)];exact q) fun c xs q=>by rw[aC (neH c _ q)];exact q
   rcases hc with z |z
   ·rw[z];exact nit b u e
   ·exact nit c _ z
end
noncomputable def SqD(K:PySem.W.Frag)(b:Bool)(H:Hp)(a:Addr)(xs:List V):Prop:=match b with |true=>SqT K H a xs |false=>SqL K H a xs
theorem Ag{X:Cx}{pins:List (Addr×Obj)}{σ:St}{H:Hp}{s:Shared}{b:Bool}{a:Addr}{xs:List V}(I:Inv X pins σ H s)(h:SqD X.K b H a xs):∃its:List Value,Vals xs its/\SqB b s.heap a its.toArray:=by
 cases b with
 | false =>
  obtain⟨its,r,p,_⟩:=I.list h
  exact⟨its,r,p.isList⟩
 | true =>
  obtain⟨its,r,p,_⟩:=I.tuple h
  exact⟨its,r,p⟩
theorem Px{X:Cx}{pins:List (Addr×Obj)}{σ:St}{H:Hp}{s:Shared}{b:Bool}{a:Addr}{xs ys:List V}(I:Inv X pins σ H s)(h:SqD X.K b H a xs)(h':SqD X.K b H a ys):xs=ys:=by
 cases b with
 | false=>exact I.list_inj h h'
 | true=>exact I.tuple_inj h h'
end L2
namespace DL
open PySem PySem.Spec PyProof.Rows L2
noncomputable def pairD(x y:D):D:=.tup [x,y]
theorem uW{K:PySem.W.Frag}{H H':Hp}{b:Bool}{a:Addr}{xs:List V}(e:bC H H')(h:SqD K b H a xs):SqD K b H' a xs:=by
 cases b with
 | false=>exact e.seq h
 | true=>exact Ui e h
end DL
namespace DL
open PySem PySem.Spec PyProof.Rows L2
noncomputable def qF(Ts:List String)(d:D):Option D:=match tyD d with
 | some t=>some (.bl (Ts.any fun T=>decide (t=T) || (decide (t = "bool") && decide (T = "int"))))
 | none=>none
theorem Ah:∀{Ts:List String} {us:List Value},Vals (Ts.map V.ty) us->us=Ts.map Value.type
 | [],_,.nil=>rfl
 | T::Ts,_,.cons r t=>by rw[Ah t];cases (show _=Value.type T from r);rfl
section
variable {X:Cx} {C:Cl} {x:Expr} {g:Den} {pos p:Pos} {n:Str}
theorem Ep{pins:List (Addr×Obj)}{σ:St}{H:Hp}{s:Shared}{A:Around}{E:Value->Shared->Prop}{Q:Value->Shared->Prop}{K':PySem.W.Frag}{α:List Addr}{F:Hp}{d:D}{v:V}{u:Value}{t:String}{b:Bool}{tp:Addr}{its:List Value}{oc:Option Addr}{m:Nat}{sl:Array (Option Value)}
  (I:Inv X pins σ H s) (rx:RelV v u) (ff:bC F H) (i:Is K' α F d v) (ty:tyD d=some t) (htp:s.heap.get? tp=some ⟨.type "tuple",oc,.seq its.toArray m,sl⟩) (e:PySem.W.kitAny X.K (.type t) its=some b) (h:∀tk,Q (.bool b) { s with toks:=tk }) :
  wpAny (model X.prog X.w) A (call (.builtin "isinstance") [u,.ref tp]) Q E s:=by
 cases d<;>rw[Is] at i<;>(try cases ty)
 ·subst i;cases (show u=Value.none from rx);exact PySem.W.kia_tup PySem.W.kitx_none I.kIn True.intro htp e (fun z=>nomatch z) h
 ·subst i;cases (show u=Value.bool _ from rx);exact PySem.W.kia_tup PySem.W.kitx_bool I.kIn True.intro htp e (fun z=>nomatch z) h
 ·subst i;obtain⟨t,q⟩:=(show ∃t,u=Value.int _ t from rx);cases q;exact PySem.W.kia_tup PySem.W.kitx_int I.kIn True.intro htp e (fun z=>nomatch z) h
 ·subst i;obtain⟨t,q⟩:=(show ∃t,u=Value.str _ t from rx);cases q;exact PySem.W.kia_tup PySem.W.kitx_str I.kIn True.intro htp e (fun z=>nomatch z) h
 ·obtain⟨a,vs,rfl,e1,_⟩:=i
  cases (show u=Value.ref a from rx)
  obtain⟨_,_,_,⟨o,g1,g2,_⟩⟩:=(show bI X.prog X.w H s.heap a (.tup vs) from I.hok a _ (ff _ _ e1))
  exact PySem.W.kia_tup PySem.W.kitx_tuple I.kIn ⟨o,g1,g2⟩ htp e (fun z=>nomatch z) h
 ·obtain⟨a,vs,rfl,e1,_⟩:=i
  cases (show u=Value.ref a from rx)
  obtain⟨_,_,n,_,h1⟩:=(show bI X.prog X.w H s.heap a (.lst vs) from I.hok a _ (ff _ _ e1))
  exact PySem.W.kia_tup PySem.W.kitx_list I.kIn ⟨_,h1,rfl⟩ htp e (fun z=>nomatch z) h
theorem Py{d:D}{t:String}(h:tyD d=some t):t∈["NoneType","bool","int","str","tuple","list"]:=by
 cases d<;>first |(injection h with h;subst h;decide) |cases h
theorem Er{ys:List Expr}{tt:TA}{Ts:List String}{x1}{ypos:Pos}(ha:PD X C x g)(hy:PA X ys tt)(htt:∀σ H Q,Q (Ts.map V.ty) H->tt σ H Q)(hlen:Ts.length<=sizeLine)(hg:Gl X n)(hm:X.mg n=none)(hv:bootBuiltins n=some (.builtin "isinstance"))
  (hk:∀t∈["NoneType","bool","int","str","tuple","list"],PySem.W.kitAny X.K (.type t) (Ts.map Value.type)=some (Ts.any fun T=>decide (t=T) || (decide (t = "bool") && decide (T = "int"))))
  (hn:n ≠ "__name__":=by decide) (hdb:(n==("__debug__":Str))=false:=by decide)
  (he:starEach [x,.Tuple ys x1 ypos] X.env=(false,eval x X.env)::starEach [.Tuple ys x1 ypos] X.env:=by rfl) (he2:starEach [.Tuple ys x1 ypos] X.env=(false,eval (.Tuple ys x1 ypos) X.env)::starEach [] X.env:=by rfl) (hpl:(backTo pos (starEach [.Tuple ys x1 ypos] X.env)).any (·.1)=false:=by rfl) :
  PD X C (.Call (.Name n p) [x,.Tuple ys x1 ypos] [] pos) (gUn (qF Ts) g):=by
 have hc:fH X (.builtin "isinstance") (fun xs H Q=>∃v tp t k α F d,xs=[v,.ref tp]/\H tp=some (.tup (Ts.map V.ty))/\bC F H/\Is X.K α F d v/\tyD d=some t/\PySem.W.kitAny X.K (.type t) (Ts.map Value.type)=some k/\Q (.bl k) H):=by
  intro pins s σ H xs us Q I r hw
  obtain⟨v,tp,t,k,α,F,d,rfl,h0,ff,i,ty,e,q⟩:=hw
  obtain⟨u1,w',rfl,r1,r2⟩:=vals2 r
  obtain rfl:w'=Value.ref tp:=r2
  obtain⟨_,its,ri,⟨oc,od,odt,osl⟩,g1,g2,m,g3⟩:=(show bI X.prog X.w H s.heap tp (.tup (Ts.map V.ty)) from I.hok tp _ h0)
  obtain rfl:=Ah ri
  dsimp only at g2 g3
  subst g2 g3
  exact Ep I r1 ff i ty g1 e fun tk=>⟨.bl k,H,I.tok tk,rfl,q⟩
 refine bj (iu hc hg hm hv (bL ha (bL (zx hy) cY he2) he) hn hdb he hpl) fun σ H Q hw'=>?_
 obtain⟨e,Ω,ρ,d,Ω',eH,w,rl,e1,kk⟩:=hw'
 unfold gUn at e1
 cases q1:g ρ Ω with
 | none=>rw[q1] at e1;cases e1
 | some p1 =>
  obtain⟨d1,Ω1⟩:=p1
  rw[q1] at e1
  dsimp only at e1
  unfold qF at e1
  cases q2:tyD d1 with
  | none=>rw[q2] at e1;cases e1
  | some t =>
   rw[q2] at e1
   cases e1
   refine⟨e,Ω,ρ,d1,_,eH,w,rl,q1,fun v e' x' w' i'=>?_⟩
   refine htt _ _ _ ⟨by rw[List.length_map];exact hlen,fun tp hp=>?_⟩
   have wn:=w'.new (o:=.tup (Ts.map V.ty)) hp
   have xn:=w'.new_ext (o:=.tup (Ts.map V.ty)) hp
   refine⟨v,tp,t,_,_,_,d1,rfl,aJ,wn.fh,i'.ext xn,q2,hk t ?_,kk _ _ (x'.trans xn) wn (by rw[Is])⟩
   exact Py q2
end
end DL
namespace L2
open PySem PySem.Spec PyProof.Rows
section
variable {X:Cx} {a:Expr} {ta:TE} {z:Str} {kk:Nat} {p1 p2 pos:Pos}
noncomputable def tFI(ta:TE):TE:=fun σ H Q=>ta σ H fun x H1=>∃i:Int,x=.int i/\i.natAbs.log2<1920/\(Str.ofString (toString i)).length<=1000/\∀t,Q (.str t) H1
theorem Uo(ha:PE X a ta)(hz:z.length<=1000:=by decide)(hs:evalEach [.FormattedValue a (-1) none p1,.Constant (.str z) kk p2] X.env=[eval (.FormattedValue a (-1) none p1) X.env,eval (.Constant (.str z) kk p2) X.env]:=by rfl) :
  PE X (.JoinedStr [.FormattedValue a (-1) none p1,.Constant (.str z) kk p2] pos) (tFI ta):=by
 intro pins s σ H Q I h
 have len:∀p q:Str,(p++q).length=p.length+q.length:=fun p q=>strLen_append p q
 have sl:(100000:Nat)<=sizeLine:=by rw[sizeLine_eq];decide
 refine PySem.wpAny_JoinedStr ?_
 rw[hs]
 refine PySem.wpAny_FormattedValue_plain (thn (ha pins s σ H _ I h) fun u s1 hw'=>?_)
 obtain⟨x,H1,I1,r1,i,ex,hi,li,q1⟩:=hw'
 subst ex
 obtain⟨t,rfl⟩:=r1
 refine wpAny_formatField_int hi ⟨_,_,rfl,?_,?_⟩
 ·rw[PySem.W.KT.empty_app];exact Nat.le_trans li (by omega)
 rw[PySem.W.KT.empty_app]
 refine wpAny_mono (pZ (X:=X) (x:=z) (j:=kk) (pos:=p2) pins _ σ H1 (fun v H'=>v=.str z/\H'=H1) (I1.tok _) ⟨rfl,rfl⟩) (fun u s2 ⟨y,H2,I2,r2,e2,e3⟩=>?_) fun _ _ e=>e
 subst e2 e3
 obtain⟨t2,rfl⟩:=r2
 refine⟨z,t2,rfl,?_,?_,?_⟩
 ·rw[len];omega
 ·rw[len];omega
 ·exact⟨.str _,_,I2.tok _,⟨_,rfl⟩,q1 _⟩
end
end L2
namespace DL
open PySem PySem.Spec PyProof.Rows L2
section
variable {X:Cx} {C:Cl} {a:Expr} {f:Den} {pos p1 p2:Pos}
noncomputable def pFi(f:Den):uV:=fun ρ Ω=>match f ρ Ω with
 | some (.int i,Ω')=>if bD i then some Ω' else none
 | _=>none
theorem Uq{z:Str}{kk:Nat}(ha:PD X C a f)(hz:z.length<=1000:=by decide)(hs:evalEach [.FormattedValue a (-1) none p1,.Constant (.str z) kk p2] X.env=[eval (.FormattedValue a (-1) none p1) X.env,eval (.Constant (.str z) kk p2) X.env]:=by rfl) :
  PV X C (.JoinedStr [.FormattedValue a (-1) none p1,.Constant (.str z) kk p2] pos) (pFi f):=bj (Uo ha hz hs) fun σ H Q hw'=>by
 obtain⟨e,Ω,ρ,Ω',eH,w,rl,q,k⟩:=hw'
 unfold pFi at q
 split at q
 ·rename_i i Ω1 q1
  split at q
  ·rename_i hi
   cases q
   refine⟨e,Ω,ρ,_,_,eH,w,rl,q1,fun v e' x' w' i'=>?_⟩
   rw[Is] at i'
   exact⟨i,i',hi.1,hi.2,fun t=>k _ e' x' w'⟩
  ·cases q
 ·cases q
end
end DL
namespace DL
open PySem PySem.Spec PyProof.Rows L2
noncomputable def flV:D->Option V
 | .non=>some .non
 | .bl b=>some (.bl b)
 | .int i=>some (.int i)
 | .str z=>some (.str z)
 | _=>none
noncomputable def xq:List D->Option (List V)
 | []=>some []
 | d::ds=>match flV d,xq ds with
  | some v,some vs=>some (v::vs)
  | _,_=>none
noncomputable def Mq:D->Option (List D)
 | .lst xs=>some xs
 | .tup xs=>some xs
 | _=>none
noncomputable def tu(neg:Bool)(x y:D):Option D:=match flV x,Mq y with
 | some v,some ds=>match xq ds with
  | some vs=>some (.bl (if neg then !inV v vs else inV v vs))
  | none=>none
 | _,_=>none
theorem Hk{K:PySem.W.Frag}{α:List Addr}{F:Hp}{d:D}{v u:V}(h:flV d=some u)(i:Is K α F d v):v=u/\lZ u=true:=by
 cases d<;>cases h<;>rw[Is] at i<;>exact⟨i,rfl⟩
theorem xr{K:PySem.W.Frag}{α:List Addr}{F:Hp}:∀{ds:List D} {vs us:List V},xq ds=some us->IsL K α F ds vs->vs=us/\us.all lZ=true
 | [],vs,us,h,il=>by cases h;cases il;exact⟨rfl,rfl⟩
 | d::ds,vs,us,h,il=>by
  obtain⟨v,vr,rfl,i,r⟩:=il.of_cons
  unfold xq at h
  cases q1:flV d with
  | none=>rw[q1] at h;cases h
  | some u =>
   cases q2:xq ds with
   | none=>rw[q1,q2] at h;cases h
   | some ts =>
    rw[q1,q2] at h
    cases h
    obtain⟨rfl,f1⟩:=Hk q1 i
    obtain⟨rfl,f2⟩:=xr q2 r
    exact⟨rfl,by rw[List.all_cons,f1,f2];rfl⟩
section
variable {X:Cx} {C:Cl}
theorem SN{neg:Bool}{e:E4}{Ω:List OS}{d₁ d₂ z:D}{x y:V}{Q:VK}(w:Wf X.K C e Ω)(i1:Is X.K e.α e.F d₁ x)(i2:Is X.K e.α e.F d₂ y)(q:tu neg d₁ d₂=some z)(kk:∀v e',Ext e e'->Wf X.K C e' Ω->Is X.K e'.α e'.F z v->Q v e'.H):rIn X.K neg x y e.H Q:=by
 unfold tu at q
 cases q1:flV d₁ with
 | none=>rw[q1] at q;cases q
 | some u =>
  cases q2:Mq d₂ with
  | none=>rw[q1,q2] at q;cases q
  | some ds =>
   rw[q1,q2] at q
   dsimp only at q
   cases q3:xq ds with
   | none=>rw[q3] at q;cases q
   | some us =>
    rw[q3] at q
    cases q
    obtain⟨rfl,f1⟩:=Hk q1 i1
    cases d₂ with
    | lst xs =>
     cases q2
     rw[Is] at i2
     obtain⟨a,vs,rfl,h1,r1⟩:=i2
     obtain⟨rfl,f2⟩:=xr q3 r1
     exact⟨a,vs,rfl,.inl (SqL.of (w.fh _ _ h1)),f1,f2,kk _ e (Ext.refl e) w (by rw[Is])⟩
    | tup xs =>
     cases q2
     rw[Is] at i2
     obtain⟨a,vs,rfl,h1,r1⟩:=i2
     obtain⟨rfl,f2⟩:=xr q3 r1
     exact⟨a,vs,rfl,.inr (SqT.of (w.fh _ _ h1)),f1,f2,kk _ e (Ext.refl e) w (by rw[Is])⟩
    | _=>cases q2
theorem Pz:OpD X C (compareOp .In) (tu false):=by
 rintro pins s σ H x y v u Q I rx ry ⟨e,Ω,d₁,d₂,z,eH,w,i1,i2,q,kk⟩
 subst eH
 exact Ge pins s σ _ x y v u Q I rx ry (SN w i1 i2 q kk)
end
end DL
namespace DL
open PySem PySem.Spec PyProof.Rows L2
section
variable {prog:Program} {w:World} {A:Around} {E:Value->Shared->Prop} {s:Shared}
theorem Kg{t b:Addr}{ws:List Value}{Q:Value->Shared->Prop}(ht:IsTup s.heap t (([]:List Value)).toArray)(hb:IsTup s.heap b ws.toArray)(h:Q (.ref b) s) :
  wpAny (model prog w) A (binaryOp .Add (.ref t) (.ref b)) Q E s:=by
 obtain⟨⟨cls,dd,data,sl⟩,ho,hc,n,hd⟩:=id ht
 obtain⟨⟨cls2,dd2,data2,sl2⟩,ho2,hc2,n2,hd2⟩:=id hb
 simp only at hc hd hc2 hd2
 subst hc hd hc2 hd2
 exact concat_meets ⟨_,ho,rfl⟩ ⟨_,ho2,rfl⟩ noFill_tuple_add seq_tuple_add PySem.F.slot_tuple_add PySem.F.entry_tuple_add (PySem.F.args_tuple_add_2 _ _)
  (tuple_addW0 t b _ ws.toArray n n2 dd dd2 sl sl2 (by simp)) ⟨ho,ho2,h⟩
end
section
variable {X:Cx} {C:Cl} {a b c x:Expr} {f g h:Den} {pos:Pos}
noncomputable def uf:D->D->Option D
 | .tup xs,.tup ys=>if xs.length+ys.length<=big then some (.tup (xs++ys)) else none
 | _,_=>none
theorem Kh{d₁ d₂ z:D}(q:uf d₁ d₂=some z):∃xs ys,d₁=.tup xs/\d₂=.tup ys/\xs.length+ys.length<=big/\z=.tup (xs++ys):=by
 unfold uf at q
 split at q
 ·rename_i xs ys
  split at q
  ·rename_i hl
   cases q
   exact⟨xs,ys,rfl,rfl,hl,rfl⟩
  ·cases q
 ·cases q
theorem Kl:OpD X C (binaryOp .Add) uf:=by
 intro pins s σ H x y v u Q I rx ry hw
 obtain⟨e,Ω,d₁,d₂,z,eH,w,i1,i2,q,kk⟩:=hw
 subst eH
 obtain⟨xs,ys,rfl,rfl,hl,rfl⟩:=Kh q
 simp only[Is] at i1 i2
 obtain⟨l,vs,rfl,h1,r1⟩:=i1
 obtain⟨m,us,rfl,h2,r2⟩:=i2
 by_cases hv:vs=[]
 ·subst hv
  have hx:xs=[]:=List.length_eq_zero_iff.mp (by rw[r1.length];rfl)
  subst hx
  cases rx
  cases ry
  obtain⟨its,q1,p1,_⟩:=I.tuple (SqT.of (w.fh _ _ h1))
  obtain⟨its2,q2,p2,_⟩:=I.tuple (SqT.of (w.fh _ _ h2))
  cases q1
  exact Kg p1 p2 ⟨.ref m,_,I,rfl,kk _ e (Ext.refl e) w (by rw[Is];exact⟨m,us,rfl,h2,r2⟩)⟩
 ·refine Nx pins s σ _ _ _ v u Q I rx ry ⟨l,m,vs,us,rfl,rfl,SqT.of (w.fh _ _ h1),SqT.of (w.fh _ _ h2),hv,by rw[<-r1.length,<-r2.length];exact gM hl,fun z=>?_,fun _ p hp=>?_⟩
  ·subst z
   have hy:ys=[]:=List.length_eq_zero_iff.mp (by rw[r2.length];rfl)
   subst hy
   rw[List.append_nil] at kk
   exact kk _ e (Ext.refl e) w (by rw[Is];exact⟨l,vs,rfl,h1,r1⟩)
  ·refine kk _ (e.new p _) (w.new_ext hp) (w.new hp) ?_
   rw[Is]
   exact⟨p,_,rfl,aJ,(r1.append r2).ext (w.new_ext hp)⟩
open Classical in
noncomputable def eqR(h:Heap)(p:PyData)(v:Value):Bool:=if q:∃d as,Reads h v d as/\d.canLay0=true then PyData.eqv (Classical.choose q) p else false
theorem Hl{h:Heap}{p d:PyData}{v:Value}{as:List Addr}(r:Reads h v d as)(c:d.canLay0=true):eqR h p v=PyData.eqv d p:=by
 have q:∃d as,Reads h v d as/\d.canLay0=true:=⟨d,as,r,c⟩
 unfold eqR
 rw[dif_pos q]
 obtain⟨as',r',c'⟩:=Classical.choose_spec q
 rw[SeqAt.Reads.unique _ _ _ _ _ c' r' r]
theorem xu{pins:List (Addr×Obj)}{s:Shared}{σ:St}{e:E4}{A:Around}{p:PyData}{v:Value}{as:List Addr}(I:Inv X pins σ e.H s)(fh:bC e.F e.H)(r:Reads s.heap v p as)(c:SeqAt.shaped p=true)(hu:A.units+64<cLine) :
  ∀{ds:List D} {xs:List V} {us:List Value},IsL X.K e.α e.F ds xs->Vals xs us->(ds.all fun d=>SeqAt.shaped (toP d))=true->(us.any (eqR s.heap p)=ds.any fun d=>PyData.eqv (toP d) p)/\∀u∈us,SeqAt.EqAt A s u v (eqR s.heap p u)
 | [],xs,us,i,q,_=>by
  have e:=i.of_nil
  subst e
  cases q
  exact⟨rfl,fun u hu=>by cases hu⟩
 | d::ds,xs,us,i,q,f=>by
  obtain⟨x,r',rfl,i1,i2⟩:=i.of_cons
  cases q with
  | cons rv rs =>
   rw[List.all_cons,Bool.and_eq_true] at f
   obtain⟨bs,rd⟩:=fW I rfl fh d (SeqAt.canLay_of_shaped f.1) i1 rv
   have e1:=Hl (p:=p) rd (SeqAt.canLay_of_shaped f.1)
   obtain⟨t1,t2⟩:=xu I fh r c hu i2 rs f.2
   refine⟨by rw[List.any_cons,List.any_cons,e1,t1],fun u hu'=>?_⟩
   rcases List.mem_cons.mp hu' with rfl |hu'
   ·rw[e1]
    exact SeqAt.eqAt_reads _ _ A s _ _ _ _ rd r (SeqAt.canLay_of_shaped f.1) (SeqAt.canLay_of_shaped c) (SeqAt.room_of_shaped f.1 hu)
   ·exact t2 u hu'
end
end DL
namespace DL
open PySem PySem.Spec PyProof.Rows L2
noncomputable def mR:OS->Option (List D)
 | .mls xs=>some xs
 | _=>none
noncomputable def oK:D->Option Nat
 | .obj n=>some n
 | _=>none
noncomputable def oM:D->Option Int
 | .int i=>some i
 | _=>none
theorem oO{o:OS}{xs:List D}(h:mR o=some xs):o=.mls xs:=by
 unfold mR at h
 split at h
 ·cases h;rfl
 ·cases h
theorem mD{d:D}{n:Nat}(h:oK d=some n):d=.obj n:=by
 unfold oK at h
 split at h
 ·cases h;rfl
 ·cases h
theorem qG{d:D}{n:Int}(h:oM d=some n):d=.int n:=by
 unfold oM at h
 split at h
 ·cases h;rfl
 ·cases h
noncomputable def jG(ga:bA):Den:=fun ρ Ω=>(ga ρ Ω).bind fun p=>if p.1.length<=big then some (.obj p.2.length,p.2++[.mls p.1]) else none
noncomputable def nq(f g:Den):aN:=fun ρ Ω=>(f ρ Ω).bind fun p=>(oK p.1).bind fun n=>(p.2[n]?).bind fun o1=>(mR o1).bind fun _=>(g ρ p.2).bind fun r=>(r.2[n]?).bind fun o=>(mR o).bind fun xs =>
 if xs.length<big then some (.nx ρ (r.2.set n (.mls (xs++[r.1])))) else none
theorem Wf.mls{K:PySem.W.Frag}{C:Cl}{e:E4}{Ω:List OS}(w:Wf K C e Ω){n:Nat}{a:Addr}{xs:List D}(hα:e.α[n]? = some a)(h:Ω[n]? = some (.mls xs)):∃vs,e.H a=some (.lst vs)/\IsL K e.α e.F xs vs:=(w.ob n a _ hα h).2
section
variable {X:Cx} {C:Cl} {a b x:Expr} {es:List Expr} {f g h:Den} {ga:bA} {pos pos':Pos}
theorem qH(ha:PDA X C es ga):PD X C (.List es pos) (jG ga):=bj (vq ha) fun σ H Q hw'=>by
 obtain⟨e,Ω,ρ,d,Ω',eH,w,rl,q,kk⟩:=hw'
 obtain⟨⟨ds,Ω1⟩,q1,q⟩:=Option.bind_eq_some_iff.mp q
 dsimp only at q
 split at q
 ·rename_i hl
  cases q
  refine⟨e,Ω,ρ,ds,_,eH,w,rl,q1,fun vs e' x' w' i'=>⟨by rw[<-i'.length];exact gM hl,fun p hp=>?_⟩⟩
  obtain⟨w2,x2⟩:=w'.obj (H':=upd e'.H p (.lst vs)) (o:=.mls ds) hp (fun b u hb=>by rw[aC (aM hb hp)];exact hb) (by rw[aJ];exact⟨by simp,fun xs z=>nomatch z⟩) ⟨vs,aJ,IsL.mono (bC.refl _) ⟨[p],rfl⟩ _ i'⟩
  refine kk _ (e'.obj p _) (x'.trans x2) w2 ?_
  rw[Is]
  exact⟨p,by show(e'.α++[p])[Ω1.length]? = some p;rw[<-w'.ol];simp,rfl⟩
 ·cases q
theorem uX{ap cp:Pos}(ha:PD X C a f)(hb:PD X C b g)(hbase:attributeBase a "append" X.env (eval a X.env)=eval a X.env:=by rfl)
  (hfew:((backTo cp (starEach [b] X.env)).all (fun x=>!x.1) && (backToKw cp (keywordEach [] X.env)).all (fun x=>x.1.isSome)
   && decide (([b]:List Expr).length+([]:List Keyword).length+(if([]:List Keyword).isEmpty then 0 else 1)<30))=true:=by rfl)
  (hline:(ap.endLine==cp.line)=true:=by rfl) (hst:starEach [b] X.env=(false,eval b X.env)::starEach [] X.env:=by rfl) (hplain:(backTo cp (starEach [] X.env)).any (·.1)=false:=by rfl)
  (hs:swapsWith (.Call (.Attribute a "append" ap) [b] [] cp) none pos.line X.env=pure false:=by rfl) :
  PDS X C (.Expr (.Call (.Attribute a "append" ap) [b] [] cp) pos) (nq f g):=fun e₀ =>
 di (tW (vy PySem.F.plainAttrs_list PySem.F.slot_list_append PySem.F.type_list_append sr ha (bL hb cY hst) hbase hfew hline hst hplain) hs) fun Dn σ H hw'=>by
  obtain⟨e,Ω,ρ,o,eH,r,q,k⟩:=hw'
  obtain⟨⟨d1,Ω1⟩,q1,q⟩:=Option.bind_eq_some_iff.mp q
  obtain⟨n,q2,q⟩:=Option.bind_eq_some_iff.mp q
  obtain⟨o1,q3,q⟩:=Option.bind_eq_some_iff.mp q
  obtain⟨xs1,q4,q⟩:=Option.bind_eq_some_iff.mp q
  obtain⟨⟨d5,Ω5⟩,q5,q⟩:=Option.bind_eq_some_iff.mp q
  obtain⟨o6,q6,q⟩:=Option.bind_eq_some_iff.mp q
  obtain⟨xs,q7,q⟩:=Option.bind_eq_some_iff.mp q
  split at q
  ·rename_i hl
   cases q
   have e2:=mD q2
   have e4:=oO q4
   have e7:=oO q7
   dsimp only at e2 q3 q5 q6 hl
   subst e2 e4 e7
   refine⟨e,Ω,ρ,_,Ω1,eH,r.wf,r.rel,q1,fun v e1 x1 w1 i1=>?_⟩
   have i1':=i1
   rw[Is] at i1'
   obtain⟨p,hα,rfl⟩:=i1'
   obtain⟨vs1,hH1,_⟩:=w1.mls hα q3
   refine⟨.inl ⟨rfl,_,SqL.of hH1⟩,?_⟩
   refine⟨e1,Ω1,ρ,d5,Ω5,rfl,w1,r.rel.ext x1,q5,fun u e2 x2 w2 i2=>?_⟩
   have i3:=i1.ext x2
   rw[Is] at i3
   obtain⟨p',hα2,ep⟩:=i3
   cases ep
   obtain⟨vs,hH,il⟩:=w2.mls hα2 q6
   refine⟨p,vs,u,rfl,rfl,hH,by rw[<-il.length];exact nZ hl,?_⟩
   obtain⟨w3,x3⟩:=w2.at (ho:=.lst (vs++[u])) (o':=.mls (xs++[d5])) hα2 (fun _ z=>nomatch z) ⟨_,aJ,il.append (.cons i2 .nil)⟩ (fun o u z=>by rw[hH] at z;cases z)
   exact k (e2.at p _) σ (r.to ((x1.trans x2).trans x3) w3)
  ·cases q
theorem pN{K:PySem.W.Frag}{α:List Addr}{F:Hp}{κ:Type}:∀{ps:List (κ×D)} {vs:List (κ×V)},cF K α F ps vs->vs.map (·.1)=ps.map (·.1)
 | [],vs,h=>by cases (show vs=[] from h);rfl
 | p::r,_,⟨v,t,e,i,q⟩=>by rw[e,List.map_cons,List.map_cons,pN q]
end
end DL
namespace DL
open PySem PySem.Spec PyProof.Rows L2
section
variable {K:PySem.W.Frag} {C:Cl} {e e':E4} {Ω:List OS} {a:Addr} {o:HO}
noncomputable def E4.bare(e:E4)(a:Addr):E4:=⟨e.α,e.F,e.A,fun b=>if b=a then none else e.H b⟩
theorem Km(h:e.H a=some o):upd (e.bare a).H a o=e.H:=by
 funext b
 by_cases z:b=a
 ·subst z;rw[aJ];exact h.symm
 ·rw[aC z];show(if b=a then none else e.H b)=e.H b;rw[if_neg z]
theorem Wf.bare(w:Wf K C e Ω)(hF:e.F a=none)(hA:¬e.A a):Wf K C (e.bare a) Ω:=by
 have hb:∀b,b≠a->(e.bare a).H b=e.H b:=fun b z=>by show(if b=a then none else e.H b)=e.H b;rw[if_neg z]
 refine⟨fun b u h=>?_,w.fa,fun b h=>?_,w.ol,w.nd,fun n b u h1 h2=>⟨(w.ob n b u h1 h2).1,(w.ob n b u h1 h2).2.keep (fun v hv=>?_) (bC.refl _) ⟨[],by simp[E4.bare]⟩⟩⟩
 ·rw[hb b (fun z=>by subst z;rw[show e.F b=some u from h] at hF;cases hF)];exact w.fh b u h
 ·rw[hb b (fun z=>hA (by rw[<-z];exact h))];exact w.ah b h
 ·rw[hb b (fun z=>hA (by rw[<-z];exact(w.ob n b u h1 h2).1))];exact hv
theorem Ext.bare(x:Ext e e')(ha:e.H a=none):Ext e (e'.bare a):=by
 have hb:∀b,b≠a->(e'.bare a).H b=e'.H b:=fun b z=>by show(if b=a then none else e'.H b)=e'.H b;rw[if_neg z]
 refine⟨fun b o' u h=>?_,fun b u h hn=>?_,fun b u h=>?_,x.ff,x.fn,x.an,x.aa,x.al⟩
 ·rw[hb b (aM h ha)];exact x.fz b o' u h
 ·rw[hb b (aM h ha)];exact x.hk b u h hn
 ·obtain⟨u',z⟩:=x.dm b u h
  exact⟨u',by rw[hb b (aM h ha)];exact z⟩
end
end DL
namespace KS
open PySem PySem.W PySem.Calls PyProof.Rows
section
variable {prog:Program} {w:World} {A:Around} {E:Value->Shared->Prop} {s:Shared} {a:Addr} {vs:List Value}
theorem PB{it:Value}{R:List Value->Heap->Nat->Prop}{Q:Value->Shared->Prop}(hcol:∀(E:Value->Shared->Prop) (Q':List Value->Shared->Prop),(∀vs h1 tk,R vs h1 tk->Q' vs { s with heap:=h1,toks:=tk })->wpAny (model prog w) A.in1 (collect it) Q' E s)(h64:∀vs h1 tk,R vs h1 tk->vs.length<64)
  (hend:∀vs h1 tk D e1 h',R vs h1 tk->h1.objs.size<=D->(∀b o,h1.get? b=some o->h'.get? b=some o)->h'.get? D=some (seqObj "list" #[] e1)->J_ prog w A.in1.in1 vs D { s with heap:=h',toks:=tk } fun s3=>Q (.ref D) s3) :
  wpAny (model prog w) A (call (.builtin "sorted") [it]) Q E s:=by
 refine Calls.call_function_entry kind_sorted plain_sorted entry_sorted (args_sorted1 _) ?_
 unfold Builtin.«sorted»;refine wpAny_bind (m:=checkCount "sorted" 1 1 _) (wpAny_pure ?_)
 refine wpAny_bind (hcol _ _ fun vs h1 tk keep1=>?_)
 have l64:=h64 vs h1 tk keep1
 refine wpAny_bind (wpAny_newList ?_ (by rw[sizeLine_eq];omega))
 have oL:(h1.push (seqObj "list" vs.toArray 0)).get? h1.objs.size=some (seqObj "list" vs.toArray 0):=Heap.get?_push_size _ rfl
 have keep:∀b o,h1.get? b=some o->(h1.push (seqObj "list" vs.toArray 0)).get? b=some o:=fun b o q=>Heap.get?_push_of_some _ q
 show wpAny _ _ _ _ _ { s with heap:=h1.push (seqObj "list" vs.toArray 0),toks:=tk }
 refine wpAny_bind (wpAny_holding (wpAny_call_entry slot_list_sort ⟨_,oL,rfl⟩ entry_list_sort ?body (args_list_sort _)))
 case body =>
  refine Eh (s:={ s with heap:=h1.push (seqObj "list" vs.toArray 0),toks:=tk }) oL l64 fun e1 h' kp hD=>?_
  obtain⟨κ,r,p1,p2,p3⟩:=hend vs h1 tk h1.objs.size e1 h' keep1 (Nat.le_refl _) (fun b o q=>kp b o (Nat.ne_of_lt (Heap.lt_size q)) (keep b o q)) hD
  exact⟨κ,r,p1,p2,fun p h'' c hp hu k1 k2=>⟨_,rfl,wpAny_pure ⟨_,rfl,p3 p h'' c hp hu k1 k2⟩⟩⟩
end
end KS
namespace L2
open PySem PySem.Spec PyProof.Rows KS PySem.W
section
variable {X:Cx} {pins:List (Addr×Obj)} {σ:St} {H:Hp} {s:Shared}
theorem Ko{vs:List Value}{xs:List V}{Q:VK}{nss:List (List Int)}{h1 h':Heap}{tk e1:Nat}{D:Addr}(I1:Inv X pins σ H { s with heap:=h1,toks:=tk })(rv:Vals xs vs)(h64:xs.length<64)(hK:KeysAre H xs nss)(fin:∀out p,H p=none->qC nss xs out->Q (.ref p) (upd H p (.lst out)))
  (zD:h1.objs.size<=D) (kk:∀b o,h1.get? b=some o->h'.get? b=some o) (oD:h'.get? D=some (seqObj "list" #[] e1)):J_ X.prog X.w X.A.in1.in1 vs D { s with heap:=h',toks:=tk } fun s3=>EP X pins σ Q (.ref D) s3:=by
 have hl:=rv.length
 have hn:nss.length=xs.length:=(Paired.length hK).symm
 have fD:=I1.fpOk zD (I1.hok.fresh zD)
 have I2:Inv X pins σ H { s with heap:=h',toks:=tk }:=I1.kept (t':=tk) kk
 have tup:∀j,j<vs.length->∃b o its n ns,vs[j]? = some (.ref b)/\nss[j]? = some ns/\h'.get? b=some o/\o.cls=.type "tuple" /\ o.data=.seq (List.toArray its) n/\IntsAre its ns/\ns≠[]:=fun j hj=>by
  have hj':j<xs.length:=by omega
  obtain⟨ns,e1,b,e2,e3,e4⟩:=Paired.get hK (List.getElem?_eq_getElem hj')
  obtain⟨u,e5,e6⟩:=rv.get (List.getElem?_eq_getElem hj')
  rw[e2] at e6
  cases (show u=Value.ref b from e6)
  obtain⟨_,its,ri,o,h1,h2,n,h3⟩:=(show bI X.prog X.w H h' b (.tup (ns.map V.int)) from I2.hok b _ e3)
  exact⟨b,o,its,n,ns,e5,e1,h1,h2,h3,intsAre_of ri,e4⟩
 refine⟨tuples' true,rankOf nss,fun h2 Q' E' hq=>?_,fun h2 i j C hi hj hC=>?_,fun p h'' c hp hu kp hD=>?_⟩
 ·have kt:∀(l:List Value) (off:Nat),(∀j,j<l.length->∃b o its n ns,l[j]? = some (.ref b)/\nss[off+j]? = some ns/\h'.get? b=some o/\o.cls=.type "tuple" /\ o.data=.seq (List.toArray its) n/\IntsAre its ns/\ns≠[]) ->
    ∃fs,KatTups h' l fs/\fs.length=l.length/\∀v∈fs,∃n t,v=.int n t:=by
   intro l
   induction l with
   | nil=>intro off _;exact⟨[],trivial,rfl,fun v hv=>nomatch hv⟩
   | cons x l ih =>
    intro off ht
    obtain⟨b,o,its,n,ns,e1,e2,e3,e4,e5,e6,e7⟩:=ht 0 (by simp)
    simp at e1
    subst e1
    obtain⟨fs,k1,k2,k3⟩:=ih (off+1) fun j hj=>by
     obtain⟨b,o,its,n,ns,q1,q2,q3⟩:=ht (j+1) (by simpa using hj)
     exact⟨b,o,its,n,ns,by simpa using q1,by rw[show off+1+j=off+(j+1) by omega];exact q2,q3⟩
    cases e6 with
    | nil=>exact absurd rfl e7
    | cons m t r =>
     refine⟨_::fs,KatTups.cons e3 e4 e5 (f:=.int m t) (by simp) k1,by simp[k2],fun v hv=>?_⟩
     rcases List.mem_cons.mp hv with rfl |hv
     ·exact⟨m,t,rfl⟩
     ·exact k3 v hv
  obtain⟨fs,k1,k2,k3⟩:=kt vs 0 fun j hj=>by simpa using tup j hj
  refine kat_kind (T:=.type "int") k1 (by rw[k2];omega) (fun v hv=>?_) rfl hq
  obtain⟨n,t,rfl⟩:=k3 v hv
  exact .now
 ·obtain⟨b1,o1,i1,n1,s1,a1,a2,a3,a4,a5,a6,a7⟩:=tup i (by omega)
  obtain⟨b2,o2,i2,n2,s2,c1,c2,c3,c4,c5,c6,c7⟩:=tup j (by omega)
  unfold kas_ask
  rw[List.getD_eq_getElem?_getD,List.getD_eq_getElem?_getD,a1,c1]
  refine kat_lt a3 a5 c3 c5 (Dd 0 a6 c6 (by simp) ?_)
  have hi':i<nss.length:=by omega
  have hj':j<nss.length:=by omega
  rw[zV hi' hj'] at hC
  rw[List.getElem?_eq_getElem hi'] at a2
  rw[List.getElem?_eq_getElem hj'] at c2
  cases a2
  cases c2
  exact hC
 ·have hpl:p.toList.Perm (List.range vs.length):=by have:=Array.perm_iff_toList_perm.mp hp;simpa using this
  have hpn:p.toList.length=vs.length:=by rw[hpl.length_eq];simp
  have hlt:∀i∈p.toList,i<xs.length:=fun i hi=>by have:=hpl.mem_iff.mp hi;rw[List.mem_range] at this;omega
  have so:qC nss xs (p.toList.map fun i=>xs.getD i .non):=by
   refine⟨p.toList,by rw[hl];exact hpl,rfl,fun i j hij hj=>?_⟩
   have u:=hu i j hij (by omega)
   have g:∀m,m<p.toList.length->p.getD m 0=p.toList.getD m 0/\p.toList.getD m 0<nss.length:=fun m hm=>by
    have hm':m<p.size:=by simpa using hm
    refine⟨by simp[Array.getD,hm'],?_⟩
    have:p.toList.getD m 0∈p.toList:=by
     rw[List.getD_eq_getElem?_getD,List.getElem?_eq_getElem hm];exact List.getElem_mem hm
    have:=hlt _ this
    omega
   obtain⟨gi,li⟩:=g i (by omega)
   obtain⟨gj,lj⟩:=g j hj
   have ei:nss.getD (p.toList.getD i 0) []=nss[p.toList.getD i 0]:=getD_get li
   have ej:nss.getD (p.toList.getD j 0) []=nss[p.toList.getD j 0]:=getD_get lj
   rw[ei,ej,<-zV lj li]
   refine decide_eq_false ?_
   have u':rankOf nss (p.getD i 0)<=rankOf nss (p.getD j 0):=u
   rw[gi,gj] at u'
   omega
  refine⟨.ref D,upd H D (.lst (p.toList.map fun i=>xs.getD i .non)),?_,rfl,fin _ D fD.1 so⟩
  refine I2.adopt fD fD (fun b o hb q=>kp b o (by simpa using hb) q) hD (yx rv p.toList hlt) ?_
  ·rw[List.length_map,hpn,sizeLine_eq];omega
theorem yE{it:Value}{vs:List Value}{xs:List V}{Q:VK}{nss:List (List Int)}(I:Inv X pins σ H s)(rv:Vals xs vs)(h64:xs.length<64)
  (hcol:∀(A:Around),A.handled=X.A.handled->∀(E:Value->Shared->Prop) (Q':List Value->Shared->Prop),(∀h1 tk,Kept s h1 []->Q' vs { s with heap:=h1,toks:=tk })->wpAny (model X.prog X.w) A (collect it) Q' E s)
  (hK:KeysAre H xs nss) (fin:∀out p,H p=none->qC nss xs out->Q (.ref p) (upd H p (.lst out))) :
  wpAny (model X.prog X.w) X.A (call (.builtin "sorted") [it]) (EP X pins σ Q) X.xe s:=by
 have hl:=rv.length
 refine PB (R:=fun us h1 tk=>us=vs/\Kept s h1 []) (fun E Q' hq=>hcol X.A.in1 rfl E Q' fun h1 tk k=>hq vs h1 tk ⟨rfl,k⟩) (fun us h1 tk e=>by rw[e.1];omega) fun us h1 tk D e1 h' k1 zD kk oD=>?_
 obtain⟨rfl,k1⟩:=k1
 exact Ko (I.kept (t':=tk) fun b u q=>k1 b u (by simp) q) rv h64 hK fin zD kk oD
end
theorem B_{prog:Program}{w:World}{A:Around}{E:Value->Shared->Prop}{s:Shared}{T:String}{r d:Addr}{n:Nat}{P:Nat->Value->Prop}{OK:Heap->Prop}{Q:List Value->Shared->Prop}(K:KdlSrc prog w T r d n P OK)(hh:A.handled=none)(hok:OK s.heap)(hn:n<=sizeLine)
  (hQ:∀h' tk acc',(∀b o,s.heap.get? b=some o->h'.get? b=some o)->ItemsOf P acc' n->Q acc'.toList { s with heap:=h',toks:=tk }):wpAny (model prog w) A (collect (.ref r)) Q E s:=by
 obtain⟨lr,ld⟩:=K.there s.heap hok
 unfold collect
 refine wpAny_bind (wpAny_runValue (codeAny_builtin F.entry_proto_collect ?_))
 rw[Around.under_plainId F.plain_proto_collect _]
 show wpAny _ A.in1 (newList []>>=fun l=>again (.builtin "list.__iadd__" ⟨[l,.ref r],[]⟩)) _ _ s
 refine wpAny_bind (wpAny_newObj_type ?_)
 refine wpAny_pure ⟨plainId_quiet F.plain_list_iadd _,codeAny_builtin F.entry_list_iadd ?_⟩
 rw[Around.under_plainId F.plain_list_iadd _]
 show wpAny _ A.in1 (Builtin.List.listExtendWith (.ref s.heap.objs.size) (.ref r) (.ref s.heap.objs.size)) _ _ _
 have hS:(s.heap.push { cls:=.type "list",data:=.seq ([]:List Value).toArray }).get? s.heap.objs.size=some { cls:=.type "list",data:=.seq #[] }:=Heap.get?_push_size _ rfl
 refine kdl_extend (R:=fun r s'=>match r with |Except.ok (Flow.ret v)=>wpAny (model prog w) A (match v with |Value.ref a=>(do match(<-load a).data with |.seq xs _=>pure xs.toList |_=>unsupported "internal:collect") |_=>unsupported "internal:collect") Q E s' |Except.ok a=>False |Except.error e=>E e s') (s:={ s with heap:=s.heap.push { cls:=.type "list",data:=.seq ([]:List Value).toArray } }) K hh (K.keep _ _ hok fun b _ o e=>Heap.get?_push_of_some _ e) s.heap.objs.size (Nat.ne_of_gt lr) (Nat.ne_of_gt ld) _ 0 hS (fun h' tk acc' c' kp hS' hacc=>?_) hn
 show wpAny _ A (load s.heap.objs.size>>=_) _ _ _
 refine wpAny_bind (wpAny_load hS' ?_)
 exact wpAny_pure (hQ h' tk acc' (fun b o e=>kp b o (Nat.ne_of_lt (Heap.lt_size e)) (Heap.get?_push_of_some _ e)) hacc)
end L2
namespace L2
open PySem PySem.Spec PyProof.Rows KS PySem.W
section
variable {X:Cx}
theorem Es(hh:X.A.handled=none):fH X (.builtin "sorted") (fun xs H Q=>∃l ys nss,xs=[V.ref l]/\H l=some (.lst ys)/\ys.length<64/\KeysAre H ys nss/\∀out p,H p=none->qC nss ys out->Q (.ref p) (upd H p (.lst out))):=by
 intro pins s σ H xs us Q I r h
 obtain⟨l,ys,nss,rfl,hl,h64,hK,fin⟩:=h
 obtain⟨u,rfl,ru⟩:=vals1 r
 cases ru
 obtain⟨vs,rv,hcol⟩:=DL.Ka I hl
 exact yE I rv h64 (fun A _ E Q' hq=>hcol A E Q' fun h1 k=>hq h1 s.toks k) hK fin
theorem Kp{pins:List (Addr×Obj)}{σ:St}{H:Hp}{s:Shared}{a:Addr}{kvs:List (List Key×V)}(I:Inv X pins σ H s)(e:H a=some (.dT kvs)):∃(bs:List Addr) (vs:List Value),Paired (fun(x:List Key×V) (b:Addr)=>H b=some (.tup (x.1.map kV))) kvs bs/\Vals (bs.map V.ref) vs /\
  ∀(A:Around),A.handled=none->∀(E:Value->Shared->Prop) (Q':List Value->Shared->Prop),(∀h1 tk,Kept s h1 []->Q' vs { s with heap:=h1,toks:=tk })->wpAny (model X.prog X.w) A (collect (.ref a)) Q' E s:=by
 obtain⟨z,hd,xs,rel,o,es,ep,h1,h2,h3,h4,h5⟩:=(show bI X.prog X.w H s.heap a (.dT kvs) from I.hok a _ e)
 have en:es.size=kvs.length:=by rw[<-Array.length_toList,h4,List.length_map,Paired.length rel]
 have pr:∀{l:List (List Key×V)} {m:List (List Key×Addr×Value)},KT H l m->Paired (fun(x:List Key×V) (b:Addr)=>H b=some (.tup (x.1.map kV))) l (m.map (·.2.1)):=by
  intro l m q
  induction q with
  | nil=>exact .nil
  | cons h t ih=>exact .cons h.2.1 ih
 have vr:∀l:List (List Key×Addr×Value),Vals ((l.map (·.2.1)).map V.ref) (l.map fun x=>Value.ref x.2.1):=by
  intro l
  induction l with
  | nil=>exact .nil
  | cons x r ih=>exact .cons rfl ih
 refine⟨xs.map (·.2.1),xs.map fun x=>Value.ref x.2.1,pr rel,vr xs,fun A hh E Q' hq=>?_⟩
 refine B_ (DR.CZ (es:=es) (ep:=ep) hd) hh ⟨o,h1,h2,h3⟩ (by rw[en];exact z) fun h' tk acc' kp hacc=>?_
 have ea:acc'.toList=(xs.map fun x=>Value.ref x.2.1):=by
  apply List.ext_getElem?
  intro i
  rw[List.getElem?_map,Array.getElem?_toList]
  by_cases hi:i<acc'.size
  ·have q:(es[i]?).map (·.key)=some acc'[i]:=hacc.2 i acc'[i] (Array.getElem?_eq_getElem hi)
   rw[entry_at h4 i] at q
   rw[Array.getElem?_eq_getElem hi,<-q]
   cases xs[i]? <;> rfl
  ·have hx:xs.length<=i:=by rw[<-Paired.length rel,<-en,<-hacc.1];omega
   rw[Array.getElem?_eq_none (by omega),List.getElem?_eq_none hx];rfl
 rw[ea]
 exact hq h' tk fun b o _ q=>kp b o q
noncomputable def IntKeys(kvs:List (List Key×V))(nss:List (List Int)):Prop:=kvs.map (·.1)=nss.map (fun ns=>ns.map Sum.inl)/\∀ns∈nss,ns≠[]
theorem Ai{H:Hp}:∀{kvs:List (List Key×V)} {nss:List (List Int)} {bs:List Addr},IntKeys kvs nss->Paired (fun(x:List Key×V) (b:Addr)=>H b=some (.tup (x.1.map kV))) kvs bs->KeysAre H (bs.map V.ref) nss
 | [],[],_,_,.nil=>.nil
 | [],_::_,_,h,_=>by have:=h.1;simp at this
 | _::_,[],_,h,_=>by have:=h.1;simp at this
 | p::kvs,ns::nss,_,h,.cons q t=>by
  obtain⟨h1,h2⟩:=h
  rw[List.map_cons,List.map_cons] at h1
  injection h1 with e1 e2
  refine .cons ⟨_,rfl,?_,h2 ns List.mem_cons_self⟩ (Ai ⟨e2,fun m hm=>h2 m (List.mem_cons_of_mem _ hm)⟩ t)
  rw[q,e1,List.map_map]
  rfl
theorem Et(hh:X.A.handled=none):fH X (.builtin "sorted") (fun xs H Q=>∃a kvs nss,xs=[V.ref a]/\H a=some (.dT kvs)/\kvs.length<64/\IntKeys kvs nss /\
  ∀bs out p,H p=none->Paired (fun(x:List Key×V) (b:Addr)=>H b=some (.tup (x.1.map kV))) kvs bs->qC nss (bs.map V.ref) out->Q (.ref p) (upd H p (.lst out))):=by
 intro pins s σ H xs us Q I r h
 obtain⟨a,kvs,nss,rfl,ha,h64,hK,fin⟩:=h
 obtain⟨u,rfl,ru⟩:=vals1 r
 cases ru
 obtain⟨bs,vs,pr,rv,hcol⟩:=Kp I ha
 refine yE I rv (by rw[List.length_map,<-Paired.length pr];exact h64) (fun A hA E Q' hq=>hcol A (hA.trans hh) E Q' hq) (Ai hK pr) fun out p hp so=>fin bs out p hp pr so
end
end L2
namespace DL
open PySem PySem.Spec PyProof.Rows L2
noncomputable def rD:D->Option (List D)
 | .lst xs=>some xs
 | _=>none
theorem Hm{d:D}{xs:List D}(h:rD d=some xs):d=.lst xs:=by
 unfold rD at h
 split at h
 ·cases h;rfl
 ·cases h
noncomputable def h_(g:Den):Den:=fun ρ Ω=>(g ρ Ω).bind fun p=>(rD p.1).bind fun ds=>(ni ds).bind fun nss=>(mz nss ds).bind fun z=>some (z,p.2)
noncomputable def VF:Key->Option Int
 | .inl i=>some i
 | .inr _=>none
noncomputable def vV:List Key->Option (List Int)
 | []=>some []
 | k::ks=>(VF k).bind fun i=>(vV ks).bind fun is=>some (i::is)
noncomputable def rF:List (List Key×D)->Option (List (List Int))
 | []=>some []
 | p::r=>(vV p.1).bind fun ns=>if ns=[] then none else(rF r).bind fun nss=>some (ns::nss)
noncomputable def dTO:OS->Option (List (List Key×D))
 | .dT kvs=>some kvs
 | _=>none
theorem vW{o:OS}{kvs:List (List Key×D)}(h:dTO o=some kvs):o=.dT kvs:=by
 unfold dTO at h
 split at h
 ·cases h;rfl
 ·cases h
noncomputable def oR(f:Den):Den:=fun ρ Ω=>(f ρ Ω).bind fun p=>(oK p.1).bind fun n=>(p.2[n]?).bind fun o=>(dTO o).bind fun kvs=>(rF kvs).bind fun nss=>(mz nss (kvs.map fun x=>.tup (x.1.map ofK))).bind fun z=>some (z,p.2)
theorem Aj:∀{ks:List Key} {ns:List Int},vV ks=some ns->ks=ns.map Sum.inl
 | [],_,h=>by cases h;rfl
 | k::ks,_,h=>by
  obtain⟨i,h1,h⟩:=Option.bind_eq_some_iff.mp h
  obtain⟨is,h2,h⟩:=Option.bind_eq_some_iff.mp h
  cases h
  rw[List.map_cons,Aj h2]
  cases k with
  | inl j=>cases h1;rfl
  | inr _=>cases h1
theorem Ak{κ:Type}{f:List Key×κ->List Key×D}:∀{kvs:List (List Key×D)} {nss:List (List Int)},rF kvs=some nss->kvs.map (·.1)=nss.map (fun ns=>ns.map Sum.inl)/\∀ns∈nss,ns≠[]
 | [],_,h=>by cases h;exact⟨rfl,fun _ z=>nomatch z⟩
 | p::r,_,h=>by
  obtain⟨ns,h1,h⟩:=Option.bind_eq_some_iff.mp h
  split at h
  ·cases h
  ·rename_i hne
   obtain⟨nss,h2,h⟩:=Option.bind_eq_some_iff.mp h
   cases h
   obtain⟨e1,e2⟩:=Ak (f:=f) h2
   refine⟨by rw[List.map_cons,List.map_cons,e1,Aj h1],fun m hm=>?_⟩
   rcases List.mem_cons.mp hm with rfl |hm
   ·exact hne
   ·exact e2 m hm
section
variable {X:Cx} {C:Cl} {n:Str} {p pos:Pos} {a b:Expr} {f g:Den} {k:Nat}
theorem uY(hr:Room k X.A)(hg:Gl X n)(hm:X.mg n=none)(hv:bootBuiltins n=some (.builtin "sorted"))(ho:PD X C a g)(hn:n ≠ "__name__":=by decide)(hdb:(n==("__debug__":Str))=false:=by decide)
  (he:starEach [a] X.env=(false,eval a X.env)::starEach [] X.env:=by rfl) (hpl:(backTo pos (starEach [] X.env)).any (·.1)=false:=by rfl):PD X C (.Call (.Name n p) [a] [] pos) (h_ g) :=
 bj (iu (Es hr.hd) hg hm hv (bL ho cY he) hn hdb he hpl) fun σ H Q hw'=>by
  obtain⟨e,Ω,ρ,d,Ω',eH,w,rl,q,kk⟩:=hw'
  obtain⟨⟨d1,Ω1⟩,q1,qa⟩:=Option.bind_eq_some_iff.mp q
  obtain⟨ds,q2,qb⟩:=Option.bind_eq_some_iff.mp qa
  obtain⟨nss,q3,qc⟩:=Option.bind_eq_some_iff.mp qb
  obtain⟨z,q4,qd⟩:=Option.bind_eq_some_iff.mp qc
  clear q qa qb qc
  have e2:=Hm q2
  dsimp only at e2 qd
  subst e2
  cases qd
  obtain⟨⟨h64,hl,one⟩,ez⟩:=lJ q4
  cases ez
  refine⟨e,Ω,ρ,_,_,eH,w,rl,q1,fun v e1 x1 w1 i1=>?_⟩
  rw[Is] at i1
  obtain⟨l,vs,rfl,hF,il⟩:=i1
  have len:=il.length
  refine⟨l,vs,nss,rfl,w1.fh _ _ hF,by omega,yC w1.fh q3 il,fun out p' hp so=>?_⟩
  obtain⟨pm,hpm,rfl,hup⟩:=so
  rw[<-len] at hpm
  refine kk _ (e1.new p' _) (x1.trans (w1.new_ext hp)) (w1.new hp) ?_
  rw[<-vO hl one hpm hup,Is]
  exact⟨p',_,rfl,aJ,(uR il pm fun i hi=>by simpa using hpm.mem_iff.mp hi).ext (w1.new_ext hp)⟩
theorem Am(hr:Room k X.A)(hg:Gl X n)(hm:X.mg n=none)(hv:bootBuiltins n=some (.builtin "sorted"))(ho:PD X C a f)(hn:n ≠ "__name__":=by decide)(hdb:(n==("__debug__":Str))=false:=by decide)
  (he:starEach [a] X.env=(false,eval a X.env)::starEach [] X.env:=by rfl) (hpl:(backTo pos (starEach [] X.env)).any (·.1)=false:=by rfl):PD X C (.Call (.Name n p) [a] [] pos) (oR f) :=
 bj (iu (Et hr.hd) hg hm hv (bL ho cY he) hn hdb he hpl) fun σ H Q hw'=>by
  obtain⟨e,Ω,ρ,d,Ω',eH,w,rl,q,kk⟩:=hw'
  obtain⟨⟨d1,Ω1⟩,q1,qa⟩:=Option.bind_eq_some_iff.mp q
  obtain⟨m,q2,qb⟩:=Option.bind_eq_some_iff.mp qa
  obtain⟨o,q3,qc⟩:=Option.bind_eq_some_iff.mp qb
  obtain⟨kvs,q4,qd⟩:=Option.bind_eq_some_iff.mp qc
  obtain⟨nss,q5,qe⟩:=Option.bind_eq_some_iff.mp qd
  obtain⟨z,q6,qf⟩:=Option.bind_eq_some_iff.mp qe
  clear q qa qb qc qd qe
  have e2:=mD q2
  have e4:=vW q4
  dsimp only at e2 q3 qf
  subst e2 e4
  cases qf
  obtain⟨⟨h64,hl,one⟩,ez⟩:=lJ q6
  cases ez
  refine⟨e,Ω,ρ,_,_,eH,w,rl,q1,fun v e1 x1 w1 i1=>?_⟩
  rw[Is] at i1
  obtain⟨a,hα,rfl⟩:=i1
  obtain⟨vs,h1,h2⟩:=(w1.ob m a _ hα q3).2
  obtain⟨z1,z2⟩:=Ak (κ:=D) (f:=id) q5
  refine⟨a,vs,nss,rfl,h1,?_,⟨by rw[pN h2];exact z1,z2⟩,fun bs out p' hp pr so=>?_⟩
  ·have:=congrArg List.length (pN h2)
   simp only[List.length_map] at this h64
   omega
  obtain⟨e2,eH2,eα2,x2,w2,ft⟩:=w1.tups
  have hp2:e2.H p'=none:=by rw[eH2];exact hp
  have il:IsL X.K e2.α e2.F (kvs.map fun x=>.tup (x.1.map ofK)) (bs.map V.ref):=uO (H:=e1.H) (fun b xs hb=>ft b xs hb) (pN h2).symm pr
  have len:=il.length
  obtain⟨pm,hpm,rfl,hup⟩:=so
  rw[<-len] at hpm
  have z:=kk (.ref p') (e2.new p' _) ((x1.trans x2).trans (w2.new_ext hp2)) (w2.new hp2) (by
   rw[<-vO hl one hpm hup,Is]
   exact⟨p',_,rfl,aJ,(uR il pm fun i hi=>by simpa using hpm.mem_iff.mp hi).ext (w2.new_ext hp2)⟩)
  have eq:∀o,(e2.new p' o).H=upd e1.H p' o:=fun o=>by show upd e2.H p' o=_;rw[eH2]
  rw[<-eq];exact z
end
end DL
namespace DL
open PySem PySem.Spec PyProof.Rows L2
section
variable {X:Cx} {C:Cl} {a b x:Expr} {f g:Den} {ga:bA} {n:Str} {p pos:Pos} {k:Nat}
theorem xF{pins:List (Addr×Obj)}{s:Shared}{σ:St}{e:E4}{q:PyData}(I:Inv X pins σ e.H s)(fh:bC e.F e.H) :
  ∀{ds:List D} {xs:List V} {us:List Value},IsL X.K e.α e.F ds xs->Vals xs us->(ds.all fun d=>SeqAt.shaped (toP d))=true->us.map (eqR s.heap q)=ds.map fun d=>PyData.eqv (toP d) q
 | [],xs,us,i,v,_=>by
  have e:=i.of_nil
  subst e
  cases v
  rfl
 | d::ds,xs,us,i,v,h=>by
  obtain⟨x,r',rfl,i1,i2⟩:=i.of_cons
  cases v with
  | cons rv rs =>
   rw[List.all_cons,Bool.and_eq_true] at h
   obtain⟨bs,rd⟩:=fW I rfl fh d (SeqAt.canLay_of_shaped h.1) i1 rv
   rw[List.map_cons,List.map_cons,Hl rd (SeqAt.canLay_of_shaped h.1),xF I fh i2 rs h.2]
theorem _root_.L2.Room.u65{k:Nat}{A:Around}(r:Room k A):A.units+65<cLine:=by have:=r.un;omega
noncomputable def rG(ds:List D)(x:D):Option D:=if SeqAt.shaped (toP x) && ds.all fun d=>SeqAt.shaped (toP d) then some (.int (ds.countP fun d=>PyData.eqv (toP d) (toP x):Nat)) else none
noncomputable def rH(ds:List D)(x:D):Option D:=if SeqAt.shaped (toP x) && ds.all fun d=>SeqAt.shaped (toP d) then(ds.findIdx? fun d=>PyData.eqv (toP d) (toP x)).bind fun j=>if j<big then some (.int (j:Nat)) else none else none
noncomputable def nu(r:List D->D->Option D)(f g:Den):Den:=fun ρ Ω=>(f ρ Ω).bind fun p=>(rD p.1).bind fun ds=>(g ρ p.2).bind fun q=>(r ds q.1).bind fun z=>some (z,q.2)
theorem rR{α:Type}(l:List α)(h:α->Bool):l.countP h=(l.map h).countP id:=by rw[List.countP_map];rfl
theorem qI{α:Type}(l:List α)(h:α->Bool):l.findIdx? h=(l.map h).findIdx? id:=by rw[List.findIdx?_map];rfl
noncomputable def Eu(X:Cx)(C:Cl)(r:List D->D->Option D):V->List V->Hp->VK->Prop:=fun x vs H Q=>∃e Ω l xs y ds d z,e.H=H/\Wf X.K C e Ω/\x=.ref l/\vs=[y]/\e.H l=some (.lst xs)/\IsL X.K e.α e.F ds xs/\Is X.K e.α e.F d y/\r ds d=some (.int z)/\Q (.int z) H
theorem PJ(hu1:X.A.units+65<cLine):MtR X "list.count" (Eu X C rG):=by
 have hu1:X.A.in1.units+64<cLine:=by show X.A.units+1+64<_;omega
 intro pins s σ H x vs v us Q I rx rv h
 obtain⟨e,Ω,l,xs,y,ds,d,z,rfl,w,rfl,rfl,hl,il,iy,q,kk⟩:=h
 unfold rG at q
 split at q
 ·rename_i hs
  rw[Bool.and_eq_true] at hs
  cases q
  cases rx
  obtain⟨u,rfl,ru⟩:=vals1 rv
  obtain⟨its,r,⟨⟨cls,dd,data,sl⟩,n,ho,hc,_,hd⟩,_⟩:=I.list (SqL.of hl)
  simp only at hc hd
  subst hc hd
  obtain⟨as,rd⟩:=fW I rfl w.fh d (SeqAt.canLay_of_shaped hs.1) iy ru
  obtain⟨_,t2⟩:=xu (A:=X.A.in1) I w.fh rd hs.1 hu1 il r hs.2
  refine call_meets PySem.F.slot_list_count ⟨_,ho,rfl⟩ PySem.F.entry_list_count (PySem.F.args_list_count_2 _ _) (SeqAt.list_countAt l its.toArray n dd sl _ (eqR s.heap (toP d))) ⟨ho,fun y hy=>t2 y (by simpa using hy),?_⟩
  show EP X pins σ Q _ _
  rw[show its.toArray.toList=its from rfl,rR,xF I w.fh il r hs.2,<-rR]
  exact⟨.int _,e.H,I.tok _,⟨_,rfl⟩,kk⟩
 ·cases q
theorem PK(hu1:X.A.units+65<cLine):MtR X "list.index" (Eu X C rH):=by
 have hu1:X.A.in1.units+64<cLine:=by show X.A.units+1+64<_;omega
 intro pins s σ H x vs v us Q I rx rv h
 obtain⟨e,Ω,l,xs,y,ds,d,z,rfl,w,rfl,rfl,hl,il,iy,q,kk⟩:=h
 unfold rH at q
 split at q
 ·rename_i hs
  rw[Bool.and_eq_true] at hs
  obtain⟨j,hj,q⟩:=Option.bind_eq_some_iff.mp q
  split at q
  ·rename_i hjb
   cases q
   cases rx
   obtain⟨u,rfl,ru⟩:=vals1 rv
   obtain⟨its,r,⟨⟨cls,dd,data,sl⟩,n,ho,hc,_,hd⟩,_⟩:=I.list (SqL.of hl)
   simp only at hc hd
   subst hc hd
   obtain⟨as,rd⟩:=fW I rfl w.fh d (SeqAt.canLay_of_shaped hs.1) iy ru
   obtain⟨_,t2⟩:=xu (A:=X.A.in1) I w.fh rd hs.1 hu1 il r hs.2
   rw[qI,<-xF I w.fh il r hs.2,<-qI,List.findIdx?_eq_some_iff_getElem] at hj
   obtain⟨hjl,hit,hno⟩:=hj
   refine call_meets PySem.F.slot_list_index ⟨_,ho,rfl⟩ PySem.F.entry_list_index (PySem.F.args_list_index_2 _ _) (SeqAt.list_indexAt l its.toArray n dd sl _ (eqR s.heap (toP d)) j (by simpa using hjl) (by have:big=100000:=rfl;omega) (by simpa using hit) fun m hm hmj=>?_) ⟨ho,fun y hy=>t2 y (by simpa using hy),?_⟩
   ·have:=hno m hmj
    simpa using this
   ·show EP X pins σ Q _ _
    exact⟨.int _,e.H,I.tok _,⟨_,rfl⟩,kk⟩
  ·cases q
 ·cases q
theorem Kq{ds:List D}{x z:D}(h:rG ds x=some z):∃i,z=.int i:=by
 unfold rG at h
 split at h
 ·cases h;exact⟨_,rfl⟩
 ·cases h
theorem Kr{ds:List D}{x z:D}(h:rH ds x=some z):∃i,z=.int i:=by
 unfold rH at h
 split at h
 ·obtain⟨j,_,h⟩:=Option.bind_eq_some_iff.mp h
  split at h
  ·cases h;exact⟨_,rfl⟩
  ·cases h
 ·cases h
theorem Ao{r:List D->D->Option D}(hz:∀{ds x z},r ds x=some z->∃i,z=.int i){σ:St}{H:Hp}{Q:VK}(hw:tD X.K C (nu r f g) σ H Q):tBM X.K "list" (Eu X C r) (tD X.K C f) (zj (tD X.K C g) zu) σ H Q:=by
 obtain⟨e,Ω,ρ,d,Ω',eH,w,rl,q,kk⟩:=hw
 obtain⟨⟨d1,Ω1⟩,q1,qa⟩:=Option.bind_eq_some_iff.mp q
 obtain⟨ds,q2,qb⟩:=Option.bind_eq_some_iff.mp qa
 obtain⟨⟨d3,Ω3⟩,q3,qc⟩:=Option.bind_eq_some_iff.mp qb
 obtain⟨z,q4,qd⟩:=Option.bind_eq_some_iff.mp qc
 clear q qa qb qc
 have e2:=Hm q2
 dsimp only at e2 q3 q4 qd
 subst e2
 cases qd
 obtain⟨i,rfl⟩:=hz q4
 refine⟨e,Ω,ρ,_,Ω1,eH,w,rl,q1,fun v e1 x1 w1 i1=>?_⟩
 have i1':=i1
 rw[Is] at i1'
 obtain⟨l,vs,rfl,hF,il⟩:=i1'
 refine⟨.inl ⟨rfl,_,SqL.of (w1.fh _ _ hF)⟩,e1,Ω1,ρ,d3,_,rfl,w1,rl.ext x1,q3,fun u e2 x2 w2 i2=>?_⟩
 exact⟨e2,_,l,vs,u,ds,d3,i,rfl,w2,rfl,rfl,w2.fh _ _ (x2.ff _ _ hF),il.ext x2,i2,q4,kk _ e2 (x1.trans x2) w2 (by rw[Is])⟩
theorem PL{ap cp:Pos}(hr:X.A.units+65<cLine)(ha:PD X C a f)(hb:PD X C b g)
  (hbase:attributeBase a "count" X.env (eval a X.env)=eval a X.env:=by rfl) (hline:(ap.endLine==cp.line)=true:=by rfl) (hs1:starEach [b] X.env=(false,eval b X.env)::starEach [] X.env:=by rfl)
  (hfew:((backTo cp (starEach [b] X.env)).all (fun x=>!x.1) && (backToKw cp (keywordEach [] X.env)).all (fun x=>x.1.isSome) && decide ([b].length+([]:List Keyword).length+(if([]:List Keyword).isEmpty then 0 else 1)<30))=true:=by rfl)
  (hpl:(backTo cp (starEach [] X.env)).any (·.1)=false:=by rfl):PD X C (.Call (.Attribute a "count" ap) [b] [] cp) (nu rG f g) :=
 bj (vy PySem.F.plainAttrs_list PySem.F.slot_list_count PySem.F.type_list_count (PJ (C:=C) hr) ha (bL hb cY hs1) hbase hfew hline hs1 hpl) fun σ H Q hw'=>Ao Kq hw'
theorem PN{ap cp:Pos}(hr:X.A.units+65<cLine)(ha:PD X C a f)(hb:PD X C b g)
  (hbase:attributeBase a "index" X.env (eval a X.env)=eval a X.env:=by rfl) (hline:(ap.endLine==cp.line)=true:=by rfl) (hs1:starEach [b] X.env=(false,eval b X.env)::starEach [] X.env:=by rfl)
  (hfew:((backTo cp (starEach [b] X.env)).all (fun x=>!x.1) && (backToKw cp (keywordEach [] X.env)).all (fun x=>x.1.isSome) && decide ([b].length+([]:List Keyword).length+(if([]:List Keyword).isEmpty then 0 else 1)<30))=true:=by rfl)
  (hpl:(backTo cp (starEach [] X.env)).any (·.1)=false:=by rfl):PD X C (.Call (.Attribute a "index" ap) [b] [] cp) (nu rH f g) :=
 bj (vy PySem.F.plainAttrs_list PySem.F.slot_list_index PySem.F.type_list_index (PK (C:=C) hr) ha (bL hb cY hs1) hbase hfew hline hs1 hpl) fun σ H Q hw'=>Ao Kr hw'
noncomputable def jQ(neg:Bool)(f g:Den):Den:=fun ρ Ω=>(f ρ Ω).bind fun p=>(oK p.1).bind fun n=>(g ρ p.2).bind fun q=>(q.2[n]?).bind fun o=>(mR o).bind fun xs=>(eqD neg (.lst xs) q.1).bind fun z=>some (z,q.2)
noncomputable def Ks(X:Cx)(C:Cl)(neg:Bool):R2:=fun x y H Q=>∃e Ω l vs xs d z,e.H=H/\Wf X.K C e Ω/\x=.ref l/\e.H l=some (.lst vs)/\IsL X.K e.α e.F xs vs/\Is X.K e.α e.F d y/\eqD neg (.lst xs) d=some (.bl z)/\Q (.bl z) H
theorem ug{neg:Bool}{p q z:D}(h:eqD neg p q=some z):SeqAt.shaped (toP p)=true/\SeqAt.shaped (toP q)=true/\z=.bl (if neg then !PyData.eqv (toP p) (toP q) else PyData.eqv (toP p) (toP q)):=by
 unfold eqD at h
 split at h
 ·rename_i hs
  rw[Bool.and_eq_true] at hs
  cases h
  exact⟨hs.1,hs.2,rfl⟩
 ·cases h
theorem yF{pins:List (Addr×Obj)}{s:Shared}{σ:St}{e:E4}(I:Inv X pins σ e.H s)(fh:bC e.F e.H){l:Addr}{vs:List V}{xs:List D}(hl:e.H l=some (.lst vs))(il:IsL X.K e.α e.F xs vs)(hc:(toP (.lst xs)).canLay0=true):∃as,Reads s.heap (.ref l) (toP (.lst xs)) as:=by
 obtain⟨_,its,n,rv,e1⟩:=(show bI X.prog X.w e.H s.heap l (.lst vs) from I.hok l _ hl)
 rw[toP] at hc ⊢
 obtain⟨as,z⟩:=pC I rfl fh xs (by simpa [PyData.canLay0] using hc) il rv
 exact⟨_,.list e1 rfl rfl (by simpa using z)⟩
theorem SQ(hu:X.A.units+64<cLine):OpR X (compareOp .Eq) (Ks X C false):=by
 intro pins s σ H x y v u Q I rx ry h
 obtain⟨e,Ω,l,vs,xs,d,z,rfl,w,rfl,hl,il,iy,q,kk⟩:=h
 obtain⟨s1,s2,ez⟩:=ug q
 cases ez
 cases rx
 obtain⟨as,r1⟩:=yF I w.fh hl il (SeqAt.canLay_of_shaped s1)
 obtain⟨bs,r2⟩:=fW I rfl w.fh d (SeqAt.canLay_of_shaped s2) iy ry
 exact eq_dataH r1 r2 s1 s2 hu ⟨.bl _,e.H,I,rfl,kk⟩
theorem SX(hu:X.A.units+64<cLine):OpR X (compareOp .NotEq) (Ks X C true):=by
 intro pins s σ H x y v u Q I rx ry h
 obtain⟨e,Ω,l,vs,xs,d,z,rfl,w,rfl,hl,il,iy,q,kk⟩:=h
 obtain⟨s1,s2,ez⟩:=ug q
 cases ez
 cases rx
 obtain⟨as,r1⟩:=yF I w.fh hl il (SeqAt.canLay_of_shaped s1)
 obtain⟨bs,r2⟩:=fW I rfl w.fh d (SeqAt.canLay_of_shaped s2) iy ry
 exact ne_dataH r1 r2 s1 s2 hu ⟨.bl _,e.H,I,rfl,kk⟩
theorem Aq{neg:Bool}{σ:St}{H:Hp}{Q:VK}(hw:tD X.K C (jQ neg f g) σ H Q):tOp (Ks X C neg) (tD X.K C f) (tD X.K C g) σ H Q:=by
 obtain⟨e,Ω,ρ,d,Ω',eH,w,rl,q,kk⟩:=hw
 obtain⟨⟨d1,Ω1⟩,q1,qa⟩:=Option.bind_eq_some_iff.mp q
 obtain⟨m,q2,qb⟩:=Option.bind_eq_some_iff.mp qa
 obtain⟨⟨d3,Ω3⟩,q3,qc⟩:=Option.bind_eq_some_iff.mp qb
 obtain⟨o,q4,qd⟩:=Option.bind_eq_some_iff.mp qc
 obtain⟨xs,q5,qe⟩:=Option.bind_eq_some_iff.mp qd
 obtain⟨z,q6,qf⟩:=Option.bind_eq_some_iff.mp qe
 clear q qa qb qc qd qe
 have e2:=mD q2
 have e5:=oO q5
 dsimp only at e2 q3 q4 q6 qf
 subst e2 e5
 cases qf
 obtain⟨_,_,ez⟩:=ug q6
 subst ez
 refine⟨e,Ω,ρ,_,Ω1,eH,w,rl,q1,fun v e1 x1 w1 i1=>?_⟩
 refine⟨e1,Ω1,ρ,d3,_,rfl,w1,rl.ext x1,q3,fun u e2 x2 w2 i2=>?_⟩
 have i1':=i1.ext x2
 rw[Is] at i1'
 obtain⟨l,hα,rfl⟩:=i1'
 obtain⟨vs,hH,il⟩:=w2.mls hα q4
 exact⟨e2,_,l,vs,xs,d3,_,rfl,w2,rfl,hH,il,i2,q6,kk _ e2 (x1.trans x2) w2 (by rw[Is])⟩
theorem Dj(hu:X.A.units+64<cLine)(ha:PD X C a f)(hb:PD X C b g)(hm:behindInMarks .Eq b=false:=by first |exact nobehind _ (by decide) (by decide) |rfl):PDT X C (.Compare a [.Eq] [b] pos) (gT (jQ false f g)) :=
 nY (wI (SQ (C:=C) hu) ha hb hm) fun _ _ _ h=>Aq (nJ h)
theorem PQ(hu:X.A.units+64<cLine)(ha:PD X C a f)(hb:PD X C b g)(hm:behindInMarks .NotEq b=false:=by first |exact nobehind _ (by decide) (by decide) |rfl):PDT X C (.Compare a [.NotEq] [b] pos) (gT (jQ true f g)) :=
 nY (wI (SX (C:=C) hu) ha hb hm) fun _ _ _ h=>Aq (nJ h)
end
end DL
namespace DL
open PySem PySem.Spec PyProof.Rows L2
noncomputable def jH(n:Nat)(xs:List D)(β:dG)(p:bV)(g:Den):List D->List Sl->List OS->Option (List D×List OS)
 | [],_,Ω=>grd (Ω[n]? = some (.mls xs)) (some ([],Ω))
 | d::ds,ρ,Ω=>grd (Ω[n]? = some (.mls xs)) (match β d ρ with
  | some ρ1=>match p ρ1 Ω with
   | some (true,Ω1)=>match g ρ1 Ω1 with
    | some (y,Ω2)=>match jH n xs β p g ds ρ1 Ω2 with
     | some (ys,Ω3)=>some (y::ys,Ω3)
     | none=>none
    | none=>none
   | some (false,Ω1)=>jH n xs β p g ds ρ1 Ω1
   | none=>none
  | none=>none)
noncomputable def qJ(μ:List (Option Nat))(f:Den)(β:dG)(p:bV)(g:Den):Den:=fun ρ Ω=>(f ρ Ω).bind fun q=>(oK q.1).bind fun n=>(q.2[n]?).bind fun o=>(mR o).bind fun xs =>
 if xs.length<=big then(jH n xs β p g xs (cL μ ρ) q.2).bind fun r=>some (.lst r.1,r.2) else none
section
variable {K:PySem.W.Frag} {C:Cl} {β:dG} {p:bV} {g:Den} {μ:List (Option Nat)}
structure CIM(nn:Nat)(K:PySem.W.Frag)(C:Cl)(β:dG)(p:bV)(g:Den)(ds:List D)(a:Addr)(ysAll:List D)(Ωf:List OS)(e':E4)(i:Nat)(σ':St)(e2:E4)(Ω2:List OS)(ρ2:List Sl)(vs:List V)(ys0 ys1:List D):Prop where
 w:Wf K C e2 Ω2
 r:RelE K e2 σ' ρ2
 no:∀(j:Nat) (es:List D),ρ2[j]? ≠ some (.own es)
 ha:e2.H a=some (.lst vs)
 hF:e2.F a=none
 hA:¬e2.A a
 iy:IsL K e2.α e2.F ys0 vs
 x:Ext e' e2
 q:jH nn ds β p g (ds.drop i) ρ2 Ω2=some (ys1,Ωf)
 ey:ys0++ys1=ysAll
 hy:ys0.length<=i
noncomputable def Mr(nn:Nat)(K:PySem.W.Frag)(C:Cl)(β:dG)(p:bV)(g:Den)(ds:List D)(a:Addr)(ysAll:List D)(Ωf:List OS)(e':E4)(i:Nat)(σ':St)(H':Hp):Prop :=
 ∃e2 Ω2 ρ2 vs ys0 ys1,e2.H=H'/\CIM nn K C β p g ds a ysAll Ωf e' i σ' e2 Ω2 ρ2 vs ys0 ys1
theorem Ho{nn:Nat}{f:Den}{σ:St}{H:Hp}{Q:VK}{e:E4}{Ω Ω1 Ωf:List OS}{ρ:List Sl}{ds ysAll:List D}(eH:e.H=H)(w:Wf K C e Ω)(rl:RelE K e σ ρ)(q1:f ρ Ω=some (.obj nn,Ω1))(q0:Ω1[nn]? = some (.mls ds))(hbig:ds.length<=big)(q2:jH nn ds β p g ds (cL μ ρ) Ω1=some (ysAll,Ωf))
  (fin:∀a vs e2,Ext e e2->Wf K C e2 Ωf->e2.H a=some (.lst vs)->e2.F a=none->¬e2.A a->e.H a=none->IsL K e2.α e2.F ysAll vs->Q (.ref a) e2.H):zp μ (LK K (tD K C f)) (tDG K C β) (tDT K C p) (tD K C g) σ H Q:=by
 refine⟨e,Ω,ρ,_,Ω1,eH,w,rl,q1,fun v e' x' w' i'=>?_⟩
 rw[Is] at i'
 obtain⟨ax,hα,rfl⟩:=i'
 obtain⟨vs0,hH0,_⟩:=w'.mls hα q0
 refine⟨ax,rfl,⟨vs0,SqL.of hH0⟩,fun a ha=>?_⟩
 refine⟨fun i m σ' H'=>m=ds.length-i/\i<=ds.length/\Mr nn K C β p g ds a ysAll Ωf e' i σ' H',⟨ds.length,by simp,Nat.zero_le _,⟨e'.α,e'.F,e'.A,upd e'.H a (.lst [])⟩,Ω1,cL μ ρ,[],[],ysAll,rfl,⟨?_,?_,fun j es=>jV,aJ,w'.nF ha,fun z=>(w'.ah a z).1 ha,.nil,?_,by simpa using q2,rfl,Nat.zero_le _⟩⟩,?_⟩
 ·refine⟨fun b u hb=>?_,w'.fa,fun b hb=>?_,w'.ol,w'.nd,fun n b u h1 h2=>⟨(w'.ob n b u h1 h2).1,(w'.ob n b u h1 h2).2.keep (fun z hz=>?_) (bC.refl _) ⟨[],by simp⟩⟩⟩
  ·show upd e'.H a _ b=some u
   rw[aC (aM (w'.fh b u hb) ha)];exact w'.fh b u hb
  ·show upd e'.H a _ b≠none/\∀xs,upd e'.H a _ b≠some (.tup xs)
   rw[aC (fun z=>(w'.ah b hb).1 (by rw[z];exact ha))];exact w'.ah b hb
  ·show upd e'.H a _ b=some z
   rw[aC (aM hz ha)];exact hz
 ·have r1:=yq (μ:=μ) (rl.ext x')
  exact⟨r1.len,r1.dat,fun j es h=>absurd h jV,r1.sep⟩
 ·refine⟨fun b o' u hb=>by show upd e'.H a _ b=some (.frz o' u);rw[aC (aM hb ha)];exact hb,fun b u hb _=>?_,fun b u hb=>⟨u,?_⟩,bC.refl _,fun b u hb=>.inl hb,fun b hb=>.inl hb,fun b hb=>hb,[],by simp⟩
  ·show upd e'.H a _ b=some u
   rw[aC (aM hb ha)];exact hb
  ·show upd e'.H a _ b=some u
   rw[aC (aM hb ha)];exact hb
 ·rintro i m σ2 H2 ⟨rfl,hil,e2,Ω2,ρ2,vs,ys0,ys1,rfl,⟨w2,r2,no2,ha2,hF2,hA2,iy,x2,q3,ey,hy⟩⟩
  have al:e2.α[nn]? = some ax:=nQ (K:=K) x2 hα
  by_cases hlt:i<ds.length
  ·have hd:ds[i]? = some ds[i]:=List.getElem?_eq_getElem hlt
   have edrop:ds.drop i=ds[i]::ds.drop (i+1):=List.drop_eq_getElem_cons hlt
   rw[edrop] at q3
   unfold jH at q3
   obtain⟨hgd,q3⟩:=lJ q3
   obtain⟨us,hU,iU⟩:=w2.mls al hgd
   obtain⟨u0,hu0,ix⟩:=iU.get hd
   refine .inr ⟨⟨us,u0,SqL.of hU,hu0⟩,fun σ' H'=>i+1<=ds.length/\Mr nn K C β p g ds a ysAll Ωf e' (i+1) σ' H',fun σ' H' hN=>⟨ds.length-(i+1),by omega,rfl,hN⟩,fun x H' hyl=>?_⟩
   obtain⟨rfl,hx⟩:=hyl
   have hx':=hx us (SqL.of hU)
   rw[hu0] at hx'
   cases hx'
   cases q4:β ds[i] ρ2 with
   | none=>rw[q4] at q3;cases q3
   | some ρ3 =>
    rw[q4] at q3
    dsimp only at q3
    refine⟨e2,Ω2,ρ2,_,ρ3,rfl,w2,r2,ix,q4,fun σ3 r3 o3=>?_⟩
    have no3:∀(j:Nat) (es:List D),ρ3[j]? ≠ some (.own es):=fun j es h=>no2 j es (o3 j es h).1
    cases q5:p ρ3 Ω2 with
    | none=>rw[q5] at q3;cases q3
    | some p5 =>
     obtain⟨b,Ω3⟩:=p5
     rw[q5] at q3
     refine⟨e2,Ω2,ρ3,b,Ω3,rfl,w2,r3,q5,fun e3 x3 w3=>?_⟩
     cases b with
     | false =>
      refine Jx ?_
      obtain⟨z1,z2,z3⟩:=x3.keepOwn ha2 hF2 hA2
      exact⟨hlt,e3,Ω3,ρ3,vs,ys0,ys1,rfl,⟨w3,r3.ext x3,no3,z1,z2,z3,iy.ext x3,x2.trans x3,q3,ey,Nat.le_succ_of_le hy⟩⟩
     | true =>
      refine Jy ?_
      dsimp only at q3
      cases q6:g ρ3 Ω3 with
      | none=>rw[q6] at q3;cases q3
      | some p6 =>
       obtain⟨y,Ω4⟩:=p6
       rw[q6] at q3
       dsimp only at q3
       cases q7:jH nn ds β p g (ds.drop (i+1)) ρ3 Ω4 with
       | none=>rw[q7] at q3;cases q3
       | some p7 =>
        obtain⟨ys2,Ω5⟩:=p7
        rw[q7] at q3
        cases q3
        refine⟨e3,Ω3,ρ3,y,Ω4,rfl,w3,r3.ext x3,q6,fun v e4 x4 w4 i4=>?_⟩
        obtain⟨z1,z2,z3⟩:=(x3.trans x4).keepOwn ha2 hF2 hA2
        have x24:=x3.trans x4
        refine⟨vs,z1,by rw[<-iy.length];exact nZ (by omega),hlt,⟨e4.α,e4.F,e4.A,upd e4.H a (.lst (vs++[v]))⟩,Ω4,ρ3,_,ys0++[y],ys2,rfl,⟨⟨fun b u hb=>?_,w4.fa,fun b hb=>?_,w4.ol,w4.nd,fun n b u h1 h2=>⟨(w4.ob n b u h1 h2).1,(w4.ob n b u h1 h2).2.keep (fun z hz=>?_) (bC.refl _) ⟨[],by simp⟩⟩⟩,
         ⟨((r3.ext x3).ext x4).len,((r3.ext x3).ext x4).dat,fun j es h=>absurd h (no3 j es),((r3.ext x3).ext x4).sep⟩,no3,aJ,z2,z3,(iy.ext x24).append (.cons i4 .nil),⟨fun b o' u hb=>by show upd e4.H a _ b=some (.frz o' u);rw[aC (aM hb ha)];exact(x2.trans x24).fz b o' u hb,fun b u hb hn=>?_,fun b u hb=>?_,(x2.trans x24).ff,(x2.trans x24).fn,(x2.trans x24).an,(x2.trans x24).aa,(x2.trans x24).al⟩,q7,by rw[<-ey];simp,by simp;omega⟩⟩
        ·show upd e4.H a _ b=some u
         rw[aC (fun z=>by subst z;rw[z2] at hb;cases hb)];exact w4.fh b u hb
        ·show upd e4.H a _ b≠none/\∀xs,upd e4.H a _ b≠some (.tup xs)
         rw[aC (fun z=>z3 (by rw[<-z];exact hb))];exact w4.ah b hb
        ·show upd e4.H a _ b=some z
         rw[aC (fun y=>z3 (by rw[<-y];exact(w4.ob n b u h1 h2).1))];exact hz
        ·show upd e4.H a _ b=some u
         rw[aC (aM hb ha)];exact(x2.trans x24).hk b u hb hn
        ·obtain⟨u',z⟩:=(x2.trans x24).dm b u hb
         exact⟨u',by show upd e4.H a _ b=some u';rw[aC (aM hb ha)];exact z⟩
  ·have ei:i=ds.length:=by omega
   subst ei
   rw[List.drop_length] at q3
   unfold jH at q3
   obtain⟨hgd,q3⟩:=lJ q3
   cases q3
   rw[List.append_nil] at ey
   subst ey
   obtain⟨us,hU,iU⟩:=w2.mls al hgd
   refine .inl ⟨⟨us,SqL.of hU,by rw[<-iU.length];exact Nat.le_refl _⟩,?_⟩
   exact fin a vs e2 (x'.trans x2) w2 ha2 hF2 hA2 (x'.back ha) iy
end
section
variable {X:Cx} {C:Cl} {tg iter elt:Expr} {ifs:List Expr} {scope:Scope} {pos:Pos} {N:List Str} {μ:List (Option Nat)} {f:Den} {β:dG} {p:bV} {g:Den}
theorem Ar(hc:X.calm=true)(ok:CompOk X N scope μ)(hi:PD X C iter f)
  (hg:∀fp A s H,PDG (cj X N scope (clos X.env.cells scope.names []) A fp s H) C tg β) (ht:∀fp A s H,zK (cj X N scope (clos X.env.cells scope.names []) A fp s H) C ifs p) (he:∀fp A s H,PD (cj X N scope (clos X.env.cells scope.names []) A fp s H) C elt g)
  (hs:∀x,foldedSetIterable iter X.env x=pure x:=by intro _;rfl):PD X C (.ListComp elt [⟨tg,iter,ifs,0⟩] scope pos) (qJ μ f β p g) :=
 bj (Cy (g:=tDG X.K C β) (tt:=tDT X.K C p) (te:=tD X.K C g) hc ok.cell ok.kind ok.names ok.free ok.has ok.mu (Cm hi) hg ht he hs) fun σ H Q hw=>by
  obtain⟨e,Ω,ρ,d,Ωf,eH,w,rl,q,kk⟩:=hw
  obtain⟨⟨d1,Ω1⟩,q1,qa⟩:=Option.bind_eq_some_iff.mp q
  obtain⟨n,q2,qb⟩:=Option.bind_eq_some_iff.mp qa
  obtain⟨o,q3,qc⟩:=Option.bind_eq_some_iff.mp qb
  obtain⟨xs,q4,qd⟩:=Option.bind_eq_some_iff.mp qc
  clear q qa qb qc
  have e2:=mD q2
  have e4:=oO q4
  dsimp only at e2 q3 qd
  subst e2 e4
  split at qd
  ·rename_i hbig
   obtain⟨⟨ys,Ω5⟩,q5,qe⟩:=Option.bind_eq_some_iff.mp qd
   cases qe
   refine Ho eH w rl q1 q3 hbig q5 fun a vs e2 x2 w2 ha2 hF2 hA2 ha iy=>?_
   have w3:=w2.bare hF2 hA2
   have z:=kk (.ref a) ((e2.bare a).new a (.lst vs)) ((x2.bare ha).trans (w3.new_ext (if_pos rfl))) (w3.new (if_pos rfl)) (by
    rw[Is]
    exact⟨a,vs,rfl,aJ,IsL.ext (w3.new_ext (if_pos rfl)) iy⟩)
   have eq:((e2.bare a).new a (.lst vs)).H=e2.H:=Km ha2
   rw[<-eq];exact z
  ·cases qd
end
end DL
namespace DR
open PySem PySem.Spec PyProof.Rows
section
variable {κ:Type} [DecidableEq κ] {prog:Program} {w:World} {knd:HeapKind prog w κ} {A:Around} {E:Value->Shared->Prop} {s:Shared}
theorem Ku{d a:Addr}{xs:List (κ×Addr×Value)}{k:κ}{Q:Option DictEntry->Shared->Prop}(hu:knd.room A)(hkey:knd.is s.heap k a)(hm:s.heap.DictOfH knd d xs)(hp:atKey xs k=none)
  (hnone:Q none { s with toks:=s.toks+knd.draws k }):wpAny (model prog w) A (Builtin.Dict.takeOut d (.ref a)) Q E s:=by
 obtain⟨o,es,ep,ho,hc,hd,he,his,hn⟩:=hm
 unfold Builtin.Dict.takeOut
 try with_reducible refine wpAny_holding ?_
 refine wpAny_bind (knd.pyHash hu hkey (wpAny_bind (wpAny_dictFind_heap (s:={ s with toks:=s.toks+knd.draws k }) hu hkey ho hd he his hn (fun _=>?_) (fun j p' hj=>?_))))
 ·exact wpAny_pure hnone
 ·rw[atKey_of_get hn hj] at hp;cases hp
theorem Hq{d a:Addr}{dv:Value}{xs:List (κ×Addr×Value)}{k:κ}{R:Result->Shared->Prop}(hsys:(d==sysModules)=false)(hu:knd.room A.in1)(hkey:knd.is s.heap k a)(hm:s.heap.DictOfH knd d xs)(hsz:xs.length<=sizeLine)
  (h:∀p h',atKey xs k=some p->h'.DictOfH knd d (rm xs k)->Heap.SameBut d s.heap h'->R (.ok (.ret p.2)) { s with heap:=h',toks:=s.toks+knd.draws k })
  (h0:atKey xs k=none->∀tk,R (.ok (.ret dv)) { s with toks:=tk }) :
  wpAny (model prog w) A.in1 (Builtin.«dict.pop» ⟨[.ref d,.ref a,dv],[]⟩) (fun fin s'=>match fin with |.done f=>R (.ok f) s' |.again c'=>c'.quiet=true/\codeAny (model prog w) A c' R s') (fun e s'=>R (.error e) s') s:=by
 obtain⟨o,es,ep,ho,hc,hd,he,his,hn⟩:=id hm
 unfold Builtin.«dict.pop»;refine wpAny_bind ?_
 unfold Builtin.Dict.keyAndDefault;refine wpAny_bind (wpAny_notOrdered_dict hm.typeIs ?_)
 show wpAny _ _ (pure (d,Value.ref a,some dv)) _ _ s;refine wpAny_pure ?_
 dsimp only;rw[if_neg (show ¬((keyPart (Value.ref a)).isSome=true) from by simp[keyPart])]
 refine wpAny_bind (wpAny_dictEntries ho hd ?_);refine wpAny_bind (wpAny_pure ?_)
 have miss:∀{s':Shared} {Q:Unit->Shared->Prop} {E':Value->Shared->Prop},Q () s'->wpAny (model prog w) A.in1 (Builtin.Dict.missedRemoval d (.ref a)) Q E' s':=fun {s' Q E'} q=>by
  unfold Builtin.Dict.missedRemoval
  rw[if_neg (by rw[hsys];exact Bool.false_ne_true)]
  exact wpAny_pure q
 cases ne:es.isEmpty with
 | true =>
  have e2:xs=[]:=by
   have z:es = #[]:=by simpa using ne
   rw[z] at he
   cases xs with
   | nil=>rfl
   | cons x r=>simp at he
  have hp:atKey xs k=none:=by rw[e2];rfl
  simp only[if_true]
  refine wpAny_bind (wpAny_rule (wpAny_bind (wpAny_pure ?_)))
  simp only[Option.isNone_none,if_true]
  refine wpAny_bind (miss ?_)
  refine wpAny_bind (wpAny_rule (wpAny_pure ?_))
  exact h0 hp s.toks
 | false =>
  simp only[Bool.false_eq_true,if_false]
  cases hp:atKey xs k with
  | none =>
   refine wpAny_bind (Ku hu hkey hm hp ?_)
   simp only[Option.isNone_none,if_true]
   refine wpAny_bind (miss ?_)
   refine wpAny_bind (wpAny_rule (wpAny_pure ?_))
   exact h0 hp _
  | some p =>
   refine wpAny_bind (zQ hu hkey hm hp (fun e h' hv hm' hs'=>?_) hsz)
   simp only[Option.isNone_some,Bool.false_eq_true,if_false];refine wpAny_bind (wpAny_letGo (wpAny_pure ?_))
   show R (.ok (.ret e.val)) _
   rw[hv];exact h p h' hp hm' hs'
end
end DR
namespace L2
open PySem PySem.Spec PyProof.Rows
section
variable {X:Cx} {pins:List (Addr×Obj)} {σ:St} {H:Hp} {s:Shared} {a b:Addr} {A:Around} {E:Value->Shared->Prop}
theorem PX{kvs:List (List Key×V)}{k:List Key}{dv:Value}{Q:Value->Shared->Prop}(hu:A.units+1<cLine)(I:Inv X pins σ H s)(e:H a=some (.dT kvs))(eb:H b=some (.tup (k.map kV)))
  (h:∀v w' s',cW kvs k=some v->Inv X pins σ (upd H a (.dT (eY kvs k))) s'->RelV v w'->Q w' s') (h0:cW kvs k=none->∀s',Inv X pins σ H s'->Q dv s'):wpAny (model X.prog X.w) A (call (.builtin "dict.pop") [.ref a,.ref b,dv]) Q E s:=by
 obtain⟨z,hd,xs,rel,dd⟩:=zm I.hok e
 have hz:xs.length<=sizeLine:=by rw[<-Paired.length rel];exact z
 have hl:(eY kvs k).length<=sizeLine:=Nat.le_trans (uJ kvs k) z
 refine call_meetsIn PySem.F.slot_dict_pop dd.typeIs PySem.F.entry_dict_pop (PySem.F.args_dict_pop_3 _ _ _) (S:=fun A' R s'=>A'=A/\s'=s/\R=wants Q E) (fun A' R s' hw=>?_) ⟨rfl,rfl,rfl⟩
 obtain⟨rfl,rfl,rfl⟩:=hw
 refine DR.Hq (knd:=tupleKind (cA X.prog X.w)) hd (tupleKind_room_in1 hu) (j_ I.hok eb) dd hz (fun p h' hp dd' hs=>?_) fun hp tk=>?_
 ·have ov:=rel.val k
  rw[hp] at ov
  cases l:cW kvs k with
  | none=>rw[l] at ov;exact ov.elim
  | some v =>
   rw[l] at ov
   obtain⟨q,es,ep,hq,h2,h3,h4,_,h5⟩:=dd'
   refine h v p.2 _ l (nG I (by rw[e];exact True.intro) hs ⟨q,hq⟩ ⟨hl,hd,_,(rel.out k).keeps fun c ys ec=>?_,q,es,ep,hq,h2,h3,h4,h5⟩) ov
   rw[aC (zg ec e (fun z=>nomatch z))]
   exact ec
 ·have ov:=rel.val k
  rw[hp] at ov
  cases l:cW kvs k with
  | some v=>rw[l] at ov;exact ov.elim
  | none=>exact h0 l _ (I.tok _)
end
noncomputable def Ur(td ty tx:TE):TE:=fun σ H Q=>td σ H fun x H1=>∃a,x=.ref a/\IsD H1 a/\ty σ H1 fun y H2=>tx σ H2 fun z H3=>∃kvs k b,H3 a=some (.dT kvs)/\y=.ref b/\H3 b=some (.tup (k.map kV)) /\
 (∀v,cW kvs k=some v->Q v (upd H3 a (.dT (eY kvs k))))/\(cW kvs k=none->Q z H3)
section
variable {X:Cx} {o e f a b:Expr} {apos cpos pos p1 p2 p3 p4:Pos} {td ty tx ta tb:TE} {z y:Str} {kk kl:Nat}
theorem P_(hu:X.A.units+1<cLine)(ho:PE X o td)(he:PE X e ty)(hf:PE X f tx)(m:M2 X o "pop" apos e f cpos):PE X (.Call (.Attribute o "pop" apos) [e,f] [] cpos) (Ur td ty tx):=by
 intro pins s σ H Q I h
 refine wpAny_Call_method m.base m.few m.line PySem.F.plainAttrs_dict PySem.F.slot_dict_pop PySem.F.type_dict_pop (thn (ho pins s σ H _ I h) fun u s1 hw'=>?_)
 obtain⟨x,H1,I1,rx,a,ex,d,q1⟩:=hw'
 subst ex;obtain rfl:u=Value.ref a:=rx
 obtain⟨t1,t2,_⟩:=vz I1 d
 refine⟨t1,t2,?_⟩;rw[m.trees]
 refine Calls.callWith_builtin rfl (Calls.evalArgs_plain (Calls.spliced_cons (thn (he pins s1 σ H1 _ I1 q1) fun iv s2 hy=>?_)))
 obtain⟨y,H2,I2,ry,q2⟩:=hy
 refine Calls.spliced_cons (thn (hf pins s2 σ H2 _ I2 q2) fun fv s3 hz=>Calls.spliced_nil ?_)
 obtain⟨z,H3,I3,rz,kvs,k,b,ea,ey,eb,q3,q4⟩:=hz
 subst ey
 obtain rfl:iv=Value.ref b:=ry
 exact PX hu I3 ea eb (fun v w' s4 l I4 rw'=>⟨v,_,I4,rw',q3 v l⟩) fun l s4 I4=>⟨z,H3,I4,rz,q4 l⟩
noncomputable def S_(ta tb:TE):TE:=fun σ H Q=>ta σ H fun x H1=>∃i:Int,x=.int i/\i.natAbs.log2<1920/\(Str.ofString (toString i)).length<=1000/\tb σ H1 fun x2 H2=>∃j:Int,x2=.int j/\j.natAbs.log2<1920/\(Str.ofString (toString j)).length<=1000/\∀t,Q (.str t) H2
theorem Tc(ha:PE X a ta)(hb:PE X b tb)(hz:z.length<=1000:=by decide)(hy:y.length<=1000:=by decide)(hs:evalEach [.FormattedValue a (-1) none p1,.Constant (.str z) kk p2,.FormattedValue b (-1) none p3,.Constant (.str y) kl p4] X.env=[eval (.FormattedValue a (-1) none p1) X.env,eval (.Constant (.str z) kk p2) X.env,eval (.FormattedValue b (-1) none p3) X.env,eval (.Constant (.str y) kl p4) X.env]:=by rfl) :
  PE X (.JoinedStr [.FormattedValue a (-1) none p1,.Constant (.str z) kk p2,.FormattedValue b (-1) none p3,.Constant (.str y) kl p4] pos) (S_ ta tb):=by
 intro pins s σ H Q I h
 have len:∀p q:Str,(p++q).length=p.length+q.length:=fun p q=>strLen_append p q
 have sl:(100000:Nat)<=sizeLine:=by rw[sizeLine_eq];decide
 refine PySem.wpAny_JoinedStr ?_
 rw[hs]
 refine PySem.wpAny_FormattedValue_plain (thn (ha pins s σ H _ I h) fun u s1 hw'=>?_)
 obtain⟨x,H1,I1,r1,i,ex,hi,li,q1⟩:=hw'
 subst ex
 obtain⟨t,rfl⟩:=r1
 refine wpAny_formatField_int hi ⟨_,_,rfl,?_,?_⟩
 ·rw[PySem.W.KT.empty_app];exact Nat.le_trans li (by omega)
 rw[PySem.W.KT.empty_app]
 refine wpAny_mono (pZ (X:=X) (x:=z) (j:=kk) (pos:=p2) pins _ σ H1 (fun v H'=>v=.str z/\H'=H1) (I1.tok _) ⟨rfl,rfl⟩) (fun u s2 ⟨y',H2,I2,r2,e2,e3⟩=>?_) fun _ _ e=>e
 subst e2 e3
 obtain⟨t2,rfl⟩:=r2
 refine⟨z,t2,rfl,?_,?_⟩
 ·rw[len];omega
 refine PySem.wpAny_FormattedValue_plain (thn (hb pins s2 σ H2 _ I2 q1) fun u s3 hw'=>?_)
 obtain⟨x2,H3,I3,r3,j,ex2,hj,lj,q2⟩:=hw'
 subst ex2
 obtain⟨t3,rfl⟩:=r3
 refine wpAny_formatField_int hj ⟨_,_,rfl,?_,?_⟩
 ·rw[len,len];omega
 refine wpAny_mono (pZ (X:=X) (x:=y) (j:=kl) (pos:=p4) pins _ σ H3 (fun v H'=>v=.str y/\H'=H3) (I3.tok _) ⟨rfl,rfl⟩) (fun u s4 ⟨y'',H4,I4,r4,e4,e5⟩=>?_) fun _ _ e=>e
 subst e4 e5
 obtain⟨t4,rfl⟩:=r4
 refine⟨y,t4,rfl,?_,?_,?_⟩
 ·rw[len,len,len];omega
 ·rw[len,len,len];omega
 ·exact⟨.str _,_,I4.tok _,⟨_,rfl⟩,q2 _⟩
end
end L2
namespace DL
open PySem PySem.Spec PyProof.Rows L2
section
variable {X:Cx} {C:Cl} {XW:XWt} {a b x:Expr} {f g h:Den} {r:sY} {ap cp pos p1 p2 p3 p4:Pos}
theorem nU(hx:RD X C XW x r)(hs:starEach [x] X.env=(false,eval x X.env)::starEach [] X.env:=by rfl):RD X C XW (.List [x] pos) r :=
 bj (vq (bL hx cY hs)) fun _ _ _ hw=>hw
noncomputable def tE(f g:Den):uV:=fun ρ Ω=>(f ρ Ω).bind fun p=>(oM p.1).bind fun i=>if bD i then(g ρ p.2).bind fun q=>(oM q.1).bind fun j=>if bD j then some q.2 else none else none
theorem Hr{z y:Str}{kk kl:Nat}(ha:PD X C a f)(hb:PD X C b g)(hz:z.length<=1000:=by decide)(hy:y.length<=1000:=by decide)(hs:evalEach [.FormattedValue a (-1) none p1,.Constant (.str z) kk p2,.FormattedValue b (-1) none p3,.Constant (.str y) kl p4] X.env=[eval (.FormattedValue a (-1) none p1) X.env,eval (.Constant (.str z) kk p2) X.env,eval (.FormattedValue b (-1) none p3) X.env,eval (.Constant (.str y) kl p4) X.env]:=by rfl) :
  PV X C (.JoinedStr [.FormattedValue a (-1) none p1,.Constant (.str z) kk p2,.FormattedValue b (-1) none p3,.Constant (.str y) kl p4] pos) (tE f g):=bj (Tc ha hb hz hy hs) fun σ H Q hw'=>by
 obtain⟨e,Ω,ρ,Ω',eH,w,rl,q,k⟩:=hw'
 obtain⟨⟨d1,Ω1⟩,q1,qa⟩:=Option.bind_eq_some_iff.mp q
 obtain⟨i,q2,qb⟩:=Option.bind_eq_some_iff.mp qa
 have e2:=qG q2
 dsimp only at e2 qb
 subst e2
 split at qb
 ·rename_i hi
  obtain⟨⟨d3,Ω3⟩,q3,qc⟩:=Option.bind_eq_some_iff.mp qb
  obtain⟨j,q4,qd⟩:=Option.bind_eq_some_iff.mp qc
  have e4:=qG q4
  dsimp only at e4 qd
  subst e4
  split at qd
  ·rename_i hj
   cases qd
   refine⟨e,Ω,ρ,_,_,eH,w,rl,q1,fun v e' x' w' i'=>?_⟩
   rw[Is] at i'
   refine⟨i,i',hi.1,hi.2,e',Ω1,ρ,_,_,rfl,w',rl.ext x',q3,fun v2 e2 x2 w2 i2=>?_⟩
   rw[Is] at i2
   exact⟨j,i2,hj.1,hj.2,fun t=>k _ e2 (x'.trans x2) w2⟩
  ·cases qd
 ·cases qb
noncomputable def qK(f g h:Den):Den:=fun ρ Ω=>(f ρ Ω).bind fun p=>(oK p.1).bind fun n=>(p.2[n]?).bind fun o1=>(dTO o1).bind fun _=>(g ρ p.2).bind fun q=>(jm q.1).bind fun k=>(h ρ q.2).bind fun y=>(y.2[n]?).bind fun o=>(dTO o).bind fun kvs =>
 match dR kvs k with
 | some v=>some (v,y.2.set n (.dT (jl kvs k)))
 | none=>some (y.1,y.2)
theorem Av(hu:X.A.units+1<cLine)(ho:PD X C a f)(hi:PD X C b g)(hx:PD X C x h)(m:M2 X a "pop" ap b x cp):PD X C (.Call (.Attribute a "pop" ap) [b,x] [] cp) (qK f g h):=bj (P_ hu ho hi hx m) fun σ H Q hw'=>by
 obtain⟨e,Ω,ρ,d,Ω',eH,w,rl,q,kk⟩:=hw'
 obtain⟨⟨d1,Ω1⟩,q1,qa⟩:=Option.bind_eq_some_iff.mp q
 obtain⟨n,q2,qb⟩:=Option.bind_eq_some_iff.mp qa
 obtain⟨o1,q3,qc⟩:=Option.bind_eq_some_iff.mp qb
 obtain⟨kv1,q4,qd⟩:=Option.bind_eq_some_iff.mp qc
 obtain⟨⟨d5,Ω5⟩,q5,qe⟩:=Option.bind_eq_some_iff.mp qd
 obtain⟨k,q6,qf⟩:=Option.bind_eq_some_iff.mp qe
 obtain⟨⟨d7,Ω7⟩,q7,qg⟩:=Option.bind_eq_some_iff.mp qf
 obtain⟨o8,q8,qh⟩:=Option.bind_eq_some_iff.mp qg
 obtain⟨kvs,q9,qi⟩:=Option.bind_eq_some_iff.mp qh
 clear q qa qb qc qd qe qf qg qh
 have e2:=mD q2
 have e4:=vW q4
 have e9:=vW q9
 dsimp only at e2 q3 q5 q6 q7 q8 qi
 subst e2 e4 e9
 refine⟨e,Ω,ρ,_,Ω1,eH,w,rl,q1,fun v e1 x1 w1 i1=>?_⟩
 have i1':=i1
 rw[Is] at i1'
 obtain⟨p,hα,rfl⟩:=i1'
 obtain⟨vs1,hH1,_⟩:=(w1.ob n p _ hα q3).2
 refine⟨p,rfl,.inr ⟨vs1,.inl hH1⟩,?_⟩
 refine⟨e1,Ω1,ρ,d5,Ω5,rfl,w1,rl.ext x1,q5,fun u e2 x2 w2 i2=>?_⟩
 refine⟨e2,Ω5,ρ,d7,Ω7,rfl,w2,(rl.ext x1).ext x2,q7,fun z e3 x3 w3 i3=>?_⟩
 have hα3:e3.α[n]? = some p:=nQ (K:=X.K) (x2.trans x3) hα
 obtain⟨vs,hH,ps⟩:=(w3.ob n p _ hα3 q8).2
 obtain⟨b,rfl,hb⟩:=qw q6 (i2.ext x3)
 have ov:=ps.val k
 refine⟨vs,k,b,hH,rfl,w3.fh _ _ hb,fun v hv=>?_,fun hv=>?_⟩
 ·cases l:dR kvs k with
  | none=>rw[l,hv] at ov;exact ov.elim
  | some dv =>
   rw[l] at qi ov
   cases qi
   rw[hv] at ov
   obtain⟨w4,x4⟩:=w3.at (o':=.dT (jl kvs k)) (ho:=.dT (eY vs k)) hα3 (fun xs z=>nomatch z) ⟨_,aJ,ps.drop k⟩ fun o u z=>by rw[hH] at z;cases z
   exact kk v (e3.at p _) (((x1.trans x2).trans x3).trans x4) w4 (Is.ext x4 ov)
 ·cases l:dR kvs k with
  | some dv=>rw[l,hv] at ov;exact ov.elim
  | none =>
   rw[l] at qi
   cases qi
   exact kk z e3 ((x1.trans x2).trans x3) w3 i3
end
end DL
namespace DR
open PySem PySem.Spec PyProof.Rows
section
variable {κ:Type} [DecidableEq κ] {prog:Program} {w:World} {knd:HeapKind prog w κ} {A:Around} {E:Value->Shared->Prop} {s:Shared}
theorem Ht{d a:Addr}{dv:Value}{xs:List (κ×Addr×Value)}{k:κ}{Q:Value->Shared->Prop}(hu:knd.room A)(hkey:knd.is s.heap k a)(hm:s.heap.DictOfH knd d xs)(hsz:xs.length<=sizeLine)
  (h:∀p,atKey xs k=some p->Q p.2 { s with toks:=s.toks+knd.draws k })
  (h0:atKey xs k=none->∀h',h'.DictOfH knd d (storedH xs k a dv)->Heap.SameBut d s.heap h'->Q dv { s with heap:=h',toks:=s.toks+knd.draws k }) :
  wpAny (model prog w) A (dictSetDefault d (.ref a) dv) Q E s:=by
 obtain⟨o,es,ep,ho,hc,hd,he,his,hn⟩:=hm
 unfold dictSetDefault
 try with_reducible refine wpAny_holding ?_
 refine wpAny_bind (knd.pyHash hu hkey (wpAny_bind (wpAny_dictFind_heap (s:={ s with toks:=s.toks+knd.draws k }) hu hkey ho hd he his hn ?_ ?_)))
 ·intro hno
  have hnot:k∉xs.map (·.1):=not_mem_keys_of_get hno
  refine wpAny_bind (wpAny_rule (wpAny_bind (wpAny_updateDictKeys (hz:=by have e:=size_of_entries he;omega) (s:={ s with toks:=s.toks+knd.draws k }) ho hd (wpAny_pure (h0 (atKey_none_of_get hno) _ ⟨_,_,ep+1,Heap.get?_update_self _ ho (Obj.isFreed_of_dict (Obj.data_mapDictKeys hd _)),
   hc.mapDictKeys _,Obj.data_mapDictKeys hd _,?_,?_,?_⟩ (Heap.SameBut.update ..))))))
  ·rw[storedH_new (atKey_none_of_get hno)]
   simp[he,entryOfKey]
  ·rw[storedH_new (atKey_none_of_get hno)]
   intro x hx
   rcases List.mem_append.mp hx with hx |hx
   ·exact knd.keeps (his x hx) ho hd (Heap.SameBut.update ..)
   ·simp only[List.mem_singleton] at hx
    subst hx
    exact knd.keeps hkey ho hd (Heap.SameBut.update ..)
  ·rw[storedH_new (atKey_none_of_get hno)]
   rw[List.map_append,List.nodup_append]
   refine⟨hn,by simp,?_⟩
   intro x hx y hy
   simp only[List.map_cons,List.map_nil,List.mem_singleton] at hy
   subst hy
   exact fun e=>hnot (e ▸ hx)
 ·intro j p hj
  refine wpAny_bind (wpAny_dictEntries (s:={ s with toks:=s.toks+knd.draws k }) ho hd ?_)
  rw[entry_at he j,hj]
  exact wpAny_bind (wpAny_rule (wpAny_pure (h p (atKey_of_get hn hj))))
theorem Cd{d a:Addr}{dv:Value}{xs:List (κ×Addr×Value)}{k:κ}{R:Result->Shared->Prop}(hsys:(d==sysModules)=false)(hu:knd.room A.in1)(hkey:knd.is s.heap k a)(hm:s.heap.DictOfH knd d xs)(hsz:xs.length<=sizeLine)
  (h:∀p,atKey xs k=some p->R (.ok (.ret p.2)) { s with toks:=s.toks+knd.draws k })
  (h0:atKey xs k=none->∀h',h'.DictOfH knd d (storedH xs k a dv)->Heap.SameBut d s.heap h'->R (.ok (.ret dv)) { s with heap:=h',toks:=s.toks+knd.draws k }) :
  wpAny (model prog w) A.in1 (Builtin.«dict.setdefault» ⟨[.ref d,.ref a,dv],[]⟩) (fun fin s'=>match fin with |.done f=>R (.ok f) s' |.again c'=>c'.quiet=true/\codeAny (model prog w) A c' R s') (fun e s'=>R (.error e) s') s:=by
 unfold Builtin.«dict.setdefault»;refine wpAny_bind ?_
 unfold Builtin.Dict.keyAndDefault;refine wpAny_bind (wpAny_notOrdered_dict hm.typeIs ?_)
 show wpAny _ _ (pure (d,Value.ref a,some dv)) _ _ s;refine wpAny_pure ?_
 dsimp only
 rw[if_neg (by rw[hsys];exact Bool.false_ne_true)]
 refine wpAny_bind (Ht (dv:=dv) hu hkey hm hsz (fun p hp=>?_) fun hp h' hd hs=>?_)
 ·exact wpAny_pure (h p hp)
 ·exact wpAny_pure (h0 hp h' hd hs)
end
end DR
namespace L2
open PySem PySem.Spec PyProof.Rows
section
variable {X:Cx} {pins:List (Addr×Obj)} {σ:St} {H:Hp} {s:Shared} {a b:Addr} {A:Around} {E:Value->Shared->Prop}
theorem Qa{kvs:List (List Key×V)}{k:List Key}{x:V}{dv:Value}{Q:Value->Shared->Prop}(hu:A.units+1<cLine)(I:Inv X pins σ H s)(e:H a=some (.dT kvs))(eb:H b=some (.tup (k.map kV)))(rd:RelV x dv)(hl:kvs.length<sizeLine)
  (h:∀v w' s',cW kvs k=some v->Inv X pins σ H s'->RelV v w'->Q w' s') (h0:cW kvs k=none->∀s',Inv X pins σ (upd H a (.dT (putK kvs k x))) s'->Q dv s'):wpAny (model X.prog X.w) A (call (.builtin "dict.setdefault") [.ref a,.ref b,dv]) Q E s:=by
 obtain⟨z,hd,xs,rel,dd⟩:=zm I.hok e
 have hz:xs.length<=sizeLine:=by rw[<-Paired.length rel];exact z
 have hl':(putK kvs k x).length<=sizeLine:=by have:=pQ kvs k x;omega
 refine call_meetsIn PySem.F.slot_dict_setdefault dd.typeIs PySem.F.entry_dict_setdefault (PySem.F.args_dict_setdefault_3 _ _ _) (S:=fun A' R s'=>A'=A/\s'=s/\R=wants Q E) (fun A' R s' hw=>?_) ⟨rfl,rfl,rfl⟩
 obtain⟨rfl,rfl,rfl⟩:=hw
 refine DR.Cd (knd:=tupleKind (cA X.prog X.w)) hd (tupleKind_room_in1 hu) (j_ I.hok eb) dd hz (fun p hp=>?_) fun hp h' dd' hs=>?_
 ·have ov:=rel.val k
  rw[hp] at ov
  cases l:cW kvs k with
  | none=>rw[l] at ov;exact ov.elim
  | some v =>
   rw[l] at ov
   exact h v p.2 _ l (I.tok _) ov
 ·have ov:=rel.val k
  rw[hp] at ov
  cases l:cW kvs k with
  | some v=>rw[l] at ov;exact ov.elim
  | none =>
   obtain⟨q,es,ep,hq,h2,h3,h4,_,h5⟩:=dd'
   refine h0 l _ (nG I (by rw[e];exact True.intro) hs ⟨q,hq⟩ ⟨hl',hd,_,(rel.put k eb rd).keeps fun c ys ec=>?_,q,es,ep,hq,h2,h3,h4,h5⟩)
   rw[aC (zg ec e (fun z=>nomatch z))]
   exact ec
end
noncomputable def Ut(td ty tx:TE):TE:=fun σ H Q=>td σ H fun x H1=>∃a,x=.ref a/\IsD H1 a/\ty σ H1 fun y H2=>tx σ H2 fun z H3=>∃kvs k b,H3 a=some (.dT kvs)/\y=.ref b/\H3 b=some (.tup (k.map kV))/\kvs.length<sizeLine /\
 (∀v,cW kvs k=some v->Q v H3)/\(cW kvs k=none->Q z (upd H3 a (.dT (putK kvs k z))))
section
variable {X:Cx} {o e f a b:Expr} {apos cpos pos:Pos} {td ty tx:TE}
theorem Qc(hu:X.A.units+1<cLine)(ho:PE X o td)(he:PE X e ty)(hf:PE X f tx)(m:M2 X o "setdefault" apos e f cpos):PE X (.Call (.Attribute o "setdefault" apos) [e,f] [] cpos) (Ut td ty tx):=by
 intro pins s σ H Q I h
 refine wpAny_Call_method m.base m.few m.line PySem.F.plainAttrs_dict PySem.F.slot_dict_setdefault PySem.F.type_dict_setdefault (thn (ho pins s σ H _ I h) fun u s1 hw'=>?_)
 obtain⟨x,H1,I1,rx,a,ex,d,q1⟩:=hw'
 subst ex;obtain rfl:u=Value.ref a:=rx
 obtain⟨t1,t2,_⟩:=vz I1 d
 refine⟨t1,t2,?_⟩;rw[m.trees]
 refine Calls.callWith_builtin rfl (Calls.evalArgs_plain (Calls.spliced_cons (thn (he pins s1 σ H1 _ I1 q1) fun iv s2 hy=>?_)))
 obtain⟨y,H2,I2,ry,q2⟩:=hy
 refine Calls.spliced_cons (thn (hf pins s2 σ H2 _ I2 q2) fun fv s3 hz=>Calls.spliced_nil ?_)
 obtain⟨z,H3,I3,rz,kvs,k,b,ea,ey,eb,hl,q3,q4⟩:=hz
 subst ey
 obtain rfl:iv=Value.ref b:=ry
 exact Qa hu I3 ea eb rz hl (fun v w' s4 l I4 rw'=>⟨v,_,I4,rw',q3 v l⟩) fun l s4 I4=>⟨z,_,I4,rz,q4 l⟩
end
end L2
namespace DL
open PySem PySem.Spec PyProof.Rows L2
section
variable {X:Cx} {C:Cl} {a b x:Expr} {f g h:Den} {ap cp pos:Pos}
noncomputable def rJ(f g h:Den):Den:=fun ρ Ω=>(f ρ Ω).bind fun p=>(oK p.1).bind fun n=>(p.2[n]?).bind fun o1=>(dTO o1).bind fun _=>(g ρ p.2).bind fun q=>(jm q.1).bind fun k=>(h ρ q.2).bind fun y=>(y.2[n]?).bind fun o=>(dTO o).bind fun kvs =>
 if kvs.length<big then(match dR kvs k with
 | some v=>some (v,y.2)
 | none=>some (y.1,y.2.set n (.dT (putD kvs k y.1)))) else none
theorem Qd(hu:X.A.units+1<cLine)(ho:PD X C a f)(hi:PD X C b g)(hx:PD X C x h)(m:M2 X a "setdefault" ap b x cp):PD X C (.Call (.Attribute a "setdefault" ap) [b,x] [] cp) (rJ f g h):=bj (Qc hu ho hi hx m) fun σ H Q hw'=>by
 obtain⟨e,Ω,ρ,d,Ω',eH,w,rl,q,kk⟩:=hw'
 obtain⟨⟨d1,Ω1⟩,q1,qa⟩:=Option.bind_eq_some_iff.mp q
 obtain⟨n,q2,qb⟩:=Option.bind_eq_some_iff.mp qa
 obtain⟨o1,q3,qc⟩:=Option.bind_eq_some_iff.mp qb
 obtain⟨kv1,q4,qd⟩:=Option.bind_eq_some_iff.mp qc
 obtain⟨⟨d5,Ω5⟩,q5,qe⟩:=Option.bind_eq_some_iff.mp qd
 obtain⟨k,q6,qf⟩:=Option.bind_eq_some_iff.mp qe
 obtain⟨⟨d7,Ω7⟩,q7,qg⟩:=Option.bind_eq_some_iff.mp qf
 obtain⟨o8,q8,qh⟩:=Option.bind_eq_some_iff.mp qg
 obtain⟨kvs,q9,qi⟩:=Option.bind_eq_some_iff.mp qh
 clear q qa qb qc qd qe qf qg qh
 have e2:=mD q2
 have e4:=vW q4
 have e9:=vW q9
 dsimp only at e2 q3 q5 q6 q7 q8 qi
 subst e2 e4 e9
 split at qi
 ·rename_i hb
  refine⟨e,Ω,ρ,_,Ω1,eH,w,rl,q1,fun v e1 x1 w1 i1=>?_⟩
  have i1':=i1
  rw[Is] at i1'
  obtain⟨p,hα,rfl⟩:=i1'
  refine⟨p,rfl,zO w1 hα q3 rfl,e1,Ω1,ρ,d5,Ω5,rfl,w1,rl.ext x1,q5,fun u e2 x2 w2 i2=>?_⟩
  refine⟨e2,Ω5,ρ,d7,Ω7,rfl,w2,rl.ext (x1.trans x2),q7,fun t e3 x3 w3 i3=>?_⟩
  have i4:=i1.ext (x2.trans x3)
  rw[Is] at i4
  obtain⟨p',hα3,ep⟩:=i4
  cases ep
  obtain⟨bk,rfl,hbk⟩:=qw q6 (i2.ext x3)
  obtain⟨vs,hH,ps⟩:=(w3.ob n p _ hα3 q8).2
  refine⟨vs,k,bk,hH,rfl,w3.fh _ _ hbk,by rw[<-ps.len];exact nZ hb,fun v hv=>?_,fun hv=>?_⟩
  ·have ov:=ps.val k
   rw[hv] at ov
   cases z:dR kvs k with
   | none=>rw[z] at ov;exact ov.elim
   | some dv =>
    rw[z] at ov qi
    cases qi
    exact kk v e3 ((x1.trans x2).trans x3) w3 ov
  ·have ov:=ps.val k
   rw[hv] at ov
   cases z:dR kvs k with
   | some dv=>rw[z] at ov;exact ov.elim
   | none =>
    rw[z] at qi
    cases qi
    obtain⟨w4,x4⟩:=w3.at (ho:=.dT (putK vs k t)) (o':=.dT (putD kvs k _)) hα3 (fun _ z=>nomatch z) ⟨_,aJ,ps.put k i3⟩ (fun o u z=>by rw[hH] at z;cases z)
    exact kk t (e3.at p _) (((x1.trans x2).trans x3).trans x4) w4 (i3.ext x4)
 ·cases qi
end
end DL
namespace L2
open PySem PySem.Spec PyProof.Rows
noncomputable def Ite(K:PySem.W.Frag)(l:Addr):It :=
 ⟨fun i H=>∃xs x,SqD K false H l xs/\xs[i]? = some x,
  fun i H v H'=>∃p x,v=.ref p/\H p=none/\H'=upd H p (.tup [.int i,x])/\∀xs,SqD K false H l xs->xs[i]? = some x,
  fun i H=>∃xs,SqD K false H l xs/\xs.length<=i⟩
noncomputable def Td(e it l:Addr)(i:Nat)(h:Heap):Prop:=(∃old,IsEnum h e it i old)/\ItB false h it l i
theorem Hu{P:Program}{w:World}{K:PySem.W.Frag}{es:List Expr}{kk:Nat}{pt:Pos}{e it l:Addr}(hne:e≠it) :
  Turn P w K (.Tuple es kk pt) (Ite K l) [e,it] e (Td e it l) where
 mem:=by simp
 obj:=fun i h st b hb=>by
  obtain⟨⟨old,he⟩,⟨o1,e1,_,d1⟩⟩:=st
  simp only[List.mem_cons,List.not_mem_nil,or_false] at hb
  rcases hb with rfl |rfl
  ·exact⟨_,he,fun v q=>nomatch q⟩
  ·exact⟨_,e1,fun v q=>by rw[d1] at q;cases q⟩
 keep:=fun i h h' st k=>by
  obtain⟨⟨old,he⟩,p1⟩:=st
  exact⟨⟨old,k e (by simp) _ he⟩,p1.go fun o q=>k it (by simp) o q⟩
 item:=by
  intro X hP hw hK hc i pins s σ H E I hf st hg
  subst hP hw hK
  obtain⟨⟨old,he⟩,p1⟩:=st
  obtain⟨xs,x,s1,hx⟩:=hg
  obtain⟨its1,rv1,q1⟩:=Ag I s1
  obtain⟨u,hu,ru⟩:=rv1.get hx
  refine wpAny_pyNext_enum_item he p1 q1 (x:=u) (by simpa using hu) hne fun g a1 a2 a3 a4 a5=>⟨_,rfl,wpAny_letOwnedTupleGo_enum a1 fun g' z' m'=>?_⟩
  have le:e<s.heap.objs.size:=Heap.lt_size he
  have k':∀c o,c∉[e,it]->s.heap.get? c=some o->g'.get? c=some o:=fun c o hc q=>by
   simp only[List.mem_cons,List.not_mem_nil,or_false,not_or] at hc
   exact m'.extBut c o hc.1 (a5 c o hc.1 hc.2 q)
  have t':IsTup g' s.heap.objs.size [.int i s.toks,u].toArray:=⟨_,m'.extBut _ _ (Nat.ne_of_gt le) a3,rfl,_,rfl⟩
  have J:=I.turnT (t':=s.toks+1) (xs:=[.int i,x]) (us:=[.int i s.toks,u]) (p:=s.heap.objs.size) k' hf (Nat.le_refl _) (by show 2<=sizeLine;rw[sizeLine_eq];decide) (.cons ⟨_,rfl⟩ (.cons ru .nil)) t'
  have hn:H s.heap.objs.size=none:=I.hok.fresh (Nat.le_refl _)
  refine⟨.ref s.heap.objs.size,_,J,rfl,⟨_,x,rfl,hn,rfl,fun us hu=>by rw[Px I hu s1];exact hx⟩,⟨⟨_,z'⟩,ItB.eb (b:=false) a2 m'.extBut (Ne.symm hne)⟩,fun b hb=>?_⟩
  have lb:b<s.heap.objs.size:=by
   simp only[List.mem_cons,List.not_mem_nil,or_false] at hb
   rcases hb with rfl |rfl
   ·exact le
   ·exact p1.lt
  rw[aC (Nat.ne_of_lt lb)]
  exact(hf b hb).1
 done:=by
  intro X hP hw hK hc i pins s σ H E I hf st hg
  subst hP hw hK
  obtain⟨⟨old,he⟩,p1⟩:=st
  obtain⟨xs,s1,hx⟩:=hg
  obtain⟨its1,rv1,q1⟩:=Ag I s1
  have n1:=rv1.length
  refine wpAny_pyNext_enum_end (I.ok.hd hc) he p1 q1 (by simp;omega) fun g hk=>⟨rfl,I.turnL (t':=s.toks) (ch:=[e,it]) (fun c o hc q=>?_) hf⟩
  simp only[List.mem_cons,List.not_mem_nil,or_false,not_or] at hc
  exact hk c o hc.2 q
 self:=fun _ _ _ _ _ st h=>wpAny_pyIter_enum st.1.choose_spec h
theorem Hv:bootBuiltins "enumerate" = some (.type "enumerate"):=by decide +kernel
noncomputable def Uu(K:PySem.W.Frag)(ta:TA):TI:=fun σ H R=>ta σ H fun vs H1=>∃l xs,vs=[.ref l]/\SqD K false H1 l xs/\R (Ite K l) H1
theorem Qe{X:Cx}{es:List Expr}{kk:Nat}{pt:Pos}{a:Expr}{ta:TA}{p pos:Pos}(hg:Gl X "enumerate")(hm:X.mg "enumerate" = none)(ha:PA X [a] ta)(hs:starEach [a] X.env=[(false,eval a X.env)]:=by rfl) :
  PI X (.Tuple es kk pt) (.Call (.Name "enumerate" p) [a] [] pos) (Uu X.K ta):=by
 intro pins s σ H R I h
 refine Call_ (rU I hg hm Hv (PyProof.Rows.callWith_type1 (thn (ha pos pins s σ H _ I h) fun us s1 ⟨vs,H1,I1,r1,q1⟩=>?_) (by rw[hs];rfl) rfl))
 obtain⟨l,xs,e,s1',q⟩:=q1
 subst e
 cases r1 with
 | cons r rr =>
  cases rr
  cases r
  obtain⟨its1,rv1,c1⟩:=Ag I1 s1'
  refine call_enumerate_list c1 fun h' hE hI hsz hk=>wpAny_pyIter_enum hE ⟨_,_,_,_,H1,rfl,I1.kept (t':=s1.toks) hk,Hu (Nat.succ_ne_self _),⟨⟨_,hE⟩,hI⟩,fun b hb=>?_,q⟩
  have lb:s1.heap.objs.size<=b:=by
   simp only[List.mem_cons,List.not_mem_nil,or_false] at hb
   rcases hb with rfl |rfl
   ·exact Nat.le_add_right _ _
   ·exact Nat.le_refl _
  exact I1.fpOk lb (I1.hok.fresh lb)
end L2
namespace DL
open PySem PySem.Spec PyProof.Rows L2
noncomputable def jo:Nat->List D->List D
 | _,[]=>[]
 | lo,d::ds=>pairD (.int lo) d::jo (lo+1) ds
noncomputable def vX:List D->Option (List D)
 | [.lst xs]=>some (jo 0 xs)
 | _=>none
theorem tG:∀(lo:Nat) (ds:List D),(jo lo ds).length=ds.length
 | _,[]=>rfl
 | lo,d::ds=>by show(jo (lo+1) ds).length+1=_;rw[tG (lo+1) ds];rfl
theorem yG:∀(lo:Nat) (ds:List D) (i:Nat),(jo lo ds)[i]? = (ds[i]?).map fun d=>pairD (.int ((lo+i:Nat):Int)) d
 | _,[],i=>rfl
 | lo,d::ds,0=>rfl
 | lo,d::ds,i+1=>by
  show(jo (lo+1) ds)[i]? = (ds[i]?).map _
  rw[yG (lo+1) ds i,show lo+1+i=lo+(i+1) by omega]
theorem Hx{K:PySem.W.Frag}{e:E4}{l:Addr}{vs:List V}{ds:List D}(s1:SqD K false e.F l vs)(r1:IsL K e.α e.F ds vs):Walk K e (Ite K l) (jo 0 ds):=by
 intro i e2 ff al fh
 have t1:=uW fh (uW ff s1)
 have n1:=r1.length
 refine⟨fun z=>⟨vs,t1,?_⟩,fun d hd=>?_⟩
 ·rw[tG] at z
  omega
 ·rw[yG] at hd
  cases q1:ds[i]? with
  | none=>rw[q1] at hd;cases hd
  | some x =>
   rw[q1] at hd
   cases hd
   obtain⟨vx,hvx,ivx⟩:=(IsL.mono ff al ds r1).get q1
   refine⟨⟨vs,vx,t1,hvx⟩,fun v H' ⟨p,x',e1,e2',e3,u1⟩=>?_⟩
   subst e1 e3
   have u1':=u1 vs t1
   rw[hvx] at u1'
   cases u1'
   have nF:e2.F p=none:=by
    cases q:e2.F p with
    | none=>rfl
    | some o=>rw[fh p o q] at e2';cases e2'
   have sm:bC e2.F (e2.new p (.tup [.int i,vx])).F:=fun b o hb=>by
    show upd e2.F p _ b=some o
    rw[aC (fun z=>by rw[z,nF] at hb;cases hb)]
    exact hb
   refine⟨e2.new p (.tup [.int i,vx]),rfl,?_,fun C Ω w=>⟨w.new_ext e2',w.new e2'⟩⟩
   unfold pairD
   rw[Is]
   refine⟨p,[.int i,vx],rfl,aJ,.cons ?_ (.cons (Is.mono sm ⟨[],by simp[E4.new]⟩ _ ivx) .nil)⟩
   rw[Is,Nat.zero_add]
section
variable {X:Cx} {C:Cl} {ga:bA} {pos p pt:Pos} {es:List Expr} {kk:Nat} {a b:Expr}
theorem Kv(hg:Gl X "enumerate")(hm:X.mg "enumerate" = none)(ha:PDA X C [a] ga)(hs:starEach [a] X.env=[(false,eval a X.env)]:=by rfl) :
  PDI X C (.Tuple es kk pt) (.Call (.Name "enumerate" p) [a] [] pos) (kE vX ga) :=
 zJ (Qe hg hm ha hs) fun σ H R hw'=>by
  obtain⟨e,Ω,ρ,ds,Ω',eH,w,rl,q,k⟩:=hw'
  unfold kE at q
  cases q1:ga ρ Ω with
  | none=>rw[q1] at q;cases q
  | some p1 =>
   obtain⟨fs,Ω1⟩:=p1
   rw[q1] at q
   dsimp only at q
   refine⟨e,Ω,ρ,fs,Ω1,eH,w,rl,q1,fun v e' x' w' i'=>?_⟩
   match fs,q,i' with
   | [.lst xs],q,i' =>
    have ez:vX [.lst xs]=some (jo 0 xs):=rfl
    rw[ez] at q
    cases q
    obtain⟨v1,r,rfl,iv1,rr⟩:=i'.of_cons
    have e0:=rr.of_nil
    subst e0
    rw[Is] at iv1
    obtain⟨l,vs,rfl,h1,r1⟩:=iv1
    exact⟨l,vs,rfl,uW w'.fh (show SqD X.K false e'.F l vs from SqL.of h1),k e' _ x' w' (Hx (show SqD X.K false e'.F l vs from SqL.of h1) r1)⟩
end
end DL
namespace DL
open PySem PySem.Spec PyProof.Rows L2
section
variable {X:Cx} {C:Cl} {a b x:Expr} {f g:Den} {n:Str} {p pos ap cp:Pos} {k:Nat}
noncomputable def uh(f g:Den):Den:=fun ρ Ω=>(f ρ Ω).bind fun p=>(oK p.1).bind fun n=>(p.2[n]?).bind fun o1=>(mR o1).bind fun _=>(g ρ p.2).bind fun r=>(oM r.1).bind fun i=>(r.2[n]?).bind fun o=>(mR o).bind fun xs =>
 if i=0 then(match xs with |[]=>none |d::t=>some (d,r.2.set n (.mls t))) else none
theorem Dk(ha:PD X C a f)(hb:PD X C b g)(hbase:attributeBase a "pop" X.env (eval a X.env)=eval a X.env:=by rfl)
  (hfew:((backTo cp (starEach [b] X.env)).all (fun x=>!x.1) && (backToKw cp (keywordEach [] X.env)).all (fun x=>x.1.isSome)
   && decide (([b]:List Expr).length+([]:List Keyword).length+(if([]:List Keyword).isEmpty then 0 else 1)<30))=true:=by rfl)
  (hline:(ap.endLine==cp.line)=true:=by rfl) (hst:starEach [b] X.env=(false,eval b X.env)::starEach [] X.env:=by rfl) (hplain:(backTo cp (starEach [] X.env)).any (·.1)=false:=by rfl) :
  PD X C (.Call (.Attribute a "pop" ap) [b] [] cp) (uh f g) :=
 bj (vy PySem.F.plainAttrs_list PySem.F.slot_list_pop PySem.F.type_list_pop Jr ha (bL hb cY hst) hbase hfew hline hst hplain) fun σ H Q hw'=>by
  obtain⟨e,Ω,ρ,d,Ω',eH,w,rl,q,kk⟩:=hw'
  obtain⟨⟨d1,Ω1⟩,q1,qa⟩:=Option.bind_eq_some_iff.mp q
  obtain⟨m,q2,qb⟩:=Option.bind_eq_some_iff.mp qa
  obtain⟨o1,q3,qc⟩:=Option.bind_eq_some_iff.mp qb
  obtain⟨xs1,q4,qd⟩:=Option.bind_eq_some_iff.mp qc
  obtain⟨⟨d5,Ω5⟩,q5,qe⟩:=Option.bind_eq_some_iff.mp qd
  obtain⟨i,q6,qf⟩:=Option.bind_eq_some_iff.mp qe
  obtain⟨o7,q7,qg⟩:=Option.bind_eq_some_iff.mp qf
  obtain⟨xs,q8,qh⟩:=Option.bind_eq_some_iff.mp qg
  clear q qa qb qc qd qe qf qg
  have e2:=mD q2
  have e4:=oO q4
  have e6:=qG q6
  have e8:=oO q8
  dsimp only at e2 q3 q5 e6 q7 qh
  subst e2 e4 e6 e8
  split at qh
  ·rename_i hi
   subst hi
   cases xs with
   | nil=>cases qh
   | cons z t =>
    cases qh
    refine⟨e,Ω,ρ,_,Ω1,eH,w,rl,q1,fun v e1 x1 w1 i1=>?_⟩
    have i1':=i1
    rw[Is] at i1'
    obtain⟨l,hα,rfl⟩:=i1'
    obtain⟨vs1,hH1,_⟩:=w1.mls hα q3
    refine⟨.inl ⟨rfl,_,SqL.of hH1⟩,e1,Ω1,ρ,_,Ω5,rfl,w1,rl.ext x1,q5,fun u e2 x2 w2 i2=>?_⟩
    have i3:=i1.ext x2
    rw[Is] at i3
    obtain⟨p',hα2,ep⟩:=i3
    cases ep
    obtain⟨vs,hH,il⟩:=w2.mls hα2 q7
    obtain⟨v0,r,rfl,iv0,ir⟩:=il.of_cons
    rw[Is] at i2
    subst i2
    refine⟨l,_,0,0,v0,rfl,rfl,hH,by decide,by decide,?_,rfl,?_⟩
    ·show seqIndex? 0 (r.length+1)=some 0
     simp[seqIndex?]
    ·obtain⟨w3,x3⟩:=w2.at (ho:=.lst r) (o':=.mls t) hα2 (fun _ z=>nomatch z) ⟨_,aJ,ir⟩ (fun o u z=>by rw[hH] at z;cases z)
     exact kk v0 (e2.at l _) ((x1.trans x2).trans x3) w3 (iv0.ext x3)
  ·cases qh
noncomputable def Aw(f:Den):Den:=fun ρ Ω=>(f ρ Ω).bind fun p=>(oK p.1).bind fun n=>(p.2[n]?).bind fun o=>(mR o).bind fun xs=>some (.lst xs,p.2)
theorem Kw(hg:Gl X n)(hm:X.mg n=none)(hv:bootBuiltins n=some (.type "list"))(ho:PD X C a f)(hn:n ≠ "__name__":=by decide)(hdb:(n==("__debug__":Str))=false:=by decide)
  (he:starEach [a] X.env=(false,eval a X.env)::starEach [] X.env:=by rfl) (hpl:(backTo pos (starEach [] X.env)).any (·.1)=false:=by rfl):PD X C (.Call (.Name n p) [a] [] pos) (Aw f) :=
 bj (rZ jZ hg hm hv (bL ho cY he) hn hdb he hpl) fun σ H Q hw'=>by
  obtain⟨e,Ω,ρ,d,Ω',eH,w,rl,q,kk⟩:=hw'
  obtain⟨⟨d1,Ω1⟩,q1,qa⟩:=Option.bind_eq_some_iff.mp q
  obtain⟨m,q2,qb⟩:=Option.bind_eq_some_iff.mp qa
  obtain⟨o,q3,qc⟩:=Option.bind_eq_some_iff.mp qb
  obtain⟨xs,q4,qd⟩:=Option.bind_eq_some_iff.mp qc
  clear q qa qb qc
  have e2:=mD q2
  have e4:=oO q4
  dsimp only at e2 q3 qd
  subst e2 e4
  cases qd
  refine⟨e,Ω,ρ,_,_,eH,w,rl,q1,fun v e1 x1 w1 i1=>?_⟩
  rw[Is] at i1
  obtain⟨l,hα,rfl⟩:=i1
  obtain⟨vs,hH,il⟩:=w1.mls hα q3
  refine⟨l,vs,rfl,.inl (SqL.of hH),fun p' hp=>?_⟩
  refine kk _ (e1.new p' _) (x1.trans (w1.new_ext hp)) (w1.new hp) ?_
  rw[Is]
  exact⟨p',vs,rfl,aJ,il.ext (w1.new_ext hp)⟩
noncomputable def Ew:Sl->Option Int
 | .dat (.int a)=>some a
 | _=>none
theorem Qf{s:Sl}{a:Int}(h:Ew s=some a):s=.dat (.int a):=by
 unfold Ew at h
 split at h
 ·cases h;rfl
 ·cases h
noncomputable def Ex(i:Nat)(g:Den):aN:=fun ρ Ω=>(ρ[i]?).bind fun s=>(Ew s).bind fun a=>(g ρ Ω).bind fun p=>(oM p.1).bind fun j=>some (.nx (ρ.set i (.dat (.int (a+j)))) p.2)
theorem Qg{i:Nat}{n:Str}{pos':Pos}(hN:X.N.Nodup)(hi:X.N[i]? = some n)(hx:Loc X.env.scope n)(he:PD X C x g)(hf:X.fn n=true\/X.env.scope.names.lookup n=some .local:=by first |exact .inl rfl |exact .inr rfl |assumption) :
  PDS X C (.AugAssign (.Name n pos') .Add x pos) (Ex i g):=fun e₀=>di (Q_ hN hi hx he Ra hf) fun Dn σ H hw'=>by
 obtain⟨e,Ω,ρ,o,eH,r,q,k⟩:=hw'
 obtain⟨s,q1,qa⟩:=Option.bind_eq_some_iff.mp q
 obtain⟨a,q2,qb⟩:=Option.bind_eq_some_iff.mp qa
 obtain⟨⟨d3,Ω3⟩,q3,qc⟩:=Option.bind_eq_some_iff.mp qb
 obtain⟨j,q4,qd⟩:=Option.bind_eq_some_iff.mp qc
 clear q qa qb qc
 have e2:=Qf q2
 have e4:=qG q4
 dsimp only at e4 qd
 subst e2 e4
 cases qd
 obtain⟨v,e1,i1⟩:=r.rel.dat _ _ q1
 rw[Is] at i1
 subst i1
 refine⟨_,e1,e,Ω,ρ,_,Ω3,eH,r.wf,r.rel,q3,fun u e' x' w' i'=>?_⟩
 rw[Is] at i'
 exact⟨a,j,rfl,i',k e' _ ((r.to x' w').set i (by rw[Is]))⟩
end
end DL
namespace L2
open PySem PySem.Spec PyProof.Rows
section
variable {X:Cx} {a b:Expr} {pos p1 p2 p3 p4:Pos} {ta tb:TE} {z y:Str} {kk kl:Nat}
theorem Te(ha:PE X a ta)(hb:PE X b tb)(hz:z.length<=1000:=by decide)(hy:y.length<=1000:=by decide)(hs:evalEach [.Constant (.str z) kk p1,.FormattedValue a (-1) none p2,.Constant (.str y) kl p3,.FormattedValue b (-1) none p4] X.env=[eval (.Constant (.str z) kk p1) X.env,eval (.FormattedValue a (-1) none p2) X.env,eval (.Constant (.str y) kl p3) X.env,eval (.FormattedValue b (-1) none p4) X.env]:=by rfl) :
  PE X (.JoinedStr [.Constant (.str z) kk p1,.FormattedValue a (-1) none p2,.Constant (.str y) kl p3,.FormattedValue b (-1) none p4] pos) (S_ ta tb):=by
 intro pins s σ H Q I h
 have len:∀p q:Str,(p++q).length=p.length+q.length:=fun p q=>strLen_append p q
 have sl:(100000:Nat)<=sizeLine:=by rw[sizeLine_eq];decide
 refine PySem.wpAny_JoinedStr ?_
 rw[hs]
 refine wpAny_mono (pZ (X:=X) (x:=z) (j:=kk) (pos:=p1) pins _ σ H (fun v H'=>v=.str z/\H'=H) I ⟨rfl,rfl⟩) (fun u s2 ⟨y',H2,I2,r2,e2,e3⟩=>?_) fun _ _ e=>e
 subst e2 e3
 obtain⟨t2,rfl⟩:=r2
 refine⟨z,t2,rfl,?_,?_⟩
 ·rw[PySem.W.KT.empty_app];omega
 rw[PySem.W.KT.empty_app]
 refine PySem.wpAny_FormattedValue_plain (thn (ha pins s2 σ _ _ I2 h) fun u s1 hw'=>?_)
 obtain⟨x,H1,I1,r1,i,ex,hi,li,q1⟩:=hw'
 subst ex
 obtain⟨t,rfl⟩:=r1
 refine wpAny_formatField_int hi ⟨_,_,rfl,?_,?_⟩
 ·rw[len];omega
 refine wpAny_mono (pZ (X:=X) (x:=y) (j:=kl) (pos:=p3) pins _ σ H1 (fun v H'=>v=.str y/\H'=H1) (I1.tok _) ⟨rfl,rfl⟩) (fun u s4 ⟨y'',H4,I4,r4,e4,e5⟩=>?_) fun _ _ e=>e
 subst e4 e5
 obtain⟨t4,rfl⟩:=r4
 refine⟨y,t4,rfl,?_,?_⟩
 ·rw[len,len];omega
 refine PySem.wpAny_FormattedValue_plain (thn (hb pins s4 σ _ _ I4 q1) fun u s3 hw'=>?_)
 obtain⟨x2,H3,I3,r3,j,ex2,hj,lj,q2⟩:=hw'
 subst ex2
 obtain⟨t3,rfl⟩:=r3
 refine wpAny_formatField_int hj ⟨_,_,rfl,?_,?_⟩
 ·rw[len,len,len];omega
 ·refine⟨?_,.str _,_,I3.tok _,⟨_,rfl⟩,q2 _⟩
  rw[len,len,len];omega
end
end L2
namespace DL
open PySem PySem.Spec PyProof.Rows L2
section
variable {X:Cx} {C:Cl} {a b:Expr} {f g:Den} {pos p1 p2 p3 p4:Pos}
theorem Tf{z y:Str}{kk kl:Nat}(ha:PD X C a f)(hb:PD X C b g)(hz:z.length<=1000:=by decide)(hy:y.length<=1000:=by decide)(hs:evalEach [.Constant (.str z) kk p1,.FormattedValue a (-1) none p2,.Constant (.str y) kl p3,.FormattedValue b (-1) none p4] X.env=[eval (.Constant (.str z) kk p1) X.env,eval (.FormattedValue a (-1) none p2) X.env,eval (.Constant (.str y) kl p3) X.env,eval (.FormattedValue b (-1) none p4) X.env]:=by rfl) :
  PV X C (.JoinedStr [.Constant (.str z) kk p1,.FormattedValue a (-1) none p2,.Constant (.str y) kl p3,.FormattedValue b (-1) none p4] pos) (tE f g):=bj (Te ha hb hz hy hs) fun σ H Q hw'=>by
 obtain⟨e,Ω,ρ,Ω',eH,w,rl,q,k⟩:=hw'
 obtain⟨⟨d1,Ω1⟩,q1,qa⟩:=Option.bind_eq_some_iff.mp q
 obtain⟨i,q2,qb⟩:=Option.bind_eq_some_iff.mp qa
 have e2:=qG q2
 dsimp only at e2 qb
 subst e2
 split at qb
 ·rename_i hi
  obtain⟨⟨d3,Ω3⟩,q3,qc⟩:=Option.bind_eq_some_iff.mp qb
  obtain⟨j,q4,qd⟩:=Option.bind_eq_some_iff.mp qc
  have e4:=qG q4
  dsimp only at e4 qd
  subst e4
  split at qd
  ·rename_i hj
   cases qd
   refine⟨e,Ω,ρ,_,_,eH,w,rl,q1,fun v e' x' w' i'=>?_⟩
   rw[Is] at i'
   refine⟨i,i',hi.1,hi.2,e',Ω1,ρ,_,_,rfl,w',rl.ext x',q3,fun v2 e2 x2 w2 i2=>?_⟩
   rw[Is] at i2
   exact⟨j,i2,hj.1,hj.2,fun t=>k _ e2 (x'.trans x2) w2⟩
  ·cases qd
 ·cases qb
end
end DL
namespace Law
open PySem DL
noncomputable def xG:Str->Option Bool:=fun c=>if c = "NoHouse" then some false else if c = "NoNote" then some true else if c = "NotTied" then some false else if c = "Tied" then some false else none
noncomputable def xH:Str->Option Bool:=fun c=>if c = "NoHouse" then some false else if c = "NoNote" then some false else if c = "NotTied" then some true else if c = "Tied" then some false else none
noncomputable def xJ:Str->Option Bool:=fun c=>if c = "NoHouse" then some false else if c = "NoNote" then some false else if c = "NotTied" then some false else if c = "Tied" then some true else none
noncomputable def xK:Str->Option Bool:=fun c=>if c = "NoHouse" then some true else if c = "NoNote" then some false else if c = "NotTied" then some false else if c = "Tied" then some false else none
noncomputable def xM:Str->Option Bool:=fun c=>if c = "NoHouse" then some false else if c = "NoNote" then some false else if c = "NotTied" then some false else if c = "Tied" then some false else none
noncomputable def xN:Str->Option Bool:=fun c=>if c = "NoHouse" then some true else if c = "NoNote" then some true else if c = "NotTied" then some true else if c = "Tied" then some true else none
noncomputable def jJ:Str->Bool:=fun c=>decide (c = "NoHouse") || decide (c = "NoNote") || decide (c = "NotTied") || decide (c = "Tied")
noncomputable def cR:bK:=cD 2 2 (aG (sIf (gT (gOp ltD (aj 1) (gCB lO (ak (aj 0) aA)))) (bx (gOp ixD (aj 0) (aj 1))) aR) (bx (gC (.int 0))))
noncomputable def mF:bK:=cD 2 5 (aG (wO 2 aA) (aG (bF 3 (gCB lO (ak (aj 0) aA))) (aG (mO (kE lQ (ak (aj 1) aA)) (bT 4) (aG (bF 3 (gOp bG (gOp dN (gOp dN (gOp dN (gOp cX (aj 3) (gC (.int 1000003))) (bz cR (ak (aj 0) (ak (aj 4) aA)))) (gOp cX (gC (.int 104729)) (aj 4))) (gOp cX (gOp cX (gC (.int 7919)) (aj 4)) (aj 4))) (gC (.int 998244353)))) (pW 2 (gOp cQ (gOp bG (gOp cX (gOp bG (gOp cX (aj 3) (aj 3)) (gC (.int 998244353))) (gC (.int 48271))) (gC (.int 2147483647))) (gC (.int 13)))))) (sE (frz 2) (bx (aj 2))))))
noncomputable def k_:bK:=cD 1 2 (aG (bF 1 (gOp ixD (bH (ak (gC (.int 1)) (ak (gC (.int 3)) (ak (gC (.int 5)) (ak (gC (.int 7)) (ak (gC (.int 11)) (ak (gC (.int 13)) aA))))))) (gOp bG (gOp cQ (aj 0) (gC (.int 32))) (gC (.int 6))))) (bx (gn [none,some 0,some 1] (kE lQ (ak (gOp dN (gC (.int 2)) (gOp bG (gOp cQ (aj 0) (gC (.int 192))) (gC (.int 5)))) aA)) (bT 0) d_ (gOp bG (gOp dN (aj 1) (gOp cX (aj 2) (aj 0))) (gC (.int 32))))))
noncomputable def lW:bK:=cD 1 3 (aG (bF 1 (gOp bG (gOp cQ (aj 0) (gC (.int 6))) (gC (.int 1000)))) (aG (bF 2 (bH (ak (bu (ak (gC (.str "news")) (ak (gOp bG (aj 1) (gC (.int 32))) (ak (aj 1) aA)))) (ak (bu (ak (gC (.str "way")) (ak (gOp bG (aj 1) (gC (.int 32))) (ak (gC (.int 1)) (ak (gC .non) (ak (bu aA) aA)))))) (ak (aj 1) (ak (gC (.str "note")) (ak (gC .non) (ak (bu (ak (aj 1) aA)) aA)))))))) (bx (gOp ixD (aj 2) (gOp bG (aj 0) (gC (.int 6)))))))
noncomputable def bZ:bK:=cD 6 6 (aG (sIf (dZ (gT (gOp (eqD false) (aj 0) (gC (.str "come")))) (gT (gOp (eqD false) (aj 3) (aj 4)))) (bx (gC (.str "nohouse"))) aR) (aG (sIf (dZ (gT (gOp (eqD false) (aj 0) (gC (.str "come")))) (gT (jy false (bu (ak (aj 3) (ak (aj 4) aA))) (aj 2)))) (bx (gC (.str "tied"))) aR) (aG (sIf (dZ (gT (gOp (eqD true) (aj 0) (gC (.str "come")))) (gT (jy true (bu (ak (aj 3) (ak (aj 4) aA))) (aj 2)))) (bx (gC (.str "nottied"))) aR) (aG (sIf (gT (gOp (eqD false) (aj 0) (gC (.str "come")))) (aG (jE (aj 1) (bu (ak (gCB jj (ak (aj 3) (ak (aj 4) aA))) (ak (gCB kh (ak (aj 3) (ak (aj 4) aA))) aA))) (aj 5)) (aG (jE (aj 2) (bu (ak (aj 3) (ak (aj 4) aA))) (jG aA)) (jE (aj 2) (bu (ak (aj 4) (ak (aj 3) aA))) (jG aA)))) aR) (aG (sIf (gT (gOp (eqD false) (aj 0) (gC (.str "fall")))) (aG (cV (iQ (aj 1) (bu (ak (gCB jj (ak (aj 3) (ak (aj 4) aA))) (ak (gCB kh (ak (aj 3) (ak (aj 4) aA))) aA))))) (aG (cV (iQ (aj 2) (bu (ak (aj 3) (ak (aj 4) aA))))) (cV (iQ (aj 2) (bu (ak (aj 4) (ak (aj 3) aA))))))) aR) (aG (sIf (gT (gOp (eqD false) (aj 0) (gC (.str "send")))) (nq (eE (aj 2) (bu (ak (aj 3) (ak (aj 4) aA)))) (aj 5)) aR) (aG (sIf (gT (gOp (eqD false) (aj 0) (gC (.str "carry")))) (aG (sIf (gT (jQ false (eE (aj 2) (bu (ak (aj 3) (ak (aj 4) aA)))) (bH aA))) (bx (gC (.str "nonote"))) aR) (bx (bH (ak (uh (eE (aj 2) (bu (ak (aj 3) (ak (aj 4) aA)))) (gC (.int 0))) aA)))) aR) (aG (sIf (gT (gOp (eqD false) (aj 0) (gC (.str "length")))) (bx (bH (ak (eE (aj 1) (bu (ak (gCB jj (ak (aj 3) (ak (aj 4) aA))) (ak (gCB kh (ak (aj 3) (ak (aj 4) aA))) aA)))) aA))) aR) (aG (sIf (gT (gOp (eqD false) (aj 0) (gC (.str "notes")))) (bx (bH (ak (Aw (eE (aj 2) (bu (ak (aj 3) (ak (aj 4) aA))))) aA))) aR) (bx (bH (ak (gC .non) aA))))))))))))
noncomputable def cO:bK:=cD 2 2 (bx (bu (ak (gCB jj (ak (aj 0) (ak (aj 1) aA))) (ak (gCB kh (ak (aj 0) (ak (aj 1) aA))) aA))))
noncomputable def aP:bK:=cD 3 3 (sIf (gT (jy true (bz cO (ak (aj 1) (ak (aj 2) aA))) (eQ "Ties" "length_by" (aj 0)))) kj aR)
noncomputable def aX:gV:=mQ 3 3 (rIf (gT (jy true (bz cO (ak (aj 1) (ak (aj 2) aA))) (eQ "Ties" "length_by" (aj 0)))) (lV "NotTied" (tE (aj 1) (aj 2))) gZ)
noncomputable def eF:bK:=cD 1 8 (aG (wO 1 (ak (bH (ak (aj 0) aA)) aA)) (aG (wO 2 aA) (aG (bF 3 (gC (.int 0))) (aG (fX (gT (gOp ltD (aj 3) (vQ (gO 1)))) (aG (bF 4 (zY (gO 1) (aj 3))) (aG (mO (kE vX (ak (aj 4) aA)) (jx [5,6]) (sIf (gT (gUn (qF ["list","tuple"]) (aj 6))) (aG (pW 2 (bu (ak (aj 3) (ak (aj 5) (ak (gUn (gf "tuple") (aj 6)) aA))))) (pW 1 (gCB n_ (ak (aj 6) aA)))) aR)) (Ex 3 (gC (.int 1))))) 1000) (sE (frz 2) (aG (sIf (gT (gCB zZ (ak (gn [none] (fj (aj 2)) (bT 0) d_ (gOp ixD (aj 0) (gC (.int 2)))) aA))) (bx (aj 0)) aR) (aG kj kj)))))))
noncomputable def eU:bK:=cD 3 3 (aG (cV (cz "Ties" "need_pair" aP [] (aj 0) (ak (aj 1) (ak (aj 2) aA)))) (bx (qJ [none] (sS (eQ "Ties" "sent_on" (aj 0)) (bu (ak (aj 1) (ak (aj 2) aA))) (jG aA)) (bT 0) d_ (bz eF (ak (aj 0) aA)))))
noncomputable def ie:gV:=mQ 3 3 (rE (gJ "Ties" "need_pair" aX [] (aj 0) (ak (aj 1) (ak (aj 2) aA))))
noncomputable def dg:bK:=cD 4 4 (aG (sIf (gT (gOp (eqD false) (aj 1) (aj 2))) kj aR) (aG (sIf (gT (jy false (bz cO (ak (aj 1) (ak (aj 2) aA))) (eQ "Ties" "length_by" (aj 0)))) kj aR) (jE (eQ "Ties" "length_by" (aj 0)) (bz cO (ak (aj 1) (ak (aj 2) aA))) (aj 3))))
noncomputable def gQ:gV:=mQ 4 4 (rOr (rIf (gT (gOp (eqD false) (aj 1) (aj 2))) (lV "NoHouse" (pFi (aj 1))) gZ) (kY (sIf (gT (gOp (eqD false) (aj 1) (aj 2))) kj aR) (rIf (gT (jy false (bz cO (ak (aj 1) (ak (aj 2) aA))) (eQ "Ties" "length_by" (aj 0)))) (lV "Tied" (tE (aj 1) (aj 2))) gZ)))
noncomputable def eG:bK:=cD 3 3 (aG (cV (cz "Ties" "need_pair" aP [] (aj 0) (ak (aj 1) (ak (aj 2) aA)))) (aG (cV (iQ (eQ "Ties" "length_by" (aj 0)) (bz cO (ak (aj 1) (ak (aj 2) aA))))) (aG (cV (qK (eQ "Ties" "sent_on" (aj 0)) (bu (ak (aj 1) (ak (aj 2) aA))) (gC .non))) (cV (qK (eQ "Ties" "sent_on" (aj 0)) (bu (ak (aj 2) (ak (aj 1) aA))) (gC .non))))))
noncomputable def iI:gV:=mQ 3 3 (rE (gJ "Ties" "need_pair" aX [] (aj 0) (ak (aj 1) (ak (aj 2) aA))))
noncomputable def dh:bK:=cD 4 4 (aG (cV (cz "Ties" "need_pair" aP [] (aj 0) (ak (aj 1) (ak (aj 2) aA)))) (nq (rJ (eQ "Ties" "sent_on" (aj 0)) (bu (ak (aj 1) (ak (aj 2) aA))) (jG aA)) (bz eF (ak (aj 3) aA))))
noncomputable def iJ:gV:=mQ 4 4 (rE (gJ "Ties" "need_pair" aX [] (aj 0) (ak (aj 1) (ak (aj 2) aA))))
noncomputable def cT:bK:=cD 3 5 (aG (cV (cz "Ties" "need_pair" aP [] (aj 0) (ak (aj 1) (ak (aj 2) aA)))) (aG (sIf (gT (jy true (bu (ak (aj 1) (ak (aj 2) aA))) (eQ "Ties" "sent_on" (aj 0)))) kj aR) (aG (bF 3 (eE (eQ "Ties" "sent_on" (aj 0)) (bu (ak (aj 1) (ak (aj 2) aA))))) (aG (bF 4 (uh (aj 3) (gC (.int 0)))) (aG (sIf (gT (jQ false (aj 3) (bH aA))) (cV (iQ (eQ "Ties" "sent_on" (aj 0)) (bu (ak (aj 1) (ak (aj 2) aA))))) aR) (bx (aj 4)))))))
noncomputable def fY:gV:=mQ 3 5 (rOr (rE (gJ "Ties" "need_pair" aX [] (aj 0) (ak (aj 1) (ak (aj 2) aA)))) (kY (cV (cz "Ties" "need_pair" aP [] (aj 0) (ak (aj 1) (ak (aj 2) aA)))) (rIf (gT (jy true (bu (ak (aj 1) (ak (aj 2) aA))) (eQ "Ties" "sent_on" (aj 0)))) (lV "NoNote" (tE (aj 1) (aj 2))) gZ)))
noncomputable def dC:bK:=cD 3 3 (aG (cV (cz "Ties" "need_pair" aP [] (aj 0) (ak (aj 1) (ak (aj 2) aA)))) (bx (eE (eQ "Ties" "length_by" (aj 0)) (bz cO (ak (aj 1) (ak (aj 2) aA))))))
noncomputable def gD:gV:=mQ 3 3 (rE (gJ "Ties" "need_pair" aX [] (aj 0) (ak (aj 1) (ak (aj 2) aA))))
noncomputable def bU:bK:=cD 5 7 (uU (aG (sIf (gT (gOp (eqD false) (aj 0) (gC (.str "come")))) (bx (bH (ak (cz "Ties" "come" dg [] (aj 1) (ak (aj 2) (ak (aj 3) (ak (aj 4) aA)))) aA))) aR) (aG (sIf (gT (gOp (eqD false) (aj 0) (gC (.str "fall")))) (bx (bH (ak (cz "Ties" "fall" eG [] (aj 1) (ak (aj 2) (ak (aj 3) aA))) aA))) aR) (aG (sIf (gT (gOp (eqD false) (aj 0) (gC (.str "send")))) (bx (bH (ak (cz "Ties" "send" dh [] (aj 1) (ak (aj 2) (ak (aj 3) (ak (aj 4) aA)))) aA))) aR) (aG (sIf (gT (gOp (eqD false) (aj 0) (gC (.str "carry")))) (bx (bH (ak (cz "Ties" "carry" cT [] (aj 1) (ak (aj 2) (ak (aj 3) aA))) aA))) aR) (aG (sIf (gT (gOp (eqD false) (aj 0) (gC (.str "length")))) (bx (bH (ak (cz "Ties" "length" dC [] (aj 1) (ak (aj 2) (ak (aj 3) aA))) aA))) aR) (bx (bH (ak (cz "Ties" "notes" eU [] (aj 1) (ak (aj 2) (ak (aj 3) aA))) aA)))))))) (rOr (rIf (gT (gOp (eqD false) (aj 0) (gC (.str "come")))) (rE (gJ "Ties" "come" gQ [] (aj 1) (ak (aj 2) (ak (aj 3) (ak (aj 4) aA))))) gZ) (kY (sIf (gT (gOp (eqD false) (aj 0) (gC (.str "come")))) (bx (bH (ak (cz "Ties" "come" dg [] (aj 1) (ak (aj 2) (ak (aj 3) (ak (aj 4) aA)))) aA))) aR) (rOr (rIf (gT (gOp (eqD false) (aj 0) (gC (.str "fall")))) (rE (gJ "Ties" "fall" iI [] (aj 1) (ak (aj 2) (ak (aj 3) aA)))) gZ) (kY (sIf (gT (gOp (eqD false) (aj 0) (gC (.str "fall")))) (bx (bH (ak (cz "Ties" "fall" eG [] (aj 1) (ak (aj 2) (ak (aj 3) aA))) aA))) aR) (rOr (rIf (gT (gOp (eqD false) (aj 0) (gC (.str "send")))) (rE (gJ "Ties" "send" iJ [] (aj 1) (ak (aj 2) (ak (aj 3) (ak (aj 4) aA))))) gZ) (kY (sIf (gT (gOp (eqD false) (aj 0) (gC (.str "send")))) (bx (bH (ak (cz "Ties" "send" dh [] (aj 1) (ak (aj 2) (ak (aj 3) (ak (aj 4) aA)))) aA))) aR) (rOr (rIf (gT (gOp (eqD false) (aj 0) (gC (.str "carry")))) (rE (gJ "Ties" "carry" fY [] (aj 1) (ak (aj 2) (ak (aj 3) aA)))) gZ) (kY (sIf (gT (gOp (eqD false) (aj 0) (gC (.str "carry")))) (bx (bH (ak (cz "Ties" "carry" cT [] (aj 1) (ak (aj 2) (ak (aj 3) aA))) aA))) aR) (rOr (rIf (gT (gOp (eqD false) (aj 0) (gC (.str "length")))) (rE (gJ "Ties" "length" gD [] (aj 1) (ak (aj 2) (ak (aj 3) aA)))) gZ) (kY (sIf (gT (gOp (eqD false) (aj 0) (gC (.str "length")))) (bx (bH (ak (cz "Ties" "length" dC [] (aj 1) (ak (aj 2) (ak (aj 3) aA))) aA))) aR) (rE (gJ "Ties" "notes" ie [] (aj 1) (ak (aj 2) (ak (aj 3) aA)))))))))))))) 5 jJ (aG (bF 6 (bH (ak (iK xK (aj 5)) (ak (iK xJ (aj 5)) (ak (iK xH (aj 5)) (ak (iK xG (aj 5)) aA)))))) (aG (sIf (pU (gT (gOp (eqD true) (nu rG (aj 6) (gC (.bl true))) (gC (.int 1)))) (pU (gT (iK xM (aj 5))) (gU (gT (iK xN (aj 5)))))) (bx (gC (.str "several"))) aR) (bx (gOp ixD (bH (ak (gC (.str "nohouse")) (ak (gC (.str "tied")) (ak (gC (.str "nottied")) (ak (gC (.str "nonote")) aA))))) (nu rH (aj 6) (gC (.bl true))))))))
noncomputable def bW:bK:=cD 1 1 (aG (vN "Ties" "length_by" (aj 0) jF) (vN "Ties" "sent_on" (aj 0) jF))
noncomputable def jd:bK:=cD 1 1 (aG (sIf (gT (gOp (isD false) (aj 0) (gC .non))) (bx (gC (.int 0))) aR) (aG (sIf (gT (gUn (gf "int") (aj 0))) (bx (gC (.int 1))) aR) (aG (sIf (gT (gUn (gf "str") (aj 0))) (bx (gC (.int 2))) aR) (bx (gOp dN (gC (.int 3)) (gCB Mj (ak (gUn (gf "tuple") (aj 0)) aA)))))))
noncomputable def fu:bK:=cD 2 2 (aG (sIf (pU (gU (gT (gUn (gf "list") (aj 0)))) (pU (gT (gOp (eqD true) (gCB lO (ak (aj 0) aA)) (gCB lO (ak (aj 1) aA)))) (gT (gOp (eqD true) (aj 0) (aj 1))))) (bx (gC (.bl false))) aR) (bx (gOp (eqD false) (gn [none] (fj (aj 0)) (bT 0) d_ (bz jd (ak (aj 0) aA))) (gn [none] (fj (aj 1)) (bT 0) d_ (bz jd (ak (aj 0) aA))))))
noncomputable def fZ:bK:=cD 1 1 (bx (gn [none,some 0] (fj (oR (eQ "Ties" "length_by" (aj 0)))) (bT 0) d_ (gOp uf (aj 0) (bu (ak (eE (eQ "Ties" "length_by" (aj 1)) (aj 0)) aA)))))
noncomputable def dW:bK:=cD 1 1 (bx (oR (eQ "Ties" "sent_on" (aj 0))))
noncomputable def gK:bK:=cD 4 11 (aG (sH (jx [4,5,6]) (aj 0)) (aG (mO (kE lQ (ak (gC (.int 3)) aA)) (bT 7) (aG (bF 8 (gOp ixD (bH (ak (gOp bG (gOp dN (aj 2) (aj 7)) (gC (.int 3))) (ak (gOp bG (gOp Ea (aj 2) (aj 7)) (gC (.int 3))) aA))) (gOp bG (gOp cQ (aj 2) (gC (.int 3))) (gC (.int 2))))) (aG (sIf (gT (gOp (eqD false) (aj 8) (gC (.int 0)))) (aG (bF 9 (cz "Ties" "pairs" fZ [] (aj 4) aA)) (bF 10 (h_ (gn [none,some 5] (fj (dJ (aj 5))) (bT 0) d_ (bu (ak (gOp ixD (aj 0) (gC (.int 0))) (ak (gOp ixD (aj 0) (gC (.int 1))) (ak (eE (aj 1) (aj 0)) aA)))))))) (sIf (gT (gOp (eqD false) (aj 8) (gC (.int 1)))) (aG (bF 9 (cz "Ties" "waiting" dW [] (aj 4) aA)) (bF 10 (h_ (gn [none,some 6] (fj (dJ (aj 6))) (bT 0) (gT (jQ true (eE (aj 1) (aj 0)) (bH aA))) (aj 0))))) (aG (bF 9 (bH (ak (bz bU (ak (gC (.str "length")) (ak (aj 4) (ak (gOp ixD (aj 1) (gC (.int 0))) (ak (gOp ixD (aj 1) (gC (.int 1))) (ak (gC (.int 0)) aA)))))) aA))) (bF 10 (bH (ak (bz bZ (ak (gC (.str "length")) (ak (aj 5) (ak (aj 6) (ak (gOp ixD (aj 1) (gC (.int 0))) (ak (gOp ixD (aj 1) (gC (.int 1))) (ak (gC (.int 0)) aA))))))) aA)))))) (aG (sIf (gU (gT (bz fu (ak (aj 9) (ak (aj 10) aA))))) (bx (gC (.bl false))) aR) (nq (aj 3) (bu (ak (aj 9) (ak (gCB n_ (ak (aj 10) aA)) aA)))))))) (bx (gC (.bl true)))))
noncomputable def um:bK:=cD 1 16 (aG (bF 1 (bz mF (ak (aj 0) (ak (gOp dN (gOp dN (gC (.int 2)) (gCB jj (ak (gC (.int 40)) (ak (gCB lO (ak (aj 0) aA)) aA)))) (gOp bG (bz cR (ak (aj 0) (ak (gC (.int 0)) aA))) (gC (.int 30)))) aA)))) (aG (bF 2 (bz k_ (ak (gOp ixD (aj 1) (gC (.int 0))) aA))) (aG (bF 3 (bH (ak (bu (ak (pJ "Ties" bW [] aA) (ak jF (ak jF aA)))) (ak (bu (ak (pJ "Ties" bW [] aA) (ak jF (ak jF aA)))) aA)))) (aG (bF 4 (jG aA)) (aG (mO (fj (gSl (aj 1) (vC (gC (.int 1))) tZ)) (bT 5) (aG (sH (jx [6,7,8]) (gOp ixD (aj 3) (gOp bG (aj 5) (gC (.int 2))))) (aG (bF 9 (gOp ixD (bH (ak (gC (.str "come")) (ak (gC (.str "send")) (ak (gC (.str "send")) (ak (gC (.str "carry")) (ak (gC (.str "fall")) (ak (gC (.str "come")) (ak (gC (.str "send")) (ak (gC (.str "carry")) (ak (gC (.str "notes")) aA)))))))))) (gOp bG (gOp cQ (aj 5) (gC (.int 2))) (gC (.int 9))))) (aG (bF 10 (gOp ixD (aj 2) (gOp bG (gOp cQ (aj 5) (gC (.int 18))) (gCB lO (ak (aj 2) aA))))) (aG (bF 11 (gOp ixD (aj 2) (gOp bG (gOp cQ (aj 5) (gC (.int 108))) (gCB lO (ak (aj 2) aA))))) (aG (sIf (dZ (gT (gOp (eqD true) (dJ (aj 8)) (bH aA))) (dZ (gT (gOp (tu false) (aj 9) (bH (ak (gC (.str "send")) (ak (gC (.str "carry")) (ak (gC (.str "notes")) aA)))))) (gT (gOp gtD (gOp bG (gOp cQ (aj 5) (gC (.int 648))) (gC (.int 4))) (gC (.int 0)))))) (sH (jx [10,11]) (gOp ixD (h_ (dJ (aj 8))) (gOp bG (gOp cQ (aj 5) (gC (.int 2592))) (qZ (aj 8))))) aR) (aG (bF 12 (bz lW (ak (gOp cQ (aj 5) (gC (.int 700))) aA))) (aG (sIf (gT (gOp (eqD false) (aj 9) (gC (.str "come")))) (bF 12 (gOp dN (gC (.int 1)) (gOp bG (gOp cQ (aj 5) (gC (.int 700))) (gC (.int 99))))) aR) (aG (bF 13 (bz bZ (ak (aj 9) (ak (aj 7) (ak (aj 8) (ak (aj 10) (ak (aj 11) (ak (aj 12) aA)))))))) (aG (bF 14 (bz bU (ak (aj 9) (ak (aj 6) (ak (aj 10) (ak (aj 11) (ak (aj 12) aA))))))) (aG (sIf (dZ (gT (gUn (gf "str") (aj 13))) (gT (gOp (eqD true) (aj 14) (aj 13)))) (bx (gC (.bl false))) aR) (aG (sIf (dZ (gU (gT (gUn (gf "str") (aj 13)))) (gU (gT (bz fu (ak (aj 14) (ak (aj 13) aA)))))) (bx (gC (.bl false))) aR) (mO (fj (aj 3)) (bT 15) (sIf (gU (gT (bz gK (ak (aj 15) (ak (bu (ak (aj 10) (ak (aj 11) aA))) (ak (gOp bG (gOp cQ (aj 5) (gC (.int 900))) (gC (.int 6))) (ak (aj 4) aA))))))) (bx (gC (.bl false))) aR)))))))))))))) (bx (gCB zZ (ak (qJ [none,none] (aj 4) (jx [0,1]) d_ (bz fu (ak (aj 0) (ak (aj 1) aA)))) aA))))))))
end Law
namespace Law
open PySem DL
section
variable {κ κ' β:Type} [DecidableEq κ] [DecidableEq κ']
noncomputable def aF(xs:List (κ×β))(k:κ):Option β:=(xs.find? fun r=>decide (r.1=k)).map (·.2)
noncomputable def aU(xs:List (κ×β))(k:κ)(v:β):List (κ×β):=if(xs.any fun r=>decide (r.1=k))=true then xs.map (fun r=>if r.1=k then(r.1,v) else r) else xs++[(k,v)]
noncomputable def aY(xs:List (κ×β))(k:κ):List (κ×β):=xs.filter fun r=>decide (r.1≠k)
noncomputable def mpA(e:κ->κ')(f:β->D)(xs:List (κ×β)):List (κ'×D):=xs.map fun r=>(e r.1,f r.2)
theorem dD(r:κ×β)(xs:List (κ×β))(k:κ):aF (r::xs) k=if r.1=k then some r.2 else aF xs k:=by
 unfold aF
 rw[List.find?_cons]
 by_cases h:r.1=k
 ·simp[h]
 ·simp[h]
theorem oU{e:κ->κ'}(he:∀a b,e a=e b↔a=b)(f:β->D)(k:κ):∀xs:List (κ×β),dR (mpA e f xs) (e k)=(aF xs k).map f
 | []=>rfl
 | r::xs=>by
  have ih:=oU he f k xs
  rw[dD]
  unfold dR mpA at ih ⊢
  rw[List.map_cons,List.find?_cons]
  by_cases h:r.1=k
  ·simp[h]
  ·have h':¬e r.1=e k:=fun z=>h ((he _ _).mp z)
   simpa [h,h'] using ih
theorem Hy{e:κ->κ'}(he:∀a b,e a=e b↔a=b)(f:β->D)(k:κ):∀xs:List (κ×β),((mpA e f xs).any fun kv=>decide (kv.1=e k))=xs.any fun r=>decide (r.1=k)
 | []=>rfl
 | r::xs=>by
  have ih:=Hy he f k xs
  unfold mpA at ih ⊢
  rw[List.map_cons,List.any_cons,List.any_cons,ih]
  congr 1
  exact decide_eq_decide.mpr (he _ _)
theorem Ax{e:κ->κ'}(he:∀a b,e a=e b↔a=b)(f:β->D)(xs:List (κ×β))(k:κ)(v:β):putD (mpA e f xs) (e k) (f v)=mpA e f (aU xs k v):=by
 unfold putD aU
 rw[Hy he]
 split
 ·unfold mpA
  rw[List.map_map,List.map_map]
  apply List.map_congr_left
  intro r _
  show(if e r.1=e k then(e r.1,f v) else(e r.1,f r.2))=_
  by_cases h:r.1=k
  ·rw[if_pos (by rw[h])];simp[h]
  ·rw[if_neg (fun z=>h ((he _ _).mp z))];simp[h]
 ·simp[mpA]
theorem xO{e:κ->κ'}(he:∀a b,e a=e b↔a=b)(f:β->D)(xs:List (κ×β))(k:κ):jl (mpA e f xs) (e k)=mpA e f (aY xs k):=by
 unfold jl aY mpA
 rw[List.filter_map]
 congr 1
 apply List.filter_congr
 intro r _
 exact decide_eq_decide.mpr (not_congr (he _ _))
@[simp] theorem Uv(e:κ->κ')(f:β->D)(xs:List (κ×β)):(mpA e f xs).length=xs.length:=by simp[mpA]
theorem rK{xs:List (κ×β)}{k:κ}{v:β}(h:aF xs k=some v):(k,v)∈xs:=by
 induction xs with
 | nil=>cases h
 | cons r xs ih =>
  rw[dD] at h
  split at h
  ·rename_i e
   cases h
   rw[<-e];exact List.mem_cons_self
  ·exact List.mem_cons_of_mem _ (ih h)
theorem je{xs:List (κ×β)}{k:κ}:aF xs k=none↔k∉xs.map (·.1):=by
 induction xs with
 | nil=>simp[aF]
 | cons r xs ih =>
  rw[dD,List.map_cons,List.mem_cons,not_or,<-ih]
  by_cases h:r.1=k
  ·rw[if_pos h];simp[h]
  ·rw[if_neg h]
   exact⟨fun z=>⟨fun y=>h y.symm,z⟩,fun z=>z.2⟩
theorem uq{xs:List (κ×β)}{k:κ}{v:β}(hn:(xs.map (·.1)).Nodup)(h:(k,v)∈xs):aF xs k=some v:=by
 induction xs with
 | nil=>cases h
 | cons r xs ih =>
  rw[List.map_cons,List.nodup_cons] at hn
  rw[dD]
  rcases List.mem_cons.mp h with rfl |h
  ·rw[if_pos rfl]
  ·rw[if_neg (fun z=>hn.1 (by rw[z];exact List.mem_map.mpr ⟨_,h,rfl⟩)),ih hn.2 h]
theorem ur{xs:List (κ×β)}{k:κ}:(xs.any fun r=>decide (r.1=k))=true↔k∈xs.map (·.1):=by
 rw[List.any_eq_true]
 constructor
 ·rintro⟨r,h1,h2⟩
  exact List.mem_map.mpr ⟨r,h1,by simpa using h2⟩
 ·intro h
  obtain⟨r,h1,h2⟩:=List.mem_map.mp h
  exact⟨r,h1,by simpa using h2⟩
theorem Ay(xs:List (κ×β))(k k':κ)(v:β):aF (xs.map fun r=>if r.1=k then(r.1,v) else r) k'=if k'=k then(aF xs k).map fun _=>v else aF xs k':=by
 induction xs with
 | nil=>simp[aF]
 | cons r xs ih =>
  rw[List.map_cons,dD,ih,dD,dD]
  by_cases h:r.1=k
  ·by_cases h2:k'=k
   ·subst h2;simp[h]
   ·have h3:¬r.1=k':=fun z=>h2 (by rw[<-z,h])
    have h4:¬k=k':=fun z=>h2 z.symm
    simp[h,h2,h4]
  ·by_cases h2:k'=k
   ·subst h2;simp[h]
   ·simp[h,h2]
theorem Ky(xs ys:List (κ×β))(k:κ):aF (xs++ys) k=match aF xs k with |some v=>some v |none=>aF ys k:=by
 induction xs with
 | nil=>rfl
 | cons r xs ih =>
  rw[List.cons_append,dD,dD,ih]
  by_cases h:r.1=k
  ·simp[h]
  ·simp[h]
theorem cM(xs:List (κ×β))(k k':κ)(v:β):aF (aU xs k v) k'=if k'=k then some v else aF xs k':=by
 unfold aU
 split
 ·rename_i h
  rw[Ay]
  by_cases h2:k'=k
  ·rw[if_pos h2,if_pos h2]
   have:=ur.mp h
   cases q:aF xs k with
   | none=>exact absurd this (je.mp q)
   | some w=>rfl
  ·rw[if_neg h2,if_neg h2]
 ·rename_i h
  have hn:k∉xs.map (·.1):=fun z=>h (ur.mpr z)
  rw[Ky,dD]
  by_cases h2:k'=k
  ·subst h2
   rw[je.mpr hn];simp
  ·have h3:¬k=k':=fun z=>h2 z.symm
   rw[if_neg h2]
   show(match aF xs k' with |some v=>some v |none=>if k=k' then some v else aF [] k')=_
   rw[if_neg h3]
   cases aF xs k'<;>rfl
theorem cN(xs:List (κ×β))(k k':κ):aF (aY xs k) k'=if k'=k then none else aF xs k':=by
 induction xs with
 | nil=>simp[aY,aF]
 | cons r xs ih =>
  unfold aY at ih ⊢
  rw[List.filter_cons,dD]
  by_cases h:r.1=k
  ·simp only[h,ne_eq,not_true,decide_false,Bool.false_eq_true,if_false,ih]
   by_cases h2:k'=k
   ·simp[h2]
   ·have h3:¬k=k':=fun z=>h2 z.symm
    simp[h2,h3]
  ·simp only[h,ne_eq,not_false_eq_true,decide_true,if_true,dD,ih]
   by_cases h2:k'=k
   ·subst h2;simp[h]
   ·simp[h2]
theorem Hz(xs:List (κ×β))(k:κ)(v:β):(aU xs k v).map (·.1)=if k∈xs.map (·.1) then xs.map (·.1) else xs.map (·.1)++[k]:=by
 unfold aU
 by_cases h:k∈xs.map (·.1)
 ·rw[if_pos (ur.mpr h),if_pos h,List.map_map]
  apply List.map_congr_left
  intro r _
  show(if r.1=k then(r.1,v) else r).1=r.1
  split<;>rfl
 ·rw[if_neg (fun z=>h (ur.mp z)),if_neg h];simp
theorem vY{xs:List (κ×β)}(h:(xs.map (·.1)).Nodup)(k:κ)(v:β):((aU xs k v).map (·.1)).Nodup:=by
 rw[Hz]
 split
 ·exact h
 ·rename_i hn
  rw[List.nodup_append]
  refine⟨h,by simp,fun a ha b hb z=>hn ?_⟩
  rw[List.mem_singleton] at hb
  rw[<-hb,<-z];exact ha
theorem HB(xs:List (κ×β))(k:κ):(aY xs k).map (·.1)=(xs.map (·.1)).filter fun x=>decide (x≠k):=by
 unfold aY
 rw[List.filter_map];rfl
theorem vZ{xs:List (κ×β)}(h:(xs.map (·.1)).Nodup)(k:κ):((aY xs k).map (·.1)).Nodup:=by
 rw[HB];exact h.filter _
theorem Kz(xs:List (κ×β))(k:κ)(v:β):(aU xs k v).length<=xs.length+1:=by
 unfold aU
 split<;>simp
theorem Az{xs:List (κ×β)}{k:κ}{v:β}{r:κ×β}(h:r∈aU xs k v):r∈xs\/r=(k,v):=by
 unfold aU at h
 split at h
 ·obtain⟨q,hq,e⟩:=List.mem_map.mp h
  by_cases z:q.1=k
  ·rw[if_pos z] at e;exact .inr (by rw[<-e,z])
  ·rw[if_neg z] at e;exact .inl (by rw[<-e];exact hq)
 ·rcases List.mem_append.mp h with h |h
  ·exact .inl h
  ·exact .inr (by simpa using h)
end
end Law
namespace Law
open PySem DL
section
variable {ρ:List Sl} {Ω:List OS}
@[simp] theorem Wx(t:Str->Option Bool)(g:Den):iK t g ρ Ω=match g ρ Ω with
 | some (.obj n,Ω1)=>(match Ω1[n]? with
  | some (.exc c)=>(match t c with |some b=>some (.bl b,Ω1) |none=>none)
  | _=>none)
 | _=>none:=by unfold iK;rfl
@[simp] theorem WX(rx:sY):rE rx ρ Ω=match rx ρ Ω with |some (c,Ω')=>some (c,ρ,Ω') |none=>none:=(rfl)
@[simp] theorem VG(c m:Str)(R:gV)(dfl:List D)(go:Den)(ga:bA):gJ c m R dfl go ga ρ Ω=match go ρ Ω with
 | some (.obj n,Ω1)=>(match Ω1[n]? with
  | some (.ins c' fs)=>(if c'=c then(match fs.lookup m with
   | none=>(match ga ρ Ω1 with |some (ds,Ω2)=>R (.obj n::(ds++dfl)) Ω2 |none=>none)
   | some _=>none) else none)
  | _=>none)
 | _=>none:=(rfl)
@[simp] theorem Uw(c:Str)(p:uV):lV c p ρ Ω=match p ρ Ω with |some Ω'=>some (c,ρ,Ω') |none=>none:=(rfl)
@[simp] theorem HD(p:bV)(s t:cJ):rIf p s t ρ Ω=match p ρ Ω with |some (true,Ω')=>s ρ Ω' |some (false,Ω')=>t ρ Ω' |none=>none:=(rfl)
@[simp] theorem HF:gZ ρ Ω=none:=(rfl)
@[simp] theorem KC(s:aN)(r:cJ):kY s r ρ Ω=match s ρ Ω with |some (.nx ρ1 Ω1)=>r ρ1 Ω1 |_=>none:=(rfl)
@[simp] theorem A_(r1 r2:cJ):rOr r1 r2 ρ Ω=match r1 ρ Ω with |some z=>some z |none=>r2 ρ Ω:=(rfl)
@[simp] theorem VH:kj ρ Ω=none:=(rfl)
theorem Dl(n m:Nat)(r:cJ)(ds:List D):mQ n m r ds Ω=if ds.length=n then(match r (ds.map Sl.dat++List.replicate (m-n) Sl.und) Ω with
  | some (c,_,Ω')=>some (c,Ω')
  | none=>none) else none:=(rfl)
theorem qL{s t:aN}{r:cJ}{i:Nat}{tc:Str->Bool}{d:D}{Ω':List OS}(h:s ρ Ω=some (.rt d Ω')):uU s r i tc t ρ Ω=some (.rt d Ω'):=by unfold uU;rw[h]
theorem mG{s t:aN}{r:cJ}{i:Nat}{tc:Str->Bool}{c:Str}{ρ1:List Sl}{d:D}{Ω1 Ω':List OS}(h:s ρ Ω=none)(h1:r ρ Ω=some (c,ρ1,Ω1))(h2:tc c=true)(h3:t (ρ1.set i (.dat (.obj Ω1.length))) (Ω1++[.exc c])=some (.rt d Ω')):uU s r i tc t ρ Ω=some (.rt d Ω'):=by
 unfold uU
 rw[h,h1]
 dsimp only
 rw[if_pos h2,h3]
end
theorem lg{n m:Nat}{s:aN}{ds:List D}{Ω:List OS}(hl:ds.length=n)(h:s (ds.map Sl.dat++List.replicate (m-n) Sl.und) Ω=none):cD n m s ds Ω=none:=by
 rw[zM,if_pos hl,h]
theorem jq{n m:Nat}{r:cJ}{ds:List D}{c:Str}{ρ:List Sl}{Ω Ω':List OS}(hl:ds.length=n)(h:r (ds.map Sl.dat++List.replicate (m-n) Sl.und) Ω=some (c,ρ,Ω')):mQ n m r ds Ω=some (c,Ω'):=by
 rw[Dl,if_pos hl,h]
theorem uw{i:Int}(h0:-70000<i)(h1:i<70000):bD i:=by
 have hl:i.natAbs.log2<17:=by
  by_cases z:i.natAbs=0
  ·rw[z];decide
  ·exact(Nat.log2_lt z).mpr (by omega)
 refine⟨by omega,?_⟩
 have:=int_text_length_le (a:=i) (k:=17) (by decide) hl
 rw[ofString_length]
 omega
end Law
namespace Law
open PySem DL
section
variable {ρ:List Sl} {Ω Ω1 Ω2:List OS} {p q:bV} {s t:aN} {f g:Den} {b:Bool}
theorem rM(h:p ρ Ω=some (false,Ω1)):sIf p s t ρ Ω=t ρ Ω1:=by rw[zL,h]
theorem rN(h:p ρ Ω=some (true,Ω1)):sIf p s t ρ Ω=s ρ Ω1:=by rw[zL,h]
theorem gr{r:D->D->Option D}{x y:D}(hf:f ρ Ω=some (x,Ω))(hg:g ρ Ω=some (y,Ω))(h:r x y=some (.bl b)):gT (gOp r f g) ρ Ω=some (b,Ω):=by
 rw[R_,vH,hf]
 dsimp only
 rw[hg]
 dsimp only
 rw[h]
theorem nt(h:p ρ Ω=some (b,Ω1)):gU p ρ Ω=some (!b,Ω1):=by rw[Oo,h]
theorem uZ(h:p ρ Ω=some (false,Ω1)):dZ p q ρ Ω=some (false,Ω1):=by rw[CQ,h]
theorem oW(h:p ρ Ω=some (true,Ω1))(h2:q ρ Ω1=some (b,Ω2)):dZ p q ρ Ω=some (b,Ω2):=by rw[CQ,h];exact h2
theorem lq(h:p ρ Ω=some (false,Ω1)):aG (sIf p s aR) t ρ Ω=t ρ Ω1:=aK (rM h)
theorem aW{w l:Str}(h0:ρ[0]? = some (.dat (.str w)))(h:eqD false (.str w) (.str l)=some (.bl false)):aG (sIf (gT (gOp (eqD false) (aj 0) (gC (.str l)))) s aR) t ρ Ω=t ρ Ω:=lq (gr (by rw[sI,h0]) rfl h)
theorem fL{w l:Str}(h0:ρ[0]? = some (.dat (.str w)))(h:eqD false (.str w) (.str l)=some (.bl true)){u:aN}:sIf (gT (gOp (eqD false) (aj 0) (gC (.str l)))) s u ρ Ω=s ρ Ω:=rN (gr (by rw[sI,h0]) rfl h)
theorem mH(h:s ρ Ω=none):aG s t ρ Ω=none:=by rw[wV,h]
theorem xP{d:D}(h:f ρ Ω=some (d,Ω1)):bx (bH (ak f aA)) ρ Ω=some (.rt (.lst [d]) Ω1):=by
 rw[my,GK,qu,h]
 rfl
theorem jX(h:f ρ Ω=none):bx (bH (ak f aA)) ρ Ω=none:=by rw[my,GK,qu,h]
theorem iM{w l:Str}{r r2:cJ}(h0:ρ[0]? = some (.dat (.str w)))(h:eqD false (.str w) (.str l)=some (.bl false)):rOr (rIf (gT (gOp (eqD false) (aj 0) (gC (.str l)))) r gZ) (kY (sIf (gT (gOp (eqD false) (aj 0) (gC (.str l)))) s aR) r2) ρ Ω=r2 ρ Ω:=by
 have e:gT (gOp (eqD false) (aj 0) (gC (.str l))) ρ Ω=some (false,Ω):=gr (by rw[sI,h0]) rfl h
 rw[A_,HD,e]
 dsimp only
 rw[HF]
 dsimp only
 rw[KC,rM e]
 rfl
theorem u_{w l:Str}{r r2:cJ}{z:Str×List Sl×List OS}(h0:ρ[0]? = some (.dat (.str w)))(h:eqD false (.str w) (.str l)=some (.bl true))(hr:r ρ Ω=some z):rOr (rIf (gT (gOp (eqD false) (aj 0) (gC (.str l)))) r gZ) r2 ρ Ω=some z:=by
 have e:gT (gOp (eqD false) (aj 0) (gC (.str l))) ρ Ω=some (true,Ω):=gr (by rw[sI,h0]) rfl h
 rw[A_,HD,e]
 dsimp only
 rw[hr]
theorem o2{r:D->D->Option D}{x y z:D}(hf:f ρ Ω=some (x,Ω))(hg:g ρ Ω=some (y,Ω))(h:r x y=some z):gOp r f g ρ Ω=some (z,Ω):=by
 rw[vH,hf]
 dsimp only
 rw[hg]
 dsimp only
 rw[h]
theorem cl{F:bK}{ga:bA}{ds:List D}{d:D}(hg:ga ρ Ω=some (ds,Ω))(h:F ds Ω=some (d,Ω)):bz F ga ρ Ω=some (d,Ω):=by
 rw[CT,hg]
 exact h
theorem Ux{i:Nat}{d:D}(h:f ρ Ω=some (d,Ω)):bF i f ρ Ω=some (.nx (ρ.set i (.dat d)) Ω):=by rw[vI,h]
theorem c1{d:D}(h:f ρ Ω=some (d,Ω)):ak f aA ρ Ω=some ([d],Ω):=by rw[qu,h];rfl
theorem Ba{i:Nat}{F:bK}{ga:bA}{ds:List D}{d:D}(hg:ga ρ Ω=some (ds,Ω))(h:F ds Ω=some (d,Ω1)):bF i (bz F ga) ρ Ω=some (.nx (ρ.set i (.dat d)) Ω1):=by
 rw[vI,CT,hg]
 dsimp only
 rw[h]
theorem Uy{r1 r2:cJ}{z:Str×List Sl×List OS}(h:r1 ρ Ω=some z):rOr r1 r2 ρ Ω=some z:=by rw[A_,h]
theorem v_{d:D}(h:f ρ Ω=some (d,Ω1)):aG (cV f) t ρ Ω=t ρ Ω1:=aK (by rw[qy,h])
theorem wg(h:f ρ Ω=none):aG (cV f) t ρ Ω=none:=mH (by rw[qy,h])
end
end Law
namespace Law
open PySem DL
noncomputable def pK(p:Int×Int):List L2.Key:=[.inl p.1,.inl p.2]
theorem iB(a b:Int×Int):pK a=pK b↔a=b:=by
 obtain⟨a1,a2⟩:=a
 obtain⟨b1,b2⟩:=b
 simp[pK]
noncomputable def prr(a b:Int):Int×Int:=(if b<a then b else a,if b>a then b else a)
theorem mJ(x y a b:Int):prr x y=prr a b↔(x,y)=(a,b)\/(x,y)=(b,a):=by
 unfold prr
 rw[Prod.mk.injEq,Prod.mk.injEq,Prod.mk.injEq]
 constructor
 ·intro⟨h1,h2⟩
  split at h1<;>split at h1<;>split at h2<;>split at h2<;>omega
 ·intro h
  rcases h with⟨rfl,rfl⟩ |⟨rfl,rfl⟩
  ·exact⟨rfl,rfl⟩
  ·constructor
   ·split<;>split<;>omega
   ·split<;>split<;>omega
theorem Bb(a b:Int):prr b a=prr a b:=(mJ b a a b).mpr (.inr rfl)
noncomputable abbrev TyL:=List ((Int×Int)×Int)
noncomputable def lD(L:TyL):OS:=.dT (mpA pK D.int L)
theorem t21:(("sent_on":Str)==("length_by":Str))=false:=by decide +kernel
theorem t12:¬(("length_by":Str)=("sent_on":Str)):=by decide +kernel
@[simp] theorem Wz(L:TyL)(a b:Int):jn (lD L) (.tup [.int a,.int b])=some ((aF L (a,b)).map D.int):=by
 show some (dR (mpA pK D.int L) (pK (a,b)))=_
 rw[oU iB]
theorem Ms{L:TyL}(h:L.length<100000)(a b l:Int):qY (lD L) (.tup [.int a,.int b]) (.int l)=some (lD (aU L (a,b) l)):=by
 show(if(mpA pK D.int L).length<100000 then some (OS.dT (putD (mpA pK D.int L) (pK (a,b)) (D.int l))) else none)=_
 rw[if_pos (by simpa using h),Ax iB]
 rfl
theorem HH{L:TyL}{a b v:Int}(h:aF L (a,b)=some v):m_ (lD L) (.tup [.int a,.int b])=some (.int v,lD (aY L (a,b))):=by
 show(match dR (mpA pK D.int L) (pK (a,b)) with |some v=>some (v,OS.dT (jl (mpA pK D.int L) (pK (a,b)))) |none=>none)=_
 rw[oU iB,xO iB,h]
 rfl
@[simp] theorem Wk(L:TyL):mZ (lD L)=true:=rfl
theorem eqS(neg:Bool){x y:Str}(hx:(PyData.str x).canLay0=true)(hy:(PyData.str y).canLay0=true):eqD neg (.str x) (.str y)=some (.bl (if x=y then !neg else neg)):=by
 by_cases h:x=y
 ·subst h
  rw[if_pos rfl,kW neg (by simpa [pl] using hx) (by simp[dep])]
 ·rw[if_neg h,uQ neg (by simpa [pl] using hx) (by simpa [pl] using hy) (by simp[dep]) (by simp[dep]) (fun z=>h (by cases z;rfl))]
end Law
namespace Law
open PySem DL
theorem HJ(i j:Bool):PyData.eqv (toP (.bl i)) (toP (.bl j))=decide (i=j):=by
 have:=(ug (JR false i j)).2.2
 injection this with this
@[simp] theorem Uz{β:Type}(a:β)(l:List β):L2.atI (a::l) 0=some a:=by
 have:=lR (a::l) 0 (by simp)
 simpa using this
@[simp] theorem WY{β:Type}(a b:β)(l:List β):L2.atI (a::b::l) 1=some b:=by
 have:=lR (a::b::l) 1 (by simp)
 simpa using this
@[simp] theorem W_{β:Type}(a b c:β)(l:List β):L2.atI (a::b::c::l) 2=some c:=by
 have:=lR (a::b::c::l) 2 (by simp)
 simpa using this
theorem VJ(p q r s:Bool):rG [.bl p,.bl q,.bl r,.bl s] (.bl true)=some (.int (([p,q,r,s].countP id:Nat):Int)):=by
 unfold rG
 rw[if_pos (by simp[pH])]
 simp[HJ,List.countP_cons]
theorem VL(p q r s:Bool){j:Nat}(h:[p,q,r,s].findIdx? id=some j)(hj:j<4):rH [.bl p,.bl q,.bl r,.bl s] (.bl true)=some (.int (j:Int)):=by
 unfold rH
 rw[if_pos (by simp[pH])]
 have e:([D.bl p,D.bl q,D.bl r,D.bl s].findIdx? fun d=>PyData.eqv (toP d) (toP (.bl true)))=some j:=by
  rw[<-h]
  simp[HJ,List.findIdx?_cons]
 rw[e]
 show(if j<big then some (D.int (j:Int)) else none)=_
 rw[if_pos (by have:big=100000:=rfl;omega)]
noncomputable def exS:aN:=(aG (bF 6 (bH (ak (iK xK (aj 5)) (ak (iK xJ (aj 5)) (ak (iK xH (aj 5)) (ak (iK xG (aj 5)) aA)))))) (aG (sIf (pU (gT (gOp (eqD true) (nu rG (aj 6) (gC (.bl true))) (gC (.int 1)))) (pU (gT (iK xM (aj 5))) (gU (gT (iK xN (aj 5)))))) (bx (gC (.str "several"))) aR) (bx (gOp ixD (bH (ak (gC (.str "nohouse")) (ak (gC (.str "tied")) (ak (gC (.str "nottied")) (ak (gC (.str "nonote")) aA))))) (nu rH (aj 6) (gC (.bl true)))))))
theorem ux{x0 x1 x2 x3 x4:Sl}{n:Nat}{Ω:List OS}{c w:Str}{p q r s:Bool}{j:Nat}(hn:Ω[n]? = some (.exc c))(h3:xK c=some p)(h2:xJ c=some q)(h1:xH c=some r)(h0:xG c=some s)(h4:xM c=some false)(h5:xN c=some true)
  (hc:[p,q,r,s].countP id=1) (hj:[p,q,r,s].findIdx? id=some j) (j4:j<4) (hw:L2.atI [D.str "nohouse",.str "tied",.str "nottied",.str "nonote"] (j:Int)=some (.str w)):exS [x0,x1,x2,x3,x4,.dat (.obj n),.und] Ω=some (.rt (.str w) Ω):=by
 have e1:=VJ p q r s
 rw[hc] at e1
 have e2:=VL p q r s hj j4
 refine(aK (ρ':=[x0,x1,x2,x3,x4,.dat (.obj n),.dat (.lst [.bl p,.bl q,.bl r,.bl s])]) (Ω':=Ω) (by simp[hn,h3,h2,h1,h0])).trans ?_
 refine(aK (ρ':=[x0,x1,x2,x3,x4,.dat (.obj n),.dat (.lst [.bl p,.bl q,.bl r,.bl s])]) (Ω':=Ω) ?_).trans ?_
 ·simp[nu,rD,e1,hn,h4,h5]
 ·simp[nu,rD,e2,hw]
theorem Ey{x0 x1 x2 x3 x4:Sl}{n:Nat}{Ω:List OS}(hn:Ω[n]? = some (.exc "NoHouse")):exS [x0,x1,x2,x3,x4,.dat (.obj n),.und] Ω=some (.rt (.str "nohouse") Ω) :=
 ux (p:=true) (q:=false) (r:=false) (s:=false) (j:=0) hn (by decide +kernel) (by decide +kernel) (by decide +kernel) (by decide +kernel) (by decide +kernel) (by decide +kernel) rfl rfl (by decide) (by simp)
theorem Qh{x0 x1 x2 x3 x4:Sl}{n:Nat}{Ω:List OS}(hn:Ω[n]? = some (.exc "Tied")):exS [x0,x1,x2,x3,x4,.dat (.obj n),.und] Ω=some (.rt (.str "tied") Ω) :=
 ux (p:=false) (q:=true) (r:=false) (s:=false) (j:=1) hn (by decide +kernel) (by decide +kernel) (by decide +kernel) (by decide +kernel) (by decide +kernel) (by decide +kernel) rfl rfl (by decide) (by simp)
theorem lu{x0 x1 x2 x3 x4:Sl}{n:Nat}{Ω:List OS}(hn:Ω[n]? = some (.exc "NotTied")):exS [x0,x1,x2,x3,x4,.dat (.obj n),.und] Ω=some (.rt (.str "nottied") Ω) :=
 ux (p:=false) (q:=false) (r:=true) (s:=false) (j:=2) hn (by decide +kernel) (by decide +kernel) (by decide +kernel) (by decide +kernel) (by decide +kernel) (by decide +kernel) rfl rfl (by decide) (by simp)
end Law
namespace Law
open PySem DL L2
theorem xQ{α:Type}(k:α->List Int)(d:α->D){xs ys:List α}(hp:ys.Perm xs)(hs:ys.Pairwise fun a b=>HT.lexLt (k b) (k a)=false)(inj:∀a∈xs,∀b∈xs,k a=k b->a=b):srt (xs.map k) (xs.map d)=ys.map d:=by
 have ez:(xs.map k).zip (xs.map d)=xs.map fun x=>(k x,d x):=by
  rw[List.zip_map']
 unfold srt
 rw[ez]
 have:(xs.map fun x=>(k x,d x)).mergeSort leK=ys.map fun x=>(k x,d x):=by
  refine List.Perm.eq_of_pairwise (le:=fun a b=>leK a b=true) ?_ (List.pairwise_mergeSort pL pM _) ?_ ((List.mergeSort_perm _ _).trans (hp.map _).symm)
  ·intro a b ha hb h1 h2
   obtain⟨x,hx,rfl⟩:=List.mem_map.mp ((List.mergeSort_perm _ _).mem_iff.mp ha)
   obtain⟨y,hy,rfl⟩:=List.mem_map.mp hb
   unfold leK at h1 h2
   have e:=uP (k x) (k y) (by simpa using h2) (by simpa using h1)
   rw[inj x hx y (hp.mem_iff.mp hy) e]
  ·rw[List.pairwise_map]
   refine hs.imp fun h=>?_
   unfold leK
   rw[h];rfl
 rw[this,List.map_map]
 rfl
noncomputable def k1(r:(Int×Int)×Int):List Int:=[r.1.1,r.1.2]
noncomputable def k2(r:(Int×Int)×Int):List Int:=[r.1.1,r.1.2,r.2]
noncomputable def leP(r q:(Int×Int)×Int):Bool:=!HT.lexLt (k1 q) (k1 r)
noncomputable def jR(L:TyL):TyL:=L.mergeSort leP
theorem jf(L:TyL):(jR L).Perm L:=List.mergeSort_perm _ _
theorem HN(a b c:(Int×Int)×Int)(h1:leP a b=true)(h2:leP b c=true):leP a c=true:=pL (k1 a,.non) (k1 b,.non) (k1 c,.non) h1 h2
theorem HQ(a b:(Int×Int)×Int):(leP a b || leP b a)=true:=pM (k1 a,.non) (k1 b,.non)
theorem Dm(L:TyL):(jR L).Pairwise fun a b=>HT.lexLt (k1 b) (k1 a)=false:=by
 refine(List.pairwise_mergeSort HN HQ L).imp fun h=>?_
 unfold leP at h
 simpa using h
theorem HR{L:TyL}(nd:(L.map (·.1)).Nodup){a b:(Int×Int)×Int}(ha:a∈L)(hb:b∈L)(h:a.1=b.1):a=b:=by
 have e1:=uq nd (k:=a.1) (v:=a.2) ha
 have e2:=uq nd (k:=b.1) (v:=b.2) hb
 rw[h,e2] at e1
 injection e1 with e1
 exact Prod.ext h e1.symm
theorem KD{L:TyL}(nd:(L.map (·.1)).Nodup):∀a∈L,∀b∈L,k1 a=k1 b->a=b:=fun a ha b hb h=>HR nd ha hb (by
 unfold k1 at h
 injection h with h1 h2
 injection h2 with h2
 exact Prod.ext h1 h2)
theorem Tg{L:TyL}(nd:(L.map (·.1)).Nodup):∀a∈L,∀b∈L,k2 a=k2 b->a=b:=fun a ha b hb h=>HR nd ha hb (by
 unfold k2 at h
 injection h with h1 h2
 injection h2 with h2
 exact Prod.ext h1 h2)
theorem KH{L:TyL}(nd:(L.map (·.1)).Nodup):(jR L).Pairwise fun a b=>HT.lexLt (k2 b) (k2 a)=false:=by
 refine(List.Pairwise.imp_of_mem ?_ (Dm L))
 intro a b ha hb h
 have ha':=(jf L).mem_iff.mp ha
 have hb':=(jf L).mem_iff.mp hb
 by_cases e:k1 a=k1 b
 ·rw[KD nd a ha' b hb' e]
  exact kO _
 ·unfold k1 at h e
  unfold k2
  rw[HT.fJ] at h ⊢
  by_cases e1:b.1.1=a.1.1
  ·rw[if_pos e1] at h ⊢
   rw[HT.fJ] at h ⊢
   by_cases e2:b.1.2=a.1.2
   ·exact absurd (by rw[e1,e2]) e
   ·rw[if_neg e2] at h ⊢
    exact h
  ·rw[if_neg e1] at h ⊢
   exact h
noncomputable def pD(r:(Int×Int)×Int):D:=.tup [.int r.1.1,.int r.1.2]
noncomputable def tri(r:(Int×Int)×Int):D:=.tup [.int r.1.1,.int r.1.2,.int r.2]
theorem Dp:∀L:TyL,rF (mpA pK D.int L)=some (L.map k1)
 | []=>rfl
 | r::L=>by
  show(vV (pK r.1)).bind (fun ns=>if ns=[] then none else(rF (mpA pK D.int L)).bind fun nss=>some (ns::nss))=_
  rw[Dp L]
  rfl
theorem HS(L:TyL):((mpA pK D.int L).map fun x=>D.tup (x.1.map ofK))=L.map pD:=by
 unfold mpA
 rw[List.map_map]
 rfl
theorem Dq{L:TyL}(k:(Int×Int)×Int->List Int)(d:(Int×Int)×Int->D)(inj:∀a∈L,∀b∈L,k a=k b->a=b):qD (L.map k) (L.map d):=by
 unfold qD
 rw[List.zip_map']
 intro a ha b hb h
 obtain⟨x,hx,rfl⟩:=List.mem_map.mp ha
 obtain⟨y,hy,rfl⟩:=List.mem_map.mp hb
 rw[inj x hx y hy h]
theorem UG{L:TyL}(nd:(L.map (·.1)).Nodup)(h:L.length<64):mz (L.map k1) (L.map pD)=some (.lst ((jR L).map pD)):=by
 unfold mz
 rw[gA ⟨by simpa using h,by simp,Dq _ _ (KD nd)⟩,xQ k1 pD (jf L) (Dm L) (KD nd)]
theorem UJ{L:TyL}(nd:(L.map (·.1)).Nodup)(h:L.length<64):mz (L.map k2) (L.map tri)=some (.lst ((jR L).map tri)):=by
 unfold mz
 rw[gA ⟨by simpa using h,by simp,Dq _ _ (Tg nd)⟩,xQ k2 tri (jf L) (KH nd) (Tg nd)]
theorem yH:∀L:TyL,ni (L.map tri)=some (L.map k2)
 | []=>rfl
 | r::L=>by
  rw[List.map_cons,List.map_cons]
  unfold ni
  rw[yH L]
  rfl
end Law
namespace Law
open PySem DL L2
theorem uy{α:Type}{f:α->D}(h:∀x,pl (f x)=true):∀xs:List α,plL (xs.map f)=true
 | []=>rfl
 | x::xs=>by rw[List.map_cons];simp[plL,h x,uy h xs]
theorem rO{α:Type}{f:α->D}(h:∀x,dep (f x)<=1):∀xs:List α,cC (xs.map f)<=1
 | []=>by simp[cC]
 | x::xs=>by
  have:=rO h xs
  have:=h x
  rw[List.map_cons]
  simp only[cC]
  omega
end Law
namespace Law
open PySem DL
theorem KJ(lo:Int)(n:Nat):upD lo (n+1)=D.int lo::upD (lo+1) n:=by
 unfold upD
 rw[List.range_succ_eq_map,List.map_cons,List.map_map]
 congr 1
 ·simp
 ·apply List.map_congr_left
  intro k _
  show D.int (lo+((k+1:Nat):Int))=D.int (lo+1+(k:Int))
  congr 1
  omega
theorem Mu(ns:List Int)(k:Nat)(Ω:List OS):∃c,cR [.scr ns,.int k] Ω=some (.int c,Ω):=by
 by_cases h:k<ns.length
 ·have h1:(k:Int)<(ns.length:Int):=by omega
  have h2:L2.atI ns (k:Int)=some ns[k]:=lR _ _ h
  exact⟨ns[k],a_ rfl (dH (by simp[h1,h2]))⟩
 ·have h1:¬(k:Int)<(ns.length:Int):=by omega
  exact⟨0,a_ rfl ((aK (ρ':=[.dat (.scr ns),.dat (.int k)]) (Ω':=Ω) (by simp[h1])).trans (by simp))⟩
noncomputable def drB:aN:=(aG (bF 3 (gOp bG (gOp dN (gOp dN (gOp dN (gOp cX (aj 3) (gC (.int 1000003))) (bz cR (ak (aj 0) (ak (aj 4) aA)))) (gOp cX (gC (.int 104729)) (aj 4))) (gOp cX (gOp cX (gC (.int 7919)) (aj 4)) (aj 4))) (gC (.int 998244353)))) (pW 2 (gOp cQ (gOp bG (gOp cX (gOp bG (gOp cX (aj 3) (aj 3)) (gC (.int 998244353))) (gC (.int 48271))) (gC (.int 2147483647))) (gC (.int 13)))))
theorem yI(ns:List Int)(X1:Sl)(Ω:List OS):∀(n lo:Nat) (fs:List Int) (m:Int) (x:Sl),fs.length+n<=1000->lo+n<=1000->(∀x∈fs,0<=x)->∃(gs:List Int) (m':Int) (y:Sl),gs.length=fs.length+n/\(∀x∈gs,0<=x) /\
  jb (bT 4) drB (upD lo n) [.dat (.scr ns),X1,.own (fs.map D.int),.dat (.int m),x] Ω=some (.nx [.dat (.scr ns),X1,.own (gs.map D.int),.dat (.int m'),y] Ω)
 | 0,lo,fs,m,x,_,_,h=>⟨fs,m,x,by simp,h,rfl⟩
 | n+1,lo,fs,m,x,hl,hlo,h=>by
  obtain⟨c,hc⟩:=Mu ns lo Ω
  obtain⟨k,hk⟩:∃k:Int,k=(m*1000003+c+104729*(lo:Int)+7919*(lo:Int)*(lo:Int))%998244353:=⟨_,rfl⟩
  have k0:0<=k:=by rw[hk];exact Int.emod_nonneg _ (by decide)
  have k1:k<998244353:=by rw[hk];exact Int.emod_lt_of_pos _ (by decide)
  have e1:cX (.int m) (.int 1000003)=some (.int (m*1000003)):=uc (.inr ⟨by decide,by decide⟩)
  have e2:cX (.int 104729) (.int (lo:Int))=some (.int (104729*(lo:Int))):=uc (.inl ⟨by decide,by decide⟩)
  have e3:cX (.int 7919) (.int (lo:Int))=some (.int (7919*(lo:Int))):=uc (.inl ⟨by decide,by decide⟩)
  have e4:cX (.int (7919*(lo:Int))) (.int (lo:Int))=some (.int (7919*(lo:Int)*(lo:Int))):=gA (.inr ⟨by omega,by omega⟩)
  have e5:cX (.int k) (.int k)=some (.int (k*k)):=uc (.inl ⟨by omega,by omega⟩)
  have e6:cX (.int (k*k%998244353)) (.int 48271)=some (.int (k*k%998244353*48271)):=uc (.inr ⟨by decide,by decide⟩)
  obtain⟨gs,m',y,h1,h2,h3⟩:=yI ns X1 Ω n (lo+1) (fs++[k*k%998244353*48271%2147483647 / 13]) k (.dat (.int lo)) (by simp;omega) (by omega) (by
   intro x hx
   rcases List.mem_append.mp hx with z |z
   ·exact h x z
   ·rw[List.mem_singleton.mp z]
    have:=Int.emod_nonneg (k*k%998244353*48271) (by decide:(2147483647:Int)≠0)
    omega)
  refine⟨gs,m',y,by simp at h1 ⊢;omega,h2,?_⟩
  have hb:fs.length<100000:=by omega
  have cs:upD (lo:Int) (n+1)=.int lo::upD ((lo+1:Nat):Int) n:=by
   rw[KJ];rfl
  have s1:bF 3 (gOp bG (gOp dN (gOp dN (gOp dN (gOp cX (aj 3) (gC (.int 1000003))) (bz cR (ak (aj 0) (ak (aj 4) aA)))) (gOp cX (gC (.int 104729)) (aj 4))) (gOp cX (gOp cX (gC (.int 7919)) (aj 4)) (aj 4))) (gC (.int 998244353))) [.dat (.scr ns),X1,.own (fs.map D.int),.dat (.int m),.dat (.int lo)] Ω=some (.nx [.dat (.scr ns),X1,.own (fs.map D.int),.dat (.int k),.dat (.int lo)] Ω):=by
   rw[hk]
   exact Ux (o2 (o2 (o2 (o2 (o2 rfl rfl e1) (cl rfl hc) rfl) (o2 rfl rfl e2) rfl) (o2 (o2 rfl rfl e3) rfl e4) rfl) rfl (by simp))
  rw[<-h3,cs,jO]
  have eb:bT 4 (.int lo) [.dat (.scr ns),X1,.own (fs.map D.int),.dat (.int m),x]=some [.dat (.scr ns),X1,.own (fs.map D.int),.dat (.int m),.dat (.int lo)]:=rfl
  rw[eb]
  dsimp only
  have s2:drB [.dat (.scr ns),X1,.own (fs.map D.int),.dat (.int m),.dat (.int lo)] Ω=some (.nx [.dat (.scr ns),X1,.own ((fs++[k*k%998244353*48271%2147483647 / 13]).map D.int),.dat (.int k),.dat (.int lo)] Ω):=by
   have s3:gOp cQ (gOp bG (gOp cX (gOp bG (gOp cX (aj 3) (aj 3)) (gC (.int 998244353))) (gC (.int 48271))) (gC (.int 2147483647))) (gC (.int 13)) [.dat (.scr ns),X1,.own (fs.map D.int),.dat (.int k),.dat (.int lo)] Ω=some (.int (k*k%998244353*48271%2147483647 / 13),Ω):=o2 (o2 (o2 (o2 (o2 rfl rfl e5) rfl (by simp:bG (.int (k*k)) (.int 998244353)=some (.int (k*k%998244353)))) rfl e6) rfl (by simp:bG (.int (k*k%998244353*48271)) (.int 2147483647)=some (.int (k*k%998244353*48271%2147483647)))) rfl (by simp)
   refine(aK s1).trans ?_
   rw[Sh,s3]
   simp[hb]
  rw[s2]
theorem HW(ns:List Int){m:Nat}(hm:m<=1000)(Ω:List OS):∃xs:List Int,xs.length=m/\(∀x∈xs,0<=x)/\mF [.scr ns,.int m] Ω=some (.lst (xs.map D.int),Ω):=by
 obtain⟨gs,k,y,h1,h2,h3⟩:=yI ns (.dat (.int m)) Ω m 0 [] ns.length .und (by simpa using hm) (by omega) (fun x hx=>absurd hx List.not_mem_nil)
 refine⟨gs,by simpa using h1,h2,a_ rfl ?_⟩
 refine(aK (ρ':=[.dat (.scr ns),.dat (.int m),.own [],.und,.und]) (Ω':=Ω) (by simp)).trans ?_
 refine(aK (ρ':=[.dat (.scr ns),.dat (.int m),.own [],.dat (.int ns.length),.und]) (Ω':=Ω) (by simp)).trans ?_
 have er:lQ [.int (m:Int)]=some (upD 0 m):=by
  rw[Ed (by omega) (by omega)];rfl
 refine(aK (ρ':=[.dat (.scr ns),.dat (.int m),.own (gs.map D.int),.dat (.int k),y]) (Ω':=Ω) ?_).trans ?_
 ·rw[sJ]
  have:kE lQ (ak (aj 1) aA) [.dat (.scr ns),.dat (.int m),.own [],.dat (.int ns.length),.und] Ω=some (upD 0 m,Ω):=by simp[er]
  rw[this]
  exact h3
 simp[frz]
theorem Bc{g:Den}{rest:List Sl}{P:Int->Prop}(Ω:List OS):∀(ks:List Int) (x:Sl),(∀k∈ks,∃v,P v/\g (.dat (.int k)::rest) Ω=some (.int v,Ω))->∃vs:List Int,vs.length=ks.length/\(∀v∈vs,P v)/\gm (bT 0) d_ g (ks.map D.int) (x::rest) Ω=some (vs.map D.int,Ω)
 | [],x,_=>⟨[],rfl,fun _ h=>(nomatch h),rfl⟩
 | k::ks,x,h=>by
  obtain⟨v,hv,e⟩:=h k List.mem_cons_self
  obtain⟨vs,h1,h2,h3⟩:=Bc Ω ks (.dat (.int k)) fun k' hk'=>h k' (List.mem_cons_of_mem _ hk')
  refine⟨v::vs,by simp[h1],fun u hu=>?_,?_⟩
  ·rcases List.mem_cons.mp hu with rfl |hu
   ·exact hv
   ·exact h2 u hu
  ·rw[List.map_cons,jW]
   simp[e,h3]
theorem upI(lo:Int)(n:Nat):upD lo n=((List.range n).map fun(k:Nat)=>lo+(k:Int)).map D.int:=by simp[upD]
theorem Ez{c:Int}(hc:0<=c)(Ω:List OS):∃hs:List Int,hs≠[]/\hs.length<=6/\(∀n∈hs,0<=n/\n<32)/\k_ [.int c] Ω=some (.lst (hs.map D.int),Ω):=by
 obtain⟨m,hm⟩:∃m:Nat,(m:Int)=2+c / 192%5:=⟨(2+c / 192%5).toNat,by omega⟩
 obtain⟨s,hs,hs2⟩:∃s:Int,(0<=s/\s<100)/\L2.atI [D.int 1,.int 3,.int 5,.int 7,.int 11,.int 13] (c / 32%6)=some (.int s):=by
  have h6:(c / 32%6).toNat<([1,3,5,7,11,13]:List Int).length:=by simp;omega
  have e:=vJ (xs:=([1,3,5,7,11,13]:List Int)) (by omega:0<=c / 32%6) h6
  have q:∀x∈([1,3,5,7,11,13]:List Int),0<=x/\x<100:=by decide
  exact⟨_,q _ (List.getElem_mem h6),(wW D.int [1,3,5,7,11,13] (c / 32%6)).trans (by rw[e];rfl)⟩
 have em:∀k:Int,cX (.int s) (.int k)=some (.int (s*k)):=fun k=>uc (.inl ⟨by omega,by omega⟩)
 obtain⟨hs',h1,h2,h3⟩:=Bc (g:=(gOp bG (gOp dN (aj 1) (gOp cX (aj 2) (aj 0))) (gC (.int 32)))) (rest:=[.dat (.int c),.dat (.int s)]) (P:=fun n=>0<=n/\n<32) Ω ((List.range m).map fun(k:Nat)=>0+(k:Int)) .und fun k hk=>⟨(c+s*k)%32,⟨Int.emod_nonneg _ (by decide),Int.emod_lt_of_pos _ (by decide)⟩,by simp[em k]⟩
 rw[<-upI] at h3
 refine⟨hs',fun z=>by rw[z] at h1;simp at h1;omega,by simp at h1;omega,h2,a_ rfl ((aK (ρ':=[.dat (.int c),.dat (.int s)]) (Ω':=Ω) (by simp[hs2])).trans ?_)⟩
 have er:lQ [.int (2+c / 192%5)]=some (upD 0 m):=by
  rw[<-hm,Ed (by omega) (by omega)];rfl
 have eγ:kE lQ (ak (gOp dN (gC (.int 2)) (gOp bG (gOp cQ (aj 0) (gC (.int 192))) (gC (.int 5)))) aA) [.dat (.int c),.dat (.int s)] Ω=some (upD 0 m,Ω):=by simp[er]
 have ei:cL [none,some 0,some 1] [Sl.dat (.int c),.dat (.int s)]=[.und,.dat (.int c),.dat (.int s)]:=rfl
 rw[my,nO,eγ,ei]
 dsimp only
 rw[if_pos (by simp;omega),h3]
end Law
namespace Law
open PySem DL
noncomputable abbrev TyO:=List ((Int×Int)×Nat)
noncomputable abbrev TyN:=Int×Int->List D
noncomputable def oV:Nat->D:=fun i=>.obj i
noncomputable def oD(T:TyO):OS:=.dT (mpA pK oV T)
noncomputable def tfo(o:Nat):List (Str×D):=[("length_by",.obj (o+1)),("sent_on",.obj (o+2))]
@[simp] theorem Xb(o:Nat):List.lookup ("length_by":Str) (tfo o)=some (.obj (o+1)):=by simp[tfo,List.lookup_cons]
@[simp] theorem Xc(o:Nat):List.lookup ("sent_on":Str) (tfo o)=some (.obj (o+2)):=by simp[tfo,List.lookup_cons,t21]
theorem nC{f:Str}(o:Nat)(h1:(f==("length_by":Str))=false)(h2:(f==("sent_on":Str))=false):List.lookup f (tfo o)=none:=by simp[tfo,List.lookup_cons,h1,h2]
@[simp] theorem oX(o:Nat):List.lookup ("come":Str) (tfo o)=none:=nC o (by decide +kernel) (by decide +kernel)
@[simp] theorem vd(o:Nat):List.lookup ("fall":Str) (tfo o)=none:=nC o (by decide +kernel) (by decide +kernel)
@[simp] theorem vf(o:Nat):List.lookup ("send":Str) (tfo o)=none:=nC o (by decide +kernel) (by decide +kernel)
@[simp] theorem mK(o:Nat):List.lookup ("carry":Str) (tfo o)=none:=nC o (by decide +kernel) (by decide +kernel)
@[simp] theorem rP(o:Nat):List.lookup ("length":Str) (tfo o)=none:=nC o (by decide +kernel) (by decide +kernel)
@[simp] theorem tH(o:Nat):List.lookup ("notes":Str) (tfo o)=none:=nC o (by decide +kernel) (by decide +kernel)
@[simp] theorem QF(o:Nat):List.lookup ("need_pair":Str) (tfo o)=none:=nC o (by decide +kernel) (by decide +kernel)
@[simp] theorem Vb(o:Nat):List.lookup ("pairs":Str) (tfo o)=none:=nC o (by decide +kernel) (by decide +kernel)
@[simp] theorem Tu(o:Nat):List.lookup ("waiting":Str) (tfo o)=none:=nC o (by decide +kernel) (by decide +kernel)
@[simp] theorem WD(T:TyO)(a b:Int):jn (oD T) (.tup [.int a,.int b])=some ((aF T (a,b)).map oV):=by
 show some (dR (mpA pK oV T) (pK (a,b)))=_
 rw[oU iB]
theorem Mv{T:TyO}(h:T.length<100000)(a b:Int)(n:Nat):qY (oD T) (.tup [.int a,.int b]) (.obj n)=some (oD (aU T (a,b) n)):=by
 show(if(mpA pK oV T).length<100000 then some (OS.dT (putD (mpA pK oV T) (pK (a,b)) (oV n))) else none)=_
 rw[if_pos (by simpa using h),Ax iB]
 rfl
theorem Bd{T:TyO}{a b:Int}{n:Nat}(h:aF T (a,b)=some n):m_ (oD T) (.tup [.int a,.int b])=some (.obj n,oD (aY T (a,b))):=by
 show(match dR (mpA pK oV T) (pK (a,b)) with |some v=>some (v,OS.dT (jl (mpA pK oV T) (pK (a,b)))) |none=>none)=_
 rw[oU iB,xO iB,h]
 rfl
@[simp] theorem Wl(T:TyO):mZ (oD T)=true:=rfl
@[simp] theorem Xd(T:TyO):dTO (oD T)=some (mpA pK oV T):=rfl
@[simp] theorem WK(ds:List D):mR (.mls ds)=some ds:=rfl
@[simp] theorem HX(n:Nat):oK (.obj n)=some n:=rfl
@[simp] theorem WL(n:Int):oM (.int n)=some n:=rfl
theorem Qi{T:TyO}{k:Int×Int}(h:aF T k=none):aY T k=T:=by
 unfold aY
 rw[List.filter_eq_self]
 intro r hr
 refine decide_eq_true fun z=>?_
 exact je.mp h (z ▸ List.mem_map.mpr ⟨r,hr,rfl⟩)
structure St(o:Nat)(Ω:List OS)(L M:TyL)(P T:TyO):Prop where
 h0:Ω[o]? = some (.ins "Ties" (tfo o))
 h1:Ω[o+1]? = some (lD L)
 h2:Ω[o+2]? = some (oD P)
 h3:Ω[o+3]? = some (lD M)
 h4:Ω[o+4]? = some (oD T)
theorem EY{Ω:List OS}{i:Nat}{x:OS}(h:Ω[i]? = some x):i<Ω.length:=(List.getElem?_eq_some_iff.mp h).1
theorem qM{Ω:List OS}{i:Nat}{x y:OS}(h:Ω[i]? = some x):(Ω.set i y)[i]? = some y:=List.getElem?_set_self (EY h)
theorem cU{Ω:List OS}{i j:Nat}{x y:OS}(h:Ω[j]? = some x)(n:i≠j):(Ω.set i y)[j]? = some x:=by rw[List.getElem?_set_ne n];exact h
theorem lz{Ω:List OS}{i:Nat}{x y:OS}(h:Ω[i]? = some x):(Ω++[y])[i]? = some x:=by rw[List.getElem?_append_left (EY h)];exact h
section
variable {o:Nat} {Ω:List OS} {L M:TyL} {P T:TyO}
theorem St.set1(s:St o Ω L M P T)(L':TyL):St o (Ω.set (o+1) (lD L')) L' M P T:=⟨cU s.h0 (by omega),qM s.h1,cU s.h2 (by omega),cU s.h3 (by omega),cU s.h4 (by omega)⟩
theorem St.set2(s:St o Ω L M P T)(P':TyO):St o (Ω.set (o+2) (oD P')) L M P' T:=⟨cU s.h0 (by omega),cU s.h1 (by omega),qM s.h2,cU s.h3 (by omega),cU s.h4 (by omega)⟩
theorem St.set3(s:St o Ω L M P T)(M':TyL):St o (Ω.set (o+3) (lD M')) L M' P T:=⟨cU s.h0 (by omega),cU s.h1 (by omega),cU s.h2 (by omega),qM s.h3,cU s.h4 (by omega)⟩
theorem St.set4(s:St o Ω L M P T)(T':TyO):St o (Ω.set (o+4) (oD T')) L M P T':=⟨cU s.h0 (by omega),cU s.h1 (by omega),cU s.h2 (by omega),cU s.h3 (by omega),qM s.h4⟩
theorem St.other(s:St o Ω L M P T){i:Nat}(hi:i<o\/o+5<=i)(x:OS):St o (Ω.set i x) L M P T:=⟨cU s.h0 (by omega),cU s.h1 (by omega),cU s.h2 (by omega),cU s.h3 (by omega),cU s.h4 (by omega)⟩
theorem St.app(s:St o Ω L M P T)(x:OS):St o (Ω++[x]) L M P T:=⟨lz s.h0,lz s.h1,lz s.h2,lz s.h3,lz s.h4⟩
end
@[simp] theorem Be(ρ:List Sl)(Ω:List OS):jG aA ρ Ω=some (.obj Ω.length,Ω++[.mls []]):=by
 unfold jG
 simp
noncomputable def Nl:D->Prop
 | .non=>True
 | .int _=>True
 | .str x=>(PyData.str x).canLay0=true
 | _=>False
noncomputable def Nt(d:D):Prop:=Nl d\/∃xs,d=.tup xs/\xs.length<=10/\∀x∈xs,Nl x\/x=.tup []
theorem Nl.pl{d:D}(h:Nl d):pl d=true/\dep d=0:=by
 cases d<;>first |exact h.elim |(simp[DL.pl,dep];try exact h)
theorem Nt.pl{d:D}(h:Nt d):pl d=true/\dep d<=2:=by
 rcases h with h |⟨xs,rfl,_,h⟩
 ·exact⟨h.pl.1,by rw[h.pl.2];omega⟩
 ·have key:∀xs:List D,(∀x∈xs,Nl x\/x=.tup [])->plL xs=true/\cC xs<=1:=fun xs=>by
   induction xs with
   | nil=>exact fun _=>⟨rfl,by simp[cC]⟩
   | cons x xs ih =>
    intro h
    obtain⟨i1,i2⟩:=ih fun y hy=>h y (List.mem_cons_of_mem _ hy)
    rcases h x List.mem_cons_self with z |rfl
    ·simp only[plL,cC,z.pl.1,z.pl.2,i1,Bool.and_self,true_and];omega
    ·simp only[plL,DL.pl,cC,dep,i1,Bool.and_self,true_and];omega
  obtain⟨k1,k2⟩:=key xs h
  simp only[DL.pl,dep,k1,true_and]
  omega
@[simp] theorem Wm(gl:bA)(ρ:List Sl)(Ω:List OS):vQ gl ρ Ω=match gl ρ Ω with |some (ds,Ω1)=>some (.int ds.length,Ω1) |none=>none:=(rfl)
@[simp] theorem Xf(i:Nat)(ρ:List Sl)(Ω:List OS):gO i ρ Ω=match ρ[i]? with |some (.own ds)=>some (ds,Ω) |_=>none:=(rfl)
@[simp] theorem WM(gl:bA)(g:Den)(ρ:List Sl)(Ω:List OS):zY gl g ρ Ω=match gl ρ Ω with
 | some (ds,Ω1)=>(match g ρ Ω1 with
  | some (.int i,Ω2)=>(match L2.atI ds i with
   | some d=>some (d,Ω2)
   | none=>none)
  | _=>none)
 | none=>none:=(rfl)
noncomputable def subs:List D->List D
 | []=>[]
 | .tup xs::r=>.lst xs::subs r
 | _::r=>subs r
noncomputable def fB(k:Int):Nat->List D->List D
 | _,[]=>[]
 | lo,.tup _::r=>.tup [.int k,.int lo,.bl true]::fB k (lo+1) r
 | lo,_::r=>fB k (lo+1) r
noncomputable def Pt(d:D):Prop:=Nl d\/∃xs,d=.tup xs
noncomputable def anI:aN:=(sIf (gT (gUn (qF ["list","tuple"]) (aj 6))) (aG (pW 2 (bu (ak (aj 3) (ak (aj 5) (ak (gUn (gf "tuple") (aj 6)) aA))))) (pW 1 (gCB n_ (ak (aj 6) aA)))) aR)
noncomputable def anB:aN:=(aG (bF 4 (zY (gO 1) (aj 3))) (aG (mO (kE vX (ak (aj 4) aA)) (jx [5,6]) anI) (Ex 3 (gC (.int 1)))))
noncomputable def An(x0:Sl)(ns ss:List D)(k:Int)(x4 x5 x6:Sl):List Sl:=[x0,.own ns,.own ss,.dat (.int k),x4,x5,x6,.und]
theorem E_(x0:Sl)(k:Int)(Ω:List OS):∀(ps:List D) (lo:Nat) (ns ss:List D) (x4 x5 x6:Sl),(∀p∈ps,Pt p)->ns.length+ps.length<100000->ss.length+ps.length<100000->∃y5 y6,jb (jx [5,6]) anI (jo lo ps) (An x0 ns ss k x4 x5 x6) Ω=some (.nx (An x0 (ns++subs ps) (ss++fB k lo ps) k x4 y5 y6) Ω)
 | [],lo,ns,ss,x4,x5,x6,_,_,_=>⟨x5,x6,by simp[jo,subs,fB]⟩
 | p::ps,lo,ns,ss,x4,x5,x6,hp,h1,h2=>by
  rw[List.length_cons] at h1 h2
  have eb:jx [5,6] (pairD (.int lo) p) (An x0 ns ss k x4 x5 x6)=some (An x0 ns ss k x4 (.dat (.int lo)) (.dat p)):=rfl
  have hb1:ns.length<100000:=by omega
  have hb2:ss.length<100000:=by omega
  rcases hp p List.mem_cons_self with h |⟨xs,rfl⟩
  ·have es:subs (p::ps)=subs ps/\fB k lo (p::ps)=fB k (lo+1) ps:=by
    cases p<;>first |exact h.elim |exact⟨rfl,rfl⟩
   have ei:qF ["list","tuple"] p=some (.bl false):=by
    cases p<;>first |exact h.elim |rfl
   obtain⟨y5,y6,e⟩:=E_ x0 k Ω ps (lo+1) ns ss x4 (.dat (.int lo)) (.dat p) (fun q hq=>hp q (List.mem_cons_of_mem _ hq)) (by omega) (by omega)
   refine⟨y5,y6,?_⟩
   rw[es.1,es.2,<-e]
   show jb _ _ (pairD (.int lo) p::jo (lo+1) ps) _ _=_
   rw[jO,eb]
   simp[anI,An,ei]
  ·have ei:qF ["list","tuple"] (.tup xs)=some (.bl true):=rfl
   have ej:gf "tuple" (.tup xs)=some (.bl true):=rfl
   have el:n_ [.tup xs]=some (.lst xs):=rfl
   obtain⟨y5,y6,e⟩:=E_ x0 k Ω ps (lo+1) (ns++[.lst xs]) (ss++[.tup [.int k,.int lo,.bl true]]) x4 (.dat (.int lo)) (.dat (.tup xs)) (fun q hq=>hp q (List.mem_cons_of_mem _ hq)) (by simp;omega) (by simp;omega)
   refine⟨y5,y6,?_⟩
   have es:subs (.tup xs::ps)=.lst xs::subs ps/\fB k lo (.tup xs::ps)=.tup [.int k,.int lo,.bl true]::fB k (lo+1) ps:=⟨rfl,rfl⟩
   rw[es.1,es.2]
   have e':ns ++ .lst xs::subs ps=ns++[.lst xs]++subs ps:=by simp
   have e'':ss++D.tup [.int k,.int lo,.bl true]::fB k (lo+1) ps=ss++[.tup [.int k,.int lo,.bl true]]++fB k (lo+1) ps:=by simp
   rw[e',e'',<-e]
   show jb _ _ (pairD (.int lo) (.tup xs)::jo (lo+1) ps) _ _=_
   rw[jO,eb]
   simp[anI,An,ei,ej,el,hb1,hb2]
noncomputable def anP:bV:=(gT (gOp ltD (aj 3) (vQ (gO 1))))
theorem uz(x0:Sl){ns ss ps:List D}{k:Nat}(hk:ns[k]? = some (.lst ps))(hp:∀p∈ps,Pt p)(h1:ns.length+ps.length<100000)(h2:ss.length+ps.length<100000)(n:Nat)(Ω:List OS)(x4 x5 x6:Sl):∃y4 y5 y6,fX anP anB (n+1) (An x0 ns ss k x4 x5 x6) Ω=fX anP anB n (An x0 (ns++subs ps) (ss++fB k 0 ps) ((k+1:Nat):Int) y4 y5 y6) Ω:=by
 obtain⟨y5,y6,e⟩:=E_ x0 k Ω ps 0 ns ss (.dat (.lst ps)) x5 x6 hp h1 h2
 refine⟨.dat (.lst ps),y5,y6,?_⟩
 have hlt:k<ns.length:=(List.getElem?_eq_some_iff.mp hk).1
 have hlt':(k:Int)<(ns.length:Int):=by omega
 have ea:L2.atI ns (k:Int)=some (.lst ps):=L2.Cp hk
 have ep:anP (An x0 ns ss k x4 x5 x6) Ω=some (true,Ω):=by simp[anP,An,hlt]
 have eB:anB (An x0 ns ss k x4 x5 x6) Ω=some (.nx (An x0 (ns++subs ps) (ss++fB k 0 ps) ((k+1:Nat):Int) (.dat (.lst ps)) y5 y6) Ω):=by
  refine(aK (ρ':=An x0 ns ss k (.dat (.lst ps)) x5 x6) (Ω':=Ω) (by simp[An,ea])).trans ?_
  refine(aK (ρ':=An x0 (ns++subs ps) (ss++fB k 0 ps) k (.dat (.lst ps)) y5 y6) (Ω':=Ω) ?_).trans ?_
  ·rw[sJ]
   have:kE vX (ak (aj 4) aA) (An x0 ns ss k (.dat (.lst ps)) x5 x6) Ω=some (jo 0 ps,Ω):=rfl
   rw[this]
   exact e
  ·simp[Ex,An,Ew]
 rw[yr,ep]
 dsimp only
 rw[eB]
theorem HY(x0:Sl){ns ss:List D}{k:Nat}(hk:ns.length<=k)(n:Nat)(Ω:List OS)(x4 x5 x6:Sl):fX anP anB (n+1) (An x0 ns ss k x4 x5 x6) Ω=some (.nx (An x0 ns ss k x4 x5 x6) Ω):=by
 have hlt:¬k<ns.length:=by omega
 have ep:anP (An x0 ns ss k x4 x5 x6) Ω=some (false,Ω):=by simp[anP,An,hlt]
 rw[yr,ep]
theorem Dr(x0:Sl){ns ss:List D}(h1:ns.length<1000)(h2:ss.length<1000)(Ω:List OS):∀(j k n:Nat) (x4 x5 x6:Sl),ns.length=k+j->j<n->(∀i,k<=i->i<ns.length->ns[i]? = some (.lst []))->∃y3 y4 y5 y6,fX anP anB n (An x0 ns ss k x4 x5 x6) Ω=some (.nx (An x0 ns ss y3 y4 y5 y6) Ω)
 | 0,k,n,x4,x5,x6,hl,hn,_=>by
  obtain⟨n,rfl⟩:∃m,n=m+1:=⟨n-1,by omega⟩
  exact⟨k,x4,x5,x6,HY x0 (by omega) n Ω x4 x5 x6⟩
 | j+1,k,n,x4,x5,x6,hl,hn,he=>by
  obtain⟨n,rfl⟩:∃m,n=m+1:=⟨n-1,by omega⟩
  obtain⟨y4,y5,y6,e⟩:=uz (ss:=ss) x0 (he k (Nat.le_refl _) (by omega)) (fun p hp=>absurd hp List.not_mem_nil) (by simp;omega) (by simp;omega) n Ω x4 x5 x6
  simp only[subs,fB,List.append_nil] at e
  obtain⟨z3,z4,z5,z6,e2⟩:=Dr x0 h1 h2 Ω j (k+1) n y4 y5 y6 (by omega) (by omega) fun i hi h=>he i (by omega) h
  exact⟨z3,z4,z5,z6,e.trans e2⟩
theorem KN{ps:List D}(h:∀x∈ps,Nl x\/x=.tup []):∀y∈subs ps,y=.lst []:=by
 induction ps with
 | nil=>intro y hy;cases hy
 | cons x ps ih =>
  intro y hy
  have ih':=ih fun z hz=>h z (List.mem_cons_of_mem _ hz)
  rcases h x List.mem_cons_self with z |rfl
  ·have:subs (x::ps)=subs ps:=by cases x<;>first |exact z.elim |rfl
   rw[this] at hy
   exact ih' y hy
  ·rcases List.mem_cons.mp (show y∈D.lst []::subs ps from hy) with e |e
   ·exact e
   ·exact ih' y e
theorem Bf:∀ps:List D,(subs ps).length<=ps.length
 | []=>by simp[subs]
 | p::ps=>by
  have:=Bf ps
  cases p<;>simp[subs]<;>omega
theorem rQ(k:Int):∀(ps:List D) (lo:Nat),(fB k lo ps).length<=ps.length
 | [],_=>by simp[fB]
 | p::ps,lo=>by
  have:=rQ k ps (lo+1)
  cases p<;>simp[fB]<;>omega
noncomputable def Sp(d:D):Prop:=∃i j,d=.tup [.int i,.int j,.bl true]
theorem vg(k:Int):∀(ps:List D) (lo:Nat),∀y∈fB k lo ps,Sp y
 | [],_,y,hy=>by cases hy
 | p::ps,lo,y,hy=>by
  have ih:=vg k ps (lo+1)
  cases p with
  | tup xs =>
   rcases List.mem_cons.mp (show y∈D.tup [.int k,.int lo,.bl true]::fB k (lo+1) ps from hy) with e |e
   ·exact⟨_,_,e⟩
   ·exact ih y e
  | _=>exact ih y hy
theorem Ds(Ω:List OS):∀(ss:List D) (x:Sl),(∀s∈ss,Sp s)->gm (bT 0) d_ (gOp ixD (aj 0) (gC (.int 2))) ss [x] Ω=some (ss.map (fun _=>D.bl true),Ω)
 | [],x,_=>rfl
 | s::ss,x,h=>by
  obtain⟨i,j,rfl⟩:=h s List.mem_cons_self
  have ih:=Ds Ω ss (.dat (.tup [.int i,.int j,.bl true])) fun q hq=>h q (List.mem_cons_of_mem _ hq)
  rw[jW]
  simp[ih]
theorem Mw{α:Type}:∀ks:List α,rA (ks.map fun _=>D.bl true)=some (ks.map fun _=>true)
 | []=>rfl
 | r::rs=>by
  rw[List.map_cons]
  unfold rA
  rw[Mw rs]
  rfl
theorem Mx{α:Type}(ks:List α):zZ [.lst (ks.map fun _=>D.bl true)]=some (.bl true):=by
 show(match rA (ks.map fun _=>D.bl true) with |some bs=>some (D.bl (bs.all id)) |none=>none)=_
 rw[Mw]
 simp
theorem Bg{d:D}{ns ss:List D}{k:Int}{x4 x5 x6:Sl}{Ω:List OS}(hs:∀s∈ss,Sp s)(hl:ss.length<1000)(hw:fX anP anB 1000 (An (.dat d) [.lst [d]] [] 0 .und .und .und) Ω=some (.nx (An (.dat d) ns ss k x4 x5 x6) Ω)):eF [d] Ω=some (d,Ω):=by
 have ec:=Ds Ω ss .und hs
 have ea:=Mx ss
 have ei:cL [none] [Sl.dat d,.own ns,.dat (.lst ss),.dat (.int k),x4,x5,x6,.und]=[.und]:=rfl
 refine a_ rfl ?_
 refine(aK (ρ':=[.dat d,.own [.lst [d]],.und,.und,.und,.und,.und,.und]) (Ω':=Ω) (by simp)).trans ?_
 refine(aK (ρ':=[.dat d,.own [.lst [d]],.own [],.und,.und,.und,.und,.und]) (Ω':=Ω) (by simp)).trans ?_
 refine(aK (ρ':=An (.dat d) [.lst [d]] [] 0 .und .und .und) (Ω':=Ω) (by simp[An])).trans ?_
 refine(aK (ρ':=An (.dat d) ns ss k x4 x5 x6) (Ω':=Ω) hw).trans ?_
 rw[JP]
 have eg:frz 2 (An (.dat d) ns ss k x4 x5 x6)=some [.dat d,.own ns,.dat (.lst ss),.dat (.int k),x4,x5,x6,.und]:=rfl
 rw[eg]
 dsimp only
 refine dH ?_
 rw[zL,R_,Mm,qu,nO]
 have es:fj (aj 2) [.dat d,.own ns,.dat (.lst ss),.dat (.int k),x4,x5,x6,.und] Ω=some (ss,Ω):=rfl
 rw[es,ei]
 dsimp only
 rw[if_pos (by omega),ec]
 dsimp only
 rw[GJ]
 dsimp only
 rw[ea]
 rfl
theorem vh{d:D}(h:Nt d)(Ω:List OS):eF [d] Ω=some (d,Ω):=by
 rcases h with h |⟨xs,rfl,hl,h⟩
 ·obtain⟨y4,y5,y6,e⟩:=uz (ns:=[.lst [d]]) (ss:=[]) (ps:=[d]) (k:=0) (.dat d) rfl (fun p hp=>.inl (by rw[List.mem_singleton.mp hp];exact h)) (by simp) (by simp) 999 Ω .und .und .und
  have es:subs [d]=[]/\fB ((0:Nat):Int) 0 [d]=[]:=by cases d<;>first |exact h.elim |exact⟨rfl,rfl⟩
  rw[es.1,es.2] at e
  exact Bg (fun s hs=>absurd hs List.not_mem_nil) (by simp) (e.trans (HY _ (by simp) 998 Ω y4 y5 y6))
 ·obtain⟨y4,y5,y6,e⟩:=uz (ns:=[.lst [.tup xs]]) (ss:=[]) (ps:=[.tup xs]) (k:=0) (.dat (.tup xs)) rfl (fun p hp=>.inr ⟨xs,List.mem_singleton.mp hp⟩) (by simp) (by simp) 999 Ω .und .und .und
  obtain⟨z4,z5,z6,e2⟩:=uz (ns:=[.lst [.tup xs],.lst xs]) (ss:=fB ((0:Nat):Int) 0 [.tup xs]) (ps:=xs) (k:=1) (.dat (.tup xs)) rfl (fun p hp=>(h p hp).imp id fun z=>⟨[],z⟩) (by simp;omega) (by have:=rQ ((0:Nat):Int) [.tup xs] 0;rw[List.length_singleton] at this;omega) 998 Ω y4 y5 y6
  have l1:=Bf xs
  have l2:=rQ ((1:Nat):Int) xs 0
  have l3:=rQ ((0:Nat):Int) [.tup xs] 0
  simp only[List.length_singleton] at l3
  obtain⟨w3,w4,w5,w6,e3⟩:=Dr (ns:=[.lst [.tup xs],.lst xs]++subs xs) (ss:=fB ((0:Nat):Int) 0 [.tup xs]++fB ((1:Nat):Int) 0 xs) (.dat (.tup xs)) (by simp;omega) (by rw[List.length_append];omega) Ω (subs xs).length 2 998 z4 z5 z6 (by simp;omega) (by omega) (fun i hi hlt=>by
   rw[List.getElem?_append_right (by simpa using hi)]
   have:i - [D.lst [.tup xs],.lst xs].length<(subs xs).length:=by simp at hlt ⊢;omega
   rw[List.getElem?_eq_getElem this]
   congr 1
   exact KN h _ (List.getElem_mem this))
  refine Bg (ss:=fB ((0:Nat):Int) 0 [.tup xs]++fB ((1:Nat):Int) 0 xs) (fun s hs=>?_) (by rw[List.length_append];omega) (e.trans (e2.trans e3))
  rcases List.mem_append.mp hs with z |z
  ·exact vg _ _ _ s z
  ·exact vg _ _ _ s z
theorem KQ{d:D}(h:pl d=true)(Ω:List OS):∃n:Int,jd [d] Ω=some (.int n,Ω):=by
 cases d with
 | non=>exact⟨0,a_ rfl (dH (by simp[isD,isNone]))⟩
 | int i=>exact⟨1,a_ rfl ((aK (ρ':=[.dat (.int i)]) (Ω':=Ω) (by simp[isD,isNone])).trans (dH rfl))⟩
 | str x=>exact⟨2,a_ rfl ((aK (ρ':=[.dat (.str x)]) (Ω':=Ω) (by simp[isD,isNone])).trans ((aK (ρ':=[.dat (.str x)]) (Ω':=Ω) rfl).trans (dH rfl)))⟩
 | tup xs=>exact⟨4,a_ rfl ((aK (ρ':=[.dat (.tup xs)]) (Ω':=Ω) (by simp[isD,isNone])).trans ((aK (ρ':=[.dat (.tup xs)]) (Ω':=Ω) rfl).trans ((aK (ρ':=[.dat (.tup xs)]) (Ω':=Ω) rfl).trans rfl)))⟩
 | lst xs=>exact⟨3,a_ rfl ((aK (ρ':=[.dat (.lst xs)]) (Ω':=Ω) (by simp[isD,isNone])).trans ((aK (ρ':=[.dat (.lst xs)]) (Ω':=Ω) rfl).trans ((aK (ρ':=[.dat (.lst xs)]) (Ω':=Ω) rfl).trans rfl)))⟩
 | _=>cases h
theorem yJ(Ω:List OS):∀(ds:List D) (x:Sl),plL ds=true->∃ns:List Int,ns.length=ds.length/\gm (bT 0) d_ (bz jd (ak (aj 0) aA)) ds [x] Ω=some (ns.map D.int,Ω)
 | [],x,_=>⟨[],rfl,rfl⟩
 | d::ds,x,h=>by
  rw[plL,Bool.and_eq_true] at h
  obtain⟨n,hn⟩:=KQ h.1 Ω
  obtain⟨ns,hl,e⟩:=yJ Ω ds (.dat d) h.2
  refine⟨n::ns,by simp[hl],?_⟩
  rw[jW]
  simp[hn,e]
theorem vm{ds:List D}(h:plL ds=true)(hd:cC ds<=60)(hl:ds.length<=1000)(Ω:List OS):fu [.lst ds,.lst ds] Ω=some (.bl true,Ω):=by
 obtain⟨ns,hn,e⟩:=yJ Ω ds .und h
 have e0:eqD true (.lst ds) (.lst ds)=some (.bl false):=kW true (by simpa [DL.pl] using h) (by simp only[dep];omega)
 have e1:eqD false (.lst (ns.map D.int)) (.lst (ns.map D.int))=some (.bl true):=by rw[Oq];simp
 have ei:gf "list" (.lst ds)=some (.bl true):=rfl
 have en:cL [none] [Sl.dat (.lst ds),.dat (.lst ds)]=[.und]:=rfl
 refine a_ rfl ((aK (ρ':=[.dat (.lst ds),.dat (.lst ds)]) (Ω':=Ω) (by simp[ei,e0])).trans ?_)
 have hb:ds.length<=100000:=by omega
 have g:∀i,fj (aj i) [.dat (.lst ds),.dat (.lst ds)] Ω=some (ds,Ω)->gn [none] (fj (aj i)) (bT 0) d_ (bz jd (ak (aj 0) aA)) [.dat (.lst ds),.dat (.lst ds)] Ω=some (.lst (ns.map D.int),Ω):=fun i hi=>by
  rw[nO,hi,en]
  dsimp only
  rw[if_pos hb,e]
 rw[my,vH,g 0 rfl]
 dsimp only
 rw[g 1 rfl]
 dsimp only
 rw[e1]
@[simp] theorem cu(neg:Bool):eqD neg (.str "come") (.str "come")=some (.bl (!neg)):=by rw[eqS neg (by decide +kernel) (by decide +kernel),if_pos rfl]
@[simp] theorem Bh(neg:Bool):eqD neg (.str "come") (.str "fall")=some (.bl neg):=by rw[eqS neg (by decide +kernel) (by decide +kernel),if_neg (by decide +kernel)]
@[simp] theorem Bj(neg:Bool):eqD neg (.str "come") (.str "send")=some (.bl neg):=by rw[eqS neg (by decide +kernel) (by decide +kernel),if_neg (by decide +kernel)]
@[simp] theorem yV(neg:Bool):eqD neg (.str "come") (.str "carry")=some (.bl neg):=by rw[eqS neg (by decide +kernel) (by decide +kernel),if_neg (by decide +kernel)]
@[simp] theorem xR(neg:Bool):eqD neg (.str "come") (.str "length")=some (.bl neg):=by rw[eqS neg (by decide +kernel) (by decide +kernel),if_neg (by decide +kernel)]
@[simp] theorem yW(neg:Bool):eqD neg (.str "come") (.str "notes")=some (.bl neg):=by rw[eqS neg (by decide +kernel) (by decide +kernel),if_neg (by decide +kernel)]
@[simp] theorem lA(neg:Bool):eqD neg (.str "fall") (.str "come")=some (.bl neg):=by rw[eqS neg (by decide +kernel) (by decide +kernel),if_neg (by decide +kernel)]
@[simp] theorem lB(neg:Bool):eqD neg (.str "fall") (.str "fall")=some (.bl (!neg)):=by rw[eqS neg (by decide +kernel) (by decide +kernel),if_pos rfl]
@[simp] theorem Bk(neg:Bool):eqD neg (.str "fall") (.str "send")=some (.bl neg):=by rw[eqS neg (by decide +kernel) (by decide +kernel),if_neg (by decide +kernel)]
@[simp] theorem yX(neg:Bool):eqD neg (.str "fall") (.str "carry")=some (.bl neg):=by rw[eqS neg (by decide +kernel) (by decide +kernel),if_neg (by decide +kernel)]
@[simp] theorem xT(neg:Bool):eqD neg (.str "fall") (.str "length")=some (.bl neg):=by rw[eqS neg (by decide +kernel) (by decide +kernel),if_neg (by decide +kernel)]
@[simp] theorem yZ(neg:Bool):eqD neg (.str "fall") (.str "notes")=some (.bl neg):=by rw[eqS neg (by decide +kernel) (by decide +kernel),if_neg (by decide +kernel)]
@[simp] theorem lC(neg:Bool):eqD neg (.str "send") (.str "come")=some (.bl neg):=by rw[eqS neg (by decide +kernel) (by decide +kernel),if_neg (by decide +kernel)]
@[simp] theorem lE(neg:Bool):eqD neg (.str "send") (.str "fall")=some (.bl neg):=by rw[eqS neg (by decide +kernel) (by decide +kernel),if_neg (by decide +kernel)]
@[simp] theorem lF(neg:Bool):eqD neg (.str "send") (.str "send")=some (.bl (!neg)):=by rw[eqS neg (by decide +kernel) (by decide +kernel),if_pos rfl]
@[simp] theorem y_(neg:Bool):eqD neg (.str "send") (.str "carry")=some (.bl neg):=by rw[eqS neg (by decide +kernel) (by decide +kernel),if_neg (by decide +kernel)]
@[simp] theorem xU(neg:Bool):eqD neg (.str "send") (.str "length")=some (.bl neg):=by rw[eqS neg (by decide +kernel) (by decide +kernel),if_neg (by decide +kernel)]
@[simp] theorem za(neg:Bool):eqD neg (.str "send") (.str "notes")=some (.bl neg):=by rw[eqS neg (by decide +kernel) (by decide +kernel),if_neg (by decide +kernel)]
@[simp] theorem gF(neg:Bool):eqD neg (.str "carry") (.str "come")=some (.bl neg):=by rw[eqS neg (by decide +kernel) (by decide +kernel),if_neg (by decide +kernel)]
@[simp] theorem fC(neg:Bool):eqD neg (.str "carry") (.str "fall")=some (.bl neg):=by rw[eqS neg (by decide +kernel) (by decide +kernel),if_neg (by decide +kernel)]
@[simp] theorem fG(neg:Bool):eqD neg (.str "carry") (.str "send")=some (.bl neg):=by rw[eqS neg (by decide +kernel) (by decide +kernel),if_neg (by decide +kernel)]
@[simp] theorem dX(neg:Bool):eqD neg (.str "carry") (.str "carry")=some (.bl (!neg)):=by rw[eqS neg (by decide +kernel) (by decide +kernel),if_pos rfl]
@[simp] theorem Mz(neg:Bool):eqD neg (.str "carry") (.str "length")=some (.bl neg):=by rw[eqS neg (by decide +kernel) (by decide +kernel),if_neg (by decide +kernel)]
@[simp] theorem Qj(neg:Bool):eqD neg (.str "carry") (.str "notes")=some (.bl neg):=by rw[eqS neg (by decide +kernel) (by decide +kernel),if_neg (by decide +kernel)]
@[simp] theorem jr(neg:Bool):eqD neg (.str "length") (.str "come")=some (.bl neg):=by rw[eqS neg (by decide +kernel) (by decide +kernel),if_neg (by decide +kernel)]
@[simp] theorem jt(neg:Bool):eqD neg (.str "length") (.str "fall")=some (.bl neg):=by rw[eqS neg (by decide +kernel) (by decide +kernel),if_neg (by decide +kernel)]
@[simp] theorem ju(neg:Bool):eqD neg (.str "length") (.str "send")=some (.bl neg):=by rw[eqS neg (by decide +kernel) (by decide +kernel),if_neg (by decide +kernel)]
@[simp] theorem iR(neg:Bool):eqD neg (.str "length") (.str "carry")=some (.bl neg):=by rw[eqS neg (by decide +kernel) (by decide +kernel),if_neg (by decide +kernel)]
@[simp] theorem iw(neg:Bool):eqD neg (.str "length") (.str "length")=some (.bl (!neg)):=by rw[eqS neg (by decide +kernel) (by decide +kernel),if_pos rfl]
@[simp] theorem MF(neg:Bool):eqD neg (.str "length") (.str "notes")=some (.bl neg):=by rw[eqS neg (by decide +kernel) (by decide +kernel),if_neg (by decide +kernel)]
@[simp] theorem jK(neg:Bool):eqD neg (.str "notes") (.str "come")=some (.bl neg):=by rw[eqS neg (by decide +kernel) (by decide +kernel),if_neg (by decide +kernel)]
@[simp] theorem jL(neg:Bool):eqD neg (.str "notes") (.str "fall")=some (.bl neg):=by rw[eqS neg (by decide +kernel) (by decide +kernel),if_neg (by decide +kernel)]
@[simp] theorem jM(neg:Bool):eqD neg (.str "notes") (.str "send")=some (.bl neg):=by rw[eqS neg (by decide +kernel) (by decide +kernel),if_neg (by decide +kernel)]
@[simp] theorem jw(neg:Bool):eqD neg (.str "notes") (.str "carry")=some (.bl neg):=by rw[eqS neg (by decide +kernel) (by decide +kernel),if_neg (by decide +kernel)]
@[simp] theorem iT(neg:Bool):eqD neg (.str "notes") (.str "length")=some (.bl neg):=by rw[eqS neg (by decide +kernel) (by decide +kernel),if_neg (by decide +kernel)]
@[simp] theorem xV(neg:Bool):eqD neg (.str "notes") (.str "notes")=some (.bl (!neg)):=by rw[eqS neg (by decide +kernel) (by decide +kernel),if_pos rfl]
end Law
namespace Law
open PySem DL
@[simp high] theorem Wo(x0 x1 x2 x5:Sl)(a b:Int)(Ω:List OS):bu (ak (gCB jj (ak (aj 3) (ak (aj 4) aA))) (ak (gCB kh (ak (aj 3) (ak (aj 4) aA))) aA)) [x0,x1,x2,.dat (.int a),.dat (.int b),x5] Ω=some (.tup [.int (prr a b).1,.int (prr a b).2],Ω):=by
 rw[Sd]
 simp[prr]
noncomputable def Wy(w:Str):Prop:=w = "come" \/ w = "fall" \/ w = "send" \/ w = "carry" \/ w = "length" \/ w = "notes"
noncomputable def Wn(w:Str):Prop:=w = "fall" \/ w = "send" \/ w = "carry" \/ w = "length" \/ w = "notes"
section
variable {o:Nat} {Ω:List OS} {L M:TyL} {P T:TyO} {a b l:Int} {d:D}
noncomputable def D6(o:Nat)(w:Str)(a b:Int)(d:D):List Sl:=[.dat (.str w),.dat (.obj (o+3)),.dat (.obj (o+4)),.dat (.int a),.dat (.int b),.dat d]
theorem KR(Ω:List OS):bZ [.str "come",.obj (o+3),.obj (o+4),.int a,.int a,d] Ω=some (.str "nohouse",Ω):=a_ rfl (dH ((rN (oW (gr rfl rfl (cu false)) (gr rfl rfl (by simp:eqD false (.int a) (.int a)=some (.bl true))))).trans rfl))
theorem Fb(s:St o Ω L M P T){w:Str}{neg:Bool}:gT (jy neg (bu (ak (aj 3) (ak (aj 4) aA))) (aj 2)) (D6 o w a b d) Ω=some (if neg then !(aF T (a,b)).isSome else(aF T (a,b)).isSome,Ω):=by
 simp[D6,s.h4]
theorem MJ(ne:a≠b):eqD false (.int a) (.int b)=some (.bl false):=by simp[ne]
theorem KY(s:St o Ω L M P T)(ne:a≠b){i:Nat}(h:aF T (a,b)=some i):bZ [.str "come",.obj (o+3),.obj (o+4),.int a,.int b,d] Ω=some (.str "tied",Ω):=by
 have hi:=Fb s (a:=a) (b:=b) (d:=d) (w:="come") (neg:=false)
 rw[h] at hi
 exact a_ rfl ((lq (ρ:=D6 o "come" a b d) (oW (gr rfl rfl (cu false)) (gr rfl rfl (MJ ne)))).trans (dH ((rN (oW (gr rfl rfl (cu false)) hi)).trans rfl)))
theorem KZ(s:St o Ω L M P T)(ne:a≠b)(h:aF T (a,b)=none)(hM:M.length<50000)(hT:T.length<50000):∃Ω',Ω'=((((Ω.set (o+3) (lD (aU M (prr a b) l)))++[OS.mls []]).set (o+4) (oD (aU T (a,b) Ω.length))++[OS.mls []]).set (o+4) (oD (aU (aU T (a,b) Ω.length) (b,a) (Ω.length+1))))/\St o Ω' L (aU M (prr a b) l) P (aU (aU T (a,b) Ω.length) (b,a) (Ω.length+1))/\bZ [.str "come",.obj (o+3),.obj (o+4),.int a,.int b,.int l] Ω=some (.lst [.non],Ω'):=by
 have e1:qY (lD M) (.tup [.int (prr a b).1,.int (prr a b).2]) (.int l)=some (lD (aU M (prr a b) l)):=Ms (by omega:M.length<100000) (prr a b).1 (prr a b).2 l
 have e2:=Mv (by omega:T.length<100000) a b Ω.length
 have e3:=Mv (T:=aU T (a,b) Ω.length) (by have:=Kz T (a,b) Ω.length;omega) b a (Ω.length+1)
 have hi:=Fb s (a:=a) (b:=b) (d:=.int l) (w:="come") (neg:=false)
 rw[h] at hi
 have s1:=s.set3 (aU M (prr a b) l)
 have s2:=(s1.app (.mls [])).set4 (aU T (a,b) Ω.length)
 have s3:=(s2.app (.mls [])).set4 (aU (aU T (a,b) Ω.length) (b,a) (Ω.length+1))
 refine⟨_,rfl,s3,?_⟩
 refine a_ rfl ((lq (ρ:=D6 o "come" a b (.int l)) (oW (gr rfl rfl (cu false)) (gr rfl rfl (MJ ne)))).trans ?_)
 refine(lq (oW (gr rfl rfl (cu false)) hi)).trans ?_
 refine(lq (uZ (gr rfl rfl (cu true)))).trans ?_
 refine(aK (ρ':=D6 o "come" a b (.int l)) (Ω':=((((Ω.set (o+3) (lD (aU M (prr a b) l)))++[OS.mls []]).set (o+4) (oD (aU T (a,b) Ω.length))++[OS.mls []]).set (o+4) (oD (aU (aU T (a,b) Ω.length) (b,a) (Ω.length+1))))) ((fL rfl (cu false)).trans ?_)).trans ?_
 ·refine(aK (ρ':=D6 o "come" a b (.int l)) (Ω':=Ω.set (o+3) (lD (aU M (prr a b) l))) (by simp[D6,s.h3,e1])).trans ?_
  refine(aK (ρ':=D6 o "come" a b (.int l)) (Ω':=(Ω.set (o+3) (lD (aU M (prr a b) l))++[OS.mls []]).set (o+4) (oD (aU T (a,b) Ω.length))) ?_).trans ?_
  ·rw[Dc,Be,List.length_set]
   simp[D6,(s1.app (.mls [])).h4,e2]
  ·have el:((Ω.set (o+3) (lD (aU M (prr a b) l))++[OS.mls []]).set (o+4) (oD (aU T (a,b) Ω.length))).length=Ω.length+1:=by simp
   rw[Dc,Be,el]
   simp[D6,(s2.app (.mls [])).h4,e3]
 ·exact(aW rfl (Bh false)).trans ((aW rfl (Bj false)).trans ((aW rfl (yV false)).trans ((aW rfl (xR false)).trans ((aW rfl (yW false)).trans rfl))))
theorem tK{w:Str}(hw:Wn w)(neg:Bool):eqD neg (.str w) (.str "come")=some (.bl neg):=by
 rcases hw with rfl |rfl |rfl |rfl |rfl
 ·exact lA neg
 ·exact lC neg
 ·exact gF neg
 ·exact jr neg
 ·exact jK neg
theorem Dt(s:St o Ω L M P T){w:Str}(hw:Wn w)(h:aF T (a,b)=none):bZ [.str w,.obj (o+3),.obj (o+4),.int a,.int b,d] Ω=some (.str "nottied",Ω):=by
 have hi:=Fb s (a:=a) (b:=b) (d:=d) (w:=w) (neg:=true)
 rw[h] at hi
 exact a_ rfl ((lq (ρ:=D6 o w a b d) (uZ (gr rfl rfl (tK hw false)))).trans ((lq (uZ (gr rfl rfl (tK hw false)))).trans (dH ((rN (oW (gr rfl rfl (tK hw true)) hi)).trans rfl))))
theorem qN(s0:St o Ω L M P T){w:Str}(hw:Wn w){i:Nat}(h:aF T (a,b)=some i){s:aN}{r:D×List OS}(hs:aG (sIf (gT (gOp (eqD false) (aj 0) (gC (.str "fall")))) (aG (cV (iQ (aj 1) (bu (ak (gCB jj (ak (aj 3) (ak (aj 4) aA))) (ak (gCB kh (ak (aj 3) (ak (aj 4) aA))) aA))))) (aG (cV (iQ (aj 2) (bu (ak (aj 3) (ak (aj 4) aA))))) (cV (iQ (aj 2) (bu (ak (aj 4) (ak (aj 3) aA))))))) aR) s (D6 o w a b d) Ω=some (.rt r.1 r.2))
  {t:aN} (ht:aG (sIf (gT (gOp (eqD false) (aj 0) (gC (.str "fall")))) (aG (cV (iQ (aj 1) (bu (ak (gCB jj (ak (aj 3) (ak (aj 4) aA))) (ak (gCB kh (ak (aj 3) (ak (aj 4) aA))) aA))))) (aG (cV (iQ (aj 2) (bu (ak (aj 3) (ak (aj 4) aA))))) (cV (iQ (aj 2) (bu (ak (aj 4) (ak (aj 3) aA))))))) aR) s=t) :
  aG (sIf (dZ (gT (gOp (eqD false) (aj 0) (gC (.str "come")))) (gT (gOp (eqD false) (aj 3) (aj 4)))) (bx (gC (.str "nohouse"))) aR) (aG (sIf (dZ (gT (gOp (eqD false) (aj 0) (gC (.str "come")))) (gT (jy false (bu (ak (aj 3) (ak (aj 4) aA))) (aj 2)))) (bx (gC (.str "tied"))) aR) (aG (sIf (dZ (gT (gOp (eqD true) (aj 0) (gC (.str "come")))) (gT (jy true (bu (ak (aj 3) (ak (aj 4) aA))) (aj 2)))) (bx (gC (.str "nottied"))) aR) (aG (sIf (gT (gOp (eqD false) (aj 0) (gC (.str "come")))) (aG (jE (aj 1) (bu (ak (gCB jj (ak (aj 3) (ak (aj 4) aA))) (ak (gCB kh (ak (aj 3) (ak (aj 4) aA))) aA))) (aj 5)) (aG (jE (aj 2) (bu (ak (aj 3) (ak (aj 4) aA))) (jG aA)) (jE (aj 2) (bu (ak (aj 4) (ak (aj 3) aA))) (jG aA)))) aR) t))) (D6 o w a b d) Ω=some (.rt r.1 r.2):=by
 subst ht
 have hi:=Fb s0 (a:=a) (b:=b) (d:=d) (w:=w) (neg:=true)
 rw[h] at hi
 exact(lq (uZ (gr rfl rfl (tK hw false)))).trans ((lq (uZ (gr rfl rfl (tK hw false)))).trans ((lq (oW (gr rfl rfl (tK hw true)) hi)).trans ((lq (gr rfl rfl (tK hw false))).trans hs)))
theorem K_(s:St o Ω L M P T){v:Int}{i j:Nat}(hv:aF M (prr a b)=some v)(h:aF T (a,b)=some i)(h2:aF (aY T (a,b)) (b,a)=some j):∃Ω',Ω'=((Ω.set (o+3) (lD (aY M (prr a b)))).set (o+4) (oD (aY T (a,b)))).set (o+4) (oD (aY (aY T (a,b)) (b,a)))/\St o Ω' L (aY M (prr a b)) P (aY (aY T (a,b)) (b,a))/\bZ [.str "fall",.obj (o+3),.obj (o+4),.int a,.int b,d] Ω=some (.lst [.non],Ω'):=by
 have e1:m_ (lD M) (.tup [.int (prr a b).1,.int (prr a b).2])=some (.int v,lD (aY M (prr a b))):=HH hv
 have e2:=Bd h
 have e3:=Bd h2
 have s1:=s.set3 (aY M (prr a b))
 have s2:=s1.set4 (aY T (a,b))
 have s3:=s2.set4 (aY (aY T (a,b)) (b,a))
 refine⟨_,rfl,s3,a_ rfl (qN s (r:=(.lst [.non],_)) (.inl rfl) h ?_ rfl)⟩
 refine(aK (ρ':=D6 o "fall" a b d) (Ω':=((Ω.set (o+3) (lD (aY M (prr a b)))).set (o+4) (oD (aY T (a,b)))).set (o+4) (oD (aY (aY T (a,b)) (b,a)))) ((fL rfl (lB false)).trans ?_)).trans ?_
 ·refine(aK (ρ':=D6 o "fall" a b d) (Ω':=Ω.set (o+3) (lD (aY M (prr a b)))) (by simp[D6,s.h3,e1])).trans ?_
  refine(aK (ρ':=D6 o "fall" a b d) (Ω':=(Ω.set (o+3) (lD (aY M (prr a b)))).set (o+4) (oD (aY T (a,b)))) (by simp[D6,s1.h4,e2])).trans ?_
  have h4:=s2.h4
  rw[qy]
  simp[D6,h4,e3,-List.set_set]
 ·exact(aW rfl (Bk false)).trans ((aW rfl (yX false)).trans ((aW rfl (xT false)).trans ((aW rfl (yZ false)).trans (rfl))))
theorem Bl(s:St o Ω L M P T){i:Nat}{ns:List D}(h:aF T (a,b)=some i)(hi:Ω[i]? = some (.mls ns))(hl:ns.length<1000):bZ [.str "send",.obj (o+3),.obj (o+4),.int a,.int b,d] Ω=some (.lst [.non],Ω.set i (.mls (ns++[d]))):=by
 have hb:ns.length<big:=by have:big=100000:=rfl;omega
 refine a_ rfl (qN s (r:=(.lst [.non],Ω.set i (.mls (ns++[d])))) (.inr (.inl rfl)) h ?_ rfl)
 refine(aW rfl (lE false)).trans ((aK (ρ':=D6 o "send" a b d) (Ω':=Ω.set i (.mls (ns++[d]))) ((fL rfl (lF false)).trans (by simp[D6,nq,s.h4,h,oV,hi,hb]))).trans ?_)
 exact(aW rfl (y_ false)).trans ((aW rfl (xU false)).trans ((aW rfl (za false)).trans (rfl)))
theorem H_(s:St o Ω L M P T){i:Nat}{n:D}{ns:List D}(h:aF T (a,b)=some i)(hi:Ω[i]? = some (.mls (n::ns)))(e0:eqD false (.lst (n::ns)) (.lst [])=some (.bl false)):bZ [.str "carry",.obj (o+3),.obj (o+4),.int a,.int b,d] Ω=some (.lst [n],Ω.set i (.mls ns)):=by
 refine a_ rfl (qN s (r:=(.lst [n],Ω.set i (.mls ns))) (.inr (.inr (.inl rfl))) h ?_ rfl)
 refine(aW rfl (fC false)).trans ((aW rfl (fG false)).trans (dH ((fL rfl (dX false)).trans ?_)))
 refine(aK (ρ':=D6 o "carry" a b d) (Ω':=Ω) ?_).trans ?_
 ·simp[D6,jQ,s.h4,h,oV,hi,e0]
 ·simp[D6,uh,s.h4,h,oV,hi]
theorem Fd(s:St o Ω L M P T){i:Nat}(h:aF T (a,b)=some i)(hi:Ω[i]? = some (.mls [])):bZ [.str "carry",.obj (o+3),.obj (o+4),.int a,.int b,d] Ω=some (.str "nonote",Ω):=by
 have e0:eqD false (.lst []) (.lst [])=some (.bl true):=kW false rfl (by simp[dep,cC])
 refine a_ rfl (qN s (r:=(.str "nonote",Ω)) (.inr (.inr (.inl rfl))) h ?_ rfl)
 refine(aW rfl (fC false)).trans ((aW rfl (fG false)).trans (dH ((fL rfl (dX false)).trans ?_)))
 refine dH ?_
 simp[D6,jQ,s.h4,h,oV,hi,e0]
theorem wj(s:St o Ω L M P T){v:Int}{i:Nat}(hv:aF M (prr a b)=some v)(h:aF T (a,b)=some i):bZ [.str "length",.obj (o+3),.obj (o+4),.int a,.int b,d] Ω=some (.lst [.int v],Ω):=by
 have hv':aF M ((prr a b).1,(prr a b).2)=some v:=hv
 refine a_ rfl (qN s (r:=(.lst [.int v],Ω)) (.inr (.inr (.inr (.inl rfl)))) h ?_ rfl)
 exact(aW rfl (jt false)).trans ((aW rfl (ju false)).trans ((aW rfl (iR false)).trans (dH ((fL rfl (iw false)).trans (by simp[D6,s.h3,hv'])))))
theorem Ia(s:St o Ω L M P T){i:Nat}{ns:List D}(h:aF T (a,b)=some i)(hi:Ω[i]? = some (.mls ns)):bZ [.str "notes",.obj (o+3),.obj (o+4),.int a,.int b,d] Ω=some (.lst [.lst ns],Ω):=by
 refine a_ rfl (qN s (r:=(.lst [.lst ns],Ω)) (.inr (.inr (.inr (.inr rfl)))) h ?_ rfl)
 exact(aW rfl (jL false)).trans ((aW rfl (jM false)).trans ((aW rfl (jw false)).trans ((aW rfl (iT false)).trans (dH ((fL rfl (xV false)).trans (by simp[D6,Aw,s.h4,h,oV,hi]))))))
end
end Law
namespace Law
open PySem DL
theorem jT(a b:Int)(Ω:List OS):cO [.int a,.int b] Ω=some (.tup [.int (prr a b).1,.int (prr a b).2],Ω):=a_ rfl (by simp[prr])
theorem oY{n m:Nat}{s:aN}{ds:List D}{ρ':List Sl}{Ω Ω':List OS}(hl:ds.length=n)(h:s (ds.map Sl.dat++List.replicate (m-n) Sl.und) Ω=some (.nx ρ' Ω')):cD n m s ds Ω=some (.non,Ω'):=by
 rw[zM,if_pos hl,h]
section
variable {o:Nat} {Ω:List OS} {L M:TyL} {P T:TyO} {a b l:Int} {d:D}
theorem Qk(s:St o Ω L M P T)(ne:a≠b)(hn:aF L (prr a b)=none)(hl:L.length<100000):dg [.obj o,.int a,.int b,.int l] Ω=some (.non,Ω.set (o+1) (lD (aU L (prr a b) l))):=by
 have hp:=jT a b
 have e1:qY (lD L) (.tup [.int (prr a b).1,.int (prr a b).2]) (.int l)=some (lD (aU L (prr a b) l)):=Ms hl (prr a b).1 (prr a b).2 l
 refine oY (ρ':=[.dat (.obj o),.dat (.int a),.dat (.int b),.dat (.int l)]) rfl ?_
 simp[ne,hp,hn,s.h0,s.h1,e1]
theorem Ib(s:St o Ω L M P T)(hs:bD a):dg [.obj o,.int a,.int a,d] Ω=none/\gQ [.obj o,.int a,.int a,d] Ω=some (("NoHouse":Str),Ω):=by
 constructor
 ·exact lg rfl (by simp)
 ·refine jq (ρ:=[.dat (.obj o),.dat (.int a),.dat (.int a),.dat d]) rfl ?_
  simp[pFi,oM,hs]
theorem Ie(s:St o Ω L M P T)(ne:a≠b){v:Int}(hn:aF L (prr a b)=some v)(hs:bD a)(ht:bD b):dg [.obj o,.int a,.int b,d] Ω=none/\gQ [.obj o,.int a,.int b,d] Ω=some (("Tied":Str),Ω):=by
 have hp:=jT a b
 constructor
 ·exact lg rfl (by simp[ne,hp,hn,s.h0,s.h1])
 ·refine jq (ρ:=[.dat (.obj o),.dat (.int a),.dat (.int b),.dat d]) rfl ?_
  simp[ne,hp,hn,tE,oM,hs,ht,s.h0,s.h1]
theorem uA(s:St o Ω L M P T){v:Int}(hn:aF L (prr a b)=some v):aP [.obj o,.int a,.int b] Ω=some (.non,Ω):=by
 have hp:=jT a b
 refine oY (ρ':=[.dat (.obj o),.dat (.int a),.dat (.int b)]) rfl ?_
 simp[hp,hn,s.h0,s.h1]
theorem Ql(s:St o Ω L M P T)(hn:aF L (prr a b)=none)(hs:bD a)(ht:bD b):aP [.obj o,.int a,.int b] Ω=none/\aX [.obj o,.int a,.int b] Ω=some (("NotTied":Str),Ω):=by
 have hp:=jT a b
 constructor
 ·exact lg rfl (by simp[hp,hn,s.h0,s.h1])
 ·refine jq (ρ:=[.dat (.obj o),.dat (.int a),.dat (.int b)]) rfl ?_
  simp[hp,hn,tE,oM,hs,ht,s.h0,s.h1]
theorem wu(s:St o Ω L M P T){ρ:List Sl}{v:Int}(h0:ρ[0]? = some (.dat (.obj o)))(h1:ρ[1]? = some (.dat (.int a)))(h2:ρ[2]? = some (.dat (.int b)))(hn:aF L (prr a b)=some v):cz "Ties" "need_pair" aP [] (aj 0) (ak (aj 1) (ak (aj 2) aA)) ρ Ω=some (.non,Ω):=by
 have hq:=uA s hn
 simp[h0,h1,h2,hq,s.h0]
theorem tL(s:St o Ω L M P T){ρ:List Sl}(h0:ρ[0]? = some (.dat (.obj o)))(h1:ρ[1]? = some (.dat (.int a)))(h2:ρ[2]? = some (.dat (.int b)))(hn:aF L (prr a b)=none)(hs:bD a)(ht:bD b):cz "Ties" "need_pair" aP [] (aj 0) (ak (aj 1) (ak (aj 2) aA)) ρ Ω=none/\rE (gJ "Ties" "need_pair" aX [] (aj 0) (ak (aj 1) (ak (aj 2) aA))) ρ Ω=some (("NotTied":Str),ρ,Ω):=by
 obtain⟨q1,q2⟩:=Ql s hn hs ht
 constructor
 ·simp[h0,h1,h2,q1,s.h0]
 ·simp[h0,h1,h2,q2,s.h0]
theorem Bm(s:St o Ω L M P T)(i j:Nat)(ρ:List Sl)(h0:ρ[0]? = some (.dat (.obj o)))(hi:ρ[i]? = some (.dat (.int a)))(hj:ρ[j]? = some (.dat (.int b))):∃v Ω',qK (eQ "Ties" "sent_on" (aj 0)) (bu (ak (aj i) (ak (aj j) aA))) (gC .non) ρ Ω=some (v,Ω')/\(Ω'=Ω/\aY P (a,b)=P\/Ω'=Ω.set (o+2) (oD (aY P (a,b)))):=by
 have ev:dR (mpA pK oV P) [.inl a,.inl b]=(aF P (a,b)).map oV:=oU iB oV (a,b) P
 have ed:jl (mpA pK oV P) [.inl a,.inl b]=mpA pK oV (aY P (a,b)):=xO iB oV P (a,b)
 cases q:aF P (a,b) with
 | none=>exact⟨.non,Ω,by simp[qK,h0,hi,hj,jm,ev,q,s.h0,s.h2],.inl ⟨rfl,Qi q⟩⟩
 | some n=>exact⟨oV n,Ω.set (o+2) (oD (aY P (a,b))),by simp[qK,h0,hi,hj,jm,ev,q,ed,s.h0,s.h2];rfl,.inr rfl⟩
theorem St.lX(s:St o Ω L M P T){P':TyO}{Ω':List OS}(h:Ω'=Ω/\P'=P\/Ω'=Ω.set (o+2) (oD P')):St o Ω' L M P' T:=by
 rcases h with⟨rfl,rfl⟩ |rfl
 ·exact s
 ·exact s.set2 _
theorem Qm(s:St o Ω L M P T){v:Int}(hn:aF L (prr a b)=some v):∃Ω1 Ω2,(Ω1=Ω.set (o+1) (lD (aY L (prr a b)))/\aY P (a,b)=P\/Ω1=(Ω.set (o+1) (lD (aY L (prr a b)))).set (o+2) (oD (aY P (a,b))))/\(Ω2=Ω1/\aY (aY P (a,b)) (b,a)=aY P (a,b)\/Ω2=Ω1.set (o+2) (oD (aY (aY P (a,b)) (b,a))))/\eG [.obj o,.int a,.int b] Ω=some (.non,Ω2):=by
 have hp:=jT a b
 have hq:=uA s hn
 have e1:m_ (lD L) (.tup [.int (prr a b).1,.int (prr a b).2])=some (.int v,lD (aY L (prr a b))):=HH hn
 have s1:=s.set1 (aY L (prr a b))
 obtain⟨v1,Ω1,e2,c1⟩:=Bm s1 (a:=a) (b:=b) 1 2 [.dat (.obj o),.dat (.int a),.dat (.int b)] rfl rfl rfl
 have s2:=s1.lX c1
 obtain⟨v2,Ω2,e3,c2⟩:=Bm s2 (a:=b) (b:=a) 2 1 [.dat (.obj o),.dat (.int a),.dat (.int b)] rfl rfl rfl
 refine⟨Ω1,Ω2,c1,c2,?_⟩
 refine oY (ρ':=[.dat (.obj o),.dat (.int a),.dat (.int b)]) rfl ?_
 refine(v_ (ρ:=[.dat (.obj o),.dat (.int a),.dat (.int b)]) (wu s rfl rfl rfl hn)).trans ?_
 refine(aK (ρ':=[.dat (.obj o),.dat (.int a),.dat (.int b)]) (Ω':=Ω.set (o+1) (lD (aY L (prr a b)))) (by simp[hp,e1,s.h0,s.h1])).trans ?_
 refine(aK (ρ':=[.dat (.obj o),.dat (.int a),.dat (.int b)]) (Ω':=Ω1) (by rw[qy,e2])).trans ?_
 rw[qy,e3]
theorem Qn(s:St o Ω L M P T)(hn:aF L (prr a b)=none)(hs:bD a)(ht:bD b):eG [.obj o,.int a,.int b] Ω=none/\iI [.obj o,.int a,.int b] Ω=some (("NotTied":Str),Ω):=by
 obtain⟨h1,h2⟩:=tL s (a:=a) (b:=b) (ρ:=[.dat (.obj o),.dat (.int a),.dat (.int b)]) rfl rfl rfl hn hs ht
 exact⟨lg rfl (wg h1),jq rfl h2⟩
theorem Ig(s:St o Ω L M P T){v:Int}(hn:aF L (prr a b)=some v):dC [.obj o,.int a,.int b] Ω=some (.int v,Ω):=by
 have hp:=jT a b
 have hq:=uA s hn
 refine a_ rfl ?_
 simp[hp,hq,hn,s.h0,s.h1]
theorem Ih(s:St o Ω L M P T)(hn:aF L (prr a b)=none)(hs:bD a)(ht:bD b):dC [.obj o,.int a,.int b] Ω=none/\gD [.obj o,.int a,.int b] Ω=some (("NotTied":Str),Ω):=by
 obtain⟨h1,h2⟩:=tL s (a:=a) (b:=b) (ρ:=[.dat (.obj o),.dat (.int a),.dat (.int b)]) rfl rfl rfl hn hs ht
 exact⟨lg rfl (wg h1),jq rfl h2⟩
theorem Bo(s:St o Ω L M P T)(ρ:List Sl)(h0:ρ[0]? = some (.dat (.obj o)))(h1:ρ[1]? = some (.dat (.int a)))(h2:ρ[2]? = some (.dat (.int b)))(hP:P.length<1000):rJ (eQ "Ties" "sent_on" (aj 0)) (bu (ak (aj 1) (ak (aj 2) aA))) (jG aA) ρ Ω=match aF P (a,b) with
  | some i=>some (.obj i,Ω++[OS.mls []])
  | none=>some (.obj Ω.length,(Ω++[OS.mls []]).set (o+2) (oD (aU P (a,b) Ω.length))):=by
 have ev:dR (mpA pK oV P) [.inl a,.inl b]=(aF P (a,b)).map oV:=oU iB oV (a,b) P
 have ed:putD (mpA pK oV P) [.inl a,.inl b] (.obj Ω.length)=mpA pK oV (aU P (a,b) Ω.length):=Ax iB oV P (a,b) Ω.length
 have hb:P.length<big:=by have:big=100000:=rfl;omega
 have h2':=(s.app (.mls [])).h2
 cases q:aF P (a,b) with
 | none =>
  simp[rJ,h0,h1,h2,jm,ev,q,ed,hb,s.h0,s.h2,h2']
  rfl
 | some n=>simp[rJ,h0,h1,h2,jm,ev,q,hb,oV,s.h0,s.h2,h2']
end
end Law
namespace Law
open PySem DL
section
variable {o:Nat} {Ω:List OS} {L M:TyL} {P T:TyO} {a b l:Int} {d:D}
theorem La(s:St o Ω L M P T)(hd:Nt d){v:Int}{i:Nat}{ns:List D}(hn:aF L (prr a b)=some v)(hi:aF P (a,b)=some i)(hP:P.length<1000)(hR:Ω[i]? = some (.mls ns))(hl:ns.length<1000):dh [.obj o,.int a,.int b,d] Ω=some (.non,(Ω++[OS.mls []]).set i (.mls (ns++[d]))):=by
 have hs:=Bo s (a:=a) (b:=b) [.dat (.obj o),.dat (.int a),.dat (.int b),.dat d] rfl rfl rfl hP
 rw[hi] at hs
 dsimp only at hs
 have hR':(Ω++[OS.mls []])[i]? = some (.mls ns):=lz hR
 have hb:ns.length<big:=by have:big=100000:=rfl;omega
 have ha:=vh hd
 refine oY (ρ':=[.dat (.obj o),.dat (.int a),.dat (.int b),.dat d]) rfl ?_
 refine(v_ (ρ:=[.dat (.obj o),.dat (.int a),.dat (.int b),.dat d]) (wu s rfl rfl rfl hn)).trans ?_
 unfold nq
 show(rJ _ _ _ [Sl.dat (.obj o),.dat (.int a),.dat (.int b),.dat d] _).bind _=_
 rw[hs]
 simp[hR',ha,hb]
theorem Lb(s:St o Ω L M P T)(hd:Nt d){v:Int}(hn:aF L (prr a b)=some v)(hi:aF P (a,b)=none)(hP:P.length<1000):dh [.obj o,.int a,.int b,d] Ω=some (.non,((Ω++[OS.mls []]).set (o+2) (oD (aU P (a,b) Ω.length))).set Ω.length (.mls [d])):=by
 have hs:=Bo s (a:=a) (b:=b) [.dat (.obj o),.dat (.int a),.dat (.int b),.dat d] rfl rfl rfl hP
 rw[hi] at hs
 dsimp only at hs
 have lt:=EY s.h2
 have hR':((Ω++[OS.mls []]).set (o+2) (oD (aU P (a,b) Ω.length)))[Ω.length]? = some (.mls []):=by
  rw[List.getElem?_set_ne (by omega)]
  simp
 have hb:0<big:=by decide
 have ha:=vh hd
 refine oY (ρ':=[.dat (.obj o),.dat (.int a),.dat (.int b),.dat d]) rfl ?_
 refine(v_ (ρ:=[.dat (.obj o),.dat (.int a),.dat (.int b),.dat d]) (wu s rfl rfl rfl hn)).trans ?_
 unfold nq
 show(rJ _ _ _ [Sl.dat (.obj o),.dat (.int a),.dat (.int b),.dat d] _).bind _=_
 rw[hs]
 generalize (Ω++[OS.mls []]).set (o+2) (oD (aU P (a,b) Ω.length))=Z at hR' ⊢
 simp[hR',ha,hb]
theorem Qo(s:St o Ω L M P T)(hn:aF L (prr a b)=none)(hs:bD a)(ht:bD b):dh [.obj o,.int a,.int b,d] Ω=none/\iJ [.obj o,.int a,.int b,d] Ω=some (("NotTied":Str),Ω):=by
 obtain⟨h1,h2⟩:=tL s (a:=a) (b:=b) (ρ:=[.dat (.obj o),.dat (.int a),.dat (.int b),.dat d]) rfl rfl rfl hn hs ht
 exact⟨lg rfl (wg h1),jq rfl h2⟩
theorem Ld(s:St o Ω L M P T){v:Int}{n:D}{i:Nat}{ns:List D}(hn:aF L (prr a b)=some v)(hi:aF P (a,b)=some i)(hR:Ω[i]? = some (.mls (n::ns)))(hf:i<o\/o+5<=i)(e0:eqD false (.lst ns) (.lst [])=some (.bl (decide (ns=[])))):∃Ω',(ns=[]/\Ω'=(Ω.set i (.mls ns)).set (o+2) (oD (aY P (a,b)))\/ns≠[]/\Ω'=Ω.set i (.mls ns))/\cT [.obj o,.int a,.int b] Ω=some (n,Ω'):=by
 have s1:=s.other hf (.mls ns)
 have hg:(Ω.set i (.mls ns))[i]? = some (.mls ns):=qM hR
 have e1:=Bd hi
 have st:∀{t:aN},aG (cV (cz "Ties" "need_pair" aP [] (aj 0) (ak (aj 1) (ak (aj 2) aA)))) t [.dat (.obj o),.dat (.int a),.dat (.int b),.und,.und] Ω=t [.dat (.obj o),.dat (.int a),.dat (.int b),.und,.und] Ω:=v_ (wu s rfl rfl rfl hn)
 by_cases hc:ns=[]
 ·refine⟨_,.inl ⟨hc,rfl⟩,?_⟩
  rw[decide_eq_true hc] at e0
  refine a_ rfl (st.trans ?_)
  refine(aK (ρ':=[.dat (.obj o),.dat (.int a),.dat (.int b),.und,.und]) (Ω':=Ω) (by simp[hi,s.h0,s.h2])).trans ?_
  refine(aK (ρ':=[.dat (.obj o),.dat (.int a),.dat (.int b),.dat (.obj i),.und]) (Ω':=Ω) (by simp[hi,oV,s.h0,s.h2])).trans ?_
  refine(aK (ρ':=[.dat (.obj o),.dat (.int a),.dat (.int b),.dat (.obj i),.dat n]) (Ω':=Ω.set i (.mls ns)) (by simp[uh,hR])).trans ?_
  refine(aK (ρ':=[.dat (.obj o),.dat (.int a),.dat (.int b),.dat (.obj i),.dat n]) (Ω':=(Ω.set i (.mls ns)).set (o+2) (oD (aY P (a,b)))) (by simp[jQ,hg,e0,e1,s1.h0,s1.h2])).trans ?_
  simp
 ·refine⟨_,.inr ⟨hc,rfl⟩,?_⟩
  rw[decide_eq_false hc] at e0
  refine a_ rfl (st.trans ?_)
  refine(aK (ρ':=[.dat (.obj o),.dat (.int a),.dat (.int b),.und,.und]) (Ω':=Ω) (by simp[hi,s.h0,s.h2])).trans ?_
  refine(aK (ρ':=[.dat (.obj o),.dat (.int a),.dat (.int b),.dat (.obj i),.und]) (Ω':=Ω) (by simp[hi,oV,s.h0,s.h2])).trans ?_
  refine(aK (ρ':=[.dat (.obj o),.dat (.int a),.dat (.int b),.dat (.obj i),.dat n]) (Ω':=Ω.set i (.mls ns)) (by simp[uh,hR])).trans ?_
  refine(aK (ρ':=[.dat (.obj o),.dat (.int a),.dat (.int b),.dat (.obj i),.dat n]) (Ω':=Ω.set i (.mls ns)) (by simp[jQ,hg,e0])).trans ?_
  simp
theorem Fe(s:St o Ω L M P T){v:Int}(hn:aF L (prr a b)=some v)(hi:aF P (a,b)=none)(hs:bD a)(ht:bD b):cT [.obj o,.int a,.int b] Ω=none/\fY [.obj o,.int a,.int b] Ω=some (("NoNote":Str),Ω):=by
 have hq:=uA s hn
 have hr:aX [.obj o,.int a,.int b] Ω=none:=by
  have hp:=jT a b
  unfold aX
  rw[Dl]
  simp[hp,hn,s.h0,s.h1]
 constructor
 ·exact lg rfl (by simp[hq,hi,s.h0,s.h2])
 ·refine jq (ρ:=[.dat (.obj o),.dat (.int a),.dat (.int b),.und,.und]) rfl ?_
  simp[hq,hr,hi,tE,oM,hs,ht,s.h0,s.h2]
theorem Le(s:St o Ω L M P T)(hn:aF L (prr a b)=none)(hs:bD a)(ht:bD b):cT [.obj o,.int a,.int b] Ω=none/\fY [.obj o,.int a,.int b] Ω=some (("NotTied":Str),Ω):=by
 obtain⟨h1,h2⟩:=tL s (a:=a) (b:=b) (ρ:=[.dat (.obj o),.dat (.int a),.dat (.int b),.und,.und]) rfl rfl rfl hn hs ht
 exact⟨lg rfl (wg h1),jq rfl (Uy h2)⟩
theorem yK{n:Nat}{xs:List D}{Ω:List OS}(hn:Ω[n]? = some (.mls xs)):∀(ns:List D) (x:Sl),(∀m∈ns,Nt m)->jH n xs (bT 0) d_ (bz eF (ak (aj 0) aA)) ns [x] Ω=some (ns,Ω)
 | [],x,_=>by
  show grd (Ω[n]? = some (.mls xs)) (some ([],Ω))=_
  rw[gA hn]
 | m::ns,x,h=>by
  have ih:=yK hn ns (.dat m) fun q hq=>h q (List.mem_cons_of_mem _ hq)
  have e:=vh (h m List.mem_cons_self) Ω
  unfold jH
  rw[gA hn]
  simp[e,ih]
theorem Lf(s:St o Ω L M P T){v:Int}{ns:List D}(hn:aF L (prr a b)=some v)(hl:ns.length<1000)(hN:∀n∈ns,Nt n)(hi:(∃i,aF P (a,b)=some i/\Ω[i]? = some (.mls ns))\/(aF P (a,b)=none/\ns=[])):eU [.obj o,.int a,.int b] Ω=some (.lst ns,Ω++[.mls []]):=by
 have hb:ns.length<=big:=by have:big=100000:=rfl;omega
 have s1:=s.app (.mls [])
 obtain⟨j,hj,hR⟩:∃j,((aF P (a,b)).map oV).getD (.obj Ω.length)=.obj j/\(Ω++[OS.mls []])[j]? = some (.mls ns):=by
  rcases hi with⟨i,h1,h2⟩ |⟨h1,h2⟩
  ·exact⟨i,by rw[h1];rfl,lz h2⟩
  ·exact⟨Ω.length,by rw[h1];rfl,by rw[h2];simp⟩
 have em:=yK hR ns .und hN
 have ei:cL [none] [Sl.dat (.obj o),.dat (.int a),.dat (.int b)]=[.und]:=rfl
 have eg:sS (eQ "Ties" "sent_on" (aj 0)) (bu (ak (aj 1) (ak (aj 2) aA))) (jG aA) [.dat (.obj o),.dat (.int a),.dat (.int b)] Ω=some (.obj j,Ω++[.mls []]):=by
  simp[hj,s.h0,s.h2,s1.h2]
 refine a_ rfl ?_
 refine(v_ (ρ:=[.dat (.obj o),.dat (.int a),.dat (.int b)]) (wu s rfl rfl rfl hn)).trans ?_
 rw[my]
 unfold qJ
 rw[eg,ei]
 simp only[Option.bind_some,HX,hR,mR,hb,if_true,em]
theorem Lg(s:St o Ω L M P T)(hn:aF L (prr a b)=none)(hs:bD a)(ht:bD b):eU [.obj o,.int a,.int b] Ω=none/\ie [.obj o,.int a,.int b] Ω=some (("NotTied":Str),Ω):=by
 obtain⟨h1,h2⟩:=tL s (a:=a) (b:=b) (ρ:=[.dat (.obj o),.dat (.int a),.dat (.int b)]) rfl rfl rfl hn hs ht
 exact⟨lg rfl (wg h1),jq rfl h2⟩
end
end Law
namespace Law
open PySem DL
theorem Ii{x0 x1 x2 x3 x4:Sl}{n:Nat}{Ω:List OS}(hn:Ω[n]? = some (.exc "NoNote")):exS [x0,x1,x2,x3,x4,.dat (.obj n),.und] Ω=some (.rt (.str "nonote") Ω) :=
 ux (p:=false) (q:=false) (r:=false) (s:=true) (j:=3) hn (by decide +kernel) (by decide +kernel) (by decide +kernel) (by decide +kernel) (by decide +kernel) (by decide +kernel) rfl rfl (by decide) (by
  have:=lR [D.str "nohouse",.str "tied",.str "nottied",.str "nonote"] 3 (by simp)
  simpa using this)
section
variable {o:Nat} {Ω:List OS} {L M:TyL} {P T:TyO} {a b l:Int} {d:D}
theorem mL(Ω:List OS)(c:Str):(Ω++[.exc c])[Ω.length]? = some (.exc c):=by
 rw[List.getElem?_append_right (Nat.le_refl _)]
 simp
noncomputable def D5(o:Nat)(w:Str)(a b:Int)(d:D):List Sl:=[.dat (.str w),.dat (.obj o),.dat (.int a),.dat (.int b),.dat d,.und,.und]
theorem me(s:St o Ω L M P T){m:Str}{F:bK}{ga:bA}{ds:List D}{ρ:List Sl}(h1:ρ[1]? = some (.dat (.obj o)))(hl:List.lookup m (tfo o)=none)(hg:ga ρ Ω=some (ds,Ω)):cz "Ties" m F [] (aj 1) ga ρ Ω=F (.obj o::ds) Ω:=by
 simp[h1,hl,hg,s.h0]
theorem rme(s:St o Ω L M P T){m c:Str}{F:gV}{ga:bA}{ds:List D}{ρ:List Sl}{Ω':List OS}(h1:ρ[1]? = some (.dat (.obj o)))(hl:List.lookup m (tfo o)=none)(hg:ga ρ Ω=some (ds,Ω))(h:F (.obj o::ds) Ω=some (c,Ω')):rE (gJ "Ties" m F [] (aj 1) ga) ρ Ω=some (c,ρ,Ω'):=by
 simp[h1,hl,hg,h,s.h0]
theorem Th(s:St o Ω L M P T){Ω':List OS}(h:dg [.obj o,.int a,.int b,d] Ω=some (.non,Ω')):bU [.str "come",.obj o,.int a,.int b,d] Ω=some (.lst [.non],Ω') :=
 a_ rfl (qL (dH ((fL rfl (cu false)).trans (xP ((me s rfl (oX o) rfl).trans h)))))
theorem Ti(s:St o Ω L M P T){Ω':List OS}(h:eG [.obj o,.int a,.int b] Ω=some (.non,Ω')):bU [.str "fall",.obj o,.int a,.int b,d] Ω=some (.lst [.non],Ω') :=
 a_ rfl (qL ((aW rfl (lA false)).trans (dH ((fL rfl (lB false)).trans (xP ((me s rfl (vd o) rfl).trans h))))))
theorem Ij(s:St o Ω L M P T){Ω':List OS}(h:dh [.obj o,.int a,.int b,d] Ω=some (.non,Ω')):bU [.str "send",.obj o,.int a,.int b,d] Ω=some (.lst [.non],Ω') :=
 a_ rfl (qL ((aW rfl (lC false)).trans ((aW rfl (lE false)).trans (dH ((fL rfl (lF false)).trans (xP ((me s rfl (vf o) rfl).trans h)))))))
theorem Qp(s:St o Ω L M P T){n:D}{Ω':List OS}(h:cT [.obj o,.int a,.int b] Ω=some (n,Ω')):bU [.str "carry",.obj o,.int a,.int b,d] Ω=some (.lst [n],Ω') :=
 a_ rfl (qL ((aW rfl (gF false)).trans ((aW rfl (fC false)).trans ((aW rfl (fG false)).trans (dH ((fL rfl (dX false)).trans (xP ((me s rfl (mK o) rfl).trans h))))))))
theorem Bp(s:St o Ω L M P T){v:Int}(hn:aF L (prr a b)=some v):bU [.str "length",.obj o,.int a,.int b,d] Ω=some (.lst [.int v],Ω) :=
 a_ rfl (qL ((aW rfl (jr false)).trans ((aW rfl (jt false)).trans ((aW rfl (ju false)).trans ((aW rfl (iR false)).trans (dH ((fL rfl (iw false)).trans (xP ((me s rfl (rP o) rfl).trans (Ig s hn))))))))))
theorem Qq(s:St o Ω L M P T){ns:D}{Ω':List OS}(h:eU [.obj o,.int a,.int b] Ω=some (ns,Ω')):bU [.str "notes",.obj o,.int a,.int b,d] Ω=some (.lst [ns],Ω') :=
 a_ rfl (qL ((aW rfl (jK false)).trans ((aW rfl (jL false)).trans ((aW rfl (jM false)).trans ((aW rfl (jw false)).trans ((aW rfl (iT false)).trans (xP ((me s rfl (tH o) rfl).trans h))))))))
theorem Tj(s:St o Ω L M P T)(hs:bD a):bU [.str "come",.obj o,.int a,.int a,d] Ω=some (.str "nohouse",Ω++[.exc "NoHouse"]):=by
 obtain⟨h1,h2⟩:=Ib s (d:=d) hs
 exact a_ rfl (mG (c:="NoHouse") (ρ1:=D5 o "come" a a d) (Ω1:=Ω) (mH ((fL rfl (cu false)).trans (jX ((me s rfl (oX o) rfl).trans h1)))) (u_ rfl (cu false) (rme s rfl (oX o) rfl h2)) (by decide +kernel) (Ey (mL _ _)))
theorem Tn(s:St o Ω L M P T)(ne:a≠b){v:Int}(hn:aF L (prr a b)=some v)(hs:bD a)(ht:bD b):bU [.str "come",.obj o,.int a,.int b,d] Ω=some (.str "tied",Ω++[.exc "Tied"]):=by
 obtain⟨h1,h2⟩:=Ie s (d:=d) ne hn hs ht
 exact a_ rfl (mG (c:="Tied") (ρ1:=D5 o "come" a b d) (Ω1:=Ω) (mH ((fL rfl (cu false)).trans (jX ((me s rfl (oX o) rfl).trans h1)))) (u_ rfl (cu false) (rme s rfl (oX o) rfl h2)) (by decide +kernel) (Qh (mL _ _)))
theorem Lh(s:St o Ω L M P T){v:Int}(hn:aF L (prr a b)=some v)(hi:aF P (a,b)=none)(hs:bD a)(ht:bD b):bU [.str "carry",.obj o,.int a,.int b,d] Ω=some (.str "nonote",Ω++[.exc "NoNote"]):=by
 obtain⟨h1,h2⟩:=Fe s hn hi hs ht
 exact a_ rfl (mG (c:="NoNote") (ρ1:=D5 o "carry" a b d) (Ω1:=Ω) ((aW rfl (gF false)).trans ((aW rfl (fC false)).trans ((aW rfl (fG false)).trans (mH ((fL rfl (dX false)).trans (jX ((me s rfl (mK o) rfl).trans h1))))))) ((iM rfl (gF false)).trans ((iM rfl (fC false)).trans ((iM rfl (fG false)).trans (u_ rfl (dX false) (rme s rfl (mK o) rfl h2))))) (by decide +kernel) (Ii (mL _ _)))
theorem w_not(s:St o Ω L M P T){w:Str}(hw:Wn w)(hn:aF L (prr a b)=none)(hs:bD a)(ht:bD b):bU [.str w,.obj o,.int a,.int b,d] Ω=some (.str "nottied",Ω++[.exc "NotTied"]):=by
 rcases hw with rfl |rfl |rfl |rfl |rfl
 ·obtain⟨h1,h2⟩:=Qn s hn hs ht
  exact a_ rfl (mG (c:="NotTied") (ρ1:=D5 o "fall" a b d) (Ω1:=Ω) ((aW rfl (lA false)).trans (mH ((fL rfl (lB false)).trans (jX ((me s rfl (vd o) rfl).trans h1))))) ((iM rfl (lA false)).trans (u_ rfl (lB false) (rme s rfl (vd o) rfl h2))) (by decide +kernel) (lu (mL _ _)))
 ·obtain⟨h1,h2⟩:=Qo s (d:=d) hn hs ht
  exact a_ rfl (mG (c:="NotTied") (ρ1:=D5 o "send" a b d) (Ω1:=Ω) ((aW rfl (lC false)).trans ((aW rfl (lE false)).trans (mH ((fL rfl (lF false)).trans (jX ((me s rfl (vf o) rfl).trans h1)))))) ((iM rfl (lC false)).trans ((iM rfl (lE false)).trans (u_ rfl (lF false) (rme s rfl (vf o) rfl h2)))) (by decide +kernel) (lu (mL _ _)))
 ·obtain⟨h1,h2⟩:=Le s hn hs ht
  exact a_ rfl (mG (c:="NotTied") (ρ1:=D5 o "carry" a b d) (Ω1:=Ω) ((aW rfl (gF false)).trans ((aW rfl (fC false)).trans ((aW rfl (fG false)).trans (mH ((fL rfl (dX false)).trans (jX ((me s rfl (mK o) rfl).trans h1))))))) ((iM rfl (gF false)).trans ((iM rfl (fC false)).trans ((iM rfl (fG false)).trans (u_ rfl (dX false) (rme s rfl (mK o) rfl h2))))) (by decide +kernel) (lu (mL _ _)))
 ·obtain⟨h1,h2⟩:=Ih s hn hs ht
  exact a_ rfl (mG (c:="NotTied") (ρ1:=D5 o "length" a b d) (Ω1:=Ω) ((aW rfl (jr false)).trans ((aW rfl (jt false)).trans ((aW rfl (ju false)).trans ((aW rfl (iR false)).trans (mH ((fL rfl (iw false)).trans (jX ((me s rfl (rP o) rfl).trans h1)))))))) ((iM rfl (jr false)).trans ((iM rfl (jt false)).trans ((iM rfl (ju false)).trans ((iM rfl (iR false)).trans (u_ rfl (iw false) (rme s rfl (rP o) rfl h2)))))) (by decide +kernel) (lu (mL _ _)))
 ·obtain⟨h1,h2⟩:=Lg s hn hs ht
  exact a_ rfl (mG (c:="NotTied") (ρ1:=D5 o "notes" a b d) (Ω1:=Ω) ((aW rfl (jK false)).trans ((aW rfl (jL false)).trans ((aW rfl (jM false)).trans ((aW rfl (jw false)).trans ((aW rfl (iT false)).trans (jX ((me s rfl (tH o) rfl).trans h1))))))) ((iM rfl (jK false)).trans ((iM rfl (jL false)).trans ((iM rfl (jM false)).trans ((iM rfl (jw false)).trans ((iM rfl (iT false)).trans (rme s rfl (tH o) rfl h2)))))) (by decide +kernel) (lu (mL _ _)))
end
end Law
namespace Law
open PySem DL
noncomputable def jA(N:TyN)(k:Int×Int)(v:List D):TyN:=fun x=>if x=k then v else N x
theorem cP(N:TyN)(k:Int×Int)(v:List D):jA N k v k=v:=if_pos rfl
theorem b_(N:TyN){k x:Int×Int}(v:List D)(h:x≠k):jA N k v x=N x:=if_neg h
structure Ob(Ω:List OS)(T:TyO)(N:TyN):Prop where
 nd:(T.map (·.1)).Nodup
 at':∀k i,aF T k=some i->Ω[i]? = some (OS.mls (N k))
 inj:∀k k' i,aF T k=some i->aF T k'=some i->k=k'
 ge:∀k i,aF T k=some i->11<=i
theorem Ob.lt{Ω T N}(h:Ob Ω T N){k i}(q:aF T k=some i):i<Ω.length:=(List.getElem?_eq_some_iff.mp (h.at' k i q)).1
theorem Ob.app{Ω T N}(h:Ob Ω T N)(o:OS):Ob (Ω++[o]) T N:=⟨h.nd,fun k i q=>by rw[List.getElem?_append_left (h.lt q)];exact h.at' k i q,h.inj,h.ge⟩
theorem Ob.other{Ω T N}(h:Ob Ω T N){j:Nat}(hj:∀k,aF T k≠some j)(o:OS):Ob (Ω.set j o) T N:=⟨h.nd,fun k i q=>by
 rw[List.getElem?_set_ne (fun z=>hj k (by rw[z];exact q))];exact h.at' k i q,h.inj,h.ge⟩
theorem Ob.upd{Ω T N}(h:Ob Ω T N){k:Int×Int}{i:Nat}(q:aF T k=some i)(v:List D):Ob (Ω.set i (OS.mls v)) T (jA N k v):=by
 refine⟨h.nd,fun k' i' q'=>?_,h.inj,h.ge⟩
 by_cases e:k'=k
 ·subst e
  rw[q] at q'
  cases q'
  rw[List.getElem?_set_self (h.lt q),cP]
 ·rw[b_ _ _ e,List.getElem?_set_ne (fun z=>e (h.inj k' k i' q' (by rw[<-z];exact q)))]
  exact h.at' k' i' q'
theorem Ob.same{Ω T N N'}(h:Ob Ω T N)(e:∀k i,aF T k=some i->N' k=N k):Ob Ω T N':=⟨h.nd,fun k i q=>by rw[e k i q];exact h.at' k i q,h.inj,h.ge⟩
theorem Ob.put{Ω T N}(h:Ob Ω T N)(l11:11<=Ω.length){k:Int×Int}(v:List D)(hk:N k=v):Ob (Ω++[OS.mls v]) (aU T k Ω.length) N:=by
 refine⟨vY h.nd _ _,fun k' i' q'=>?_,fun k' k'' i h1 h2=>?_,fun k' i' q'=>?_⟩
 ·rw[cM] at q'
  by_cases e:k'=k
  ·rw[if_pos e] at q'
   cases q'
   rw[e,hk]
   simp
  ·rw[if_neg e] at q'
   rw[List.getElem?_append_left (h.lt q')]
   exact h.at' k' i' q'
 ·rw[cM] at h1 h2
  by_cases e1:k'=k
  ·by_cases e2:k''=k
   ·rw[e1,e2]
   ·rw[if_pos e1] at h1
    rw[if_neg e2] at h2
    cases h1
    exact absurd (h.lt h2) (Nat.lt_irrefl _)
  ·by_cases e2:k''=k
   ·rw[if_neg e1] at h1
    rw[if_pos e2] at h2
    cases h2
    exact absurd (h.lt h1) (Nat.lt_irrefl _)
   ·rw[if_neg e1] at h1
    rw[if_neg e2] at h2
    exact h.inj k' k'' i h1 h2
 ·rw[cM] at q'
  split at q'
  ·cases q';exact l11
  ·exact h.ge k' i' q'
theorem Ob.cut{Ω T N}(h:Ob Ω T N)(k:Int×Int):Ob Ω (aY T k) N:=by
 refine⟨vZ h.nd _,fun k' i' q'=>?_,fun k' k'' i h1 h2=>?_,fun k' i' q'=>?_⟩
 ·rw[cN] at q'
  split at q'
  ·cases q'
  ·exact h.at' k' i' q'
 ·rw[cN] at h1 h2
  split at h1
  ·cases h1
  ·split at h2
   ·cases h2
   ·exact h.inj k' k'' i h1 h2
 ·rw[cN] at q'
  split at q'
  ·cases q'
  ·exact h.ge k' i' q'
theorem Ob.fix{Ω T N}(h:Ob Ω T N){j:Nat}(hj:j<11)(x:OS):Ob (Ω.set j x) T N:=h.other (fun k z=>by have:=h.ge k j z;omega) x
noncomputable def Us(P T:TyO)(i:Nat):Prop:=∃k,aF P k=some i\/aF T k=some i
noncomputable def Sw(o:Nat)(P T:TyO)(n:Nat)(j:Nat):Prop:=(o<j/\j<o+5)\/Us P T j\/n<=j
structure Fr(S:Nat->Prop)(Ω Ω':List OS):Prop where
 ln:Ω.length<=Ω'.length
 at':∀j x,¬S j->Ω[j]? = some x->Ω'[j]? = some x
theorem Fr.refl(S:Nat->Prop)(Ω:List OS):Fr S Ω Ω:=⟨Nat.le_refl _,fun _ _ _ h=>h⟩
theorem Fr.set{S:Nat->Prop}{Ω Ω':List OS}(h:Fr S Ω Ω'){j:Nat}(hj:S j)(x:OS):Fr S Ω (Ω'.set j x):=⟨by rw[List.length_set];exact h.ln,fun i y hi e=>by
 rw[List.getElem?_set_ne (fun(z:j=i)=>hi (by rw[<-z];exact hj))]
 exact h.at' i y hi e⟩
theorem Fr.app{S:Nat->Prop}{Ω Ω':List OS}(h:Fr S Ω Ω')(x:OS):Fr S Ω (Ω'++[x]):=⟨by rw[List.length_append];have:=h.ln;omega,fun i y hi e=>lz (h.at' i y hi e)⟩
theorem Fr.trans{S:Nat->Prop}{Ω Ω' Ω'':List OS}(h:Fr S Ω Ω')(h':Fr S Ω' Ω''):Fr S Ω Ω'':=⟨Nat.le_trans h.ln h'.ln,fun i y hi e=>h'.at' i y hi (h.at' i y hi e)⟩
theorem mU{o:Nat}{P T:TyO}{n j:Nat}(h:o<j/\j<o+5):Sw o P T n j:=.inl h
theorem Tp{o:Nat}{P T:TyO}{n j:Nat}{k:Int×Int}(h:aF T k=some j):Sw o P T n j:=.inr (.inl ⟨k,.inr h⟩)
theorem Li{o:Nat}{P T:TyO}{n j:Nat}{k:Int×Int}(h:aF P k=some j):Sw o P T n j:=.inr (.inl ⟨k,.inl h⟩)
structure Al(hs:List Int)(b o:Nat)(Ω:List OS)(L:TyL)(P T:TyO)(N:TyN):Prop where
 st:St o Ω L L P T
 o5:o<=5
 l11:11<=Ω.length
 nd:(L.map (·.1)).Nodup
 lt:∀r∈L,r.1.1<r.1.2
 ms:∀r∈L,r.1.1∈hs/\r.1.2∈hs
 sm:∀x y,(aF T (x,y)).isSome=(aF L (prr x y)).isSome
 ot:Ob Ω T N
 op:Ob Ω P N
 pn:∀k i,aF P k=some i->N k≠[]
 pe:∀k,aF P k=none->N k=[]
 nz:∀x y,aF L (prr x y)=none->N (x,y)=[]
 dj:∀k k' i,aF T k=some i->aF P k'≠some i
 ln:∀k,(N k).length<=b
 nt:∀k,∀n∈N k,Nt n
section
variable {hs:List Int} {m o:Nat} {Ω:List OS} {L:TyL} {P T:TyO} {N:TyN} {a b l:Int} {d:D}
theorem Al.app(h:Al hs m o Ω L P T N)(x:OS):Al hs m o (Ω++[x]) L P T N:=⟨h.st.app x,h.o5,by rw[List.length_append];have:=h.l11;omega,h.nd,h.lt,h.ms,h.sm,h.ot.app x,h.op.app x,h.pn,h.pe,h.nz,h.dj,h.ln,h.nt⟩
theorem Al.mono{m':Nat}(h:Al hs m o Ω L P T N)(e:m<=m'):Al hs m' o Ω L P T N:=⟨h.st,h.o5,h.l11,h.nd,h.lt,h.ms,h.sm,h.ot,h.op,h.pn,h.pe,h.nz,h.dj,fun k=>Nat.le_trans (h.ln k) e,h.nt⟩
theorem Al.frame{S:Nat->Prop}{Ω':List OS}(h:Al hs m o Ω L P T N)(f:Fr S Ω Ω')(h5:∀j,o<=j->j<o+5->¬S j)(hu:∀i,Us P T i->¬S i):Al hs m o Ω' L P T N :=
 ⟨⟨f.at' _ _ (h5 _ (by omega) (by omega)) h.st.h0,f.at' _ _ (h5 _ (by omega) (by omega)) h.st.h1,f.at' _ _ (h5 _ (by omega) (by omega)) h.st.h2,f.at' _ _ (h5 _ (by omega) (by omega)) h.st.h3,f.at' _ _ (h5 _ (by omega) (by omega)) h.st.h4⟩,h.o5,Nat.le_trans h.l11 f.ln,h.nd,h.lt,h.ms,h.sm,
  ⟨h.ot.nd,fun k i q=>f.at' _ _ (hu i ⟨k,.inr q⟩) (h.ot.at' k i q),h.ot.inj,h.ot.ge⟩,⟨h.op.nd,fun k i q=>f.at' _ _ (hu i ⟨k,.inl q⟩) (h.op.at' k i q),h.op.inj,h.op.ge⟩,h.pn,h.pe,h.nz,h.dj,h.ln,h.nt⟩
theorem Al.us_lt(h:Al hs m o Ω L P T N){i:Nat}(u:Us P T i):11<=i/\i<Ω.length:=by
 obtain⟨k,q |q⟩:=u
 ·exact⟨h.op.ge k i q,h.op.lt q⟩
 ·exact⟨h.ot.ge k i q,h.ot.lt q⟩
theorem Al.ne(h:Al hs m o Ω L P T N){x y:Int}(q:(aF L (prr x y)).isSome=true):x≠y:=by
 intro e
 cases q1:aF L (prr x y) with
 | none=>rw[q1] at q;cases q
 | some v =>
  have:=h.lt _ (rK q1)
  subst e
  simp[prr] at this
theorem Al.tied(h:Al hs m o Ω L P T N){x y v:Int}(q:aF L (prr x y)=some v):∃i,aF T (x,y)=some i:=by
 have:=h.sm x y
 rw[q] at this
 cases z:aF T (x,y) with
 | none=>rw[z] at this;cases this
 | some i=>exact⟨i,rfl⟩
theorem Al.free(h:Al hs m o Ω L P T N){x y:Int}(q:aF L (prr x y)=none):aF T (x,y)=none:=by
 have:=h.sm x y
 rw[q] at this
 cases z:aF T (x,y) with
 | none=>rfl
 | some i=>rw[z] at this;cases this
theorem Al.pT(h:Al hs m o Ω L P T N){k:Int×Int}{i:Nat}(q:aF P k=some i):∃j,aF T k=some j:=by
 cases z:aF L (prr k.1 k.2) with
 | none=>exact absurd (h.nz k.1 k.2 z) (h.pn k i q)
 | some v=>exact h.tied z
theorem MK(n:Nat):∀l:List Int,(l.map fun _=>n).sum=l.length*n
 | []=>by simp
 | x::l=>by
  rw[List.map_cons,List.sum_cons,MK n l,List.length_cons,Nat.succ_mul,Nat.add_comm]
theorem sub_len{hs:List Int}(h6:hs.length<=6){ks:List (Int×Int)}(nd:ks.Nodup)(hm:∀k∈ks,k.1∈hs/\k.2∈hs):ks.length<=36:=by
 have h1:ks.length<=(hs.flatMap fun x=>hs.map fun y=>(x,y)).length:=by
  refine nd.length_le_of_subset fun k hk=>?_
  obtain⟨a,b⟩:=hm k hk
  exact List.mem_flatMap.mpr ⟨k.1,a,List.mem_map.mpr ⟨k.2,b,rfl⟩⟩
 have h2:(hs.flatMap fun x=>hs.map fun y=>(x,y)).length=hs.length*hs.length:=by
  rw[List.length_flatMap]
  simp only[List.length_map]
  exact MK _ hs
 rw[h2] at h1
 have:hs.length*hs.length<=6*6:=Nat.mul_le_mul h6 h6
 omega
theorem Al.lenL(h:Al hs m o Ω L P T N)(h6:hs.length<=6):L.length<=36:=by
 have:=sub_len h6 h.nd fun k hk=>by
  obtain⟨r,hr,rfl⟩:=List.mem_map.mp hk
  exact h.ms r hr
 simpa using this
theorem Lj(h:Al hs m o Ω L P T N){k:Int×Int}(hk:k∈T.map (·.1)):k.1∈hs/\k.2∈hs:=by
 have q:aF T k≠none:=fun z=>je.mp z hk
 cases z:aF L (prr k.1 k.2) with
 | none=>exact absurd (h.free (x:=k.1) (y:=k.2) z) q
 | some v =>
  have:=h.ms _ (rK z)
  unfold prr at this
  dsimp only at this
  by_cases c1:k.2<k.1
  ·rw[if_pos c1,if_neg (by omega:¬k.2>k.1)] at this
   exact⟨this.2,this.1⟩
  ·rw[if_neg c1] at this
   by_cases c2:k.2>k.1
   ·rw[if_pos c2] at this;exact this
   ·rw[if_neg c2] at this
    have e:k.2=k.1:=by omega
    rw[e];exact this
theorem Al.lenT(h:Al hs m o Ω L P T N)(h6:hs.length<=6):T.length<=36:=by
 have:=sub_len h6 h.ot.nd fun k hk=>Lj h hk
 simpa using this
theorem Tq(h:Al hs m o Ω L P T N){k:Int×Int}(hk:k∈P.map (·.1)):k∈T.map (·.1):=by
 cases z:aF P k with
 | none=>exact absurd hk (je.mp z)
 | some i =>
  obtain⟨j,hj⟩:=h.pT z
  exact List.mem_map.mpr ⟨_,rK hj,rfl⟩
theorem Al.lenP(h:Al hs m o Ω L P T N)(h6:hs.length<=6):P.length<=36:=by
 have:=sub_len h6 h.op.nd fun k hk=>Lj h (Tq h hk)
 simpa using this
end
end Law
namespace Law
open PySem DL
section
variable {hs:List Int} {m o:Nat} {Ω:List OS} {L:TyL} {P T:TyO} {N:TyN} {a b l:Int} {d:D}
theorem UL(ne:a≠b):¬((b,a):Int×Int)=(a,b):=fun z=>ne (by injection z with z1 z2)
theorem Al.come(h:Al hs m o Ω L P T N)(ha:a∈hs)(hb:b∈hs)(ne:a≠b)(q:aF L (prr a b)=none)(l:Int){Ω5:List OS}(e5:Ω5=((((Ω.set (o+3) (lD (aU L (prr a b) l)))++[OS.mls []]).set (o+4) (oD (aU T (a,b) Ω.length))++[OS.mls []]).set (o+4) (oD (aU (aU T (a,b) Ω.length) (b,a) (Ω.length+1)))))
  (s5:St o Ω5 L (aU L (prr a b) l) P (aU (aU T (a,b) Ω.length) (b,a) (Ω.length+1))):Al hs m o (Ω5.set (o+1) (lD (aU L (prr a b) l))) (aU L (prr a b) l) P (aU (aU T (a,b) Ω.length) (b,a) (Ω.length+1)) N:=by
 have n1:N (a,b)=[]:=h.nz a b q
 have n2:N (b,a)=[]:=h.nz b a (by rw[Bb];exact q)
 have o5:=h.o5
 have l11:=h.l11
 have f3:o+3<11:=by omega
 have f4:o+4<11:=by omega
 have f1:o+1<11:=by omega
 have o1:=(h.ot.fix f3 (lD (aU L (prr a b) l))).put (by rw[List.length_set];exact l11) (k:=(a,b)) [] n1
 rw[List.length_set] at o1
 have o2:=(o1.fix f4 (oD (aU T (a,b) Ω.length))).put (by rw[List.length_set,List.length_append,List.length_set];omega) (k:=(b,a)) [] n2
 have el:((Ω.set (o+3) (lD (aU L (prr a b) l))++[OS.mls []]).set (o+4) (oD (aU T (a,b) Ω.length))).length=Ω.length+1:=by simp
 rw[el] at o2
 have o3:=(o2.fix f4 (oD (aU (aU T (a,b) Ω.length) (b,a) (Ω.length+1)))).fix f1 (lD (aU L (prr a b) l))
 have p3:=(((((h.op.fix f3 (lD (aU L (prr a b) l))).app (.mls [])).fix f4 (oD (aU T (a,b) Ω.length))).app (.mls [])).fix f4 (oD (aU (aU T (a,b) Ω.length) (b,a) (Ω.length+1)))).fix f1 (lD (aU L (prr a b) l))
 rw[<-e5] at o3 p3
 refine⟨s5.set1 _,h.o5,?_,vY h.nd _ _,fun r hr=>?_,fun r hr=>?_,fun x y=>?_,o3,p3,h.pn,h.pe,fun x y z=>?_,fun k k' i h1 h2=>?_,h.ln,h.nt⟩
 ·rw[e5]
  simp
  omega
 ·rcases Az hr with z |z
  ·exact h.lt r z
  ·rw[z]
   show(prr a b).1<(prr a b).2
   unfold prr
   split<;>split<;>omega
 ·rcases Az hr with z |z
  ·exact h.ms r z
  ·rw[z]
   show(prr a b).1∈hs/\(prr a b).2∈hs
   unfold prr
   dsimp only
   constructor
   ·split<;>assumption
   ·split<;>assumption
 ·rw[cM,cM,cM]
  by_cases h1:(x,y)=(b,a)
  ·rw[if_pos h1,if_pos ((mJ x y a b).mpr (.inr h1))];rfl
  ·rw[if_neg h1]
   by_cases h2:(x,y)=(a,b)
   ·rw[if_pos h2,if_pos ((mJ x y a b).mpr (.inl h2))];rfl
   ·rw[if_neg h2,if_neg (fun z=>by rcases (mJ x y a b).mp z with z |z<;>contradiction)]
    exact h.sm x y
 ·rw[cM] at z
  split at z
  ·cases z
  ·exact h.nz x y z
 ·have lt:=h.op.lt h2
  rw[cM] at h1
  split at h1
  ·cases h1;omega
  ·rw[cM] at h1
   split at h1
   ·cases h1;omega
   ·exact h.dj k k' i h1 h2
theorem lX{T:TyO}{k:Int×Int}{i:Nat}(q:aF (aY (aY T (a,b)) (b,a)) k=some i):aF T k=some i/\k≠(a,b)/\k≠(b,a):=by
 rw[cN] at q
 split at q
 ·cases q
 ·rename_i h1
  rw[cN] at q
  split at q
  ·cases q
  ·rename_i h2
   exact⟨q,h2,h1⟩
theorem Al.fall(h:Al hs m o Ω L P T N)(a b:Int){Ω':List OS}(s:St o Ω' (aY L (prr a b)) (aY L (prr a b)) (aY (aY P (a,b)) (b,a)) (aY (aY T (a,b)) (b,a)))(hl:11<=Ω'.length)(oT:Ob Ω' T N)(oP:Ob Ω' P N):Al hs m o Ω' (aY L (prr a b)) (aY (aY P (a,b)) (b,a)) (aY (aY T (a,b)) (b,a)) (jA (jA N (a,b) []) (b,a) []):=by
 have nn:∀k,k≠(a,b)->k≠(b,a)->jA (jA N (a,b) []) (b,a) [] k=N k:=fun k h1 h2=>by rw[b_ _ _ h2,b_ _ _ h1]
 have ne0:∀k,k=(a,b)\/k=(b,a)->jA (jA N (a,b) []) (b,a) [] k=[]:=fun k h=>by
  by_cases h1:k=(b,a)
  ·rw[h1,cP]
  ·rcases h with h |h
   ·rw[b_ _ _ h1,h,cP]
   ·exact absurd h h1
 have cs:∀k:Int×Int,(k=(a,b)\/k=(b,a))\/(k≠(a,b)/\k≠(b,a)):=fun k=>by
  by_cases h1:k=(a,b)
  ·exact .inl (.inl h1)
  ·by_cases h2:k=(b,a)
   ·exact .inl (.inr h2)
   ·exact .inr ⟨h1,h2⟩
 refine⟨s,h.o5,hl,vZ h.nd _,fun r hr=>h.lt r ((List.mem_filter.mp hr).1),fun r hr=>h.ms r ((List.mem_filter.mp hr).1),fun x y=>?_,((oT.cut _).cut _).same fun k i q=>nn k (lX q).2.1 (lX q).2.2,((oP.cut _).cut _).same fun k i q=>nn k (lX q).2.1 (lX q).2.2,fun k i q=>?_,fun k q=>?_,fun x y z=>?_,fun k k' i h1 h2=>h.dj k k' i (lX h1).1 (lX h2).1,fun k=>?_,fun k=>?_⟩
 ·rw[cN,cN,cN]
  by_cases h1:(x,y)=(b,a)
  ·rw[if_pos h1,if_pos ((mJ x y a b).mpr (.inr h1))];rfl
  ·rw[if_neg h1]
   by_cases h2:(x,y)=(a,b)
   ·rw[if_pos h2,if_pos ((mJ x y a b).mpr (.inl h2))];rfl
   ·rw[if_neg h2,if_neg (fun z=>by rcases (mJ x y a b).mp z with z |z<;>contradiction)]
    exact h.sm x y
 ·obtain⟨q1,q2,q3⟩:=lX q
  rw[nn k q2 q3]
  exact h.pn k i q1
 ·rcases cs k with z |⟨h2,h1⟩
  ·exact ne0 k z
  ·rw[nn k h2 h1]
   rw[cN,if_neg h1,cN,if_neg h2] at q
   exact h.pe k q
 ·rcases cs (x,y) with w |⟨h2,h1⟩
  ·exact ne0 _ w
  ·rw[nn _ h2 h1]
   rw[cN,if_neg (fun z=>by rcases (mJ x y a b).mp z with z |z<;>contradiction)] at z
   exact h.nz x y z
 ·rcases cs k with z |⟨h2,h1⟩
  ·rw[ne0 k z];exact Nat.zero_le _
  ·rw[nn k h2 h1];exact h.ln k
 ·rcases cs k with z |⟨h2,h1⟩
  ·rw[ne0 k z];exact fun n hn=>(nomatch hn)
  ·rw[nn k h2 h1];exact h.nt k
theorem Al.sendOld(h:Al hs m o Ω L P T N)(hd:Nt d){v:Int}(q:aF L (prr a b)=some v){i j:Nat}(hi:aF T (a,b)=some i)(hj:aF P (a,b)=some j):Al hs (m+1) o (((Ω.set i (.mls (N (a,b)++[d])))++[OS.mls []]).set j (.mls (N (a,b)++[d]))) L P T (jA N (a,b) (N (a,b)++[d])):=by
 have gi:=h.ot.ge _ _ hi
 have gj:=h.op.ge _ _ hj
 have o5:=h.o5
 have l11:=h.l11
 have o1:=((h.ot.upd hi (N (a,b)++[d])).app (.mls [])).other (j:=j) (fun k z=>h.dj k _ j z hj) (.mls (N (a,b)++[d]))
 have o2:=((h.op.other (j:=i) (fun k z=>h.dj _ k i hi z) (.mls (N (a,b)++[d]))).app (.mls [])).upd hj (N (a,b)++[d])
 refine⟨((h.st.other (.inr (by omega)) _).app _).other (.inr (by omega)) _,h.o5,by simp;omega,h.nd,h.lt,h.ms,h.sm,o1,o2,fun k i q=>?_,fun k q=>?_,fun x y z=>?_,h.dj,fun k=>?_,fun k=>?_⟩
 ·by_cases e:k=(a,b)
  ·rw[e,cP];simp
  ·rw[b_ _ _ e];exact h.pn k i q
 ·by_cases e:k=(a,b)
  ·rw[e,hj] at q;cases q
  ·rw[b_ _ _ e];exact h.pe k q
 ·by_cases e:(x,y)=(a,b)
  ·cases e;rw[q] at z;cases z
  ·rw[b_ _ _ e];exact h.nz x y z
 ·by_cases e:k=(a,b)
  ·rw[e,cP]
   have:=h.ln (a,b)
   simp
   omega
  ·rw[b_ _ _ e]
   have:=h.ln k
   omega
 ·by_cases e:k=(a,b)
  ·rw[e,cP]
   intro n hn
   rcases List.mem_append.mp hn with z |z
   ·exact h.nt _ n z
   ·rw[List.mem_singleton.mp z];exact hd
  ·rw[b_ _ _ e]
   exact h.nt k
theorem Al.sendNew(h:Al hs m o Ω L P T N)(hd:Nt d){v:Int}(q:aF L (prr a b)=some v){i:Nat}(hi:aF T (a,b)=some i)(hj:aF P (a,b)=none):Al hs (m+1) o ((((Ω.set i (.mls (N (a,b)++[d])))++[OS.mls []]).set (o+2) (oD (aU P (a,b) (Ω.set i (OS.mls (N (a,b)++[d]))).length))).set (Ω.set i (OS.mls (N (a,b)++[d]))).length (.mls [d])) L (aU P (a,b) (Ω.set i (OS.mls (N (a,b)++[d]))).length) T (jA N (a,b) (N (a,b)++[d])):=by
 have n0:N (a,b)=[]:=h.pe _ hj
 have gi:=h.ot.ge _ _ hi
 have o5:=h.o5
 have l11:=h.l11
 have li:=h.ot.lt hi
 have f2:o+2<11:=by omega
 obtain⟨Ω1,e1⟩:∃Ω1,Ω1=Ω.set i (.mls (N (a,b)++[d])):=⟨_,rfl⟩
 have l1:Ω1.length=Ω.length:=by rw[e1,List.length_set]
 have b1:=h.ot.upd hi (N (a,b)++[d])
 have b2:=(h.op.other (j:=i) (fun k z=>h.dj _ k i hi z) (.mls (N (a,b)++[d]))).same (N':=jA N (a,b) (N (a,b)++[d])) fun k j z=>b_ _ _ fun e=>by rw[e,hj] at z;cases z
 have s1:=h.st.other (i:=i) (.inr (by omega)) (.mls (N (a,b)++[d]))
 rw[<-e1] at b1 b2 s1 ⊢
 have ex:((Ω1++[OS.mls []]).set (o+2) (oD (aU P (a,b) Ω1.length))).set Ω1.length (.mls [d])=(Ω1++[OS.mls [d]]).set (o+2) (oD (aU P (a,b) Ω1.length)):=by
  rw[List.set_comm _ _ (by omega:o+2≠Ω1.length)]
  congr 1
  rw[List.set_append_right _ _ (Nat.le_refl _)]
  simp
 rw[ex]
 have o1:=(b1.app (.mls [d])).fix f2 (oD (aU P (a,b) Ω1.length))
 have o2:=(b2.put (by omega) (k:=(a,b)) [d] (by rw[cP,n0];rfl)).fix f2 (oD (aU P (a,b) Ω1.length))
 refine⟨(s1.app _).set2 _,h.o5,by simp;omega,h.nd,h.lt,h.ms,h.sm,o1,o2,fun k i q=>?_,fun k q=>?_,fun x y z=>?_,fun k k' i' h1 h2=>?_,fun k=>?_,fun k=>?_⟩
 ·by_cases e:k=(a,b)
  ·rw[e,cP];simp
  ·rw[b_ _ _ e]
   rw[cM,if_neg e] at q
   exact h.pn k i q
 ·by_cases e:k=(a,b)
  ·rw[e,cM,if_pos rfl] at q;cases q
  ·rw[b_ _ _ e]
   rw[cM,if_neg e] at q
   exact h.pe k q
 ·by_cases e:(x,y)=(a,b)
  ·cases e;rw[q] at z;cases z
  ·rw[b_ _ _ e];exact h.nz x y z
 ·rw[cM] at h2
  split at h2
  ·cases h2
   have:=h.ot.lt h1
   omega
  ·exact h.dj k k' i' h1 h2
 ·by_cases e:k=(a,b)
  ·rw[e,cP]
   have:=h.ln (a,b)
   simp
   omega
  ·rw[b_ _ _ e]
   have:=h.ln k
   omega
 ·by_cases e:k=(a,b)
  ·rw[e,cP]
   intro n hn
   rcases List.mem_append.mp hn with z |z
   ·exact h.nt _ n z
   ·rw[List.mem_singleton.mp z];exact hd
  ·rw[b_ _ _ e]
   exact h.nt k
theorem Al.carry(h:Al hs m o Ω L P T N){v:Int}{n:D}{ns:List D}(q:aF L (prr a b)=some v)(hn:N (a,b)=n::ns){i j:Nat}(hi:aF T (a,b)=some i)(hj:aF P (a,b)=some j){Ω':List OS}(hc:ns=[]/\Ω'=((Ω.set i (.mls ns)).set j (.mls ns)).set (o+2) (oD (aY P (a,b)))\/ns≠[]/\Ω'=(Ω.set i (.mls ns)).set j (.mls ns)):∃P',(∀k i,aF P' k=some i->aF P k=some i)/\Al hs m o Ω' L P' T (jA N (a,b) ns):=by
 have gi:=h.ot.ge _ _ hi
 have gj:=h.op.ge _ _ hj
 have o5:=h.o5
 have l11:=h.l11
 have f2:o+2<11:=by omega
 have o1:=(h.ot.upd hi ns).other (j:=j) (fun k z=>h.dj k _ j z hj) (.mls ns)
 have o2:=(h.op.other (j:=i) (fun k z=>h.dj _ k i hi z) (.mls ns)).upd hj ns
 have s1:=(h.st.other (i:=i) (.inr (by omega)) (.mls ns)).other (i:=j) (.inr (by omega)) (.mls ns)
 have lnn:∀k,(jA N (a,b) ns k).length<=m:=fun k=>by
  by_cases e:k=(a,b)
  ·rw[e,cP]
   have:=h.ln (a,b)
   rw[hn] at this
   simp at this
   omega
  ·rw[b_ _ _ e];exact h.ln k
 have ntt:∀k,∀x∈jA N (a,b) ns k,Nt x:=fun k=>by
  by_cases e:k=(a,b)
  ·rw[e,cP]
   intro x hx
   exact h.nt (a,b) x (by rw[hn];exact List.mem_cons_of_mem _ hx)
  ·rw[b_ _ _ e];exact h.nt k
 have nzz:∀x y,aF L (prr x y)=none->jA N (a,b) ns (x,y)=[]:=fun x y z=>by
  by_cases e:(x,y)=(a,b)
  ·cases e;rw[q] at z;cases z
  ·rw[b_ _ _ e];exact h.nz x y z
 rcases hc with⟨hc,rfl⟩ |⟨hc,rfl⟩
 ·refine⟨aY P (a,b),fun k i q=>?_,s1.set2 _,h.o5,by simp;omega,h.nd,h.lt,h.ms,h.sm,o1.fix f2 _,(o2.fix f2 _).cut _,fun k i q=>?_,fun k q=>?_,nzz,fun k k' i' h1 h2=>?_,lnn,ntt⟩
  ·rw[cN] at q
   split at q
   ·cases q
   ·exact q
  ·rw[cN] at q
   split at q
   ·cases q
   ·rename_i e
    rw[b_ _ _ e];exact h.pn k i q
  ·by_cases e:k=(a,b)
   ·rw[e,cP];exact hc
   ·rw[b_ _ _ e]
    rw[cN,if_neg e] at q
    exact h.pe k q
  ·rw[cN] at h2
   split at h2
   ·cases h2
   ·exact h.dj k k' i' h1 h2
 ·refine⟨P,fun _ _ q=>q,s1,h.o5,by simp;omega,h.nd,h.lt,h.ms,h.sm,o1,o2,fun k i q=>?_,fun k q=>?_,nzz,h.dj,lnn,ntt⟩
  ·by_cases e:k=(a,b)
   ·rw[e,cP];exact hc
   ·rw[b_ _ _ e];exact h.pn k i q
  ·by_cases e:k=(a,b)
   ·rw[e,hj] at q;cases q
   ·rw[b_ _ _ e];exact h.pe k q
end
end Law
namespace Law
open PySem DL
section
variable {hs:List Int} {m o:Nat} {Ω:List OS} {L:TyL} {P T:TyO} {N:TyN} {a b l:Int} {d:D}
theorem Bq:∀{ns:List D},(∀n∈ns,Nt n)->plL ns=true/\cC ns<=2
 | [],_=>⟨rfl,by simp[cC]⟩
 | n::ns,h=>by
  obtain⟨i1,i2⟩:=Bq fun x hx=>h x (List.mem_cons_of_mem _ hx)
  obtain⟨j1,j2⟩:=(h n List.mem_cons_self).pl
  refine⟨by simp[plL,i1,j1],?_⟩
  rw[cC]
  omega
theorem Ff(neg:Bool){ns:List D}(h:∀n∈ns,Nt n):eqD neg (.lst ns) (.lst [])=some (.bl (if neg then !decide (ns=[]) else decide (ns=[]))):=by
 obtain⟨i1,i2⟩:=Bq h
 cases ns with
 | nil =>
  rw[kW neg (p:=.lst []) rfl (by simp[dep,cC])]
  cases neg<;>rfl
 | cons n ns =>
  rw[uQ neg (p:=.lst (n::ns)) (q:=.lst []) (by rw[DL.pl];exact i1) rfl (by rw[dep];omega) (by simp[dep,cC]) (by simp)]
  cases neg<;>simp
noncomputable def Rs(r:D):Prop:=(∃x,r=.str x/\(PyData.str x).canLay0=true)\/∃ds,r=.lst ds/\plL ds=true/\cC ds<=50/\ds.length<=1000
theorem tM{x:Str}(h:(PyData.str x).canLay0=true):Rs (.str x):=.inl ⟨x,rfl,h⟩
theorem wy:Rs (.lst [.non]):=.inr ⟨_,rfl,rfl,by simp[cC,dep],by simp⟩
theorem Ik{Ω Ω':List OS}{T:TyO}{N:TyN}{j:Nat}{x:OS}{p:Prop}(h:Ob Ω T N)(hj:j<11)(c:Ω'=Ω/\p\/Ω'=Ω.set j x):Ob Ω' T N:=by
 rcases c with⟨rfl,_⟩ |rfl
 ·exact h
 ·exact h.fix hj _
theorem Il{S:Nat->Prop}{Ω0 Ω Ω':List OS}{j:Nat}{x:OS}{p:Prop}(h:Fr S Ω0 Ω)(hj:S j)(c:Ω'=Ω/\p\/Ω'=Ω.set j x):Fr S Ω0 Ω':=by
 rcases c with⟨rfl,_⟩ |rfl
 ·exact h
 ·exact h.set hj _
theorem Qs{k k':Int×Int}{n:Nat}{i:Nat}(u:Us P (aU (aU T k n) k' (n+1)) i):Us P T i\/n<=i:=by
 obtain⟨x,q |q⟩:=u
 ·exact .inl ⟨x,.inl q⟩
 ·rw[cM] at q
  split at q
  ·cases q;exact .inr (Nat.le_succ _)
  ·rw[cM] at q
   split at q
   ·cases q;exact .inr (Nat.le_refl _)
   ·exact .inl ⟨x,.inr q⟩
theorem Qt{i:Nat}(u:Us (aY (aY P (a,b)) (b,a)) (aY (aY T (a,b)) (b,a)) i):Us P T i:=by
 obtain⟨x,q |q⟩:=u
 ·exact⟨x,.inl (lX q).1⟩
 ·exact⟨x,.inr (lX q).1⟩
theorem Tr{k:Int×Int}{n i:Nat}(u:Us (aU P k n) T i):Us P T i\/n<=i:=by
 obtain⟨x,q |q⟩:=u
 ·rw[cM] at q
  split at q
  ·cases q;exact .inr (Nat.le_refl _)
  ·exact .inl ⟨x,.inl q⟩
 ·exact .inl ⟨x,.inr q⟩
theorem deed(h:Al hs m o Ω L P T N)(h6:hs.length<=6)(hr:∀n∈hs,0<=n/\n<32)(hm:m<900){w:Str}(hw:Wy w)(hc:w = "come" -> ∃l,d=.int l)(hd:Nt d)(ha:a∈hs)(hb:b∈hs):∃r L' P' T' Ωm Ω' N',Rs r/\Al hs (m+1) o Ω' L' P' T' N'/\Fr (Sw o P T Ω.length) Ω Ω'/\(∀i,Us P' T' i->Us P T i\/Ω.length<=i) /\
  bZ [.str w,.obj (o+3),.obj (o+4),.int a,.int b,d] Ω=some (r,Ωm)/\bU [.str w,.obj o,.int a,.int b,d] Ωm=some (r,Ω'):=by
 have sa:bD a:=uw (by have:=hr a ha;omega) (by have:=hr a ha;omega)
 have sb:bD b:=uw (by have:=hr b hb;omega) (by have:=hr b hb;omega)
 have lL:=h.lenL h6
 have lT:=h.lenT h6
 have lP:=h.lenP h6
 have h1:=h.mono (Nat.le_succ m)
 have o5:=h.o5
 have l11:=h.l11
 have F0:=Fr.refl (Sw o P T Ω.length) Ω
 have U0:∀i,Us P T i->Us P T i\/Ω.length<=i:=fun i u=>.inl u
 rcases hw with rfl |hw
 ·by_cases ne:a=b
  ·subst ne
   exact⟨_,L,P,T,Ω,_,N,tM (by decide +kernel),h1.app _,F0.app _,U0,KR _,Tj h.st sa⟩
  ·cases q:aF L (prr a b) with
   | some v =>
    obtain⟨i,hi⟩:=h.tied q
    exact⟨_,L,P,T,Ω,_,N,tM (by decide +kernel),h1.app _,F0.app _,U0,KY h.st ne hi,Tn h.st ne q sa sb⟩
   | none =>
    obtain⟨l,rfl⟩:=hc rfl
    obtain⟨Ω5,e5,s5,e6⟩:=KZ h.st (l:=l) ne (h.free q) (by omega) (by omega)
    refine⟨_,_,P,_,Ω5,_,N,wy,h1.come ha hb ne q l e5 s5,?_,fun i u=>Qs u,e6,Th s5 (Qk s5 ne q (by omega))⟩
    rw[e5]
    exact(((((F0.set (mU ⟨by omega,by omega⟩) _).app _).set (mU ⟨by omega,by omega⟩) _).app _).set (mU ⟨by omega,by omega⟩) _).set (mU ⟨by omega,by omega⟩) _
 ·cases q:aF L (prr a b) with
  | none=>exact⟨_,L,P,T,Ω,_,N,tM (by decide +kernel),h1.app _,F0.app _,U0,Dt h.st hw (h.free q),w_not h.st hw q sa sb⟩
  | some v =>
   obtain⟨i,hi⟩:=h.tied q
   have hRi:=h.ot.at' _ _ hi
   have hln:=h.ln (a,b)
   have gi:=h.ot.ge _ _ hi
   rcases hw with rfl |rfl |rfl |rfl |rfl
   ·have ne:=h.ne (by rw[q];rfl:(aF L (prr a b)).isSome=true)
    obtain⟨j,hj⟩:=h.tied (x:=b) (y:=a) (by rw[Bb];exact q)
    have q3:aF (aY T (a,b)) (b,a)=some j:=by rw[cN,if_neg (UL ne),hj]
    obtain⟨Ω1,e1,s1,d1⟩:=K_ (d:=d) h.st q hi q3
    obtain⟨Ω2,Ω3,c2,c3,d2⟩:=Qm s1 q
    have s3:=((s1.set1 _).lX c2).lX c3
    have f1:o+1<11:=by omega
    have f2:o+2<11:=by omega
    have f3:o+3<11:=by omega
    have f4:o+4<11:=by omega
    have F1:Fr (Sw o P T Ω.length) Ω Ω1:=by
     rw[e1]
     exact((F0.set (mU ⟨by omega,by omega⟩) _).set (mU ⟨by omega,by omega⟩) _).set (mU ⟨by omega,by omega⟩) _
    have F3:=Il (Il (F1.set (j:=o+1) (mU ⟨by omega,by omega⟩) _) (j:=o+2) (mU ⟨by omega,by omega⟩) c2) (j:=o+2) (mU ⟨by omega,by omega⟩) c3
    have ob:∀{X:TyO},Ob Ω X N->Ob Ω3 X N:=fun {X} k=>by
     have k1:Ob Ω1 X N:=by
      rw[e1]
      exact((k.fix f3 _).fix f4 _).fix f4 _
     exact Ik (Ik (k1.fix f1 _) f2 c2) f2 c3
    exact⟨_,_,_,_,Ω1,Ω3,_,wy,h1.fall a b s3 (Nat.le_trans l11 F3.ln) (ob h.ot) (ob h.op),F3,fun i u=>.inl (Qt u),d1,Ti s1 d2⟩
   ·have sm:=h.st.other (i:=i) (.inr (by omega)) (.mls (N (a,b)++[d]))
    have Fm:=F0.set (Tp hi) (.mls (N (a,b)++[d]))
    cases hj:aF P (a,b) with
    | some j =>
     have ij:j≠i:=fun z=>h.dj _ _ i hi (by rw[<-z];exact hj)
     have hRj:(Ω.set i (.mls (N (a,b)++[d])))[j]? = some (.mls (N (a,b))):=by rw[List.getElem?_set_ne (Ne.symm ij)];exact h.op.at' _ _ hj
     exact⟨_,L,P,T,_,_,_,wy,h.sendOld hd q hi hj,(Fm.app _).set (Li hj) _,U0,Bl h.st hi hRi (by omega),Ij sm (La sm hd q hj (by omega) hRj (by omega))⟩
    | none =>
     refine⟨_,L,_,T,_,_,_,wy,h.sendNew hd q hi hj,?_,fun i u=>?_,Bl h.st hi hRi (by omega),Ij sm (Lb sm hd q hj (by omega))⟩
     ·exact((Fm.app _).set (mU ⟨by omega,by omega⟩) _).set (.inr (.inr (by rw[List.length_set];exact Nat.le_refl _))) _
     ·have:=Tr u
      rw[List.length_set] at this
      exact this
   ·cases hN:N (a,b) with
    | nil =>
     rw[hN] at hRi
     have hj:aF P (a,b)=none:=by
      cases z:aF P (a,b) with
      | none=>rfl
      | some j=>exact absurd hN (h.pn _ _ z)
     exact⟨_,L,P,T,Ω,_,N,tM (by decide +kernel),h1.app _,F0.app _,U0,Fd h.st hi hRi,Lh h.st q hj sa sb⟩
    | cons n ns =>
     rw[hN] at hRi
     have nts:=h.nt (a,b)
     rw[hN] at nts
     obtain⟨j,hj⟩:∃j,aF P (a,b)=some j:=by
      cases z:aF P (a,b) with
      | none=>have:=h.pe _ z;rw[hN] at this;cases this
      | some j=>exact⟨j,rfl⟩
     have gj:=h.op.ge _ _ hj
     have ij:j≠i:=fun z=>h.dj _ _ i hi (by rw[<-z];exact hj)
     have hRj:(Ω.set i (.mls ns))[j]? = some (.mls (n::ns)):=by rw[List.getElem?_set_ne (Ne.symm ij),h.op.at' _ _ hj,hN]
     have sm:=h.st.other (i:=i) (.inr (by omega)) (.mls ns)
     have Fm:=F0.set (Tp hi) (.mls ns)
     have q0:=Ff false nts
     have q1:=Ff false (ns:=ns) fun x hx=>nts x (List.mem_cons_of_mem _ hx)
     obtain⟨Ω',cc,e2⟩:=Ld sm q hj hRj (.inr (by omega)) q1
     obtain⟨P',hP',al⟩:=h1.carry q hN hi hj cc
     have np:=(nts n List.mem_cons_self).pl
     refine⟨_,L,P',T,_,Ω',_,.inr ⟨[n],rfl,by simp[plL,np.1],by rw[cC,cC];omega,by simp⟩,al,?_,fun i u=>?_,H_ h.st hi hRi (by simpa using q0),Qp sm e2⟩
     ·rcases cc with⟨_,rfl⟩ |⟨_,rfl⟩
      ·exact(Fm.set (Li hj) _).set (mU ⟨by omega,by omega⟩) _
      ·exact Fm.set (Li hj) _
     ·obtain⟨x,z |z⟩:=u
      ·exact .inl ⟨x,.inl (hP' x i z)⟩
      ·exact .inl ⟨x,.inr z⟩
   ·exact⟨_,L,P,T,Ω,Ω,N,.inr ⟨_,rfl,rfl,by simp[cC,dep],by simp⟩,h1,F0,U0,wj h.st q hi,Bp h.st q⟩
   ·have hp:(∃j,aF P (a,b)=some j/\Ω[j]? = some (.mls (N (a,b))))\/(aF P (a,b)=none/\N (a,b)=[]):=by
     cases z:aF P (a,b) with
     | none=>exact .inr ⟨rfl,h.pe _ z⟩
     | some j=>exact .inl ⟨j,rfl,h.op.at' _ _ z⟩
    obtain⟨p1,p2⟩:=Bq (h.nt (a,b))
    exact⟨_,L,P,T,Ω,_,N,.inr ⟨[.lst (N (a,b))],rfl,by simp[plL,DL.pl,p1],by rw[cC,cC,dep];omega,by simp⟩,h1.app _,F0.app _,U0,Ia h.st hi hRi,Qq h.st (Lf h.st q (by omega) (h.nt _) hp)⟩
theorem Lk(h:Al hs m o Ω L P T N)(hr:∀n∈hs,0<=n/\n<32)(ha:a∈hs)(hb:b∈hs):∃r Ω',Rs r/\(Ω'=Ω\/∃x,Ω'=Ω++[x])/\bU [.str "length",.obj o,.int a,.int b,d] Ω=some (r,Ω')/\bZ [.str "length",.obj (o+3),.obj (o+4),.int a,.int b,d] Ω'=some (r,Ω'):=by
 have sa:bD a:=uw (by have:=hr a ha;omega) (by have:=hr a ha;omega)
 have sb:bD b:=uw (by have:=hr b hb;omega) (by have:=hr b hb;omega)
 have hw:Wn "length":=.inr (.inr (.inr (.inl rfl)))
 cases q:aF L (prr a b) with
 | none=>exact⟨_,_,tM (by decide +kernel),.inr ⟨_,rfl⟩,w_not h.st hw q sa sb,Dt (h.st.app _) hw (h.free q)⟩
 | some v =>
  obtain⟨i,hi⟩:=h.tied q
  exact⟨_,Ω,.inr ⟨_,rfl,rfl,by simp[cC,dep],by simp⟩,.inl rfl,Bp h.st q,wj h.st q hi⟩
end
end Law
namespace Law
open PySem DL L2
noncomputable def kk(k:Int×Int):List Int:=[k.1,k.2]
noncomputable def kD(k:Int×Int):D:=.tup [.int k.1,.int k.2]
noncomputable def leQ(r q:Int×Int):Bool:=!HT.lexLt (kk q) (kk r)
noncomputable def jB(ks:List (Int×Int)):List (Int×Int):=ks.mergeSort leQ
theorem pO(ks:List (Int×Int)):(jB ks).Perm ks:=List.mergeSort_perm _ _
theorem Qu(ks:List (Int×Int)):(jB ks).Pairwise fun a b=>HT.lexLt (kk b) (kk a)=false:=by
 refine(List.pairwise_mergeSort (fun a b c h1 h2=>pL (kk a,.non) (kk b,.non) (kk c,.non) h1 h2) (fun a b=>pM (kk a,.non) (kk b,.non)) ks).imp fun {a b} h=>?_
 have h':(!HT.lexLt (kk b) (kk a))=true:=h
 simpa using h'
theorem Im(a b:Int×Int)(h:kk a=kk b):a=b:=by
 unfold kk at h
 injection h with h1 h2
 injection h2 with h2
 exact Prod.ext h1 h2
theorem Fg{xs ys:List (Int×Int)}(hp:ys.Perm xs)(h:xs.length<64):mz (xs.map kk) (xs.map kD)=some (.lst ((jB ys).map kD)):=by
 unfold mz
 have one:qD (xs.map kk) (xs.map kD):=by
  unfold qD
  rw[List.zip_map']
  intro a ha b hb e
  obtain⟨x,hx,rfl⟩:=List.mem_map.mp ha
  obtain⟨y,hy,rfl⟩:=List.mem_map.mp hb
  rw[Im x y e]
 rw[gA ⟨by simpa using h,by simp,one⟩,xQ kk kD ((pO ys).trans hp) (Qu ys) fun a _ b _ e=>Im a b e]
theorem Du:∀T:TyO,rF (mpA pK oV T)=some ((T.map (·.1)).map kk)
 | []=>rfl
 | r::T=>by
  show(vV (pK r.1)).bind (fun ns=>if ns=[] then none else(rF (mpA pK oV T)).bind fun nss=>some (ns::nss))=_
  rw[Du T]
  rfl
theorem Br(T:TyO):((mpA pK oV T).map fun x=>D.tup (x.1.map ofK))=(T.map (·.1)).map kD:=by
 unfold mpA
 rw[List.map_map,List.map_map]
 rfl
theorem xW:∀ks:List (Int×Int),ni (ks.map kD)=some (ks.map kk)
 | []=>rfl
 | r::ks=>by
  rw[List.map_cons,List.map_cons]
  unfold ni
  rw[xW ks]
  rfl
section
variable {hs:List Int} {m o:Nat} {Ω:List OS} {L M:TyL} {P T:TyO} {N:TyN} {a b l:Int}
theorem wz(s:St o Ω L M P T):∀(rs:TyL) (x:Sl),(∀r∈rs,aF L r.1=some r.2)->gm (bT 0) d_ (gOp uf (aj 0) (bu (ak (eE (eQ "Ties" "length_by" (aj 1)) (aj 0)) aA))) (rs.map pD) [x,.dat (.obj o)] Ω=some (rs.map tri,Ω)
 | [],x,_=>rfl
 | r::rs,x,h=>by
  have ih:=wz s rs (.dat (pD r)) fun q hq=>h q (List.mem_cons_of_mem _ hq)
  have e':aF L (r.1.1,r.1.2)=some r.2:=h r List.mem_cons_self
  have e2:uf (.tup [.int r.1.1,.int r.1.2]) (.tup [.int r.2])=some (tri r):=rfl
  rw[List.map_cons,List.map_cons,jW]
  unfold pD at ih ⊢
  simp[e',e2,ih,s.h0,s.h1]
theorem Io(s:St o Ω L M P T)(nd:(L.map (·.1)).Nodup)(h:L.length<64):fZ [.obj o] Ω=some (.lst ((jR L).map tri),Ω):=by
 have ec:=wz s (jR L) .und fun r hr=>uq nd ((jf L).mem_iff.mp hr)
 have es:=UG nd h
 have ek:=Dp L
 have et:=HS L
 have eo:dTO (lD L)=some (mpA pK D.int L):=rfl
 have eg:fj (oR (eQ "Ties" "length_by" (aj 0))) [.dat (.obj o)] Ω=some ((jR L).map pD,Ω):=by
  rw[GP]
  unfold oR
  simp[eo,ek,et,es,s.h0,s.h1]
 have ei:cL [none,some 0] [Sl.dat (.obj o)]=[.und,.dat (.obj o)]:=rfl
 refine a_ rfl ?_
 show bx (gn [none,some 0] _ _ _ _) [Sl.dat (.obj o)] _=_
 rw[my,nO,eg,ei]
 dsimp only
 rw[if_pos (by have:=(jf L).length_eq;simp;omega),ec]
theorem Bs(s:St o Ω L M P T):∀(rs:TyL) (x:Sl),(∀r∈rs,aF M r.1=some r.2)->gm (bT 0) d_ (bu (ak (gOp ixD (aj 0) (gC (.int 0))) (ak (gOp ixD (aj 0) (gC (.int 1))) (ak (eE (aj 1) (aj 0)) aA)))) (rs.map pD) [x,.dat (.obj (o+3))] Ω=some (rs.map tri,Ω)
 | [],x,_=>rfl
 | r::rs,x,h=>by
  have ih:=Bs s rs (.dat (pD r)) fun q hq=>h q (List.mem_cons_of_mem _ hq)
  have e':aF M (r.1.1,r.1.2)=some r.2:=h r List.mem_cons_self
  rw[List.map_cons,List.map_cons,jW]
  unfold pD at ih ⊢
  unfold tri at ih ⊢
  simp[e',ih,s.h3]
theorem Ce(s:St o Ω L M P T)(h:P.length<64):dW [.obj o] Ω=some (.lst ((jB (P.map (·.1))).map kD),Ω):=by
 have es:=Fg (List.Perm.refl (P.map (·.1))) (by simpa using h)
 have ek:=Du P
 have et:=Br P
 refine a_ rfl ?_
 show bx (oR _) _ _=_
 rw[my]
 unfold oR
 simp[ek,et,es,s.h0,s.h2,-List.map_map]
theorem yL(s:St o Ω L M P T)(ob:Ob Ω T N)(nt:∀k,∀n∈N k,Nt n):∀(ks:List (Int×Int)) (x:Sl),(∀k∈ks,k∈T.map (·.1))->gm (bT 0) (gT (jQ true (eE (aj 1) (aj 0)) (bH aA))) (aj 0) (ks.map kD) [x,.dat (.obj (o+4))] Ω=some ((ks.filter fun k=>!decide (N k=[])).map kD,Ω)
 | [],x,_=>rfl
 | k::ks,x,h=>by
  have ih:=yL s ob nt ks (.dat (kD k)) fun q hq=>h q (List.mem_cons_of_mem _ hq)
  obtain⟨i,hi⟩:∃i,aF T k=some i:=by
   cases z:aF T k with
   | none=>exact absurd (h k List.mem_cons_self) (je.mp z)
   | some i=>exact⟨i,rfl⟩
  have hR:=ob.at' k i hi
  have hi':aF T (k.1,k.2)=some i:=hi
  have e0:=Ff true (nt k)
  rw[if_pos rfl] at e0
  have eg:gT (jQ true (eE (aj 1) (aj 0)) (bH aA)) [.dat (kD k),.dat (.obj (o+4))] Ω=some (!decide (N k=[]),Ω):=by
   unfold kD
   simp[jQ,hi',oV,hR,e0,s.h4]
  rw[List.map_cons,jW,List.filter_cons]
  have eb:bT 0 (kD k) [x,.dat (.obj (o+4))]=some [.dat (kD k),.dat (.obj (o+4))]:=rfl
  rw[eb]
  dsimp only
  rw[eg]
  by_cases hc:N k=[]
  ·simp only[hc,decide_true,Bool.not_true,Bool.false_eq_true,if_false]
   exact ih
  ·simp only[hc,decide_false,Bool.not_false,if_true,List.map_cons]
   simp[ih]
theorem Ip(h:Al hs m o Ω L P T N):(P.map (·.1)).Perm ((T.map (·.1)).filter fun k=>!decide (N k=[])):=by
 rw[List.perm_ext_iff_of_nodup h.op.nd (h.ot.nd.filter _)]
 intro k
 rw[List.mem_filter]
 constructor
 ·intro hk
  cases z:aF P k with
  | none=>exact absurd hk (je.mp z)
  | some i=>exact⟨Tq h hk,by simpa using h.pn k i z⟩
 ·intro⟨_,h2⟩
  cases z:aF P k with
  | none=>rw[h.pe k z] at h2;simp at h2
  | some i=>exact List.mem_map.mpr ⟨_,rK z,rfl⟩
noncomputable def Hs(ds:List D):Prop:=plL ds=true/\cC ds<=60/\ds.length<=1000
theorem UT{r:D}(h:Rs r):Hs [r]:=by
 rcases h with⟨x,rfl,hx⟩ |⟨ds,rfl,h1,h2,h3⟩
 ·exact⟨by simp[plL,DL.pl,hx],by simp[cC,dep],by simp⟩
 ·exact⟨by simp[plL,DL.pl,h1],by rw[cC,cC,dep];omega,by simp⟩
noncomputable def cH(o:Nat):D:=.tup [.obj o,.obj (o+3),.obj (o+4)]
noncomputable def RK(o:Nat)(a b t:Int)(k w x y:Sl):List Sl:=[.dat (cH o),.dat (.tup [.int a,.int b]),.dat (.int t),.dat (.obj 10),.dat (.obj o),.dat (.obj (o+3)),.dat (.obj (o+4)),k,w,x,y]
noncomputable def wh0:aN:=(aG (bF 9 (cz "Ties" "pairs" fZ [] (aj 4) aA)) (bF 10 (h_ (gn [none,some 5] (fj (dJ (aj 5))) (bT 0) d_ (bu (ak (gOp ixD (aj 0) (gC (.int 0))) (ak (gOp ixD (aj 0) (gC (.int 1))) (ak (eE (aj 1) (aj 0)) aA))))))))
noncomputable def wh1:aN:=(aG (bF 9 (cz "Ties" "waiting" dW [] (aj 4) aA)) (bF 10 (h_ (gn [none,some 6] (fj (dJ (aj 6))) (bT 0) (gT (jQ true (eE (aj 1) (aj 0)) (bH aA))) (aj 0)))))
noncomputable def wh2:aN:=(aG (bF 9 (bH (ak (bz bU (ak (gC (.str "length")) (ak (aj 4) (ak (gOp ixD (aj 1) (gC (.int 0))) (ak (gOp ixD (aj 1) (gC (.int 1))) (ak (gC (.int 0)) aA)))))) aA))) (bF 10 (bH (ak (bz bZ (ak (gC (.str "length")) (ak (aj 5) (ak (aj 6) (ak (gOp ixD (aj 1) (gC (.int 0))) (ak (gOp ixD (aj 1) (gC (.int 1))) (ak (gC (.int 0)) aA))))))) aA))))
theorem Qv(h:Al hs m o Ω L P T N)(h6:hs.length<=6)(a b t:Int)(k w x y:Sl):∃ds,Hs ds/\wh0 (RK o a b t k w x y) Ω=some (.nx (RK o a b t k w (.dat (.lst ds)) (.dat (.lst ds))) Ω):=by
 have lL:=h.lenL h6
 have p1:=Io h.st h.nd (by omega)
 have c1:=Bs h.st L .und fun r hr=>uq h.nd hr
 have s1:=UJ h.nd (by omega)
 have k1:=yH L
 have o1:vM (lD L)=some (L.map pD):=by rw[<-HS L];rfl
 refine⟨(jR L).map tri,⟨uy (fun r=>by simp[tri,DL.pl,plL]) _,?_,?_⟩,?_⟩
 ·have:=rO (f:=tri) (fun r=>by simp[tri,dep,cC]) (jR L)
  omega
 ·rw[List.length_map,(jf L).length_eq];omega
 have g1:fj (dJ (aj 5)) (RK o a b t k w (.dat (.lst ((jR L).map tri))) y) Ω=some (L.map pD,Ω):=by simp[RK,o1,h.st.h3]
 have i1:cL [none,some 5] (RK o a b t k w (.dat (.lst ((jR L).map tri))) y)=[.und,.dat (.obj (o+3))]:=rfl
 unfold wh0
 refine(aK (ρ':=RK o a b t k w (.dat (.lst ((jR L).map tri))) y) (Ω':=Ω) ?_).trans ?_
 ·simp[RK,p1,h.st.h0]
 ·rw[vI]
  have e1:h_ (gn [none,some 5] (fj (dJ (aj 5))) (bT 0) d_ (bu (ak (gOp ixD (aj 0) (gC (.int 0))) (ak (gOp ixD (aj 0) (gC (.int 1))) (ak (eE (aj 1) (aj 0)) aA))))) (RK o a b t k w (.dat (.lst ((jR L).map tri))) y) Ω=some (.lst ((jR L).map tri),Ω):=by
   unfold h_
   rw[nO,g1,i1]
   dsimp only
   rw[if_pos (by simp;omega),c1]
   simp[rD,k1,s1]
  rw[e1]
  rfl
theorem Qw(h:Al hs m o Ω L P T N)(h6:hs.length<=6)(a b t:Int)(k w x y:Sl):∃ds,Hs ds/\wh1 (RK o a b t k w x y) Ω=some (.nx (RK o a b t k w (.dat (.lst ds)) (.dat (.lst ds))) Ω):=by
 have lT:=h.lenT h6
 have lP:=h.lenP h6
 have w1:=Ce h.st (by omega)
 have c2:=yL h.st h.ot h.nt (T.map (·.1)) .und fun k hk=>hk
 have wp:=Ip h
 have s2:=Fg wp (by
  have:=List.length_filter_le (fun k=>!decide (N k=[])) (T.map (·.1))
  rw[List.length_map] at this
  omega)
 have k2:=xW ((T.map (·.1)).filter fun k=>!decide (N k=[]))
 have o2:vM (oD T)=some ((T.map (·.1)).map kD):=by rw[<-Br T];rfl
 refine⟨(jB (P.map (·.1))).map kD,⟨uy (fun r=>by simp[kD,DL.pl,plL]) _,?_,?_⟩,?_⟩
 ·have:=rO (f:=kD) (fun r=>by simp[kD,dep,cC]) (jB (P.map (·.1)))
  omega
 ·rw[List.length_map,(pO _).length_eq,List.length_map];omega
 have g2:fj (dJ (aj 6)) (RK o a b t k w (.dat (.lst ((jB (P.map (·.1))).map kD))) y) Ω=some ((T.map (·.1)).map kD,Ω):=by simp[RK,o2,h.st.h4]
 have i2:cL [none,some 6] (RK o a b t k w (.dat (.lst ((jB (P.map (·.1))).map kD))) y)=[.und,.dat (.obj (o+4))]:=rfl
 unfold wh1
 refine(aK (ρ':=RK o a b t k w (.dat (.lst ((jB (P.map (·.1))).map kD))) y) (Ω':=Ω) ?_).trans ?_
 ·simp[RK,w1,h.st.h0]
 ·rw[vI]
  have e2:h_ (gn [none,some 6] (fj (dJ (aj 6))) (bT 0) (gT (jQ true (eE (aj 1) (aj 0)) (bH aA))) (aj 0)) (RK o a b t k w (.dat (.lst ((jB (P.map (·.1))).map kD))) y) Ω=some (.lst ((jB (P.map (·.1))).map kD),Ω):=by
   unfold h_
   rw[nO,g2,i2]
   dsimp only
   rw[if_pos (by simp;omega),c2]
   simp only[Option.bind_some,rD,k2,s2]
  rw[e2]
  rfl
theorem Qx(h:Al hs m o Ω L P T N)(hr:∀n∈hs,0<=n/\n<32)(ha:a∈hs)(hb:b∈hs)(t:Int)(k w x y:Sl):∃ds Ω',Hs ds/\(Ω'=Ω\/∃x,Ω'=Ω++[x])/\wh2 (RK o a b t k w x y) Ω=some (.nx (RK o a b t k w (.dat (.lst ds)) (.dat (.lst ds))) Ω'):=by
 obtain⟨r,Ω',hR,c,e1,e2⟩:=Lk h (d:=.int 0) hr ha hb
 refine⟨[r],Ω',UT hR,c,?_⟩
 unfold wh2
 refine(aK (ρ':=RK o a b t k w (.dat (.lst [r])) y) (Ω':=Ω') (by simp[RK,e1])).trans ?_
 simp[RK,e2]
end
end Law
namespace Law
open PySem DL L2
section
variable {hs:List Int} {m o:Nat} {Ω:List OS} {L:TyL} {P T:TyO} {N:TyN} {a b:Int}
noncomputable def Hd(es:List D):Prop:=∀e∈es,∃ds,Hs ds/\e=.tup [.lst ds,.lst ds]
noncomputable def S10:Nat->Prop:=fun j=>j=10
theorem Al.keep{Ω':List OS}(h:Al hs m o Ω L P T N)(f:Fr S10 Ω Ω'):Al hs m o Ω' L P T N:=h.frame f (fun j h1 h2 z=>by have:=h.o5;have:j=10:=z;omega) (fun i u z=>by have:=(h.us_lt u).1;have:i=10:=z;omega)
noncomputable def Fi:aN:=(aG (bF 8 (gOp ixD (bH (ak (gOp bG (gOp dN (aj 2) (aj 7)) (gC (.int 3))) (ak (gOp bG (gOp Ea (aj 2) (aj 7)) (gC (.int 3))) aA))) (gOp bG (gOp cQ (aj 2) (gC (.int 3))) (gC (.int 2))))) (aG (sIf (gT (gOp (eqD false) (aj 8) (gC (.int 0)))) wh0 (sIf (gT (gOp (eqD false) (aj 8) (gC (.int 1)))) wh1 wh2)) (aG (sIf (gU (gT (bz fu (ak (aj 9) (ak (aj 10) aA))))) (bx (gC (.bl false))) aR) (nq (aj 3) (bu (ak (aj 9) (ak (gCB n_ (ak (aj 10) aA)) aA)))))))
theorem Fj(t k:Int):∃w:Int,(w=0\/w=1\/w=2)/\ixD (.lst [.int ((t+k)%3),.int ((t-k)%3)]) (.int (t / 3%2))=some (.int w):=by
 have h2:t / 3%2=0\/t / 3%2=1:=by omega
 rcases h2 with h |h
 ·exact⟨(t+k)%3,by omega,by rw[h];simp⟩
 ·exact⟨(t-k)%3,by omega,by rw[h];simp⟩
theorem Ir(h:Al hs m o Ω L P T N)(h6:hs.length<=6)(hr:∀n∈hs,0<=n/\n<32)(ha:a∈hs)(hb:b∈hs){es:List D}(hh:Ω[10]? = some (.mls es))(hl:es.length<10000)(t k:Int)(w x y:Sl):∃ds w' Ω1,Hs ds/\Fr S10 Ω Ω1/\Ω1[10]? = some (.mls (es++[.tup [.lst ds,.lst ds]])) /\
  Fi (RK o a b t (.dat (.int k)) w x y) Ω=some (.nx (RK o a b t (.dat (.int k)) w' (.dat (.lst ds)) (.dat (.lst ds))) Ω1):=by
 obtain⟨wv,hw,ew⟩:=Fj t k
 have s0:(bF 8 (gOp ixD (bH (ak (gOp bG (gOp dN (aj 2) (aj 7)) (gC (.int 3))) (ak (gOp bG (gOp Ea (aj 2) (aj 7)) (gC (.int 3))) aA))) (gOp bG (gOp cQ (aj 2) (gC (.int 3))) (gC (.int 2))))) (RK o a b t (.dat (.int k)) w x y) Ω=some (.nx (RK o a b t (.dat (.int k)) (.dat (.int wv)) x y) Ω):=by
  unfold RK
  simp[ew]
 obtain⟨ds,Ω',hds,c,e1⟩:∃ds Ω',Hs ds/\(Ω'=Ω\/∃x,Ω'=Ω++[x])/\sIf (gT (gOp (eqD false) (aj 8) (gC (.int 0)))) wh0 (sIf (gT (gOp (eqD false) (aj 8) (gC (.int 1)))) wh1 wh2) (RK o a b t (.dat (.int k)) (.dat (.int wv)) x y) Ω=some (.nx (RK o a b t (.dat (.int k)) (.dat (.int wv)) (.dat (.lst ds)) (.dat (.lst ds))) Ω'):=by
  have q:∀i j:Int,(i=j->gT (gOp (eqD false) (aj 8) (gC (.int j))) (RK o a b t (.dat (.int k)) (.dat (.int i)) x y) Ω=some (true,Ω))/\(i≠j->gT (gOp (eqD false) (aj 8) (gC (.int j))) (RK o a b t (.dat (.int k)) (.dat (.int i)) x y) Ω=some (false,Ω)):=fun i j=>by
   unfold RK
   constructor
   ·intro z
    simp[z]
   ·intro z
    simp[z]
  rcases hw with rfl |rfl |rfl
  ·obtain⟨ds,g1,g2⟩:=Qv h h6 a b t (.dat (.int k)) (.dat (.int 0)) x y
   exact⟨ds,Ω,g1,.inl rfl,(rN ((q 0 0).1 rfl)).trans g2⟩
  ·obtain⟨ds,g1,g2⟩:=Qw h h6 a b t (.dat (.int k)) (.dat (.int 1)) x y
   exact⟨ds,Ω,g1,.inl rfl,(rM ((q 1 0).2 (by decide))).trans ((rN ((q 1 1).1 rfl)).trans g2)⟩
  ·obtain⟨ds,Ω',g1,g2,g3⟩:=Qx h hr ha hb t (.dat (.int k)) (.dat (.int 2)) x y
   exact⟨ds,Ω',g1,g2,(rM ((q 2 0).2 (by decide))).trans ((rM ((q 2 1).2 (by decide))).trans g3)⟩
 have f':Fr S10 Ω Ω':=by
  rcases c with rfl |⟨x,rfl⟩
  ·exact Fr.refl _ _
  ·exact(Fr.refl _ _).app x
 have hh':Ω'[10]? = some (.mls es):=by
  rcases c with rfl |⟨x,rfl⟩
  ·exact hh
  ·exact lz hh
 have es':=vm hds.1 hds.2.1 hds.2.2 Ω'
 refine⟨ds,.dat (.int wv),Ω'.set 10 (.mls (es++[.tup [.lst ds,.lst ds]])),hds,f'.set rfl _,qM hh',?_⟩
 have hb:es.length<big:=by have:big=100000:=rfl;omega
 unfold Fi
 refine(aK s0).trans ((aK e1).trans ((aK (ρ':=RK o a b t (.dat (.int k)) (.dat (.int wv)) (.dat (.lst ds)) (.dat (.lst ds))) (Ω':=Ω') (by simp[RK,es'])).trans ?_))
 unfold nq
 simp[RK,hh',hb,n_]
theorem yM(h6:hs.length<=6)(hr:∀n∈hs,0<=n/\n<32)(ha:a∈hs)(hb:b∈hs)(t:Int):∀(ks:List Int) (Ω:List OS) (es:List D) (k w x y:Sl),Al hs m o Ω L P T N->Ω[10]? = some (.mls es)->Hd es->es.length+ks.length<10000->∃k' w' x' y' Ω' es',Fr S10 Ω Ω'/\Ω'[10]? = some (.mls es')/\Hd es'/\es'.length=es.length+ks.length /\
  jb (bT 7) Fi (ks.map D.int) (RK o a b t k w x y) Ω=some (.nx (RK o a b t k' w' x' y') Ω')
 | [],Ω,es,k,w,x,y,h,hh,hd,_=>⟨k,w,x,y,Ω,es,Fr.refl _ _,hh,hd,by simp,rfl⟩
 | i::ks,Ω,es,k,w,x,y,h,hh,hd,hl=>by
  rw[List.length_cons] at hl
  obtain⟨ds,w1,Ω1,g1,g2,g3,g4⟩:=Ir h h6 hr ha hb hh (by omega) t i w x y
  obtain⟨k',w',x',y',Ω',es',i1,i2,i3,i4,i5⟩:=yM h6 hr ha hb t ks Ω1 _ (.dat (.int i)) w1 (.dat (.lst ds)) (.dat (.lst ds)) (h.keep g2) g3 (fun e he=>by
   rcases List.mem_append.mp he with z |z
   ·exact hd e z
   ·exact⟨ds,g1,List.mem_singleton.mp z⟩) (by simp;omega)
  refine⟨k',w',x',y',Ω',es',g2.trans i1,i2,i3,by simp at i4 ⊢;omega,?_⟩
  have st:bT 7 (.int i) (RK o a b t k w x y)=some (RK o a b t (.dat (.int i)) w x y):=rfl
  rw[List.map_cons,jO,st]
  dsimp only
  rw[g4]
  exact i5
theorem wA(h:Al hs m o Ω L P T N)(h6:hs.length<=6)(hr:∀n∈hs,0<=n/\n<32)(ha:a∈hs)(hb:b∈hs){es:List D}(hh:Ω[10]? = some (.mls es))(hd:Hd es)(hl:es.length<9000)(t:Int):∃Ω' es',Fr S10 Ω Ω'/\Ω'[10]? = some (.mls es')/\Hd es'/\es'.length=es.length+3/\gK [cH o,.tup [.int a,.int b],.int t,.obj 10] Ω=some (.bl true,Ω'):=by
 obtain⟨k',w',x',y',Ω',es',i1,i2,i3,i4,i5⟩:=yM h6 hr ha hb t [0,1,2] Ω es .und .und .und .und h hh hd (by simp;omega)
 refine⟨Ω',es',i1,i2,i3,i4,a_ rfl ?_⟩
 have e3:lQ [.int 3]=some ([0,1,2].map D.int):=by rw[Ed (by decide) (by decide)];rfl
 refine(aK (ρ':=RK o a b t .und .und .und .und) (Ω':=Ω) rfl).trans ?_
 refine(aK (ρ':=RK o a b t k' w' x' y') (Ω':=Ω') ?_).trans rfl
 rw[sJ]
 rw[show kE lQ (ak (gC (.int 3)) aA) (RK o a b t .und .und .und .und) Ω=some ([0,1,2].map D.int,Ω) by
  rw[Sg]
  show(match lQ [.int 3] with |some es=>some (es,Ω) |none=>none)=_
  rw[e3]]
 exact i5
end
end Law
namespace Law
open PySem DL L2
theorem MN{hs:List Int}(ne:hs≠[])(x:Int):∃a∈hs,L2.atI (hs.map D.int) (x%(hs.length:Int))=some (.int a):=by
 have l0:0<hs.length:=List.length_pos_iff.mpr ne
 have i0:0<=x%(hs.length:Int):=Int.emod_nonneg _ (by omega)
 have i1:x%(hs.length:Int)<(hs.length:Int):=Int.emod_lt_of_pos _ (by omega)
 have h:(x%(hs.length:Int)).toNat<hs.length:=by omega
 exact⟨hs[(x%(hs.length:Int)).toNat],List.getElem_mem h,by rw[wW,vJ i0 h];rfl⟩
theorem MP{xs:List D}(x:Int)(n:Nat)(hn:xs.length=n)(h0:0<n):∃d∈xs,L2.atI xs (x%(n:Int))=some d:=by
 have i0:0<=x%(n:Int):=Int.emod_nonneg _ (by omega)
 have i1:x%(n:Int)<(n:Int):=Int.emod_lt_of_pos _ (by omega)
 have h:(x%(n:Int)).toNat<xs.length:=by omega
 exact⟨xs[(x%(n:Int)).toNat],List.getElem_mem h,vJ i0 h⟩
theorem Iu(i:Int):Nt (.int i):=.inl trivial
theorem Bt{xs:List D}(hl:xs.length<=10)(h:∀x∈xs,Nl x\/x=.tup []):Nt (.tup xs):=.inr ⟨xs,rfl,hl,h⟩
theorem Ln(c:Int)(Ω:List OS):∃n,Nt n/\lW [.int c] Ω=some (n,Ω):=by
 obtain⟨k,hk⟩:∃k:Int,k=c / 6%1000:=⟨_,rfl⟩
 have ls:∀x:Str,(PyData.str x).canLay0=true->Nl (.str x):=fun x h=>h
 obtain⟨d,hd,e⟩:=MP (xs:=[.tup [.str "news",.int (k%32),.int k],.tup [.str "way",.int (k%32),.int 1,.non,.tup []],.int k,.str "note",.non,.tup [.int k]]) c 6 rfl (by decide)
 refine⟨d,?_,a_ rfl ?_⟩
 ·simp only[List.mem_cons,List.not_mem_nil,or_false] at hd
  rcases hd with rfl |rfl |rfl |rfl |rfl |rfl
  ·refine Bt (by simp) fun x hx=>?_
   simp only[List.mem_cons,List.not_mem_nil,or_false] at hx
   rcases hx with rfl |rfl |rfl
   ·exact .inl (ls _ (by decide +kernel))
   ·exact .inl trivial
   ·exact .inl trivial
  ·refine Bt (by simp) fun x hx=>?_
   simp only[List.mem_cons,List.not_mem_nil,or_false] at hx
   rcases hx with rfl |rfl |rfl |rfl |rfl
   ·exact .inl (ls _ (by decide +kernel))
   ·exact .inl trivial
   ·exact .inl trivial
   ·exact .inl trivial
   ·exact .inr rfl
  ·exact Iu k
  ·exact .inl (ls _ (by decide +kernel))
  ·exact .inl trivial
  ·refine Bt (by simp) fun x hx=>?_
   simp only[List.mem_cons,List.not_mem_nil,or_false] at hx
   rw[hx]
   exact .inl trivial
 ·have e':L2.atI [D.tup [.str "news",.int (k%32),.int k],.tup [.str "way",.int (k%32),.int 1,.non,.tup []],.int k,.str "note",.non,.tup [.int k]] (c%6)=some d:=e
  refine(aK (ρ':=[.dat (.int c),.dat (.int k),.und]) (Ω':=Ω) (by simp[hk])).trans ?_
  refine(aK (ρ':=[.dat (.int c),.dat (.int k),.dat (.lst [.tup [.str "news",.int (k%32),.int k],.tup [.str "way",.int (k%32),.int 1,.non,.tup []],.int k,.str "note",.non,.tup [.int k]])]) (Ω':=Ω) (by simp)).trans ?_
  simp[e']
noncomputable def zq:List D:=[.str "come",.str "send",.str "send",.str "carry",.str "fall",.str "come",.str "send",.str "carry",.str "notes"]
theorem Qy(c:Int):∃w:Str,Wy w/\L2.atI zq (c%9)=some (.str w):=by
 obtain⟨d,hd,e⟩:=MP (xs:=zq) c 9 rfl (by decide)
 simp only[zq,List.mem_cons,List.not_mem_nil,or_false] at hd
 rcases hd with rfl |rfl |rfl |rfl |rfl |rfl |rfl |rfl |rfl
 ·exact⟨_,.inl rfl,e⟩
 ·exact⟨_,.inr (.inr (.inl rfl)),e⟩
 ·exact⟨_,.inr (.inr (.inl rfl)),e⟩
 ·exact⟨_,.inr (.inr (.inr (.inl rfl))),e⟩
 ·exact⟨_,.inr (.inl rfl),e⟩
 ·exact⟨_,.inl rfl,e⟩
 ·exact⟨_,.inr (.inr (.inl rfl)),e⟩
 ·exact⟨_,.inr (.inr (.inr (.inl rfl))),e⟩
 ·exact⟨_,.inr (.inr (.inr (.inr (.inr rfl)))),e⟩
theorem Lp{w:Str}(hw:Wy w):∃q:Bool,tu false (.str w) (.lst [.str "send",.str "carry",.str "notes"])=some (.bl q):=by
 rcases hw with rfl |rfl |rfl |rfl |rfl |rfl
 all_goals exact⟨_,rfl⟩
end Law
namespace Law
open PySem DL L2
noncomputable def tB0:aN:=(sH (jx [6,7,8]) (gOp ixD (aj 3) (gOp bG (aj 5) (gC (.int 2)))))
noncomputable def tB1:aN:=(bF 9 (gOp ixD (bH (ak (gC (.str "come")) (ak (gC (.str "send")) (ak (gC (.str "send")) (ak (gC (.str "carry")) (ak (gC (.str "fall")) (ak (gC (.str "come")) (ak (gC (.str "send")) (ak (gC (.str "carry")) (ak (gC (.str "notes")) aA)))))))))) (gOp bG (gOp cQ (aj 5) (gC (.int 2))) (gC (.int 9)))))
noncomputable def tB2:aN:=(bF 10 (gOp ixD (aj 2) (gOp bG (gOp cQ (aj 5) (gC (.int 18))) (gCB lO (ak (aj 2) aA)))))
noncomputable def tB3:aN:=(bF 11 (gOp ixD (aj 2) (gOp bG (gOp cQ (aj 5) (gC (.int 108))) (gCB lO (ak (aj 2) aA)))))
noncomputable def tB4:aN:=(sIf (dZ (gT (gOp (eqD true) (dJ (aj 8)) (bH aA))) (dZ (gT (gOp (tu false) (aj 9) (bH (ak (gC (.str "send")) (ak (gC (.str "carry")) (ak (gC (.str "notes")) aA)))))) (gT (gOp gtD (gOp bG (gOp cQ (aj 5) (gC (.int 648))) (gC (.int 4))) (gC (.int 0)))))) (sH (jx [10,11]) (gOp ixD (h_ (dJ (aj 8))) (gOp bG (gOp cQ (aj 5) (gC (.int 2592))) (qZ (aj 8))))) aR)
noncomputable def tB5:aN:=(bF 12 (bz lW (ak (gOp cQ (aj 5) (gC (.int 700))) aA)))
noncomputable def tB6:aN:=(sIf (gT (gOp (eqD false) (aj 9) (gC (.str "come")))) (bF 12 (gOp dN (gC (.int 1)) (gOp bG (gOp cQ (aj 5) (gC (.int 700))) (gC (.int 99))))) aR)
noncomputable def tB7:aN:=(bF 13 (bz bZ (ak (aj 9) (ak (aj 7) (ak (aj 8) (ak (aj 10) (ak (aj 11) (ak (aj 12) aA))))))))
noncomputable def tB8:aN:=(bF 14 (bz bU (ak (aj 9) (ak (aj 6) (ak (aj 10) (ak (aj 11) (ak (aj 12) aA)))))))
noncomputable def tB9:aN:=(sIf (dZ (gT (gUn (gf "str") (aj 13))) (gT (gOp (eqD true) (aj 14) (aj 13)))) (bx (gC (.bl false))) aR)
noncomputable def Bu:aN:=(sIf (dZ (gU (gT (gUn (gf "str") (aj 13)))) (gU (gT (bz fu (ak (aj 14) (ak (aj 13) aA)))))) (bx (gC (.bl false))) aR)
noncomputable def Lq:aN:=(mO (fj (aj 3)) (bT 15) (sIf (gU (gT (bz gK (ak (aj 15) (ak (bu (ak (aj 10) (ak (aj 11) aA))) (ak (gOp bG (gOp cQ (aj 5) (gC (.int 900))) (gC (.int 6))) (ak (aj 4) aA))))))) (bx (gC (.bl false))) aR))
noncomputable def tB:aN:=(aG tB0 (aG tB1 (aG tB2 (aG tB3 (aG tB4 (aG tB5 (aG tB6 (aG tB7 (aG tB8 (aG tB9 (aG Bu Lq)))))))))))
noncomputable def RT(x0 x1:Sl)(hs:List Int)(c:Int)(x6 x7 x8 x9 x10 x11 x12 x13 x14 x15:Sl):List Sl:=[x0,x1,.dat (.lst (hs.map D.int)),.dat (.lst [cH 0,cH 5]),.dat (.obj 10),.dat (.int c),x6,x7,x8,x9,x10,x11,x12,x13,x14,x15]
section
variable {hs:List Int} {m o:Nat} {Ω:List OS} {L:TyL} {P T:TyO} {N:TyN} {a b c:Int} {x0 x1:Sl}
theorem Tt(x0 x1:Sl)(hs:List Int)(c:Int)(x6 x7 x8 x9 x10 x11 x12 x13 x14 x15:Sl)(Ω:List OS):∃o,(o=0\/o=5)/\tB0 (RT x0 x1 hs c x6 x7 x8 x9 x10 x11 x12 x13 x14 x15) Ω=some (.nx (RT x0 x1 hs c (.dat (.obj o)) (.dat (.obj (o+3))) (.dat (.obj (o+4))) x9 x10 x11 x12 x13 x14 x15) Ω):=by
 have h2:c%2=0\/c%2=1:=by omega
 rcases h2 with h |h
 ·refine⟨0,.inl rfl,?_⟩
  unfold tB0 RT
  simp[h,cH]
  rfl
 ·refine⟨5,.inr rfl,?_⟩
  unfold tB0 RT
  simp[h,cH]
  rfl
theorem Qz(T:TyO)(hl:T.length<1000):eqD true (.lst ((T.map (·.1)).map kD)) (.lst [])=some (.bl (!decide (T=[]))):=by
 have p1:=uy (f:=kD) (fun r=>by simp[kD,DL.pl,plL]) (T.map (·.1))
 have p2:=rO (f:=kD) (fun r=>by simp[kD,dep,cC]) (T.map (·.1))
 cases T with
 | nil=>exact(kW true (p:=.lst []) rfl (by simp[dep,cC])).trans (by simp)
 | cons r T =>
  rw[uQ true (p:=.lst (((r::T).map (·.1)).map kD)) (q:=.lst []) (by rw[DL.pl];exact p1) rfl (by rw[dep];omega) (by simp[dep,cC]) (by simp)]
  simp
theorem Iv(h:Al hs m o Ω L P T N)(h6:hs.length<=6){w:Str}(hw:Wy w)(ha:a∈hs)(hb:b∈hs)(c:Int)(x12 x13 x14 x15:Sl):∃a' b',a'∈hs/\b'∈hs/\tB4 (RT x0 x1 hs c (.dat (.obj o)) (.dat (.obj (o+3))) (.dat (.obj (o+4))) (.dat (.str w)) (.dat (.int a)) (.dat (.int b)) x12 x13 x14 x15) Ω=some (.nx (RT x0 x1 hs c (.dat (.obj o)) (.dat (.obj (o+3))) (.dat (.obj (o+4))) (.dat (.str w)) (.dat (.int a')) (.dat (.int b')) x12 x13 x14 x15) Ω):=by
 have lT:=h.lenT h6
 have o2:vM (oD T)=some ((T.map (·.1)).map kD):=by rw[<-Br T];rfl
 have h4:=h.st.h4
 have h4':Ω[o+4]? = some (.dT (mpA pK oV T)):=h.st.h4
 obtain⟨q,hq⟩:=Lp hw
 obtain⟨ρ,hρ⟩:∃ρ,ρ=RT x0 x1 hs c (.dat (.obj o)) (.dat (.obj (o+3))) (.dat (.obj (o+4))) (.dat (.str w)) (.dat (.int a)) (.dat (.int b)) x12 x13 x14 x15:=⟨_,rfl⟩
 have g8:dJ (aj 8) ρ Ω=some (.lst ((T.map (·.1)).map kD),Ω):=by rw[hρ];unfold RT;simp[h4,o2]
 have t1:gT (gOp (eqD true) (dJ (aj 8)) (bH aA)) ρ Ω=some (!decide (T=[]),Ω):=gr g8 rfl (Qz T (by omega))
 rw[<-hρ]
 by_cases hT:T=[]
 ·refine⟨a,b,ha,hb,?_⟩
  rw[decide_eq_true hT] at t1
  unfold tB4
  rw[rM (uZ t1)]
  rw[<-hρ]
  rfl
 ·rw[decide_eq_false hT] at t1
  have t2:gT (gOp (tu false) (aj 9) (bH (ak (gC (.str "send")) (ak (gC (.str "carry")) (ak (gC (.str "notes")) aA))))) ρ Ω=some (q,Ω):=gr (by rw[hρ];rfl) rfl hq
  have t3:gT (gOp gtD (gOp bG (gOp cQ (aj 5) (gC (.int 648))) (gC (.int 4))) (gC (.int 0))) ρ Ω=some (decide (0<c / 648%4),Ω):=by rw[hρ];unfold RT;simp
  cases hq2:q && decide (0<c / 648%4) with
  | false =>
   refine⟨a,b,ha,hb,?_⟩
   have t4:dZ (gT (gOp (tu false) (aj 9) (bH (ak (gC (.str "send")) (ak (gC (.str "carry")) (ak (gC (.str "notes")) aA)))))) (gT (gOp gtD (gOp bG (gOp cQ (aj 5) (gC (.int 648))) (gC (.int 4))) (gC (.int 0)))) ρ Ω=some (false,Ω):=by
    cases q with
    | false=>exact uZ t2
    | true =>
     rw[Bool.true_and] at hq2
     rw[hq2] at t3
     exact oW t2 t3
   unfold tB4
   rw[rM (oW t1 t4),<-hρ]
   rfl
  | true =>
   rw[Bool.and_eq_true] at hq2
   rw[hq2.1] at t2
   rw[hq2.2] at t3
   have lp:0<T.length:=List.length_pos_iff.mpr hT
   have es:=Fg (List.Perm.refl (T.map (·.1))) (by simp;omega)
   have k2:=xW (T.map (·.1))
   have gs:h_ (dJ (aj 8)) ρ Ω=some (.lst ((jB (T.map (·.1))).map kD),Ω):=by
    unfold h_
    rw[g8]
    simp only[Option.bind_some,rD,k2,es]
   have gl:qZ (aj 8) ρ Ω=some (.int T.length,Ω):=by rw[hρ];unfold RT;simp[h4']
   have sl:(jB (T.map (·.1))).length=T.length:=by rw[(pO _).length_eq,List.length_map]
   have i0:0<=c / 2592%(T.length:Int):=Int.emod_nonneg _ (by omega)
   have i1:c / 2592%(T.length:Int)<(T.length:Int):=Int.emod_lt_of_pos _ (by omega)
   have il:(c / 2592%(T.length:Int)).toNat<(jB (T.map (·.1))).length:=by omega
   obtain⟨k,hk⟩:∃k,k=(jB (T.map (·.1)))[(c / 2592%(T.length:Int)).toNat]:=⟨_,rfl⟩
   have km:k∈T.map (·.1):=(pO _).mem_iff.mp (by rw[hk];exact List.getElem_mem il)
   obtain⟨m1,m2⟩:=Lj h km
   have at':L2.atI ((jB (T.map (·.1))).map kD) (c / 2592%(T.length:Int))=some (kD k):=by rw[wW,vJ i0 il,hk];rfl
   refine⟨k.1,k.2,m1,m2,?_⟩
   unfold tB4
   rw[rN (oW t1 (oW t2 t3)),Sq,vH,gs]
   dsimp only
   have g5:gOp bG (gOp cQ (aj 5) (gC (.int 2592))) (qZ (aj 8)) ρ Ω=some (.int (c / 2592%(T.length:Int)),Ω):=by
    have g6:gOp cQ (aj 5) (gC (.int 2592)) ρ Ω=some (.int (c / 2592),Ω):=by rw[hρ];unfold RT;simp
    rw[vH,g6]
    dsimp only
    rw[gl]
    simp[lp]
   rw[g5]
   dsimp only
   rw[DL.Ss,at']
   rw[hρ]
   rfl
theorem QB{w:Str}(hw:Wy w)(a b c:Int)(x6 x7 x8 x12 x13 x14 x15:Sl)(t:aN)(Ω:List OS):∃d,Nt d/\(w = "come" -> ∃l,d=.int l)/\aG tB5 (aG tB6 t) (RT x0 x1 hs c x6 x7 x8 (.dat (.str w)) (.dat (.int a)) (.dat (.int b)) x12 x13 x14 x15) Ω=t (RT x0 x1 hs c x6 x7 x8 (.dat (.str w)) (.dat (.int a)) (.dat (.int b)) (.dat d) x13 x14 x15) Ω:=by
 obtain⟨n,hn,en⟩:=Ln (c / 700) Ω
 have s5:tB5 (RT x0 x1 hs c x6 x7 x8 (.dat (.str w)) (.dat (.int a)) (.dat (.int b)) x12 x13 x14 x15) Ω=some (.nx (RT x0 x1 hs c x6 x7 x8 (.dat (.str w)) (.dat (.int a)) (.dat (.int b)) (.dat n) x13 x14 x15) Ω):=by
  unfold tB5 RT
  simp[en]
 rcases hw with rfl |hw
 ·refine⟨.int (1+c / 700%99),Iu _,fun _=>⟨_,rfl⟩,(aK s5).trans (aK ?_)⟩
  unfold tB6 RT
  simp
 ·refine⟨n,hn,fun z=>?_,(aK s5).trans (aK ?_)⟩
  ·rcases hw with rfl |rfl |rfl |rfl |rfl<;>exact absurd z (by decide +kernel)
  ·have q:=tK hw false
   unfold tB6 RT
   simp[q]
end
end Law
namespace Law
open PySem DL L2
section
variable {hs:List Int} {m o o2:Nat} {Ω:List OS} {L L2:TyL} {P T P2 T2:TyO} {N N2:TyN} {a b c:Int} {d:D} {x0 x1:Sl}
theorem two_deed(A:Al hs m o Ω L P T N)(B:Al hs m o2 Ω L2 P2 T2 N2)(oo:o+5<=o2\/o2+5<=o)(dj:∀i,Us P T i->¬Us P2 T2 i){es:List D}(hh:Ω[10]? = some (.mls es))(h6:hs.length<=6)(hr:∀n∈hs,0<=n/\n<32)(hm:m<900){w:Str}(hw:Wy w)(hc:w = "come" -> ∃l,d=.int l)(hd:Nt d)(ha:a∈hs)(hb:b∈hs) :
  ∃r L' P' T' Ωm Ω' N',Rs r/\Al hs (m+1) o Ω' L' P' T' N'/\Al hs (m+1) o2 Ω' L2 P2 T2 N2/\(∀i,Us P' T' i->¬Us P2 T2 i)/\Ω'[10]? = some (.mls es) /\
   bZ [.str w,.obj (o+3),.obj (o+4),.int a,.int b,d] Ω=some (r,Ωm)/\bU [.str w,.obj o,.int a,.int b,d] Ωm=some (r,Ω'):=by
 obtain⟨r,L',P',T',Ωm,Ω',N',g1,g2,g3,g4,g5,g6⟩:=deed A h6 hr hm hw hc hd ha hb
 have oA:=A.o5
 have oB:=B.o5
 have l11:=A.l11
 refine⟨r,L',P',T',Ωm,Ω',N',g1,g2,(B.mono (Nat.le_succ m)).frame g3 (fun j h1 h2 s=>?_) (fun i u s=>?_),fun i u u2=>?_,g3.at' 10 _ (fun s=>?_) hh,g5,g6⟩
 ·rcases s with s |s |s
  ·omega
  ·have:=(A.us_lt s).1
   omega
  ·omega
 ·have hi:=B.us_lt u
  rcases s with s |s |s
  ·omega
  ·exact dj i s u
  ·omega
 ·have hi:=B.us_lt u2
  rcases g4 i u with s |s
  ·exact dj i s u2
  ·omega
 ·rcases s with s |s |s
  ·omega
  ·have:=(A.us_lt s).1
   omega
  ·omega
noncomputable def Tw(hs:List Int)(m:Nat)(Ω:List OS):Prop:=∃L P T N L2 P2 T2 N2 es,Al hs m 0 Ω L P T N/\Al hs m 5 Ω L2 P2 T2 N2/\(∀i,Us P T i->¬Us P2 T2 i)/\Ω[10]? = some (.mls es)/\Hd es/\es.length<=6*m
noncomputable def lkS:aN:=(sIf (gU (gT (bz gK (ak (aj 15) (ak (bu (ak (aj 10) (ak (aj 11) aA))) (ak (gOp bG (gOp cQ (aj 5) (gC (.int 900))) (gC (.int 6))) (ak (aj 4) aA))))))) (bx (gC (.bl false))) aR)
theorem Dv{x6 x7 x8 x9 x12 x13 x14:Sl}{Ω':List OS}(e:gK [cH o,.tup [.int a,.int b],.int (c / 900%6),.obj 10] Ω=some (.bl true,Ω')):lkS (RT x0 x1 hs c x6 x7 x8 x9 (.dat (.int a)) (.dat (.int b)) x12 x13 x14 (.dat (cH o))) Ω=some (.nx (RT x0 x1 hs c x6 x7 x8 x9 (.dat (.int a)) (.dat (.int b)) x12 x13 x14 (.dat (cH o))) Ω'):=by
 unfold lkS RT
 simp[e]
theorem QC{m:Nat}(hw:Tw hs m Ω)(hx:∀es,Ω[10]? = some (.mls es)->es.length<8000)(h6:hs.length<=6)(hr:∀n∈hs,0<=n/\n<32)(ha:a∈hs)(hb:b∈hs)(x6 x7 x8 x9 x12 x13 x14 x15:Sl):∃x' Ω' es es',Ω[10]? = some (.mls es)/\Ω'[10]? = some (.mls es')/\es'.length=es.length+6/\Hd es'/\Fr S10 Ω Ω'/\Lq (RT x0 x1 hs c x6 x7 x8 x9 (.dat (.int a)) (.dat (.int b)) x12 x13 x14 x15) Ω=some (.nx (RT x0 x1 hs c x6 x7 x8 x9 (.dat (.int a)) (.dat (.int b)) x12 x13 x14 x') Ω'):=by
 obtain⟨L,P,T,N,L2,P2,T2,N2,es,A,B,dj,hh,hd,hl⟩:=hw
 have l0:=hx es hh
 obtain⟨Ω1,es1,f1,h1,d1,n1,e1⟩:=wA A h6 hr ha hb hh hd (by omega) (c / 900%6)
 obtain⟨Ω2,es2,f2,h2,d2,n2,e2⟩:=wA (B.keep f1) h6 hr ha hb h1 d1 (by omega) (c / 900%6)
 refine⟨.dat (cH 5),Ω2,es,es2,hh,h2,by omega,d2,f1.trans f2,?_⟩
 show mO (fj (aj 3)) (bT 15) lkS _ _=_
 rw[sJ]
 rw[show fj (aj 3) (RT x0 x1 hs c x6 x7 x8 x9 (.dat (.int a)) (.dat (.int b)) x12 x13 x14 x15) Ω=some ([cH 0,cH 5],Ω) from rfl]
 dsimp only
 have st:∀(x:Sl) (o:Nat),bT 15 (cH o) (RT x0 x1 hs c x6 x7 x8 x9 (.dat (.int a)) (.dat (.int b)) x12 x13 x14 x)=some (RT x0 x1 hs c x6 x7 x8 x9 (.dat (.int a)) (.dat (.int b)) x12 x13 x14 (.dat (cH o))):=fun _ _=>rfl
 rw[jO,st]
 dsimp only
 rw[Dv e1]
 dsimp only
 rw[jO,st]
 dsimp only
 rw[Dv e2]
 rfl
theorem Lr{r:D}(h:Rs r)(x6 x7 x8 x9 x10 x11 x12 x15:Sl)(t:aN)(Ω:List OS):aG tB9 (aG Bu t) (RT x0 x1 hs c x6 x7 x8 x9 x10 x11 x12 (.dat r) (.dat r) x15) Ω=t (RT x0 x1 hs c x6 x7 x8 x9 x10 x11 x12 (.dat r) (.dat r) x15) Ω:=by
 rcases h with⟨x,rfl,hx⟩ |⟨ds,rfl,h1,h2,h3⟩
 ·have q:=eqS true hx hx
  rw[if_pos rfl] at q
  refine(aK (ρ':=RT x0 x1 hs c x6 x7 x8 x9 x10 x11 x12 (.dat (.str x)) (.dat (.str x)) x15) (Ω':=Ω) ?_).trans (aK ?_)
  ·unfold tB9 RT
   simp[gf,tyD,q]
  ·unfold Bu RT
   simp[gf,tyD]
 ·have q:=vm h1 (by omega) h3 Ω
  refine(aK (ρ':=RT x0 x1 hs c x6 x7 x8 x9 x10 x11 x12 (.dat (.lst ds)) (.dat (.lst ds)) x15) (Ω':=Ω) ?_).trans (aK ?_)
  ·unfold tB9 RT
   simp[gf,tyD]
  ·unfold Bu RT
   simp[gf,tyD,q]
theorem Ls(hw:Tw hs m Ω)(hm:m<200)(h6:hs.length<=6)(hne:hs≠[])(hr:∀n∈hs,0<=n/\n<32)(c:Int)(x6 x7 x8 x9 x10 x11 x12 x13 x14 x15:Sl):∃y6 y7 y8 y9 y10 y11 y12 y13 y14 y15 Ω',Tw hs (m+1) Ω'/\tB (RT x0 x1 hs c x6 x7 x8 x9 x10 x11 x12 x13 x14 x15) Ω=some (.nx (RT x0 x1 hs c y6 y7 y8 y9 y10 y11 y12 y13 y14 y15) Ω'):=by
 obtain⟨L,P,T,N,L2,P2,T2,N2,es,A,B,dj,hh,hd,hl⟩:=hw
 obtain⟨o,ho,e0⟩:=Tt x0 x1 hs c x6 x7 x8 x9 x10 x11 x12 x13 x14 x15 Ω
 obtain⟨w,hw,ew⟩:=Qy (c / 2)
 obtain⟨a,ha,ea⟩:=MN hne (c / 18)
 obtain⟨b,hb,eb⟩:=MN hne (c / 108)
 have lp:0<hs.length:=List.length_pos_iff.mpr hne
 have s1:tB1 (RT x0 x1 hs c (.dat (.obj o)) (.dat (.obj (o+3))) (.dat (.obj (o+4))) x9 x10 x11 x12 x13 x14 x15) Ω=some (.nx (RT x0 x1 hs c (.dat (.obj o)) (.dat (.obj (o+3))) (.dat (.obj (o+4))) (.dat (.str w)) x10 x11 x12 x13 x14 x15) Ω):=by
  unfold zq at ew
  unfold tB1 RT
  simp[ew]
 have s2:tB2 (RT x0 x1 hs c (.dat (.obj o)) (.dat (.obj (o+3))) (.dat (.obj (o+4))) (.dat (.str w)) x10 x11 x12 x13 x14 x15) Ω=some (.nx (RT x0 x1 hs c (.dat (.obj o)) (.dat (.obj (o+3))) (.dat (.obj (o+4))) (.dat (.str w)) (.dat (.int a)) x11 x12 x13 x14 x15) Ω):=by
  unfold tB2 RT
  simp[ea,lp]
 have s3:tB3 (RT x0 x1 hs c (.dat (.obj o)) (.dat (.obj (o+3))) (.dat (.obj (o+4))) (.dat (.str w)) (.dat (.int a)) x11 x12 x13 x14 x15) Ω=some (.nx (RT x0 x1 hs c (.dat (.obj o)) (.dat (.obj (o+3))) (.dat (.obj (o+4))) (.dat (.str w)) (.dat (.int a)) (.dat (.int b)) x12 x13 x14 x15) Ω):=by
  unfold tB3 RT
  simp[eb,lp]
 obtain⟨a',b',ha',hb',e4⟩:∃a' b',a'∈hs/\b'∈hs/\tB4 (RT x0 x1 hs c (.dat (.obj o)) (.dat (.obj (o+3))) (.dat (.obj (o+4))) (.dat (.str w)) (.dat (.int a)) (.dat (.int b)) x12 x13 x14 x15) Ω=some (.nx (RT x0 x1 hs c (.dat (.obj o)) (.dat (.obj (o+3))) (.dat (.obj (o+4))) (.dat (.str w)) (.dat (.int a')) (.dat (.int b')) x12 x13 x14 x15) Ω):=by
  rcases ho with rfl |rfl
  ·exact Iv A h6 hw ha hb c x12 x13 x14 x15
  ·exact Iv B h6 hw ha hb c x12 x13 x14 x15
 obtain⟨d,hnt,hcm,e5⟩:=QB (x0:=x0) (x1:=x1) (hs:=hs) hw a' b' c (.dat (.obj o)) (.dat (.obj (o+3))) (.dat (.obj (o+4))) x12 x13 x14 x15 (aG tB7 (aG tB8 (aG tB9 (aG Bu Lq)))) Ω
 obtain⟨r,Ωm,Ω',hR,tw,hh',g5,g6⟩:∃r Ωm Ω',Rs r/\(∃L P T N L2 P2 T2 N2,Al hs (m+1) 0 Ω' L P T N/\Al hs (m+1) 5 Ω' L2 P2 T2 N2/\∀i,Us P T i->¬Us P2 T2 i)/\Ω'[10]? = some (.mls es)/\bZ [.str w,.obj (o+3),.obj (o+4),.int a',.int b',d] Ω=some (r,Ωm)/\bU [.str w,.obj o,.int a',.int b',d] Ωm=some (r,Ω'):=by
  rcases ho with rfl |rfl
  ·obtain⟨r,L',P',T',Ωm,Ω',N',g1,g2,g3,g4,g5,g6,g7⟩:=two_deed A B (.inl (by decide)) dj hh h6 hr (by omega) hw hcm hnt ha' hb'
   exact⟨r,Ωm,Ω',g1,⟨_,_,_,_,_,_,_,_,g2,g3,g4⟩,g5,g6,g7⟩
  ·obtain⟨r,L',P',T',Ωm,Ω',N',g1,g2,g3,g4,g5,g6,g7⟩:=two_deed B A (.inr (by decide)) (fun i u v=>dj i v u) hh h6 hr (by omega) hw hcm hnt ha' hb'
   exact⟨r,Ωm,Ω',g1,⟨_,_,_,_,_,_,_,_,g3,g2,fun i u v=>g4 i v u⟩,g5,g6,g7⟩
 obtain⟨L',P',T',N',L2',P2',T2',N2',A',B',dj'⟩:=tw
 have s7:tB7 (RT x0 x1 hs c (.dat (.obj o)) (.dat (.obj (o+3))) (.dat (.obj (o+4))) (.dat (.str w)) (.dat (.int a')) (.dat (.int b')) (.dat d) x13 x14 x15) Ω=some (.nx (RT x0 x1 hs c (.dat (.obj o)) (.dat (.obj (o+3))) (.dat (.obj (o+4))) (.dat (.str w)) (.dat (.int a')) (.dat (.int b')) (.dat d) (.dat r) x14 x15) Ωm):=by
  unfold tB7 RT
  simp[g5]
 have s8:tB8 (RT x0 x1 hs c (.dat (.obj o)) (.dat (.obj (o+3))) (.dat (.obj (o+4))) (.dat (.str w)) (.dat (.int a')) (.dat (.int b')) (.dat d) (.dat r) x14 x15) Ωm=some (.nx (RT x0 x1 hs c (.dat (.obj o)) (.dat (.obj (o+3))) (.dat (.obj (o+4))) (.dat (.str w)) (.dat (.int a')) (.dat (.int b')) (.dat d) (.dat r) (.dat r) x15) Ω'):=by
  unfold tB8 RT
  simp[g6]
 obtain⟨x',Ω2,es1,es2,k1,k2,k3,k4,k5,k6⟩:=QC (x0:=x0) (x1:=x1) (c:=c) (Ω:=Ω') ⟨L',P',T',N',L2',P2',T2',N2',es,A',B',dj',hh',hd,by omega⟩ (fun es0 q=>by rw[hh'] at q;cases q;omega) h6 hr ha' hb' (.dat (.obj o)) (.dat (.obj (o+3))) (.dat (.obj (o+4))) (.dat (.str w)) (.dat d) (.dat r) (.dat r) x15
 rw[hh'] at k1
 cases k1
 refine⟨.dat (.obj o),.dat (.obj (o+3)),.dat (.obj (o+4)),.dat (.str w),.dat (.int a'),.dat (.int b'),.dat d,.dat r,.dat r,x',Ω2,⟨L',P',T',N',L2',P2',T2',N2',es2,A'.keep k5,B'.keep k5,dj',k2,k4,by omega⟩,?_⟩
 unfold tB
 refine(aK e0).trans ((aK s1).trans ((aK s2).trans ((aK s3).trans ((aK e4).trans (e5.trans ((aK s7).trans ((aK s8).trans ((Lr hR _ _ _ _ _ _ _ _ _ _).trans k6))))))))
end
end Law
namespace Law
open PySem DL L2
noncomputable def Ω1:List OS:=[.ins "Ties" (tfo 0),.dT [],.dT [],.dT [],.dT [],.ins "Ties" (tfo 5),.dT [],.dT [],.dT [],.dT []]
noncomputable def Ω0:List OS:=Ω1++[.mls []]
theorem Al.nil{hs:List Int}{o:Nat}(ho:o=0\/o=5):Al hs 0 o Ω0 [] [] [] (fun _=>[]):=by
 have ob:Ob Ω0 [] (fun _=>[]):=⟨List.nodup_nil,fun k i q=>(by cases q),fun k k' i q=>(by cases q),fun k i q=>(by cases q)⟩
 have st:St o Ω0 [] [] [] []:=by
  rcases ho with rfl |rfl
  ·exact⟨rfl,rfl,rfl,rfl,rfl⟩
  ·exact⟨rfl,rfl,rfl,rfl,rfl⟩
 exact⟨st,by omega,by decide,List.nodup_nil,fun r hr=>(nomatch hr),fun r hr=>(nomatch hr),fun x y=>rfl,ob,ob,fun k i q=>(by cases q),fun k _=>rfl,fun _ _ _=>rfl,fun k k' i q=>(by cases q),fun k=>Nat.le_refl _,fun k n hn=>(nomatch hn)⟩
theorem Tw.nil(hs:List Int):Tw hs 0 Ω0:=⟨[],[],[],_,[],[],[],_,[],Al.nil (.inl rfl),Al.nil (.inr rfl),fun i u=>(by
 obtain⟨k,q |q⟩:=u<;>cases q),rfl,fun e he=>(nomatch he),Nat.le_refl _⟩
theorem turns{hs:List Int}(h6:hs.length<=6)(hne:hs≠[])(hr:∀n∈hs,0<=n/\n<32)(x0 x1:Sl):∀(cs:List Int) (m:Nat) (Ω:List OS) (c:Sl) (x6 x7 x8 x9 x10 x11 x12 x13 x14 x15:Sl),Tw hs m Ω->m+cs.length<200->∃y5 y6 y7 y8 y9 y10 y11 y12 y13 y14 y15 Ω',Tw hs (m+cs.length) Ω' /\
  jb (bT 5) tB (cs.map D.int) [x0,x1,.dat (.lst (hs.map D.int)),.dat (.lst [cH 0,cH 5]),.dat (.obj 10),c,x6,x7,x8,x9,x10,x11,x12,x13,x14,x15] Ω=some (.nx [x0,x1,.dat (.lst (hs.map D.int)),.dat (.lst [cH 0,cH 5]),.dat (.obj 10),y5,y6,y7,y8,y9,y10,y11,y12,y13,y14,y15] Ω')
 | [],m,Ω,c,x6,x7,x8,x9,x10,x11,x12,x13,x14,x15,h,_=>⟨c,x6,x7,x8,x9,x10,x11,x12,x13,x14,x15,Ω,h,rfl⟩
 | i::cs,m,Ω,c,x6,x7,x8,x9,x10,x11,x12,x13,x14,x15,h,hl=>by
  rw[List.length_cons] at hl
  obtain⟨y6,y7,y8,y9,y10,y11,y12,y13,y14,y15,Ω',h',e⟩:=Ls (x0:=x0) (x1:=x1) h (by omega) h6 hne hr i x6 x7 x8 x9 x10 x11 x12 x13 x14 x15
  obtain⟨z5,z6,z7,z8,z9,z10,z11,z12,z13,z14,z15,Ω2,h2,e2⟩:=turns h6 hne hr x0 x1 cs (m+1) Ω' (.dat (.int i)) y6 y7 y8 y9 y10 y11 y12 y13 y14 y15 h' (by omega)
  refine⟨z5,z6,z7,z8,z9,z10,z11,z12,z13,z14,z15,Ω2,by rw[List.length_cons,show m+(cs.length+1)=m+1+cs.length by omega];exact h2,?_⟩
  have st:bT 5 (.int i) [x0,x1,.dat (.lst (hs.map D.int)),.dat (.lst [cH 0,cH 5]),.dat (.obj 10),c,x6,x7,x8,x9,x10,x11,x12,x13,x14,x15]=some (RT x0 x1 hs i x6 x7 x8 x9 x10 x11 x12 x13 x14 x15):=rfl
  rw[List.map_cons,jO,st]
  dsimp only
  rw[e]
  exact e2
theorem wB{Ω:List OS}{xs:List D}(hn:Ω[10]? = some (.mls xs)):∀(es:List D) (x y:Sl),Hd es->jH 10 xs (jx [0,1]) d_ (bz fu (ak (aj 0) (ak (aj 1) aA))) es [x,y] Ω=some (es.map (fun _=>D.bl true),Ω)
 | [],x,y,_=>by
  show grd (Ω[10]? = some (.mls xs)) (some ([],Ω))=_
  rw[gA hn]
  rfl
 | e::es,x,y,h=>by
  obtain⟨ds,hds,rfl⟩:=h e List.mem_cons_self
  have ih:=wB hn es (.dat (.lst ds)) (.dat (.lst ds)) fun q hq=>h q (List.mem_cons_of_mem _ hq)
  have es':=vm hds.1 hds.2.1 hds.2.2 Ω
  unfold jH
  rw[gA hn]
  have eb:jx [0,1] (.tup [.lst ds,.lst ds]) [x,y]=some [.dat (.lst ds),.dat (.lst ds)]:=rfl
  rw[eb]
  simp[es',ih]
theorem UW:bW [.obj 0] [.ins "Ties" []]=some (.non,[.ins "Ties" (tfo 0),.dT [],.dT []]):=by
 refine oY (ρ':=[.dat (.obj 0)]) rfl ?_
 simp[pI,tfo,t21,t12]
theorem U_:bW [.obj 5] [.ins "Ties" (tfo 0),.dT [],.dT [],.dT [],.dT [],.ins "Ties" []]=some (.non,[.ins "Ties" (tfo 0),.dT [],.dT [],.dT [],.dT [],.ins "Ties" (tfo 5),.dT [],.dT []]):=by
 refine oY (ρ':=[.dat (.obj 5)]) rfl ?_
 generalize tfo 0=z
 simp[pI,tfo,t21,t12]
theorem holds(ns:List Int)(hn:ns.length<=63):∃Ω,um [.scr ns] []=some (.bl true,Ω):=by
 obtain⟨c0,hc0⟩:=Mu ns 0 []
 have hc0':cR [.scr ns,.int 0] []=some (.int c0,[]):=hc0
 obtain⟨m,hm,hm1,hm2⟩:∃m:Nat,(m:Int)=2+(if(ns.length:Int)<40 then(ns.length:Int) else 40)+c0%30/\2<=m/\m<=71:=by
  refine⟨(2+(if(ns.length:Int)<40 then(ns.length:Int) else 40)+c0%30).toNat,?_⟩
  split<;>omega
 obtain⟨xs,x1,x2,ex⟩:=HW ns (m:=m) (by omega) []
 obtain⟨c,cs,rfl⟩:∃c cs,xs=c::cs:=by
  match xs,x1 with
  | [],x1=>simp at x1;omega
  | c::cs,_=>exact⟨c,cs,rfl⟩
 obtain⟨hs,h1,h6,h2,h3⟩:=Ez (x2 c List.mem_cons_self) []
 rw[List.length_cons] at x1
 obtain⟨y5,y6,y7,y8,y9,y10,y11,y12,y13,y14,y15,Ω',tw,e6⟩:=turns h6 h1 h2 (.dat (.scr ns)) (.dat (.lst ((c::cs).map D.int))) cs 0 Ω0 .und .und .und .und .und .und .und .und .und .und .und (Tw.nil hs) (by omega)
 obtain⟨L,P,T,N,L2,P2,T2,N2,es,_,_,_,hh,hd,hl⟩:=tw
 have ga:ak (aj 0) (ak (gOp dN (gOp dN (gC (.int 2)) (gCB jj (ak (gC (.int 40)) (ak (gCB lO (ak (aj 0) aA)) aA)))) (gOp bG (bz cR (ak (aj 0) (ak (gC (.int 0)) aA))) (gC (.int 30)))) aA) [.dat (.scr ns),.und,.und,.und,.und,.und,.und,.und,.und,.und,.und,.und,.und,.und,.und,.und] []=some ([.scr ns,.int m],[]):=by
  rw[hm]
  simp[hc0']
 have e1:=Ba (i:=1) ga ex
 have e2:=Ba (i:=2) (ga:=ak (gOp ixD (aj 1) (gC (.int 0))) aA) (ρ:=[.dat (.scr ns),.dat (.lst ((c::cs).map D.int)),.und,.und,.und,.und,.und,.und,.und,.und,.und,.und,.und,.und,.und,.und]) (Law.c1 (o2 rfl rfl (Uz _ _))) h3
 have e3:bF 3 (bH (ak (bu (ak (pJ "Ties" bW [] aA) (ak jF (ak jF aA)))) (ak (bu (ak (pJ "Ties" bW [] aA) (ak jF (ak jF aA)))) aA))) [.dat (.scr ns),.dat (.lst ((c::cs).map D.int)),.dat (.lst (hs.map D.int)),.und,.und,.und,.und,.und,.und,.und,.und,.und,.und,.und,.und,.und] []=some (.nx [.dat (.scr ns),.dat (.lst ((c::cs).map D.int)),.dat (.lst (hs.map D.int)),.dat (.lst [cH 0,cH 5]),.und,.und,.und,.und,.und,.und,.und,.und,.und,.und,.und,.und] Ω1):=by
  simp[UW,U_,cH,Ω1]
 refine⟨Ω',a_ rfl ?_⟩
 refine(aK e1).trans ((aK e2).trans ((aK e3).trans ?_))
 refine(aK (ρ':=[.dat (.scr ns),.dat (.lst ((c::cs).map D.int)),.dat (.lst (hs.map D.int)),.dat (.lst [cH 0,cH 5]),.dat (.obj 10),.und,.und,.und,.und,.und,.und,.und,.und,.und,.und,.und]) (Ω':=Ω0) rfl).trans ?_
 refine(aK (ρ':=[.dat (.scr ns),.dat (.lst ((c::cs).map D.int)),.dat (.lst (hs.map D.int)),.dat (.lst [cH 0,cH 5]),.dat (.obj 10),y5,y6,y7,y8,y9,y10,y11,y12,y13,y14,y15]) (Ω':=Ω') ?_).trans ?_
 ·show mO _ _ tB _ _=_
  rw[sJ]
  have ec:su ((c::cs).map D.int) (some 1) none=cs.map D.int:=by
   have:=JQ ((c::cs).map D.int) 1
   simpa using this
  have:fj (gSl (aj 1) (vC (gC (.int 1))) tZ) [.dat (.scr ns),.dat (.lst ((c::cs).map D.int)),.dat (.lst (hs.map D.int)),.dat (.lst [cH 0,cH 5]),.dat (.obj 10),.und,.und,.und,.und,.und,.und,.und,.und,.und,.und,.und] Ω0=some (cs.map D.int,Ω0):=by
   have ev:aj 1 [.dat (.scr ns),.dat (.lst ((c::cs).map D.int)),.dat (.lst (hs.map D.int)),.dat (.lst [cH 0,cH 5]),.dat (.obj 10),.und,.und,.und,.und,.und,.und,.und,.und,.und,.und,.und] Ω0=some (.lst ((c::cs).map D.int),Ω0):=rfl
   rw[GP,Uj,ev]
   generalize hz:(c::cs).map D.int=zs at *
   simp[ec]
  rw[this]
  exact e6
 ·have em:=wB hh es .und .und hd
  have ea:=Mx es
  have hb:es.length<=big:=by have:big=100000:=rfl;omega
  have ei:cL [none,none] [Sl.dat (.scr ns),.dat (.lst ((c::cs).map D.int)),.dat (.lst (hs.map D.int)),.dat (.lst [cH 0,cH 5]),.dat (.obj 10),y5,y6,y7,y8,y9,y10,y11,y12,y13,y14,y15]=[.und,.und]:=rfl
  have eg:qJ [none,none] (aj 4) (jx [0,1]) d_ (bz fu (ak (aj 0) (ak (aj 1) aA))) [Sl.dat (.scr ns),.dat (.lst ((c::cs).map D.int)),.dat (.lst (hs.map D.int)),.dat (.lst [cH 0,cH 5]),.dat (.obj 10),y5,y6,y7,y8,y9,y10,y11,y12,y13,y14,y15] Ω'=some (.lst (es.map fun _=>D.bl true),Ω'):=by
   unfold qJ
   rw[ei]
   simp only[sI,List.getElem?_cons_zero,List.getElem?_cons_succ,Option.bind_some,HX,hh,mR,hb,if_true,em]
  rw[my,Mm,qu,eg]
  dsimp only
  rw[GJ]
  dsimp only
  rw[ea]
end Law
namespace Law
open PySem PySem.Spec PyProof.Rows L2 DL
set_option maxHeartbeats 4000000
seal PD PDA PDS PDB PDT PDI PDG RD RDS RDB PV
noncomputable def top(i:Nat):Stmt:=PySem.Challenge.pw_posthouse_k34_whole_ties_by_turns.main.body.getD i (.Pass ⟨0,0,0,0⟩)
noncomputable abbrev fO:Stmt:=top 15
noncomputable abbrev ig:Stmt:=top 16
noncomputable abbrev fM:Stmt:=top 17
noncomputable abbrev jg:Stmt:=top 18
noncomputable abbrev jY:Stmt:=top 20
noncomputable abbrev ik:Stmt:=top 11
noncomputable abbrev cI:Stmt:=inClass (top 13) 1
noncomputable abbrev eN:Stmt:=top 12
noncomputable abbrev du:Stmt:=inClass (top 13) 9
noncomputable abbrev fP:Stmt:=inClass (top 13) 2
noncomputable abbrev fQ:Stmt:=inClass (top 13) 3
noncomputable abbrev fU:Stmt:=inClass (top 13) 4
noncomputable abbrev eV:Stmt:=inClass (top 13) 5
noncomputable abbrev dF:Stmt:=inClass (top 13) 6
noncomputable abbrev jh:Stmt:=top 19
noncomputable abbrev dw:Stmt:=inClass (top 13) 0
noncomputable abbrev ji:Stmt:=top 21
noncomputable abbrev gR:Stmt:=top 22
noncomputable abbrev eX:Stmt:=inClass (top 13) 7
noncomputable abbrev dY:Stmt:=inClass (top 13) 8
noncomputable abbrev eO:Stmt:=top 23
noncomputable abbrev lG:Stmt:=top 24
noncomputable abbrev mV:List Value:=[.type "ValueError",.type "Exception",.type "BaseException",.type "object"]
theorem yN:∀{as:List Addr} {us:List Value},Vals (as.map V.ref) us->us=as.map Value.ref
 | [],_,.nil=>rfl
 | a::as,_,.cons r t=>by rw[yN t];cases (show _=Value.ref a from r);rfl
section
variable {P:Program} {w:World} {K:PySem.W.Frag} {mg:Str->Option Value} {base:Heap} {C:Cl}
theorem QD:∀t∈["NoneType","bool","int","str","tuple","list"],PySem.W.kitOne K (.type t) (.type "int")=some (decide (t = "int") || (decide (t = "bool") && decide ("int" = "int"))):=by
 intro t ht
 simp only[List.mem_cons,List.not_mem_nil,or_false] at ht
 rcases ht with rfl |rfl |rfl |rfl |rfl |rfl<;>rfl
theorem Lw:∀t∈["NoneType","bool","int","str","tuple","list"],PySem.W.kitOne K (.type t) (.type "list")=some (decide (t = "list") || (decide (t = "bool") && decide ("list" = "int"))):=by
 intro t ht
 simp only[List.mem_cons,List.not_mem_nil,or_false] at ht
 rcases ht with rfl |rfl |rfl |rfl |rfl |rfl<;>rfl
theorem xX:∀t∈["NoneType","bool","int","str","tuple","list"],PySem.W.kitOne K (.type t) (.type "str")=some (decide (t = "str") || (decide (t = "bool") && decide ("str" = "int"))):=by
 intro t ht
 simp only[List.mem_cons,List.not_mem_nil,or_false] at ht
 rcases ht with rfl |rfl |rfl |rfl |rfl |rfl<;>rfl
theorem kit_tuple:∀t∈["NoneType","bool","int","str","tuple","list"],PySem.W.kitOne K (.type t) (.type "tuple")=some (decide (t = "tuple") || (decide (t = "bool") && decide ("tuple" = "int"))):=by
 intro t ht
 simp only[List.mem_cons,List.not_mem_nil,or_false] at ht
 rcases ht with rfl |rfl |rfl |rfl |rfl |rfl<;>rfl
theorem wC:∀t∈["NoneType","bool","int","str","tuple","list"],PySem.W.kitAny K (.type t) (["list","tuple"].map Value.type)=some (["list","tuple"].any fun T=>decide (t=T) || (decide (t = "bool") && decide (T = "int"))):=by
 intro t ht
 simp only[List.mem_cons,List.not_mem_nil,or_false] at ht
 rcases ht with rfl |rfl |rfl |rfl |rfl |rfl<;>rfl
theorem tO:FnScope ["_law_script","_law_k"] ["_law_script","_law_k"] (aB fO):=⟨rfl,rfl,rfl,by decide +kernel,rfl,by decide +kernel,by decide +kernel⟩
theorem Bv(T:TF K mg "_law_cell_at" fO)(b_len:mg "len" = none):Fn P w K mg base C 1 "_law_cell_at" cR :=
 ou T tO rfl rfl (fun _ _ _ _ _ _ us hl=>Af us hl (fun _ _=>rfl)) fun f cdv A outer sh H E hr =>
  have nd:(bQ CX0 P w K mg base ["_law_script","_law_k"] "_law_cell_at" (aB fO) f cdv A outer sh H E).nox.N.Nodup:=tO.nd
  (aD (bw (aV Gr (ao (pv 1)) (cB iW rfl b_len PySem.boot_len (aq (ao (pv 0)) az)) (bh _)) (aH (aO (gb (ao (pv 0)) (ao (pv 1))))) aZ) (aH (aO aL)))
theorem wD:FnScope ["_law_script","_law_many","_law_found","_law_kept","_law_k"] ["_law_script","_law_many"] (aB ig):=⟨rfl,rfl,rfl,by decide +kernel,rfl,by decide +kernel,by decide +kernel⟩
theorem Fl(T:TF K mg "_law_draws" ig)(b_len:mg "len" = none)(b_range:mg "range" = none)(G_l_cell_at:Fn P w K mg base C 1 "_law_cell_at" cR):Fn P w K mg base C 2 "_law_draws" mF :=
 ou T wD rfl rfl (fun _ _ _ _ _ _ us hl=>Af us hl (fun _ _=>rfl)) fun f cdv A outer sh H E hr =>
  have nd:(bQ CX0 P w K mg base ["_law_script","_law_many","_law_found","_law_kept","_law_k"] "_law_draws" (aB ig) f cdv A outer sh H E).nox.N.Nodup:=wD.nd
  (aD (wQ (i:=2) nd rfl (by first |exact Or.inl rfl |exact Or.inr rfl) az) (aD (bM (i:=3) nd rfl (by first |exact Or.inl rfl |exact Or.inr rfl) (cB iW rfl b_len PySem.boot_len (aq (ao (pv 0)) az))) (aD (qt PassesOwn.never rfl (qX rfl b_range (aq (ao (pv 1)) az)) (e_ nd rfl (by first |exact Or.inl rfl |exact Or.inr rfl)) (aD (bM (i:=3) nd rfl (by first |exact Or.inl rfl |exact Or.inr rfl) (bc bY (bc iD (bc iD (bc iD (bc lK (ao (pv 3)) aL) (bN G_l_cell_at (hr.mono (by decide)) rfl (aq (ao (pv 0)) (aq (ao (pv 4)) az)))) (bc lK aL (ao (pv 4)))) (bc lK (bc lK aL (ao (pv 4))) (ao (pv 4)))) aL)) (aH (wU (pv 2) (bc fV (bc bY (bc lK (bc bY (bc lK (ao (pv 3)) (ao (pv 3))) aL) aL) aL) aL))))) (ym (yo 2) (aH (aO (ao (pv 2))))))))
theorem uE:FnScope ["_law_cell","_law_step"] ["_law_cell"] (aB fM):=⟨rfl,rfl,rfl,by decide +kernel,rfl,by decide +kernel,by decide +kernel⟩
theorem Cg(T:TF K mg "_law_houses" fM)(b_range:mg "range" = none):Fn P w K mg base C 1 "_law_houses" k_ :=
 ou T uE rfl rfl (fun _ _ _ _ _ _ us hl=>sZ us hl (fun _=>rfl)) fun f cdv A outer sh H E hr =>
  have nd:(bQ CX0 P w K mg base ["_law_cell","_law_step"] "_law_houses" (aB fM) f cdv A outer sh H E).nox.N.Nodup:=uE.nd
  (aD (bM (i:=1) nd rfl (by first |exact Or.inl rfl |exact Or.inr rfl) (gb (bR (aq aL (aq aL (aq aL (aq aL (aq aL (aq aL az))))))) (bc bY (bc fV (ao (pv 0)) aL) aL))) (aH (aO (jN rfl (gG (oN:=["_law_cell","_law_step"]) (osc:=aB fM) (N:=["_law_k","_law_cell","_law_step"]) (μ:=[none,some 0,some 1]) rfl rfl (by decide +kernel)) (qX rfl b_range (aq (bc iD aL (bc bY (bc fV (ao (pv 0)) aL) aL)) az)) (fun _ _ _ _=>(e_ (show List.Nodup (["_law_k","_law_cell","_law_step"]:List Str) by decide +kernel) rfl (by first |exact Or.inl rfl |exact Or.inr rfl))) (fun _ _ _ _=>jc) (fun _ _ _ _=>(bc bY (bc iD (ao (pv 1)) (bc lK (ao (pv 2)) (ao (pv 0)))) aL))))))
theorem yO:FnScope ["_law_cell","_law_number","_law_some"] ["_law_cell"] (aB jg):=⟨rfl,rfl,rfl,by decide +kernel,rfl,by decide +kernel,by decide +kernel⟩
theorem Iw(T:TF K mg "_law_note" jg):Fn P w K mg base C 1 "_law_note" lW :=
 ou T yO rfl rfl (fun _ _ _ _ _ _ us hl=>sZ us hl (fun _=>rfl)) fun f cdv A outer sh H E hr =>
  have nd:(bQ CX0 P w K mg base ["_law_cell","_law_number","_law_some"] "_law_note" (aB jg) f cdv A outer sh H E).nox.N.Nodup:=yO.nd
  (aD (bM (i:=1) nd rfl (by first |exact Or.inl rfl |exact Or.inr rfl) (bc bY (bc fV (ao (pv 0)) aL) aL)) (aD (bM (i:=2) nd rfl (by first |exact Or.inl rfl |exact Or.inr rfl) (bR (aq (bJ (aq aQ (aq (bc bY (ao (pv 1)) aL) (aq (ao (pv 1)) az)))) (aq (bJ (aq aQ (aq (bc bY (ao (pv 1)) aL) (aq aL (aq ql (aq (bJ az) az)))))) (aq (ao (pv 1)) (aq aQ (aq ql (aq (bJ (aq (ao (pv 1)) az)) az)))))))) (aH (aO (gb (ao (pv 2)) (bc bY (ao (pv 0)) aL))))))
theorem Bw:FnScope ["_law_way","_law_lengths","_law_sent","_law_one","_law_other","_law_thing"] ["_law_way","_law_lengths","_law_sent","_law_one","_law_other","_law_thing"] (aB jY):=⟨rfl,rfl,rfl,by decide +kernel,rfl,by decide +kernel,by decide +kernel⟩
theorem Lx(T:TF K mg "_law_due" jY)(b_list:mg "list" = none)(b_max:mg "max" = none)(b_min:mg "min" = none):Fn P w K mg base C 1 "_law_due" bZ :=
 ou T Bw rfl rfl (fun _ _ _ _ _ _ us hl=>VD us hl (fun _ _ _ _ _ _=>rfl)) fun f cdv A outer sh H E hr =>
  have nd:(bQ CX0 P w K mg base ["_law_way","_law_lengths","_law_sent","_law_one","_law_other","_law_thing"] "_law_due" (aB jY) f cdv A outer sh H E).nox.N.Nodup:=Bw.nd
  (aD (bw (PDW.pt (lN (aV (bO hr.units) (ao (pv 0)) aQ (bh _)) (lM (aV (bO hr.units) (ao (pv 3)) (ao (pv 4)) (bh _))))) (aH (aO aQ)) aZ) (aD (bw (PDW.pt (lN (aV (bO hr.units) (ao (pv 0)) aQ (bh _)) (lM (wY (cg hr) (bJ (aq (ao (pv 3)) (aq (ao (pv 4)) az))) (ao (pv 2)))))) (aH (aO aQ)) aZ) (aD (bw (PDW.pt (lN (aV (qm hr.units) (ao (pv 0)) aQ (bh _)) (lM (kI (cg hr) (bJ (aq (ao (pv 3)) (aq (ao (pv 4)) az))) (ao (pv 2)))))) (aH (aO aQ)) aZ) (aD (bw (aV (bO hr.units) (ao (pv 0)) aQ (bh _)) (aD (q_ (cg hr) (ao (pv 1)) (bJ (aq (cB (mq rfl) rfl b_min boot_min (aq (ao (pv 3)) (aq (ao (pv 4)) az))) (aq (cB (pF rfl) rfl b_max boot_max (aq (ao (pv 3)) (aq (ao (pv 4)) az))) az))) (ao (pv 5))) (aD (q_ (cg hr) (ao (pv 2)) (bJ (aq (ao (pv 3)) (aq (ao (pv 4)) az))) (qH az)) (aH (q_ (cg hr) (ao (pv 2)) (bJ (aq (ao (pv 4)) (aq (ao (pv 3)) az))) (qH az))))) aZ) (aD (bw (aV (bO hr.units) (ao (pv 0)) aQ (bh _)) (aD (dO (qx (cg hr) (ao (pv 1)) (bJ (aq (cB (mq rfl) rfl b_min boot_min (aq (ao (pv 3)) (aq (ao (pv 4)) az))) (aq (cB (pF rfl) rfl b_max boot_max (aq (ao (pv 3)) (aq (ao (pv 4)) az))) az))) ⟨rfl,rfl,rfl,rfl⟩)) (aD (dO (qx (cg hr) (ao (pv 2)) (bJ (aq (ao (pv 3)) (aq (ao (pv 4)) az))) ⟨rfl,rfl,rfl,rfl⟩)) (aH (dO (qx (cg hr) (ao (pv 2)) (bJ (aq (ao (pv 4)) (aq (ao (pv 3)) az))) ⟨rfl,rfl,rfl,rfl⟩))))) aZ) (aD (bw (aV (bO hr.units) (ao (pv 0)) aQ (bh _)) (aH (uX (iG (cg hr) (ao (pv 2)) (bJ (aq (ao (pv 3)) (aq (ao (pv 4)) az))) (fun _ _=>rfl)) (ao (pv 5)))) aZ) (aD (bw (aV (bO hr.units) (ao (pv 0)) aQ (bh _)) (aD (bw (Dj hr.units (iG (cg hr) (ao (pv 2)) (bJ (aq (ao (pv 3)) (aq (ao (pv 4)) az))) (fun _ _=>rfl)) (bR az) (bh _)) (aH (aO aQ)) aZ) (aH (aO (bR (aq (Dk (iG (cg hr) (ao (pv 2)) (bJ (aq (ao (pv 3)) (aq (ao (pv 4)) az))) (fun _ _=>rfl)) aL) az))))) aZ) (aD (bw (aV (bO hr.units) (ao (pv 0)) aQ (bh _)) (aH (aO (bR (aq (iG (cg hr) (ao (pv 1)) (bJ (aq (cB (mq rfl) rfl b_min boot_min (aq (ao (pv 3)) (aq (ao (pv 4)) az))) (aq (cB (pF rfl) rfl b_max boot_max (aq (ao (pv 3)) (aq (ao (pv 4)) az))) az))) (fun _ _=>rfl)) az)))) aZ) (aD (bw (aV (bO hr.units) (ao (pv 0)) aQ (bh _)) (aH (aO (bR (aq (Kw rfl b_list boot_list (iG (cg hr) (ao (pv 2)) (bJ (aq (ao (pv 3)) (aq (ao (pv 4)) az))) (fun _ _=>rfl))) az)))) aZ) (aH (aO (bR (aq ql az)))))))))))))
theorem wF:FnScope ["one","other"] ["one","other"] (aB ik):=⟨rfl,rfl,rfl,by decide +kernel,rfl,by decide +kernel,by decide +kernel⟩
theorem Fo(T:TF K mg "in_pair" ik)(b_max:mg "max" = none)(b_min:mg "min" = none):Fn P w K mg base C 1 "in_pair" cO :=
 ou T wF rfl rfl (fun _ _ _ _ _ _ us hl=>Af us hl (fun _ _=>rfl)) fun f cdv A outer sh H E hr =>
  have nd:(bQ CX0 P w K mg base ["one","other"] "in_pair" (aB ik) f cdv A outer sh H E).nox.N.Nodup:=wF.nd
  (aH (aO (bJ (aq (cB (mq rfl) rfl b_min boot_min (aq (ao (pv 0)) (aq (ao (pv 1)) az))) (aq (cB (pF rfl) rfl b_max boot_max (aq (ao (pv 0)) (aq (ao (pv 1)) az))) az)))))
theorem jC:FnScope ["self","one","other"] ["self","one","other"] (aB cI):=⟨rfl,rfl,rfl,by decide +kernel,rfl,by decide +kernel,by decide +kernel⟩
theorem uB{dV:Value}{f:Addr}{fd:FuncData}(F:FunV K "need_pair" "Ties.need_pair" cI dV f fd)(T_Ties:ClD K C "Ties")(n_Ties_length_by:NoA K C "Ties" "length_by"){C_NotTied:Addr}(hC_NotTied:C "NotTied" = some C_NotTied)(O_NotTied:OwnCls "NotTied" C_NotTied mV "ValueError.__new__" mg base)(G_in_pair:Fn P w K mg base C 1 "in_pair" cO):FnOk P w K mg base (CXr P w) 2 f fd ["self","one","other"] (spX K C aP aX) :=
 rB F jC rfl rfl (fun cdv A outer sh H E hr =>
  have nd:(bQ (CXr P w) P w K mg base ["self","one","other"] "Ties.need_pair" (aB cI) f cdv A outer sh H E).nox.N.Nodup:=jC.nd
  (aH (bw (kI (cg hr) (bN G_in_pair (hr.mono (by decide)) rfl (aq (ao (pv 1)) (aq (ao (pv 2)) az))) (dM T_Ties n_Ties_length_by (ao (pv 0)))) (aH iZ) aZ)))
  fun cdv A outer sh H E hr =>
  have nd:(bQ (CXr P w) P w K mg base ["self","one","other"] "Ties.need_pair" (aB cI) f cdv A outer sh H E).N.Nodup:=jC.nd
  (gY (kZ (kI (cg hr) (bN G_in_pair (hr.mono (by decide)) rfl (aq (ao (pv 1)) (aq (ao (pv 2)) az))) (dM T_Ties n_Ties_length_by (ao (pv 0)))) (gY (nj l_ hC_NotTied O_NotTied PySem.F.excBase_ValueError hr.hd rfl (Hr (ao (pv 1)) (ao (pv 2))))) gH))
theorem tQ:FnScope ["thing","nests","spots","at","nest","place","part","spot"] ["thing"] (aB eN):=⟨rfl,rfl,rfl,by decide +kernel,rfl,by decide +kernel,by decide +kernel⟩
theorem Bx(T:TF K mg "made_anew" eN)(b_all:mg "all" = none)(b_enumerate:mg "enumerate" = none)(b_isinstance:mg "isinstance" = none)(b_len:mg "len" = none)(b_list:mg "list" = none)(b_tuple:mg "tuple" = none):Fn P w K mg base C 1 "made_anew" eF :=
 ou T tQ rfl rfl (fun _ _ _ _ _ _ us hl=>sZ us hl (fun _=>rfl)) fun f cdv A outer sh H E hr =>
  have nd:(bQ CX0 P w K mg base ["thing","nests","spots","at","nest","place","part","spot"] "made_anew" (aB eN) f cdv A outer sh H E).nox.N.Nodup:=tQ.nd
  (aD (wQ (i:=1) nd rfl (by first |exact Or.inl rfl |exact Or.inr rfl) (aq (bR (aq (ao (pv 0)) az)) az)) (aD (wQ (i:=2) nd rfl (by first |exact Or.inl rfl |exact Or.inr rfl) az) (aD (bM (i:=3) nd rfl (by first |exact Or.inl rfl |exact Or.inr rfl) aL) (aD (Gy 1000 PassesOwn.never (aV Gr (ao (pv 3)) (Sy rfl b_len PySem.boot_len (De (pv 1))) (bh _)) (aD (bM (i:=4) nd rfl (by first |exact Or.inl rfl |exact Or.inr rfl) (Um (De (pv 1)) (ao (pv 3)))) (aD (qt PassesOwn.never rfl (Kv rfl b_enumerate (aq (ao (pv 4)) az)) (qp rfl (dz (i:=5) nd rfl (by first |exact Or.inl rfl |exact Or.inr rfl) (dz (i:=6) nd rfl (by first |exact Or.inl rfl |exact Or.inr rfl) oh))) (aH (bw (gw (Er (Ts:=["list","tuple"]) (ao (pv 6)) (bL (iC (v:=.ty "list") rfl b_list boot_list rfl) (bL (iC (v:=.ty "tuple") rfl b_tuple boot_tuple rfl) cY)) (fun _ _ _ q=>q) (by show 2<=sizeLine;rw[sizeLine_eq];decide) rfl b_isinstance boot_isinstance wC)) (aD (wU (pv 2) (bJ (aq (ao (pv 3)) (aq (ao (pv 5)) (aq (iY (ao (pv 6)) (iC rfl b_tuple boot_tuple rfl) rfl b_isinstance boot_isinstance kit_tuple) az))))) (aH (wU (pv 1) (sy vD rfl b_list boot_list (aq (ao (pv 6)) az))))) aZ))) (aH (Qg (i:=3) nd rfl (by first |exact Or.inl rfl |exact Or.inr rfl) aL))))) (ym (yo 2) (aD (bw (gw (cB (yD hr.hd) rfl b_all boot_all (aq (jN rfl (gG (oN:=["thing","nests","spots","at","nest","place","part","spot"]) (osc:=aB eN) (N:=["spot"]) (μ:=[none]) rfl rfl (by decide +kernel)) (i_ (ao (pv 2))) (fun _ _ _ _=>(e_ (show List.Nodup (["spot"]:List Str) by decide +kernel) rfl (by first |exact Or.inl rfl |exact Or.inr rfl))) (fun _ _ _ _=>jc) (fun _ _ _ _=>(gb (ao (pv 0)) aL))) az))) (aH (aO (ao (pv 0)))) aZ) (aD iZ (aH iZ))))))))
theorem mW:FnScope ["self","one","other"] ["self","one","other"] (aB du):=⟨rfl,rfl,rfl,by decide +kernel,rfl,by decide +kernel,by decide +kernel⟩
theorem zb{dV:Value}{f:Addr}{fd:FuncData}(F:FunV K "notes" "Ties.notes" du dV f fd)(T_Ties:ClD K C "Ties")(n_Ties_sent_on:NoA K C "Ties" "sent_on")(M_Ties_need_pair_0:MtX P w K mg base C 2 "Ties" "need_pair" aP aX [])(G_made_anew:Fn P w K mg base C 1 "made_anew" eF):FnOk P w K mg base (CXr P w) 3 f fd ["self","one","other"] (spX K C eU ie) :=
 rB F mW rfl rfl (fun cdv A outer sh H E hr =>
  have nd:(bQ (CXr P w) P w K mg base ["self","one","other"] "Ties.notes" (aB du) f cdv A outer sh H E).nox.N.Nodup:=mW.nd
  (aD (dO (cG M_Ties_need_pair_0 (hr.mono (by decide)) (ao (pv 0)) (aq (ao (pv 1)) (aq (ao (pv 2)) az)))) (aH (aO (Ar rfl (gG (oN:=["self","one","other"]) (osc:=aB du) (N:=["note"]) (μ:=[none]) rfl rfl (by decide +kernel)) (JS (cg hr) (dM T_Ties n_Ties_sent_on (ao (pv 0))) (bJ (aq (ao (pv 1)) (aq (ao (pv 2)) az))) (qH az) ⟨rfl,rfl,rfl,rfl⟩) (fun _ _ _ _=>(e_ (show List.Nodup (["note"]:List Str) by decide +kernel) rfl (by first |exact Or.inl rfl |exact Or.inr rfl))) (fun _ _ _ _=>jc) (fun _ _ _ _=>(bN G_made_anew (hr.mono (by decide)) rfl (aq (ao (pv 0)) az))))))))
  fun cdv A outer sh H E hr =>
  have nd:(bQ (CXr P w) P w K mg base ["self","one","other"] "Ties.notes" (aB du) f cdv A outer sh H E).N.Nodup:=mW.nd
  (dU (oJ (g_ mC M_Ties_need_pair_0 (hr.mono (by decide)) (ao (pv 0)) (aq (ao (pv 1)) (aq (ao (pv 2)) az)))))
theorem oZ:FnScope ["self","one","other","length"] ["self","one","other","length"] (aB fP):=⟨rfl,rfl,rfl,by decide +kernel,rfl,by decide +kernel,by decide +kernel⟩
theorem By{dV:Value}{f:Addr}{fd:FuncData}(F:FunV K "come" "Ties.come" fP dV f fd)(T_Ties:ClD K C "Ties")(n_Ties_length_by:NoA K C "Ties" "length_by"){C_NoHouse C_Tied:Addr}(hC_NoHouse:C "NoHouse" = some C_NoHouse)(O_NoHouse:OwnCls "NoHouse" C_NoHouse mV "ValueError.__new__" mg base)(hC_Tied:C "Tied" = some C_Tied)(O_Tied:OwnCls "Tied" C_Tied mV "ValueError.__new__" mg base)(G_in_pair:Fn P w K mg base C 1 "in_pair" cO):FnOk P w K mg base (CXr P w) 2 f fd ["self","one","other","length"] (spX K C dg gQ) :=
 rB F oZ rfl rfl (fun cdv A outer sh H E hr =>
  have nd:(bQ (CXr P w) P w K mg base ["self","one","other","length"] "Ties.come" (aB fP) f cdv A outer sh H E).nox.N.Nodup:=oZ.nd
  (aD (bw (aV (bO hr.units) (ao (pv 1)) (ao (pv 2)) (bh _)) (aH iZ) aZ) (aD (bw (wY (cg hr) (bN G_in_pair (hr.mono (by decide)) rfl (aq (ao (pv 1)) (aq (ao (pv 2)) az))) (dM T_Ties n_Ties_length_by (ao (pv 0)))) (aH iZ) aZ) (aH (q_ (cg hr) (dM T_Ties n_Ties_length_by (ao (pv 0))) (bN G_in_pair (hr.mono (by decide)) rfl (aq (ao (pv 1)) (aq (ao (pv 2)) az))) (ao (pv 3)))))))
  fun cdv A outer sh H E hr =>
  have nd:(bQ (CXr P w) P w K mg base ["self","one","other","length"] "Ties.come" (aB fP) f cdv A outer sh H E).N.Nodup:=oZ.nd
  (oH (dU (kZ (aV (bO hr.units) (ao (pv 1)) (ao (pv 2)) (bh _)) (gY (nj l_ hC_NoHouse O_NoHouse PySem.F.excBase_ValueError hr.hd rfl (Uq (ao (pv 1))))) gH)) (jP (bw (aV (bO hr.units) (ao (pv 1)) (ao (pv 2)) (bh _)) (aH iZ) aZ) (dU (kZ (wY (cg hr) (bN G_in_pair (hr.mono (by decide)) rfl (aq (ao (pv 1)) (aq (ao (pv 2)) az))) (dM T_Ties n_Ties_length_by (ao (pv 0)))) (gY (nj l_ hC_Tied O_Tied PySem.F.excBase_ValueError hr.hd rfl (Hr (ao (pv 1)) (ao (pv 2))))) gH))))
theorem o_:FnScope ["self","one","other"] ["self","one","other"] (aB fQ):=⟨rfl,rfl,rfl,by decide +kernel,rfl,by decide +kernel,by decide +kernel⟩
theorem BJ{dV:Value}{f:Addr}{fd:FuncData}(F:FunV K "fall" "Ties.fall" fQ dV f fd)(T_Ties:ClD K C "Ties")(n_Ties_length_by:NoA K C "Ties" "length_by")(n_Ties_sent_on:NoA K C "Ties" "sent_on")(M_Ties_need_pair_0:MtX P w K mg base C 2 "Ties" "need_pair" aP aX [])(G_in_pair:Fn P w K mg base C 1 "in_pair" cO):FnOk P w K mg base (CXr P w) 3 f fd ["self","one","other"] (spX K C eG iI) :=
 rB F o_ rfl rfl (fun cdv A outer sh H E hr =>
  have nd:(bQ (CXr P w) P w K mg base ["self","one","other"] "Ties.fall" (aB fQ) f cdv A outer sh H E).nox.N.Nodup:=o_.nd
  (aD (dO (cG M_Ties_need_pair_0 (hr.mono (by decide)) (ao (pv 0)) (aq (ao (pv 1)) (aq (ao (pv 2)) az)))) (aD (dO (qx (cg hr) (dM T_Ties n_Ties_length_by (ao (pv 0))) (bN G_in_pair (hr.mono (by decide)) rfl (aq (ao (pv 1)) (aq (ao (pv 2)) az))) ⟨rfl,rfl,rfl,rfl⟩)) (aD (dO (Av (cg hr) (dM T_Ties n_Ties_sent_on (ao (pv 0))) (bJ (aq (ao (pv 1)) (aq (ao (pv 2)) az))) ql ⟨rfl,rfl,rfl,rfl⟩)) (aH (dO (Av (cg hr) (dM T_Ties n_Ties_sent_on (ao (pv 0))) (bJ (aq (ao (pv 2)) (aq (ao (pv 1)) az))) ql ⟨rfl,rfl,rfl,rfl⟩)))))))
  fun cdv A outer sh H E hr =>
  have nd:(bQ (CXr P w) P w K mg base ["self","one","other"] "Ties.fall" (aB fQ) f cdv A outer sh H E).N.Nodup:=o_.nd
  (dU (oJ (g_ mC M_Ties_need_pair_0 (hr.mono (by decide)) (ao (pv 0)) (aq (ao (pv 1)) (aq (ao (pv 2)) az)))))
theorem ph:FnScope ["self","one","other","note"] ["self","one","other","note"] (aB fU):=⟨rfl,rfl,rfl,by decide +kernel,rfl,by decide +kernel,by decide +kernel⟩
theorem BK{dV:Value}{f:Addr}{fd:FuncData}(F:FunV K "send" "Ties.send" fU dV f fd)(T_Ties:ClD K C "Ties")(n_Ties_sent_on:NoA K C "Ties" "sent_on")(M_Ties_need_pair_0:MtX P w K mg base C 2 "Ties" "need_pair" aP aX [])(G_made_anew:Fn P w K mg base C 1 "made_anew" eF):FnOk P w K mg base (CXr P w) 3 f fd ["self","one","other","note"] (spX K C dh iJ) :=
 rB F ph rfl rfl (fun cdv A outer sh H E hr =>
  have nd:(bQ (CXr P w) P w K mg base ["self","one","other","note"] "Ties.send" (aB fU) f cdv A outer sh H E).nox.N.Nodup:=ph.nd
  (aD (dO (cG M_Ties_need_pair_0 (hr.mono (by decide)) (ao (pv 0)) (aq (ao (pv 1)) (aq (ao (pv 2)) az)))) (aH (uX (Qd (cg hr) (dM T_Ties n_Ties_sent_on (ao (pv 0))) (bJ (aq (ao (pv 1)) (aq (ao (pv 2)) az))) (qH az) ⟨rfl,rfl,rfl,rfl⟩) (bN G_made_anew (hr.mono (by decide)) rfl (aq (ao (pv 3)) az))))))
  fun cdv A outer sh H E hr =>
  have nd:(bQ (CXr P w) P w K mg base ["self","one","other","note"] "Ties.send" (aB fU) f cdv A outer sh H E).N.Nodup:=ph.nd
  (dU (oJ (g_ mC M_Ties_need_pair_0 (hr.mono (by decide)) (ao (pv 0)) (aq (ao (pv 1)) (aq (ao (pv 2)) az)))))
theorem mX:FnScope ["self","one","other","sent","note"] ["self","one","other"] (aB eV):=⟨rfl,rfl,rfl,by decide +kernel,rfl,by decide +kernel,by decide +kernel⟩
theorem zc{dV:Value}{f:Addr}{fd:FuncData}(F:FunV K "carry" "Ties.carry" eV dV f fd)(T_Ties:ClD K C "Ties")(n_Ties_sent_on:NoA K C "Ties" "sent_on")(M_Ties_need_pair_0:MtX P w K mg base C 2 "Ties" "need_pair" aP aX []){C_NoNote:Addr}(hC_NoNote:C "NoNote" = some C_NoNote)(O_NoNote:OwnCls "NoNote" C_NoNote mV "ValueError.__new__" mg base):FnOk P w K mg base (CXr P w) 3 f fd ["self","one","other"] (spX K C cT fY) :=
 rB F mX rfl rfl (fun cdv A outer sh H E hr =>
  have nd:(bQ (CXr P w) P w K mg base ["self","one","other","sent","note"] "Ties.carry" (aB eV) f cdv A outer sh H E).nox.N.Nodup:=mX.nd
  (aD (dO (cG M_Ties_need_pair_0 (hr.mono (by decide)) (ao (pv 0)) (aq (ao (pv 1)) (aq (ao (pv 2)) az)))) (aD (bw (kI (cg hr) (bJ (aq (ao (pv 1)) (aq (ao (pv 2)) az))) (dM T_Ties n_Ties_sent_on (ao (pv 0)))) (aH iZ) aZ) (aD (bM (i:=3) nd rfl (by first |exact Or.inl rfl |exact Or.inr rfl) (iG (cg hr) (dM T_Ties n_Ties_sent_on (ao (pv 0))) (bJ (aq (ao (pv 1)) (aq (ao (pv 2)) az))) (fun _ _=>rfl))) (aD (bM (i:=4) nd rfl (by first |exact Or.inl rfl |exact Or.inr rfl) (Dk (ao (pv 3)) aL)) (aD (bw (Dj hr.units (ao (pv 3)) (bR az) (bh _)) (aH (dO (qx (cg hr) (dM T_Ties n_Ties_sent_on (ao (pv 0))) (bJ (aq (ao (pv 1)) (aq (ao (pv 2)) az))) ⟨rfl,rfl,rfl,rfl⟩))) aZ) (aH (aO (ao (pv 4))))))))))
  fun cdv A outer sh H E hr =>
  have nd:(bQ (CXr P w) P w K mg base ["self","one","other","sent","note"] "Ties.carry" (aB eV) f cdv A outer sh H E).N.Nodup:=mX.nd
  (oH (dU (oJ (g_ mC M_Ties_need_pair_0 (hr.mono (by decide)) (ao (pv 0)) (aq (ao (pv 1)) (aq (ao (pv 2)) az))))) (jP (dO (cG M_Ties_need_pair_0 (hr.mono (by decide)) (ao (pv 0)) (aq (ao (pv 1)) (aq (ao (pv 2)) az)))) (dU (kZ (kI (cg hr) (bJ (aq (ao (pv 1)) (aq (ao (pv 2)) az))) (dM T_Ties n_Ties_sent_on (ao (pv 0)))) (gY (nj l_ hC_NoNote O_NoNote PySem.F.excBase_ValueError hr.hd rfl (Tf (ao (pv 1)) (ao (pv 2))))) gH))))
theorem lY:FnScope ["self","one","other"] ["self","one","other"] (aB dF):=⟨rfl,rfl,rfl,by decide +kernel,rfl,by decide +kernel,by decide +kernel⟩
theorem xY{dV:Value}{f:Addr}{fd:FuncData}(F:FunV K "length" "Ties.length" dF dV f fd)(T_Ties:ClD K C "Ties")(n_Ties_length_by:NoA K C "Ties" "length_by")(M_Ties_need_pair_0:MtX P w K mg base C 2 "Ties" "need_pair" aP aX [])(G_in_pair:Fn P w K mg base C 1 "in_pair" cO):FnOk P w K mg base (CXr P w) 3 f fd ["self","one","other"] (spX K C dC gD) :=
 rB F lY rfl rfl (fun cdv A outer sh H E hr =>
  have nd:(bQ (CXr P w) P w K mg base ["self","one","other"] "Ties.length" (aB dF) f cdv A outer sh H E).nox.N.Nodup:=lY.nd
  (aD (dO (cG M_Ties_need_pair_0 (hr.mono (by decide)) (ao (pv 0)) (aq (ao (pv 1)) (aq (ao (pv 2)) az)))) (aH (aO (iG (cg hr) (dM T_Ties n_Ties_length_by (ao (pv 0))) (bN G_in_pair (hr.mono (by decide)) rfl (aq (ao (pv 1)) (aq (ao (pv 2)) az))) (fun _ _=>rfl))))))
  fun cdv A outer sh H E hr =>
  have nd:(bQ (CXr P w) P w K mg base ["self","one","other"] "Ties.length" (aB dF) f cdv A outer sh H E).N.Nodup:=lY.nd
  (dU (oJ (g_ mC M_Ties_need_pair_0 (hr.mono (by decide)) (ao (pv 0)) (aq (ao (pv 1)) (aq (ao (pv 2)) az)))))
theorem yP:FnScope ["_law_way","_law_ties","_law_one","_law_other","_law_thing","e","_law_marks"] ["_law_way","_law_ties","_law_one","_law_other","_law_thing"] (aB jh):=⟨rfl,rfl,rfl,by decide +kernel,rfl,by decide +kernel,by decide +kernel⟩
theorem Iz(T:TF K mg "_law_word" jh)(M_Ties_come_0:MtX P w K mg base C 2 "Ties" "come" dg gQ [])(M_Ties_fall_0:MtX P w K mg base C 3 "Ties" "fall" eG iI [])(M_Ties_send_0:MtX P w K mg base C 3 "Ties" "send" dh iJ [])(M_Ties_carry_0:MtX P w K mg base C 3 "Ties" "carry" cT fY [])(M_Ties_length_0:MtX P w K mg base C 3 "Ties" "length" dC gD [])(M_Ties_notes_0:MtX P w K mg base C 3 "Ties" "notes" eU ie []){C_BadDeed C_BadText C_NoHouse C_NoNote C_NoRow C_NotTied C_Owned C_PostError C_Tied:Addr}(m_BadDeed:mg "BadDeed" = some (.ref C_BadDeed))(m_BadText:mg "BadText" = some (.ref C_BadText))(m_NoHouse:mg "NoHouse" = some (.ref C_NoHouse))(m_NoNote:mg "NoNote" = some (.ref C_NoNote))(m_NoRow:mg "NoRow" = some (.ref C_NoRow))(m_NotTied:mg "NotTied" = some (.ref C_NotTied))(m_Owned:mg "Owned" = some (.ref C_Owned))(m_PostError:mg "PostError" = some (.ref C_PostError))(m_Tied:mg "Tied" = some (.ref C_Tied))(tc_PostError:∀c,jJ c=true->∃Ca,C c=some Ca/\PySem.W.exmOne K (.ref Ca) (.ref C_PostError)=some true)(x_0:∀c Ca b,xG c=some b->C c=some Ca->PySem.W.ExcLook K Ca/\PySem.W.kitOne K (.ref Ca) (.ref C_NoNote)=some b)(x_1:∀c Ca b,xH c=some b->C c=some Ca->PySem.W.ExcLook K Ca/\PySem.W.kitOne K (.ref Ca) (.ref C_NotTied)=some b)(x_2:∀c Ca b,xJ c=some b->C c=some Ca->PySem.W.ExcLook K Ca/\PySem.W.kitOne K (.ref Ca) (.ref C_Tied)=some b)(x_3:∀c Ca b,xK c=some b->C c=some Ca->PySem.W.ExcLook K Ca/\PySem.W.kitOne K (.ref Ca) (.ref C_NoHouse)=some b)(x_4:∀c Ca b,xM c=some b->C c=some Ca->PySem.W.ExcLook K Ca/\PySem.W.kitAny K (.ref Ca) [.ref C_BadText,.ref C_NoRow,.ref C_Owned,.ref C_BadDeed]=some b)(x_5:∀c Ca b,xN c=some b->C c=some Ca->PySem.W.ExcLook K Ca/\PySem.W.kitOne K (.ref Ca) (.type "ValueError")=some b)(b_ValueError:mg "ValueError" = none)(b_isinstance:mg "isinstance" = none):Fn P w K mg base C 4 "_law_word" bU :=
 ou T yP rfl rfl (fun _ _ _ _ _ _ us hl=>SM us hl (fun _ _ _ _ _=>rfl)) fun f cdv A outer sh H E hr =>
  have nd:(bQ CX0 P w K mg base ["_law_way","_law_ties","_law_one","_law_other","_law_thing","e","_law_marks"] "_law_word" (aB jh) f cdv A outer sh H E).nox.N.Nodup:=yP.nd
  (aH (Pr (i:=5) (fun pn E=>(aD (bw (aV (bO hr.units) (ao (pv 0)) aQ (bh _)) (aH (aO (bR (aq (cG M_Ties_come_0 (hr.mono (by decide)) (ao (pv 1)) (aq (ao (pv 2)) (aq (ao (pv 3)) (aq (ao (pv 4)) az)))) az)))) aZ) (aD (bw (aV (bO hr.units) (ao (pv 0)) aQ (bh _)) (aH (aO (bR (aq (cG M_Ties_fall_0 (hr.mono (by decide)) (ao (pv 1)) (aq (ao (pv 2)) (aq (ao (pv 3)) az))) az)))) aZ) (aD (bw (aV (bO hr.units) (ao (pv 0)) aQ (bh _)) (aH (aO (bR (aq (cG M_Ties_send_0 (hr.mono (by decide)) (ao (pv 1)) (aq (ao (pv 2)) (aq (ao (pv 3)) (aq (ao (pv 4)) az)))) az)))) aZ) (aD (bw (aV (bO hr.units) (ao (pv 0)) aQ (bh _)) (aH (aO (bR (aq (cG M_Ties_carry_0 (hr.mono (by decide)) (ao (pv 1)) (aq (ao (pv 2)) (aq (ao (pv 3)) az))) az)))) aZ) (aD (bw (aV (bO hr.units) (ao (pv 0)) aQ (bh _)) (aH (aO (bR (aq (cG M_Ties_length_0 (hr.mono (by decide)) (ao (pv 1)) (aq (ao (pv 2)) (aq (ao (pv 3)) az))) az)))) aZ) (aH (aO (bR (aq (cG M_Ties_notes_0 (hr.mono (by decide)) (ao (pv 1)) (aq (ao (pv 2)) (aq (ao (pv 3)) az))) az)))))))))) (fun pn E XW hX=>(oH (dU (kZ (aV (bO hr.units) (ao (pv 0)) aQ (bh _)) (gY (nT (nU (g_ hX M_Ties_come_0 (hr.mono (by decide)) (ao (pv 1)) (aq (ao (pv 2)) (aq (ao (pv 3)) (aq (ao (pv 4)) az))))))) gH)) (jP (bw (aV (bO hr.units) (ao (pv 0)) aQ (bh _)) (aH (aO (bR (aq (cG M_Ties_come_0 (hr.mono (by decide)) (ao (pv 1)) (aq (ao (pv 2)) (aq (ao (pv 3)) (aq (ao (pv 4)) az)))) az)))) aZ) (oH (dU (kZ (aV (bO hr.units) (ao (pv 0)) aQ (bh _)) (gY (nT (nU (g_ hX M_Ties_fall_0 (hr.mono (by decide)) (ao (pv 1)) (aq (ao (pv 2)) (aq (ao (pv 3)) az)))))) gH)) (jP (bw (aV (bO hr.units) (ao (pv 0)) aQ (bh _)) (aH (aO (bR (aq (cG M_Ties_fall_0 (hr.mono (by decide)) (ao (pv 1)) (aq (ao (pv 2)) (aq (ao (pv 3)) az))) az)))) aZ) (oH (dU (kZ (aV (bO hr.units) (ao (pv 0)) aQ (bh _)) (gY (nT (nU (g_ hX M_Ties_send_0 (hr.mono (by decide)) (ao (pv 1)) (aq (ao (pv 2)) (aq (ao (pv 3)) (aq (ao (pv 4)) az))))))) gH)) (jP (bw (aV (bO hr.units) (ao (pv 0)) aQ (bh _)) (aH (aO (bR (aq (cG M_Ties_send_0 (hr.mono (by decide)) (ao (pv 1)) (aq (ao (pv 2)) (aq (ao (pv 3)) (aq (ao (pv 4)) az)))) az)))) aZ) (oH (dU (kZ (aV (bO hr.units) (ao (pv 0)) aQ (bh _)) (gY (nT (nU (g_ hX M_Ties_carry_0 (hr.mono (by decide)) (ao (pv 1)) (aq (ao (pv 2)) (aq (ao (pv 3)) az)))))) gH)) (jP (bw (aV (bO hr.units) (ao (pv 0)) aQ (bh _)) (aH (aO (bR (aq (cG M_Ties_carry_0 (hr.mono (by decide)) (ao (pv 1)) (aq (ao (pv 2)) (aq (ao (pv 3)) az))) az)))) aZ) (oH (dU (kZ (aV (bO hr.units) (ao (pv 0)) aQ (bh _)) (gY (nT (nU (g_ hX M_Ties_length_0 (hr.mono (by decide)) (ao (pv 1)) (aq (ao (pv 2)) (aq (ao (pv 3)) az)))))) gH)) (jP (bw (aV (bO hr.units) (ao (pv 0)) aQ (bh _)) (aH (aO (bR (aq (cG M_Ties_length_0 (hr.mono (by decide)) (ao (pv 1)) (aq (ao (pv 2)) (aq (ao (pv 3)) az))) az)))) aZ) (gY (nT (nU (g_ hX M_Ties_notes_0 (hr.mono (by decide)) (ao (pv 1)) (aq (ao (pv 2)) (aq (ao (pv 3)) az))))))))))))))))) (fun v pn=>(aD (bM (i:=6) nd rfl (by first |exact Or.inl rfl |exact Or.inr rfl) (bR (aq (sX (ao (pv 5)) (jU (v:=.ref C_NoHouse) rfl m_NoHouse rfl) (fun u h=>h) rfl b_isinstance boot_isinstance x_3) (aq (sX (ao (pv 5)) (jU (v:=.ref C_Tied) rfl m_Tied rfl) (fun u h=>h) rfl b_isinstance boot_isinstance x_2) (aq (sX (ao (pv 5)) (jU (v:=.ref C_NotTied) rfl m_NotTied rfl) (fun u h=>h) rfl b_isinstance boot_isinstance x_1) (aq (sX (ao (pv 5)) (jU (v:=.ref C_NoNote) rfl m_NoNote rfl) (fun u h=>h) rfl b_isinstance boot_isinstance x_0) az)))))) (aD (bw (PDW.pt (vB (aV (qm hr.units) (PL hr.u65 (ao (pv 6)) pB) aL (bh _)) (vB (gw (Pn (vs:=[C_BadText,C_NoRow,C_Owned,C_BadDeed].map V.ref) (cvs:=[C_BadText,C_NoRow,C_Owned,C_BadDeed].map Value.ref) (ao (pv 5)) (bL (jU (v:=.ref C_BadText) rfl m_BadText rfl) (bL (jU (v:=.ref C_NoRow) rfl m_NoRow rfl) (bL (jU (v:=.ref C_Owned) rfl m_Owned rfl) (bL (jU (v:=.ref C_BadDeed) rfl m_BadDeed rfl) cY)))) (fun _ _ _ q=>q) (fun us h=>yN h) (by show 4<=sizeLine;rw[sizeLine_eq];decide) rfl b_isinstance boot_isinstance x_4)) (Cz (nM (gw (sX (ao (pv 5)) (iC (v:=.ty "ValueError") rfl b_ValueError (by decide +kernel) rfl) (fun u h=>h) rfl b_isinstance boot_isinstance x_5))))))) (aH (aO aQ)) aZ) (aH (aO (gb (bR (aq aQ (aq aQ (aq aQ (aq aQ az))))) (PN hr.u65 (ao (pv 6)) pB))))))) tc_PostError rfl rfl rfl m_PostError nd rfl rfl rfl))
theorem pq:FnScope ["self"] ["self"] (aB dw):=⟨rfl,rfl,rfl,by decide +kernel,rfl,by decide +kernel,by decide +kernel⟩
theorem vo{dV:Value}{f:Addr}{fd:FuncData}(F:FunV K "__init__" "Ties.__init__" dw dV f fd)(T_Ties:ClD K C "Ties")(n_Ties_length_by:NoA K C "Ties" "length_by")(n_Ties_sent_on:NoA K C "Ties" "sent_on"):FnOk P w K mg base CX0 1 f fd ["self"] (spD K C bW) :=
 Eg F pq rfl rfl fun cdv A outer sh H E hr =>
  have nd:(bQ CX0 P w K mg base ["self"] "Ties.__init__" (aB dw) f cdv A outer sh H E).nox.N.Nodup:=pq.nd
  (aD (C_ T_Ties n_Ties_length_by (ao (pv 0)) nP) (aH (C_ T_Ties n_Ties_sent_on (ao (pv 0)) nP)))
theorem yQ:FnScope ["_law_thing"] ["_law_thing"] (aB ji):=⟨rfl,rfl,rfl,by decide +kernel,rfl,by decide +kernel,by decide +kernel⟩
theorem IK(T:TF K mg "_law_kind" ji)(b_int:mg "int" = none)(b_isinstance:mg "isinstance" = none)(b_str:mg "str" = none)(b_tuple:mg "tuple" = none):Fn P w K mg base C 1 "_law_kind" jd :=
 ou T yQ rfl rfl (fun _ _ _ _ _ _ us hl=>sZ us hl (fun _=>rfl)) fun f cdv A outer sh H E hr =>
  have nd:(bQ CX0 P w K mg base ["_law_thing"] "_law_kind" (aB ji) f cdv A outer sh H E).nox.N.Nodup:=yQ.nd
  (aD (bw (aV RW (ao (pv 0)) ql (bh _)) (aH (aO aL)) aZ) (aD (bw (gw (iY (ao (pv 0)) (iC rfl b_int boot_int rfl) rfl b_isinstance boot_isinstance QD)) (aH (aO aL)) aZ) (aD (bw (gw (iY (ao (pv 0)) (iC rfl b_str boot_str rfl) rfl b_isinstance boot_isinstance xX)) (aH (aO aL)) aZ) (aH (aO (bc iD aL (sy Gv rfl b_int boot_int (aq (iY (ao (pv 0)) (iC rfl b_tuple boot_tuple rfl) rfl b_isinstance boot_isinstance kit_tuple) az))))))))
theorem yR:FnScope ["_law_found","_law_due_here"] ["_law_found","_law_due_here"] (aB gR):=⟨rfl,rfl,rfl,by decide +kernel,rfl,by decide +kernel,by decide +kernel⟩
theorem IV(T:TF K mg "_law_same" gR)(b_isinstance:mg "isinstance" = none)(b_len:mg "len" = none)(b_list:mg "list" = none)(G_l_kind:Fn P w K mg base C 1 "_law_kind" jd):Fn P w K mg base C 2 "_law_same" fu :=
 ou T yR rfl rfl (fun _ _ _ _ _ _ us hl=>Af us hl (fun _ _=>rfl)) fun f cdv A outer sh H E hr =>
  have nd:(bQ CX0 P w K mg base ["_law_found","_law_due_here"] "_law_same" (aB gR) f cdv A outer sh H E).nox.N.Nodup:=yR.nd
  (aD (bw (PDW.pt (vB (nM (gw (iY (ao (pv 0)) (iC rfl b_list boot_list rfl) rfl b_isinstance boot_isinstance Lw))) (vB (aV (qm hr.units) (cB iW rfl b_len PySem.boot_len (aq (ao (pv 0)) az)) (cB iW rfl b_len PySem.boot_len (aq (ao (pv 1)) az)) (bh _)) (Cz (aV (qm hr.units) (ao (pv 0)) (ao (pv 1)) (bh _)))))) (aH (aO pB)) aZ) (aH (aO (RN (bO hr.units) (jN rfl (gG (oN:=["_law_found","_law_due_here"]) (osc:=aB gR) (N:=["_law_one"]) (μ:=[none]) rfl rfl (by decide +kernel)) (i_ (ao (pv 0))) (fun _ _ _ _=>(e_ (show List.Nodup (["_law_one"]:List Str) by decide +kernel) rfl (by first |exact Or.inl rfl |exact Or.inr rfl))) (fun _ _ _ _=>jc) (fun _ _ _ _=>(bN G_l_kind (hr.mono (by decide)) rfl (aq (ao (pv 0)) az)))) (jN rfl (gG (oN:=["_law_found","_law_due_here"]) (osc:=aB gR) (N:=["_law_one"]) (μ:=[none]) rfl rfl (by decide +kernel)) (i_ (ao (pv 1))) (fun _ _ _ _=>(e_ (show List.Nodup (["_law_one"]:List Str) by decide +kernel) rfl (by first |exact Or.inl rfl |exact Or.inr rfl))) (fun _ _ _ _=>jc) (fun _ _ _ _=>(bN G_l_kind (hr.mono (by decide)) rfl (aq (ao (pv 0)) az)))) (bh _)))))
theorem rT:FnScope ["self"] ["self"] (aB eX):=⟨rfl,rfl,rfl,by decide +kernel,rfl,by decide +kernel,by decide +kernel⟩
theorem zf{dV:Value}{f:Addr}{fd:FuncData}(F:FunV K "pairs" "Ties.pairs" eX dV f fd)(T_Ties:ClD K C "Ties")(n_Ties_length_by:NoA K C "Ties" "length_by")(b_sorted:mg "sorted" = none):FnOk P w K mg base CX0 1 f fd ["self"] (spD K C fZ) :=
 Eg F rT rfl rfl fun cdv A outer sh H E hr =>
  have nd:(bQ CX0 P w K mg base ["self"] "Ties.pairs" (aB eX) f cdv A outer sh H E).nox.N.Nodup:=rT.nd
  (aH (aO (jN rfl (gG (oN:=["self"]) (osc:=aB eX) (N:=["pair","self"]) (μ:=[none,some 0]) rfl rfl (by decide +kernel)) (i_ (Am hr rfl b_sorted boot_sorted (dM T_Ties n_Ties_length_by (ao (pv 0))))) (fun _ _ _ _=>(e_ (show List.Nodup (["pair","self"]:List Str) by decide +kernel) rfl (by first |exact Or.inl rfl |exact Or.inr rfl))) (fun _ _ _ _=>jc) (fun _ _ _ _=>(bc Kl (ao (pv 0)) (bJ (aq (iG (cg hr) (dM T_Ties n_Ties_length_by (ao (pv 1))) (ao (pv 0)) (fun _ _=>rfl)) az)))))))
theorem pP:FnScope ["self"] ["self"] (aB dY):=⟨rfl,rfl,rfl,by decide +kernel,rfl,by decide +kernel,by decide +kernel⟩
theorem wG{dV:Value}{f:Addr}{fd:FuncData}(F:FunV K "waiting" "Ties.waiting" dY dV f fd)(T_Ties:ClD K C "Ties")(n_Ties_sent_on:NoA K C "Ties" "sent_on")(b_sorted:mg "sorted" = none):FnOk P w K mg base CX0 1 f fd ["self"] (spD K C dW) :=
 Eg F pP rfl rfl fun cdv A outer sh H E hr =>
  have nd:(bQ CX0 P w K mg base ["self"] "Ties.waiting" (aB dY) f cdv A outer sh H E).nox.N.Nodup:=pP.nd
  (aH (aO (Am hr rfl b_sorted boot_sorted (dM T_Ties n_Ties_sent_on (ao (pv 0))))))
theorem uF:FnScope ["_law_lot","_law_pair","_law_turn","_law_held","_law_ties","_law_lengths","_law_sent","_law_k","_law_which","_law_found","_law_due_here"] ["_law_lot","_law_pair","_law_turn","_law_held"] (aB eO):=⟨rfl,rfl,rfl,by decide +kernel,rfl,by decide +kernel,by decide +kernel⟩
theorem Ci(T:TF K mg "_law_looked" eO)(M_Ties_pairs_0:Mt P w K mg base C 1 "Ties" "pairs" fZ [])(M_Ties_waiting_0:Mt P w K mg base C 1 "Ties" "waiting" dW [])(b_list:mg "list" = none)(b_range:mg "range" = none)(b_sorted:mg "sorted" = none)(G_l_word:Fn P w K mg base C 4 "_law_word" bU)(G_l_due:Fn P w K mg base C 1 "_law_due" bZ)(G_l_same:Fn P w K mg base C 2 "_law_same" fu):Fn P w K mg base C 5 "_law_looked" gK :=
 ou T uF rfl rfl (fun _ _ _ _ _ _ us hl=>Eo us hl (fun _ _ _ _=>rfl)) fun f cdv A outer sh H E hr =>
  have nd:(bQ CX0 P w K mg base ["_law_lot","_law_pair","_law_turn","_law_held","_law_ties","_law_lengths","_law_sent","_law_k","_law_which","_law_found","_law_due_here"] "_law_looked" (aB eO) f cdv A outer sh H E).nox.N.Nodup:=uF.nd
  (aD (wR (ao (pv 0)) (qp rfl (dz (i:=4) nd rfl (by first |exact Or.inl rfl |exact Or.inr rfl) (dz (i:=5) nd rfl (by first |exact Or.inl rfl |exact Or.inr rfl) (dz (i:=6) nd rfl (by first |exact Or.inl rfl |exact Or.inr rfl) oh))))) (aD (qt PassesOwn.never rfl (qX rfl b_range (aq aL az)) (e_ nd rfl (by first |exact Or.inl rfl |exact Or.inr rfl)) (aD (bM (i:=8) nd rfl (by first |exact Or.inl rfl |exact Or.inr rfl) (gb (bR (aq (bc bY (bc iD (ao (pv 2)) (ao (pv 7))) aL) (aq (bc bY (bc Od (ao (pv 2)) (ao (pv 7))) aL) az))) (bc bY (bc fV (ao (pv 2)) aL) aL))) (aD (bw (aV (bO hr.units) (ao (pv 8)) aL (bh _)) (aD (bM (i:=9) nd rfl (by first |exact Or.inl rfl |exact Or.inr rfl) (zT M_Ties_pairs_0 (hr.mono (by decide)) (ao (pv 4)))) (aH (bM (i:=10) nd rfl (by first |exact Or.inl rfl |exact Or.inr rfl) (uY hr rfl b_sorted boot_sorted (jN rfl (gG (oN:=["_law_lot","_law_pair","_law_turn","_law_held","_law_ties","_law_lengths","_law_sent","_law_k","_law_which","_law_found","_law_due_here"]) (osc:=aB eO) (N:=["_law_one","_law_lengths"]) (μ:=[none,some 5]) rfl rfl (by decide +kernel)) (i_ (rn hr.hd rfl b_list boot_list (ao (pv 5)))) (fun _ _ _ _=>(e_ (show List.Nodup (["_law_one","_law_lengths"]:List Str) by decide +kernel) rfl (by first |exact Or.inl rfl |exact Or.inr rfl))) (fun _ _ _ _=>jc) (fun _ _ _ _=>(bJ (aq (gb (ao (pv 0)) aL) (aq (gb (ao (pv 0)) aL) (aq (iG (cg hr) (ao (pv 1)) (ao (pv 0)) (fun _ _=>rfl)) az)))))))))) (aH (bw (aV (bO hr.units) (ao (pv 8)) aL (bh _)) (aD (bM (i:=9) nd rfl (by first |exact Or.inl rfl |exact Or.inr rfl) (zT M_Ties_waiting_0 (hr.mono (by decide)) (ao (pv 4)))) (aH (bM (i:=10) nd rfl (by first |exact Or.inl rfl |exact Or.inr rfl) (uY hr rfl b_sorted boot_sorted (jN rfl (gG (oN:=["_law_lot","_law_pair","_law_turn","_law_held","_law_ties","_law_lengths","_law_sent","_law_k","_law_which","_law_found","_law_due_here"]) (osc:=aB eO) (N:=["_law_direction","_law_sent"]) (μ:=[none,some 6]) rfl rfl (by decide +kernel)) (i_ (rn hr.hd rfl b_list boot_list (ao (pv 6)))) (fun _ _ _ _=>(e_ (show List.Nodup (["_law_direction","_law_sent"]:List Str) by decide +kernel) rfl (by first |exact Or.inl rfl |exact Or.inr rfl))) (fun _ _ _ _=>(JM (PQ hr.units (iG (cg hr) (ao (pv 1)) (ao (pv 0)) (fun _ _=>rfl)) (bR az) (bh _)))) (fun _ _ _ _=>(ao (pv 0)))))))) (aD (bM (i:=9) nd rfl (by first |exact Or.inl rfl |exact Or.inr rfl) (bR (aq (bN G_l_word (hr.mono (by decide)) rfl (aq aQ (aq (ao (pv 4)) (aq (gb (ao (pv 1)) aL) (aq (gb (ao (pv 1)) aL) (aq aL az)))))) az))) (aH (bM (i:=10) nd rfl (by first |exact Or.inl rfl |exact Or.inr rfl) (bR (aq (bN G_l_due (hr.mono (by decide)) rfl (aq aQ (aq (ao (pv 5)) (aq (ao (pv 6)) (aq (gb (ao (pv 1)) aL) (aq (gb (ao (pv 1)) aL) (aq aL az))))))) az)))))))) (aD (bw (nM (gw (bN G_l_same (hr.mono (by decide)) rfl (aq (ao (pv 9)) (aq (ao (pv 10)) az))))) (aH (aO pB)) aZ) (aH (uX (ao (pv 3)) (bJ (aq (ao (pv 9)) (aq (sy vD rfl b_list boot_list (aq (ao (pv 10)) az)) az))))))))) (aH (aO pB))))
theorem IW:FnScope ["_law_script","_law_draws_here","_law_houses_here","_law_lots","_law_held","_law_cell","_law_ties","_law_lengths","_law_sent","_law_way","_law_one","_law_other","_law_thing","_law_due_here","_law_found","_law_lot"] ["_law_script"] (aB lG):=⟨rfl,rfl,rfl,by decide +kernel,rfl,by decide +kernel,by decide +kernel⟩
end
theorem BL{P:Program}{w:World}{K:PySem.W.Frag}{mg:Str->Option Value}{base:Heap}{C:Cl}{f:Addr}{fd:FuncData}(F:Fun K "law" "law" lG f fd)(K_Ties:MkD P w K mg base C 1 "Ties" bW [])(b_all:mg "all" = none)(b_isinstance:mg "isinstance" = none)(b_len:mg "len" = none)(b_list:mg "list" = none)(b_min:mg "min" = none)(b_sorted:mg "sorted" = none)(b_str:mg "str" = none)(G_l_draws:Fn P w K mg base C 2 "_law_draws" mF)(G_l_cell_at:Fn P w K mg base C 1 "_law_cell_at" cR)(G_l_houses:Fn P w K mg base C 1 "_law_houses" k_)(G_l_note:Fn P w K mg base C 1 "_law_note" lW)(G_l_due:Fn P w K mg base C 1 "_law_due" bZ)(G_l_word:Fn P w K mg base C 4 "_law_word" bU)(G_l_same:Fn P w K mg base C 2 "_law_same" fu)(G_l_looked:Fn P w K mg base C 5 "_law_looked" gK):FnOk P w K mg base CX0 6 f fd ["_law_script"] (spD K C um) :=
 RX F IW rfl rfl fun cdv A outer sh H E hr =>
  have nd:(bQ CX0 P w K mg base ["_law_script","_law_draws_here","_law_houses_here","_law_lots","_law_held","_law_cell","_law_ties","_law_lengths","_law_sent","_law_way","_law_one","_law_other","_law_thing","_law_due_here","_law_found","_law_lot"] "law" (aB lG) f cdv A outer sh H E).nox.N.Nodup:=IW.nd
  (aD (bM (i:=1) nd rfl (by first |exact Or.inl rfl |exact Or.inr rfl) (bN G_l_draws (hr.mono (by decide)) rfl (aq (ao (pv 0)) (aq (bc iD (bc iD aL (cB (mq rfl) rfl b_min boot_min (aq aL (aq (cB iW rfl b_len PySem.boot_len (aq (ao (pv 0)) az)) az)))) (bc bY (bN G_l_cell_at (hr.mono (by decide)) rfl (aq (ao (pv 0)) (aq aL az))) aL)) az)))) (aD (bM (i:=2) nd rfl (by first |exact Or.inl rfl |exact Or.inr rfl) (bN G_l_houses (hr.mono (by decide)) rfl (aq (gb (ao (pv 1)) aL) az))) (aD (bM (i:=3) nd rfl (by first |exact Or.inl rfl |exact Or.inr rfl) (bR (aq (bJ (aq (zU K_Ties (hr.mono (by decide)) rfl) (aq nP (aq nP az)))) (aq (bJ (aq (zU K_Ties (hr.mono (by decide)) rfl) (aq nP (aq nP az)))) az)))) (aD (bM (i:=4) nd rfl (by first |exact Or.inl rfl |exact Or.inr rfl) (qH az)) (aD (qt PassesOwn.never rfl (i_ (Ug (ao (pv 1)) (JG aL) JF)) (e_ nd rfl (by first |exact Or.inl rfl |exact Or.inr rfl)) (aD (wR (gb (ao (pv 3)) (bc bY (ao (pv 5)) aL)) (qp rfl (dz (i:=6) nd rfl (by first |exact Or.inl rfl |exact Or.inr rfl) (dz (i:=7) nd rfl (by first |exact Or.inl rfl |exact Or.inr rfl) (dz (i:=8) nd rfl (by first |exact Or.inl rfl |exact Or.inr rfl) oh))))) (aD (bM (i:=9) nd rfl (by first |exact Or.inl rfl |exact Or.inr rfl) (gb (bR (aq aQ (aq aQ (aq aQ (aq aQ (aq aQ (aq aQ (aq aQ (aq aQ (aq aQ az)))))))))) (bc bY (bc fV (ao (pv 5)) aL) aL))) (aD (bM (i:=10) nd rfl (by first |exact Or.inl rfl |exact Or.inr rfl) (gb (ao (pv 2)) (bc bY (bc fV (ao (pv 5)) aL) (cB iW rfl b_len PySem.boot_len (aq (ao (pv 2)) az))))) (aD (bM (i:=11) nd rfl (by first |exact Or.inl rfl |exact Or.inr rfl) (gb (ao (pv 2)) (bc bY (bc fV (ao (pv 5)) aL) (cB iW rfl b_len PySem.boot_len (aq (ao (pv 2)) az))))) (aD (bw (PDW.pt (lN (aV (qm hr.units) (rn hr.hd rfl b_list boot_list (ao (pv 8))) (bR az) (bh _)) (lN (aV Pz (ao (pv 9)) (bR (aq aQ (aq aQ (aq aQ az)))) rfl) (lM (aV RV (bc bY (bc fV (ao (pv 5)) aL) aL) aL (bh _)))))) (aH (wR (gb (uY hr rfl b_sorted boot_sorted (rn hr.hd rfl b_list boot_list (ao (pv 8)))) (bc bY (bc fV (ao (pv 5)) aL) (OJ rfl b_len PySem.boot_len (ao (pv 8))))) (qp rfl (dz (i:=10) nd rfl (by first |exact Or.inl rfl |exact Or.inr rfl) (dz (i:=11) nd rfl (by first |exact Or.inl rfl |exact Or.inr rfl) oh))))) aZ) (aD (bM (i:=12) nd rfl (by first |exact Or.inl rfl |exact Or.inr rfl) (bN G_l_note (hr.mono (by decide)) rfl (aq (bc fV (ao (pv 5)) aL) az))) (aD (bw (aV (bO hr.units) (ao (pv 9)) aQ (bh _)) (aH (bM (i:=12) nd rfl (by first |exact Or.inl rfl |exact Or.inr rfl) (bc iD aL (bc bY (bc fV (ao (pv 5)) aL) aL)))) aZ) (aD (bM (i:=13) nd rfl (by first |exact Or.inl rfl |exact Or.inr rfl) (bN G_l_due (hr.mono (by decide)) rfl (aq (ao (pv 9)) (aq (ao (pv 7)) (aq (ao (pv 8)) (aq (ao (pv 10)) (aq (ao (pv 11)) (aq (ao (pv 12)) az)))))))) (aD (bM (i:=14) nd rfl (by first |exact Or.inl rfl |exact Or.inr rfl) (bN G_l_word (hr.mono (by decide)) rfl (aq (ao (pv 9)) (aq (ao (pv 6)) (aq (ao (pv 10)) (aq (ao (pv 11)) (aq (ao (pv 12)) az))))))) (aD (bw (PDW.pt (lN (gw (iY (ao (pv 13)) (iC rfl b_str boot_str rfl) rfl b_isinstance boot_isinstance xX)) (lM (aV (qm hr.units) (ao (pv 14)) (ao (pv 13)) (bh _))))) (aH (aO pB)) aZ) (aD (bw (PDW.pt (lN (nM (gw (iY (ao (pv 13)) (iC rfl b_str boot_str rfl) rfl b_isinstance boot_isinstance xX))) (lM (nM (gw (bN G_l_same (hr.mono (by decide)) rfl (aq (ao (pv 14)) (aq (ao (pv 13)) az)))))))) (aH (aO pB)) aZ) (aH (qt PassesOwn.never rfl (i_ (ao (pv 3))) (e_ nd rfl (by first |exact Or.inl rfl |exact Or.inr rfl)) (aH (bw (nM (gw (bN G_l_looked (hr.mono (by decide)) rfl (aq (ao (pv 15)) (aq (bJ (aq (ao (pv 10)) (aq (ao (pv 11)) az))) (aq (bc bY (bc fV (ao (pv 5)) aL) aL) (aq (ao (pv 4)) az))))))) (aH (aO pB)) aZ)))))))))))))))) (aH (aO (cB (yD hr.hd) rfl b_all boot_all (aq (Ar rfl (gG (oN:=["_law_script","_law_draws_here","_law_houses_here","_law_lots","_law_held","_law_cell","_law_ties","_law_lengths","_law_sent","_law_way","_law_one","_law_other","_law_thing","_law_due_here","_law_found","_law_lot"]) (osc:=aB lG) (N:=["_law_found","_law_due_here"]) (μ:=[none,none]) rfl rfl (by decide +kernel)) (ao (pv 4)) (fun _ _ _ _=>(qp rfl (dz (i:=0) (show List.Nodup (["_law_found","_law_due_here"]:List Str) by decide +kernel) rfl (by first |exact Or.inl rfl |exact Or.inr rfl) (dz (i:=1) (show List.Nodup (["_law_found","_law_due_here"]:List Str) by decide +kernel) rfl (by first |exact Or.inl rfl |exact Or.inr rfl) oh)))) (fun _ _ _ _=>jc) (fun _ _ _ _=>(bN G_l_same (hr.mono (by decide)) rfl (aq (ao (pv 0)) (aq (ao (pv 1)) az))))) az)))))))))
theorem all_mk{P:Program}{w:World}{K:PySem.W.Frag}{h:Heap}{mg:Str->Option Value}{fa f_l_cell_at f_l_draws f_l_houses f_l_note f_l_due f_in_pair f_Ties_need_pair f_made_anew f_Ties_notes f_Ties_come f_Ties_fall f_Ties_send f_Ties_carry f_Ties_length f_l_word f_Ties___init__ f_l_kind f_l_same f_Ties_pairs f_Ties_waiting f_l_looked f_law C_Ties C_BadDeed C_BadText C_NoHouse C_NoNote C_NoRow C_NotTied C_Owned C_PostError C_Tied:Addr}(X:K.In h)(G:h.Ns mainGlobals mg)(hfa:mg "law" = some (.ref fa))
  {od_l_cell_at an_l_cell_at:Option Addr} {sl_l_cell_at:Array (Option Value)} {oc_l_cell_at kV_l_cell_at dc_l_cell_at pm_l_cell_at cd_l_cell_at ct_l_cell_at:Value}
  {od_l_draws an_l_draws:Option Addr} {sl_l_draws:Array (Option Value)} {oc_l_draws kV_l_draws dc_l_draws pm_l_draws cd_l_draws ct_l_draws:Value}
  {od_l_houses an_l_houses:Option Addr} {sl_l_houses:Array (Option Value)} {oc_l_houses kV_l_houses dc_l_houses pm_l_houses cd_l_houses ct_l_houses:Value}
  {od_l_note an_l_note:Option Addr} {sl_l_note:Array (Option Value)} {oc_l_note kV_l_note dc_l_note pm_l_note cd_l_note ct_l_note:Value}
  {od_l_due an_l_due:Option Addr} {sl_l_due:Array (Option Value)} {oc_l_due kV_l_due dc_l_due pm_l_due cd_l_due ct_l_due:Value}
  {od_in_pair an_in_pair:Option Addr} {sl_in_pair:Array (Option Value)} {oc_in_pair kV_in_pair dc_in_pair pm_in_pair cd_in_pair ct_in_pair:Value}
  {od_Ties_need_pair an_Ties_need_pair:Option Addr} {sl_Ties_need_pair:Array (Option Value)} {oc_Ties_need_pair kV_Ties_need_pair dc_Ties_need_pair pm_Ties_need_pair cd_Ties_need_pair ct_Ties_need_pair:Value}
  {od_made_anew an_made_anew:Option Addr} {sl_made_anew:Array (Option Value)} {oc_made_anew kV_made_anew dc_made_anew pm_made_anew cd_made_anew ct_made_anew:Value}
  {od_Ties_notes an_Ties_notes:Option Addr} {sl_Ties_notes:Array (Option Value)} {oc_Ties_notes kV_Ties_notes dc_Ties_notes pm_Ties_notes cd_Ties_notes ct_Ties_notes:Value}
  {od_Ties_come an_Ties_come:Option Addr} {sl_Ties_come:Array (Option Value)} {oc_Ties_come kV_Ties_come dc_Ties_come pm_Ties_come cd_Ties_come ct_Ties_come:Value}
  {od_Ties_fall an_Ties_fall:Option Addr} {sl_Ties_fall:Array (Option Value)} {oc_Ties_fall kV_Ties_fall dc_Ties_fall pm_Ties_fall cd_Ties_fall ct_Ties_fall:Value}
  {od_Ties_send an_Ties_send:Option Addr} {sl_Ties_send:Array (Option Value)} {oc_Ties_send kV_Ties_send dc_Ties_send pm_Ties_send cd_Ties_send ct_Ties_send:Value}
  {od_Ties_carry an_Ties_carry:Option Addr} {sl_Ties_carry:Array (Option Value)} {oc_Ties_carry kV_Ties_carry dc_Ties_carry pm_Ties_carry cd_Ties_carry ct_Ties_carry:Value}
  {od_Ties_length an_Ties_length:Option Addr} {sl_Ties_length:Array (Option Value)} {oc_Ties_length kV_Ties_length dc_Ties_length pm_Ties_length cd_Ties_length ct_Ties_length:Value}
  {od_l_word an_l_word:Option Addr} {sl_l_word:Array (Option Value)} {oc_l_word kV_l_word dc_l_word pm_l_word cd_l_word ct_l_word:Value}
  {od_Ties___init__ an_Ties___init__:Option Addr} {sl_Ties___init__:Array (Option Value)} {oc_Ties___init__ kV_Ties___init__ dc_Ties___init__ pm_Ties___init__ cd_Ties___init__ ct_Ties___init__:Value}
  {od_l_kind an_l_kind:Option Addr} {sl_l_kind:Array (Option Value)} {oc_l_kind kV_l_kind dc_l_kind pm_l_kind cd_l_kind ct_l_kind:Value}
  {od_l_same an_l_same:Option Addr} {sl_l_same:Array (Option Value)} {oc_l_same kV_l_same dc_l_same pm_l_same cd_l_same ct_l_same:Value}
  {od_Ties_pairs an_Ties_pairs:Option Addr} {sl_Ties_pairs:Array (Option Value)} {oc_Ties_pairs kV_Ties_pairs dc_Ties_pairs pm_Ties_pairs cd_Ties_pairs ct_Ties_pairs:Value}
  {od_Ties_waiting an_Ties_waiting:Option Addr} {sl_Ties_waiting:Array (Option Value)} {oc_Ties_waiting kV_Ties_waiting dc_Ties_waiting pm_Ties_waiting cd_Ties_waiting ct_Ties_waiting:Value}
  {od_l_looked an_l_looked:Option Addr} {sl_l_looked:Array (Option Value)} {oc_l_looked kV_l_looked dc_l_looked pm_l_looked cd_l_looked ct_l_looked:Value}
  {od_law an_law:Option Addr} {sl_law:Array (Option Value)} {oc_law kV_law dc_law pm_law cd_law ct_law:Value}
  (a_l_cell_at:PySem.W.nsIn K mainGlobals "_law_cell_at" = some (some (.ref f_l_cell_at)))
  (l_l_cell_at:K.lookup f_l_cell_at=some ⟨oc_l_cell_at,od_l_cell_at,.func (PySem.W.fnOf "_law_cell_at" "_law_cell_at" (bB fO) (bf fO) (aB fO) .none kV_l_cell_at dc_l_cell_at pm_l_cell_at an_l_cell_at cd_l_cell_at ct_l_cell_at),sl_l_cell_at⟩) (cc_l_cell_at:PySem.W.codeIn K cd_l_cell_at "_law_cell_at" = true) (k_l_cell_at:PySem.W.keepIn K (.ref f_l_cell_at)=true)
  (a_l_draws:PySem.W.nsIn K mainGlobals "_law_draws" = some (some (.ref f_l_draws)))
  (l_l_draws:K.lookup f_l_draws=some ⟨oc_l_draws,od_l_draws,.func (PySem.W.fnOf "_law_draws" "_law_draws" (bB ig) (bf ig) (aB ig) .none kV_l_draws dc_l_draws pm_l_draws an_l_draws cd_l_draws ct_l_draws),sl_l_draws⟩) (cc_l_draws:PySem.W.codeIn K cd_l_draws "_law_draws" = true) (k_l_draws:PySem.W.keepIn K (.ref f_l_draws)=true)
  (a_l_houses:PySem.W.nsIn K mainGlobals "_law_houses" = some (some (.ref f_l_houses)))
  (l_l_houses:K.lookup f_l_houses=some ⟨oc_l_houses,od_l_houses,.func (PySem.W.fnOf "_law_houses" "_law_houses" (bB fM) (bf fM) (aB fM) .none kV_l_houses dc_l_houses pm_l_houses an_l_houses cd_l_houses ct_l_houses),sl_l_houses⟩) (cc_l_houses:PySem.W.codeIn K cd_l_houses "_law_houses" = true) (k_l_houses:PySem.W.keepIn K (.ref f_l_houses)=true)
  (a_l_note:PySem.W.nsIn K mainGlobals "_law_note" = some (some (.ref f_l_note)))
  (l_l_note:K.lookup f_l_note=some ⟨oc_l_note,od_l_note,.func (PySem.W.fnOf "_law_note" "_law_note" (bB jg) (bf jg) (aB jg) .none kV_l_note dc_l_note pm_l_note an_l_note cd_l_note ct_l_note),sl_l_note⟩) (cc_l_note:PySem.W.codeIn K cd_l_note "_law_note" = true) (k_l_note:PySem.W.keepIn K (.ref f_l_note)=true)
  (a_l_due:PySem.W.nsIn K mainGlobals "_law_due" = some (some (.ref f_l_due)))
  (l_l_due:K.lookup f_l_due=some ⟨oc_l_due,od_l_due,.func (PySem.W.fnOf "_law_due" "_law_due" (bB jY) (bf jY) (aB jY) .none kV_l_due dc_l_due pm_l_due an_l_due cd_l_due ct_l_due),sl_l_due⟩) (cc_l_due:PySem.W.codeIn K cd_l_due "_law_due" = true) (k_l_due:PySem.W.keepIn K (.ref f_l_due)=true)
  (a_in_pair:PySem.W.nsIn K mainGlobals "in_pair" = some (some (.ref f_in_pair)))
  (l_in_pair:K.lookup f_in_pair=some ⟨oc_in_pair,od_in_pair,.func (PySem.W.fnOf "in_pair" "in_pair" (bB ik) (bf ik) (aB ik) .none kV_in_pair dc_in_pair pm_in_pair an_in_pair cd_in_pair ct_in_pair),sl_in_pair⟩) (cc_in_pair:PySem.W.codeIn K cd_in_pair "in_pair" = true) (k_in_pair:PySem.W.keepIn K (.ref f_in_pair)=true)
  (a_Ties_need_pair:PySem.W.findIn K (.ref C_Ties) "need_pair" = some (some (.ref f_Ties_need_pair))) (i_Ties_need_pair:PySem.W.isFn K (.ref f_Ties_need_pair)=true)
  (l_Ties_need_pair:K.lookup f_Ties_need_pair=some ⟨oc_Ties_need_pair,od_Ties_need_pair,.func (PySem.W.fnOf "need_pair" "Ties.need_pair" (bB cI) (bf cI) (aB cI) .none kV_Ties_need_pair dc_Ties_need_pair pm_Ties_need_pair an_Ties_need_pair cd_Ties_need_pair ct_Ties_need_pair),sl_Ties_need_pair⟩) (cc_Ties_need_pair:PySem.W.codeIn K cd_Ties_need_pair "Ties.need_pair" = true) (k_Ties_need_pair:PySem.W.keepIn K (.ref f_Ties_need_pair)=true)
  (a_made_anew:PySem.W.nsIn K mainGlobals "made_anew" = some (some (.ref f_made_anew)))
  (l_made_anew:K.lookup f_made_anew=some ⟨oc_made_anew,od_made_anew,.func (PySem.W.fnOf "made_anew" "made_anew" (bB eN) (bf eN) (aB eN) .none kV_made_anew dc_made_anew pm_made_anew an_made_anew cd_made_anew ct_made_anew),sl_made_anew⟩) (cc_made_anew:PySem.W.codeIn K cd_made_anew "made_anew" = true) (k_made_anew:PySem.W.keepIn K (.ref f_made_anew)=true)
  (a_Ties_notes:PySem.W.findIn K (.ref C_Ties) "notes" = some (some (.ref f_Ties_notes))) (i_Ties_notes:PySem.W.isFn K (.ref f_Ties_notes)=true)
  (l_Ties_notes:K.lookup f_Ties_notes=some ⟨oc_Ties_notes,od_Ties_notes,.func (PySem.W.fnOf "notes" "Ties.notes" (bB du) (bf du) (aB du) .none kV_Ties_notes dc_Ties_notes pm_Ties_notes an_Ties_notes cd_Ties_notes ct_Ties_notes),sl_Ties_notes⟩) (cc_Ties_notes:PySem.W.codeIn K cd_Ties_notes "Ties.notes" = true) (k_Ties_notes:PySem.W.keepIn K (.ref f_Ties_notes)=true)
  (a_Ties_come:PySem.W.findIn K (.ref C_Ties) "come" = some (some (.ref f_Ties_come))) (i_Ties_come:PySem.W.isFn K (.ref f_Ties_come)=true)
  (l_Ties_come:K.lookup f_Ties_come=some ⟨oc_Ties_come,od_Ties_come,.func (PySem.W.fnOf "come" "Ties.come" (bB fP) (bf fP) (aB fP) .none kV_Ties_come dc_Ties_come pm_Ties_come an_Ties_come cd_Ties_come ct_Ties_come),sl_Ties_come⟩) (cc_Ties_come:PySem.W.codeIn K cd_Ties_come "Ties.come" = true) (k_Ties_come:PySem.W.keepIn K (.ref f_Ties_come)=true)
  (a_Ties_fall:PySem.W.findIn K (.ref C_Ties) "fall" = some (some (.ref f_Ties_fall))) (i_Ties_fall:PySem.W.isFn K (.ref f_Ties_fall)=true)
  (l_Ties_fall:K.lookup f_Ties_fall=some ⟨oc_Ties_fall,od_Ties_fall,.func (PySem.W.fnOf "fall" "Ties.fall" (bB fQ) (bf fQ) (aB fQ) .none kV_Ties_fall dc_Ties_fall pm_Ties_fall an_Ties_fall cd_Ties_fall ct_Ties_fall),sl_Ties_fall⟩) (cc_Ties_fall:PySem.W.codeIn K cd_Ties_fall "Ties.fall" = true) (k_Ties_fall:PySem.W.keepIn K (.ref f_Ties_fall)=true)
  (a_Ties_send:PySem.W.findIn K (.ref C_Ties) "send" = some (some (.ref f_Ties_send))) (i_Ties_send:PySem.W.isFn K (.ref f_Ties_send)=true)
  (l_Ties_send:K.lookup f_Ties_send=some ⟨oc_Ties_send,od_Ties_send,.func (PySem.W.fnOf "send" "Ties.send" (bB fU) (bf fU) (aB fU) .none kV_Ties_send dc_Ties_send pm_Ties_send an_Ties_send cd_Ties_send ct_Ties_send),sl_Ties_send⟩) (cc_Ties_send:PySem.W.codeIn K cd_Ties_send "Ties.send" = true) (k_Ties_send:PySem.W.keepIn K (.ref f_Ties_send)=true)
  (a_Ties_carry:PySem.W.findIn K (.ref C_Ties) "carry" = some (some (.ref f_Ties_carry))) (i_Ties_carry:PySem.W.isFn K (.ref f_Ties_carry)=true)
  (l_Ties_carry:K.lookup f_Ties_carry=some ⟨oc_Ties_carry,od_Ties_carry,.func (PySem.W.fnOf "carry" "Ties.carry" (bB eV) (bf eV) (aB eV) .none kV_Ties_carry dc_Ties_carry pm_Ties_carry an_Ties_carry cd_Ties_carry ct_Ties_carry),sl_Ties_carry⟩) (cc_Ties_carry:PySem.W.codeIn K cd_Ties_carry "Ties.carry" = true) (k_Ties_carry:PySem.W.keepIn K (.ref f_Ties_carry)=true)
  (a_Ties_length:PySem.W.findIn K (.ref C_Ties) "length" = some (some (.ref f_Ties_length))) (i_Ties_length:PySem.W.isFn K (.ref f_Ties_length)=true)
  (l_Ties_length:K.lookup f_Ties_length=some ⟨oc_Ties_length,od_Ties_length,.func (PySem.W.fnOf "length" "Ties.length" (bB dF) (bf dF) (aB dF) .none kV_Ties_length dc_Ties_length pm_Ties_length an_Ties_length cd_Ties_length ct_Ties_length),sl_Ties_length⟩) (cc_Ties_length:PySem.W.codeIn K cd_Ties_length "Ties.length" = true) (k_Ties_length:PySem.W.keepIn K (.ref f_Ties_length)=true)
  (a_l_word:PySem.W.nsIn K mainGlobals "_law_word" = some (some (.ref f_l_word)))
  (l_l_word:K.lookup f_l_word=some ⟨oc_l_word,od_l_word,.func (PySem.W.fnOf "_law_word" "_law_word" (bB jh) (bf jh) (aB jh) .none kV_l_word dc_l_word pm_l_word an_l_word cd_l_word ct_l_word),sl_l_word⟩) (cc_l_word:PySem.W.codeIn K cd_l_word "_law_word" = true) (k_l_word:PySem.W.keepIn K (.ref f_l_word)=true)
  (a_Ties___init__:PySem.W.findIn K (.ref C_Ties) "__init__" = some (some (.ref f_Ties___init__))) (i_Ties___init__:PySem.W.isFn K (.ref f_Ties___init__)=true)
  (l_Ties___init__:K.lookup f_Ties___init__=some ⟨oc_Ties___init__,od_Ties___init__,.func (PySem.W.fnOf "__init__" "Ties.__init__" (bB dw) (bf dw) (aB dw) .none kV_Ties___init__ dc_Ties___init__ pm_Ties___init__ an_Ties___init__ cd_Ties___init__ ct_Ties___init__),sl_Ties___init__⟩) (cc_Ties___init__:PySem.W.codeIn K cd_Ties___init__ "Ties.__init__" = true) (k_Ties___init__:PySem.W.keepIn K (.ref f_Ties___init__)=true)
  (a_l_kind:PySem.W.nsIn K mainGlobals "_law_kind" = some (some (.ref f_l_kind)))
  (l_l_kind:K.lookup f_l_kind=some ⟨oc_l_kind,od_l_kind,.func (PySem.W.fnOf "_law_kind" "_law_kind" (bB ji) (bf ji) (aB ji) .none kV_l_kind dc_l_kind pm_l_kind an_l_kind cd_l_kind ct_l_kind),sl_l_kind⟩) (cc_l_kind:PySem.W.codeIn K cd_l_kind "_law_kind" = true) (k_l_kind:PySem.W.keepIn K (.ref f_l_kind)=true)
  (a_l_same:PySem.W.nsIn K mainGlobals "_law_same" = some (some (.ref f_l_same)))
  (l_l_same:K.lookup f_l_same=some ⟨oc_l_same,od_l_same,.func (PySem.W.fnOf "_law_same" "_law_same" (bB gR) (bf gR) (aB gR) .none kV_l_same dc_l_same pm_l_same an_l_same cd_l_same ct_l_same),sl_l_same⟩) (cc_l_same:PySem.W.codeIn K cd_l_same "_law_same" = true) (k_l_same:PySem.W.keepIn K (.ref f_l_same)=true)
  (a_Ties_pairs:PySem.W.findIn K (.ref C_Ties) "pairs" = some (some (.ref f_Ties_pairs))) (i_Ties_pairs:PySem.W.isFn K (.ref f_Ties_pairs)=true)
  (l_Ties_pairs:K.lookup f_Ties_pairs=some ⟨oc_Ties_pairs,od_Ties_pairs,.func (PySem.W.fnOf "pairs" "Ties.pairs" (bB eX) (bf eX) (aB eX) .none kV_Ties_pairs dc_Ties_pairs pm_Ties_pairs an_Ties_pairs cd_Ties_pairs ct_Ties_pairs),sl_Ties_pairs⟩) (cc_Ties_pairs:PySem.W.codeIn K cd_Ties_pairs "Ties.pairs" = true) (k_Ties_pairs:PySem.W.keepIn K (.ref f_Ties_pairs)=true)
  (a_Ties_waiting:PySem.W.findIn K (.ref C_Ties) "waiting" = some (some (.ref f_Ties_waiting))) (i_Ties_waiting:PySem.W.isFn K (.ref f_Ties_waiting)=true)
  (l_Ties_waiting:K.lookup f_Ties_waiting=some ⟨oc_Ties_waiting,od_Ties_waiting,.func (PySem.W.fnOf "waiting" "Ties.waiting" (bB dY) (bf dY) (aB dY) .none kV_Ties_waiting dc_Ties_waiting pm_Ties_waiting an_Ties_waiting cd_Ties_waiting ct_Ties_waiting),sl_Ties_waiting⟩) (cc_Ties_waiting:PySem.W.codeIn K cd_Ties_waiting "Ties.waiting" = true) (k_Ties_waiting:PySem.W.keepIn K (.ref f_Ties_waiting)=true)
  (a_l_looked:PySem.W.nsIn K mainGlobals "_law_looked" = some (some (.ref f_l_looked)))
  (l_l_looked:K.lookup f_l_looked=some ⟨oc_l_looked,od_l_looked,.func (PySem.W.fnOf "_law_looked" "_law_looked" (bB eO) (bf eO) (aB eO) .none kV_l_looked dc_l_looked pm_l_looked an_l_looked cd_l_looked ct_l_looked),sl_l_looked⟩) (cc_l_looked:PySem.W.codeIn K cd_l_looked "_law_looked" = true) (k_l_looked:PySem.W.keepIn K (.ref f_l_looked)=true)
  (a_law:PySem.W.nsIn K mainGlobals "law" = some (some (.ref f_law)))
  (l_law:K.lookup f_law=some ⟨oc_law,od_law,.func (PySem.W.fnOf "law" "law" (bB lG) (bf lG) (aB lG) .none kV_law dc_law pm_law an_law cd_law ct_law),sl_law⟩) (cc_law:PySem.W.codeIn K cd_law "law" = true) (k_law:PySem.W.keepIn K (.ref f_law)=true)
  (a_Ties:PySem.W.nsIn K mainGlobals "Ties" = some (some (.ref C_Ties))) (pg_Ties:PySem.W.plainGet K C_Ties Str.empty=true) (hd_Ties:PySem.W.hasDictIn K C_Ties=true) (po_Ties:PySem.W.plainOver K C_Ties=true) (sa_Ties:PySem.W.findIn K (.ref C_Ties) "__setattr__" = some (some (.builtin "object.__setattr__"))) (mk_Ties:PySem.W.makesIn K C_Ties=true) (kc_Ties:PySem.W.keepIn K (.ref C_Ties)=true)
  (a_BadDeed:PySem.W.nsIn K mainGlobals "BadDeed" = some (some (.ref C_BadDeed)))
  (a_BadText:PySem.W.nsIn K mainGlobals "BadText" = some (some (.ref C_BadText)))
  (a_NoHouse:PySem.W.nsIn K mainGlobals "NoHouse" = some (some (.ref C_NoHouse)))
  (a_NoNote:PySem.W.nsIn K mainGlobals "NoNote" = some (some (.ref C_NoNote)))
  (a_NoRow:PySem.W.nsIn K mainGlobals "NoRow" = some (some (.ref C_NoRow)))
  (a_NotTied:PySem.W.nsIn K mainGlobals "NotTied" = some (some (.ref C_NotTied)))
  (a_Owned:PySem.W.nsIn K mainGlobals "Owned" = some (some (.ref C_Owned)))
  (a_PostError:PySem.W.nsIn K mainGlobals "PostError" = some (some (.ref C_PostError)))
  (a_Tied:PySem.W.nsIn K mainGlobals "Tied" = some (some (.ref C_Tied)))
  (lk_hn:PySem.W.specialIn K (.builtin "object.__class__") "__get__" = some (some (.builtin "getset_descriptor.__get__")))
  (lk_tk:PySem.W.takesIn K (.builtin "object.__class__")=some true)
  (ow_NoHouse:ownIn K C_NoHouse mV "ValueError.__new__" = true)
  (lk_cl_NoHouse:(PySem.W.clsIn K C_NoHouse).isSome=true)
  (lk_ga_NoHouse:PySem.W.findIn K (.ref C_NoHouse) "__getattribute__" = some (some (.builtin "BaseException.__getattribute__")))
  (lk_hk_NoHouse:PySem.W.findIn K (.ref C_NoHouse) "__getattr__" = some none)
  (lk_sub_NoHouse:PySem.W.subIn K (.ref C_NoHouse) (.type "BaseException")=some true)
  (lk_ha_NoHouse:PySem.W.findIn K (.ref C_NoHouse) "__class__" = some (some (.builtin "object.__class__")))
  (lk_hm_NoHouse:PySem.W.mroIn K C_NoHouse (.type "object")=some true)
  (ex_NoHouse_PostError:PySem.W.exmOne K (.ref C_NoHouse) (.ref C_PostError)=some true)
  (y_0_NoHouse:PySem.W.kitOne K (.ref C_NoHouse) (.ref C_NoNote)=some false)
  (y_1_NoHouse:PySem.W.kitOne K (.ref C_NoHouse) (.ref C_NotTied)=some false)
  (y_2_NoHouse:PySem.W.kitOne K (.ref C_NoHouse) (.ref C_Tied)=some false)
  (y_3_NoHouse:PySem.W.kitOne K (.ref C_NoHouse) (.ref C_NoHouse)=some true)
  (y_4_NoHouse:PySem.W.kitAny K (.ref C_NoHouse) [.ref C_BadText,.ref C_NoRow,.ref C_Owned,.ref C_BadDeed]=some false)
  (y_5_NoHouse:PySem.W.kitOne K (.ref C_NoHouse) (.type "ValueError")=some true)
  (ow_NoNote:ownIn K C_NoNote mV "ValueError.__new__" = true)
  (lk_cl_NoNote:(PySem.W.clsIn K C_NoNote).isSome=true)
  (lk_ga_NoNote:PySem.W.findIn K (.ref C_NoNote) "__getattribute__" = some (some (.builtin "BaseException.__getattribute__")))
  (lk_hk_NoNote:PySem.W.findIn K (.ref C_NoNote) "__getattr__" = some none)
  (lk_sub_NoNote:PySem.W.subIn K (.ref C_NoNote) (.type "BaseException")=some true)
  (lk_ha_NoNote:PySem.W.findIn K (.ref C_NoNote) "__class__" = some (some (.builtin "object.__class__")))
  (lk_hm_NoNote:PySem.W.mroIn K C_NoNote (.type "object")=some true)
  (ex_NoNote_PostError:PySem.W.exmOne K (.ref C_NoNote) (.ref C_PostError)=some true)
  (y_0_NoNote:PySem.W.kitOne K (.ref C_NoNote) (.ref C_NoNote)=some true)
  (y_1_NoNote:PySem.W.kitOne K (.ref C_NoNote) (.ref C_NotTied)=some false)
  (y_2_NoNote:PySem.W.kitOne K (.ref C_NoNote) (.ref C_Tied)=some false)
  (y_3_NoNote:PySem.W.kitOne K (.ref C_NoNote) (.ref C_NoHouse)=some false)
  (y_4_NoNote:PySem.W.kitAny K (.ref C_NoNote) [.ref C_BadText,.ref C_NoRow,.ref C_Owned,.ref C_BadDeed]=some false)
  (y_5_NoNote:PySem.W.kitOne K (.ref C_NoNote) (.type "ValueError")=some true)
  (ow_NotTied:ownIn K C_NotTied mV "ValueError.__new__" = true)
  (lk_cl_NotTied:(PySem.W.clsIn K C_NotTied).isSome=true)
  (lk_ga_NotTied:PySem.W.findIn K (.ref C_NotTied) "__getattribute__" = some (some (.builtin "BaseException.__getattribute__")))
  (lk_hk_NotTied:PySem.W.findIn K (.ref C_NotTied) "__getattr__" = some none)
  (lk_sub_NotTied:PySem.W.subIn K (.ref C_NotTied) (.type "BaseException")=some true)
  (lk_ha_NotTied:PySem.W.findIn K (.ref C_NotTied) "__class__" = some (some (.builtin "object.__class__")))
  (lk_hm_NotTied:PySem.W.mroIn K C_NotTied (.type "object")=some true)
  (ex_NotTied_PostError:PySem.W.exmOne K (.ref C_NotTied) (.ref C_PostError)=some true)
  (y_0_NotTied:PySem.W.kitOne K (.ref C_NotTied) (.ref C_NoNote)=some false)
  (y_1_NotTied:PySem.W.kitOne K (.ref C_NotTied) (.ref C_NotTied)=some true)
  (y_2_NotTied:PySem.W.kitOne K (.ref C_NotTied) (.ref C_Tied)=some false)
  (y_3_NotTied:PySem.W.kitOne K (.ref C_NotTied) (.ref C_NoHouse)=some false)
  (y_4_NotTied:PySem.W.kitAny K (.ref C_NotTied) [.ref C_BadText,.ref C_NoRow,.ref C_Owned,.ref C_BadDeed]=some false)
  (y_5_NotTied:PySem.W.kitOne K (.ref C_NotTied) (.type "ValueError")=some true)
  (ow_Tied:ownIn K C_Tied mV "ValueError.__new__" = true)
  (lk_cl_Tied:(PySem.W.clsIn K C_Tied).isSome=true)
  (lk_ga_Tied:PySem.W.findIn K (.ref C_Tied) "__getattribute__" = some (some (.builtin "BaseException.__getattribute__")))
  (lk_hk_Tied:PySem.W.findIn K (.ref C_Tied) "__getattr__" = some none)
  (lk_sub_Tied:PySem.W.subIn K (.ref C_Tied) (.type "BaseException")=some true)
  (lk_ha_Tied:PySem.W.findIn K (.ref C_Tied) "__class__" = some (some (.builtin "object.__class__")))
  (lk_hm_Tied:PySem.W.mroIn K C_Tied (.type "object")=some true)
  (ex_Tied_PostError:PySem.W.exmOne K (.ref C_Tied) (.ref C_PostError)=some true)
  (y_0_Tied:PySem.W.kitOne K (.ref C_Tied) (.ref C_NoNote)=some false)
  (y_1_Tied:PySem.W.kitOne K (.ref C_Tied) (.ref C_NotTied)=some false)
  (y_2_Tied:PySem.W.kitOne K (.ref C_Tied) (.ref C_Tied)=some true)
  (y_3_Tied:PySem.W.kitOne K (.ref C_Tied) (.ref C_NoHouse)=some false)
  (y_4_Tied:PySem.W.kitAny K (.ref C_Tied) [.ref C_BadText,.ref C_NoRow,.ref C_Owned,.ref C_BadDeed]=some false)
  (y_5_Tied:PySem.W.kitOne K (.ref C_Tied) (.type "ValueError")=some true)
  (nf_Ties_length_by:PySem.W.findIn K (.ref C_Ties) "length_by" = some none)
  (nf_Ties_sent_on:PySem.W.findIn K (.ref C_Ties) "sent_on" = some none)
  (z_ValueError:PySem.W.nsIn K mainGlobals "ValueError" = some none)
  (z_all:PySem.W.nsIn K mainGlobals "all" = some none)
  (z_enumerate:PySem.W.nsIn K mainGlobals "enumerate" = some none)
  (z_int:PySem.W.nsIn K mainGlobals "int" = some none)
  (z_isinstance:PySem.W.nsIn K mainGlobals "isinstance" = some none)
  (z_len:PySem.W.nsIn K mainGlobals "len" = some none)
  (z_list:PySem.W.nsIn K mainGlobals "list" = some none)
  (z_max:PySem.W.nsIn K mainGlobals "max" = some none)
  (z_min:PySem.W.nsIn K mainGlobals "min" = some none)
  (z_range:PySem.W.nsIn K mainGlobals "range" = some none)
  (z_sorted:PySem.W.nsIn K mainGlobals "sorted" = some none)
  (z_str:PySem.W.nsIn K mainGlobals "str" = some none)
  (z_tuple:PySem.W.nsIn K mainGlobals "tuple" = some none) :
  ∃fd:FuncData,(∀(s:Shared) (v:Value),BindsTo s fd ⟨[v],[]⟩ [("_law_script",v)])/\∀base:Heap,K.In base->base.Ns mainGlobals mg->FnOk P w K mg base CX0 6 fa fd ["_law_script"] (spC K um):=by
 have e:=hfa.symm.trans (PySem.W.mg_of X G a_law)
 cases e
 have hC_NoHouse:(au (au (au (au (au C0 "Ties" C_Ties) "NoHouse" C_NoHouse) "NoNote" C_NoNote) "NotTied" C_NotTied) "Tied" C_Tied) "NoHouse" = some C_NoHouse:=(gP (by decide +kernel) (gP (by decide +kernel) (gP (by decide +kernel) kJ)))
 have L_NoHouse:PySem.W.ExcLook K C_NoHouse:=⟨lk_cl_NoHouse,lk_ga_NoHouse,lk_hk_NoHouse,lk_sub_NoHouse,lk_ha_NoHouse,lk_hn,lk_tk,lk_hm_NoHouse⟩
 have hC_NoNote:(au (au (au (au (au C0 "Ties" C_Ties) "NoHouse" C_NoHouse) "NoNote" C_NoNote) "NotTied" C_NotTied) "Tied" C_Tied) "NoNote" = some C_NoNote:=(gP (by decide +kernel) (gP (by decide +kernel) kJ))
 have L_NoNote:PySem.W.ExcLook K C_NoNote:=⟨lk_cl_NoNote,lk_ga_NoNote,lk_hk_NoNote,lk_sub_NoNote,lk_ha_NoNote,lk_hn,lk_tk,lk_hm_NoNote⟩
 have hC_NotTied:(au (au (au (au (au C0 "Ties" C_Ties) "NoHouse" C_NoHouse) "NoNote" C_NoNote) "NotTied" C_NotTied) "Tied" C_Tied) "NotTied" = some C_NotTied:=(gP (by decide +kernel) kJ)
 have L_NotTied:PySem.W.ExcLook K C_NotTied:=⟨lk_cl_NotTied,lk_ga_NotTied,lk_hk_NotTied,lk_sub_NotTied,lk_ha_NotTied,lk_hn,lk_tk,lk_hm_NotTied⟩
 have hC_Tied:(au (au (au (au (au C0 "Ties" C_Ties) "NoHouse" C_NoHouse) "NoNote" C_NoNote) "NotTied" C_NotTied) "Tied" C_Tied) "Tied" = some C_Tied:=kJ
 have L_Tied:PySem.W.ExcLook K C_Tied:=⟨lk_cl_Tied,lk_ga_Tied,lk_hk_Tied,lk_sub_Tied,lk_ha_Tied,lk_hn,lk_tk,lk_hm_Tied⟩
 have tc_PostError:∀c,jJ c=true->∃Ca,(au (au (au (au (au C0 "Ties" C_Ties) "NoHouse" C_NoHouse) "NoNote" C_NoNote) "NotTied" C_NotTied) "Tied" C_Tied) c=some Ca/\PySem.W.exmOne K (.ref Ca) (.ref C_PostError)=some true:=fun c hc=>by
  simp only[jJ,Bool.or_eq_true,decide_eq_true_eq] at hc
  rcases hc with ((rfl |rfl) |rfl) |rfl
  ·exact⟨C_NoHouse,hC_NoHouse,ex_NoHouse_PostError⟩
  ·exact⟨C_NoNote,hC_NoNote,ex_NoNote_PostError⟩
  ·exact⟨C_NotTied,hC_NotTied,ex_NotTied_PostError⟩
  ·exact⟨C_Tied,hC_Tied,ex_Tied_PostError⟩
 have x_0:∀c Ca b,xG c=some b->(au (au (au (au (au C0 "Ties" C_Ties) "NoHouse" C_NoHouse) "NoNote" C_NoNote) "NotTied" C_NotTied) "Tied" C_Tied) c=some Ca->PySem.W.ExcLook K Ca/\PySem.W.kitOne K (.ref Ca) (.ref C_NoNote)=some b:=fun c Ca b h1 h2=>by
  unfold xG at h1
  by_cases e_NoHouse:c = "NoHouse"
  ·subst e_NoHouse;rw[if_pos rfl] at h1;cases h1;rw[hC_NoHouse] at h2;cases h2;exact⟨L_NoHouse,y_0_NoHouse⟩
  rw[if_neg e_NoHouse] at h1
  by_cases e_NoNote:c = "NoNote"
  ·subst e_NoNote;rw[if_pos rfl] at h1;cases h1;rw[hC_NoNote] at h2;cases h2;exact⟨L_NoNote,y_0_NoNote⟩
  rw[if_neg e_NoNote] at h1
  by_cases e_NotTied:c = "NotTied"
  ·subst e_NotTied;rw[if_pos rfl] at h1;cases h1;rw[hC_NotTied] at h2;cases h2;exact⟨L_NotTied,y_0_NotTied⟩
  rw[if_neg e_NotTied] at h1
  by_cases e_Tied:c = "Tied"
  ·subst e_Tied;rw[if_pos rfl] at h1;cases h1;rw[hC_Tied] at h2;cases h2;exact⟨L_Tied,y_0_Tied⟩
  rw[if_neg e_Tied] at h1
  cases h1
 have x_1:∀c Ca b,xH c=some b->(au (au (au (au (au C0 "Ties" C_Ties) "NoHouse" C_NoHouse) "NoNote" C_NoNote) "NotTied" C_NotTied) "Tied" C_Tied) c=some Ca->PySem.W.ExcLook K Ca/\PySem.W.kitOne K (.ref Ca) (.ref C_NotTied)=some b:=fun c Ca b h1 h2=>by
  unfold xH at h1
  by_cases e_NoHouse:c = "NoHouse"
  ·subst e_NoHouse;rw[if_pos rfl] at h1;cases h1;rw[hC_NoHouse] at h2;cases h2;exact⟨L_NoHouse,y_1_NoHouse⟩
  rw[if_neg e_NoHouse] at h1
  by_cases e_NoNote:c = "NoNote"
  ·subst e_NoNote;rw[if_pos rfl] at h1;cases h1;rw[hC_NoNote] at h2;cases h2;exact⟨L_NoNote,y_1_NoNote⟩
  rw[if_neg e_NoNote] at h1
  by_cases e_NotTied:c = "NotTied"
  ·subst e_NotTied;rw[if_pos rfl] at h1;cases h1;rw[hC_NotTied] at h2;cases h2;exact⟨L_NotTied,y_1_NotTied⟩
  rw[if_neg e_NotTied] at h1
  by_cases e_Tied:c = "Tied"
  ·subst e_Tied;rw[if_pos rfl] at h1;cases h1;rw[hC_Tied] at h2;cases h2;exact⟨L_Tied,y_1_Tied⟩
  rw[if_neg e_Tied] at h1
  cases h1
 have x_2:∀c Ca b,xJ c=some b->(au (au (au (au (au C0 "Ties" C_Ties) "NoHouse" C_NoHouse) "NoNote" C_NoNote) "NotTied" C_NotTied) "Tied" C_Tied) c=some Ca->PySem.W.ExcLook K Ca/\PySem.W.kitOne K (.ref Ca) (.ref C_Tied)=some b:=fun c Ca b h1 h2=>by
  unfold xJ at h1
  by_cases e_NoHouse:c = "NoHouse"
  ·subst e_NoHouse;rw[if_pos rfl] at h1;cases h1;rw[hC_NoHouse] at h2;cases h2;exact⟨L_NoHouse,y_2_NoHouse⟩
  rw[if_neg e_NoHouse] at h1
  by_cases e_NoNote:c = "NoNote"
  ·subst e_NoNote;rw[if_pos rfl] at h1;cases h1;rw[hC_NoNote] at h2;cases h2;exact⟨L_NoNote,y_2_NoNote⟩
  rw[if_neg e_NoNote] at h1
  by_cases e_NotTied:c = "NotTied"
  ·subst e_NotTied;rw[if_pos rfl] at h1;cases h1;rw[hC_NotTied] at h2;cases h2;exact⟨L_NotTied,y_2_NotTied⟩
  rw[if_neg e_NotTied] at h1
  by_cases e_Tied:c = "Tied"
  ·subst e_Tied;rw[if_pos rfl] at h1;cases h1;rw[hC_Tied] at h2;cases h2;exact⟨L_Tied,y_2_Tied⟩
  rw[if_neg e_Tied] at h1
  cases h1
 have x_3:∀c Ca b,xK c=some b->(au (au (au (au (au C0 "Ties" C_Ties) "NoHouse" C_NoHouse) "NoNote" C_NoNote) "NotTied" C_NotTied) "Tied" C_Tied) c=some Ca->PySem.W.ExcLook K Ca/\PySem.W.kitOne K (.ref Ca) (.ref C_NoHouse)=some b:=fun c Ca b h1 h2=>by
  unfold xK at h1
  by_cases e_NoHouse:c = "NoHouse"
  ·subst e_NoHouse;rw[if_pos rfl] at h1;cases h1;rw[hC_NoHouse] at h2;cases h2;exact⟨L_NoHouse,y_3_NoHouse⟩
  rw[if_neg e_NoHouse] at h1
  by_cases e_NoNote:c = "NoNote"
  ·subst e_NoNote;rw[if_pos rfl] at h1;cases h1;rw[hC_NoNote] at h2;cases h2;exact⟨L_NoNote,y_3_NoNote⟩
  rw[if_neg e_NoNote] at h1
  by_cases e_NotTied:c = "NotTied"
  ·subst e_NotTied;rw[if_pos rfl] at h1;cases h1;rw[hC_NotTied] at h2;cases h2;exact⟨L_NotTied,y_3_NotTied⟩
  rw[if_neg e_NotTied] at h1
  by_cases e_Tied:c = "Tied"
  ·subst e_Tied;rw[if_pos rfl] at h1;cases h1;rw[hC_Tied] at h2;cases h2;exact⟨L_Tied,y_3_Tied⟩
  rw[if_neg e_Tied] at h1
  cases h1
 have x_4:∀c Ca b,xM c=some b->(au (au (au (au (au C0 "Ties" C_Ties) "NoHouse" C_NoHouse) "NoNote" C_NoNote) "NotTied" C_NotTied) "Tied" C_Tied) c=some Ca->PySem.W.ExcLook K Ca/\PySem.W.kitAny K (.ref Ca) [.ref C_BadText,.ref C_NoRow,.ref C_Owned,.ref C_BadDeed]=some b:=fun c Ca b h1 h2=>by
  unfold xM at h1
  by_cases e_NoHouse:c = "NoHouse"
  ·subst e_NoHouse;rw[if_pos rfl] at h1;cases h1;rw[hC_NoHouse] at h2;cases h2;exact⟨L_NoHouse,y_4_NoHouse⟩
  rw[if_neg e_NoHouse] at h1
  by_cases e_NoNote:c = "NoNote"
  ·subst e_NoNote;rw[if_pos rfl] at h1;cases h1;rw[hC_NoNote] at h2;cases h2;exact⟨L_NoNote,y_4_NoNote⟩
  rw[if_neg e_NoNote] at h1
  by_cases e_NotTied:c = "NotTied"
  ·subst e_NotTied;rw[if_pos rfl] at h1;cases h1;rw[hC_NotTied] at h2;cases h2;exact⟨L_NotTied,y_4_NotTied⟩
  rw[if_neg e_NotTied] at h1
  by_cases e_Tied:c = "Tied"
  ·subst e_Tied;rw[if_pos rfl] at h1;cases h1;rw[hC_Tied] at h2;cases h2;exact⟨L_Tied,y_4_Tied⟩
  rw[if_neg e_Tied] at h1
  cases h1
 have x_5:∀c Ca b,xN c=some b->(au (au (au (au (au C0 "Ties" C_Ties) "NoHouse" C_NoHouse) "NoNote" C_NoNote) "NotTied" C_NotTied) "Tied" C_Tied) c=some Ca->PySem.W.ExcLook K Ca/\PySem.W.kitOne K (.ref Ca) (.type "ValueError")=some b:=fun c Ca b h1 h2=>by
  unfold xN at h1
  by_cases e_NoHouse:c = "NoHouse"
  ·subst e_NoHouse;rw[if_pos rfl] at h1;cases h1;rw[hC_NoHouse] at h2;cases h2;exact⟨L_NoHouse,y_5_NoHouse⟩
  rw[if_neg e_NoHouse] at h1
  by_cases e_NoNote:c = "NoNote"
  ·subst e_NoNote;rw[if_pos rfl] at h1;cases h1;rw[hC_NoNote] at h2;cases h2;exact⟨L_NoNote,y_5_NoNote⟩
  rw[if_neg e_NoNote] at h1
  by_cases e_NotTied:c = "NotTied"
  ·subst e_NotTied;rw[if_pos rfl] at h1;cases h1;rw[hC_NotTied] at h2;cases h2;exact⟨L_NotTied,y_5_NotTied⟩
  rw[if_neg e_NotTied] at h1
  by_cases e_Tied:c = "Tied"
  ·subst e_Tied;rw[if_pos rfl] at h1;cases h1;rw[hC_Tied] at h2;cases h2;exact⟨L_Tied,y_5_Tied⟩
  rw[if_neg e_Tied] at h1
  cases h1
 have hC_Ties:(au (au (au (au (au C0 "Ties" C_Ties) "NoHouse" C_NoHouse) "NoNote" C_NoNote) "NotTied" C_NotTied) "Tied" C_Tied) "Ties" = some C_Ties:=(gP (by decide +kernel) (gP (by decide +kernel) (gP (by decide +kernel) (gP (by decide +kernel) kJ))))
 have T_Ties:ClD K (au (au (au (au (au C0 "Ties" C_Ties) "NoHouse" C_NoHouse) "NoNote" C_NoNote) "NotTied" C_NotTied) "Tied" C_Tied) "Ties":=⟨C_Ties,hC_Ties,⟨pg_Ties,hd_Ties,po_Ties,sa_Ties⟩⟩
 have n_Ties_length_by:NoA K (au (au (au (au (au C0 "Ties" C_Ties) "NoHouse" C_NoHouse) "NoNote" C_NoNote) "NotTied" C_NotTied) "Tied" C_Tied) "Ties" "length_by":=GZ hC_Ties nf_Ties_length_by
 have n_Ties_sent_on:NoA K (au (au (au (au (au C0 "Ties" C_Ties) "NoHouse" C_NoHouse) "NoNote" C_NoNote) "NotTied" C_NotTied) "Tied" C_Tied) "Ties" "sent_on":=GZ hC_Ties nf_Ties_sent_on
 have T_l_cell_at:TF K mg "_law_cell_at" fO:=⟨f_l_cell_at,_,PySem.W.mg_of X G a_l_cell_at,iz (st:=fO) l_l_cell_at cc_l_cell_at k_l_cell_at⟩
 have T_l_draws:TF K mg "_law_draws" ig:=⟨f_l_draws,_,PySem.W.mg_of X G a_l_draws,iz (st:=ig) l_l_draws cc_l_draws k_l_draws⟩
 have T_l_houses:TF K mg "_law_houses" fM:=⟨f_l_houses,_,PySem.W.mg_of X G a_l_houses,iz (st:=fM) l_l_houses cc_l_houses k_l_houses⟩
 have T_l_note:TF K mg "_law_note" jg:=⟨f_l_note,_,PySem.W.mg_of X G a_l_note,iz (st:=jg) l_l_note cc_l_note k_l_note⟩
 have T_l_due:TF K mg "_law_due" jY:=⟨f_l_due,_,PySem.W.mg_of X G a_l_due,iz (st:=jY) l_l_due cc_l_due k_l_due⟩
 have T_in_pair:TF K mg "in_pair" ik:=⟨f_in_pair,_,PySem.W.mg_of X G a_in_pair,iz (st:=ik) l_in_pair cc_in_pair k_in_pair⟩
 have T_made_anew:TF K mg "made_anew" eN:=⟨f_made_anew,_,PySem.W.mg_of X G a_made_anew,iz (st:=eN) l_made_anew cc_made_anew k_made_anew⟩
 have T_l_word:TF K mg "_law_word" jh:=⟨f_l_word,_,PySem.W.mg_of X G a_l_word,iz (st:=jh) l_l_word cc_l_word k_l_word⟩
 have T_l_kind:TF K mg "_law_kind" ji:=⟨f_l_kind,_,PySem.W.mg_of X G a_l_kind,iz (st:=ji) l_l_kind cc_l_kind k_l_kind⟩
 have T_l_same:TF K mg "_law_same" gR:=⟨f_l_same,_,PySem.W.mg_of X G a_l_same,iz (st:=gR) l_l_same cc_l_same k_l_same⟩
 have T_l_looked:TF K mg "_law_looked" eO:=⟨f_l_looked,_,PySem.W.mg_of X G a_l_looked,iz (st:=eO) l_l_looked cc_l_looked k_l_looked⟩
 refine⟨PySem.W.fnOf "law" "law" (bB lG) (bf lG) (aB lG) .none kV_law dc_law pm_law an_law cd_law ct_law,fun s v=>.of_eq rfl,fun base KB _=>?_⟩
 have O_NoHouse:OwnCls "NoHouse" C_NoHouse mV "ValueError.__new__" mg base:=vU KB ow_NoHouse (PySem.W.mg_of X G a_NoHouse)
 have O_NoNote:OwnCls "NoNote" C_NoNote mV "ValueError.__new__" mg base:=vU KB ow_NoNote (PySem.W.mg_of X G a_NoNote)
 have O_NotTied:OwnCls "NotTied" C_NotTied mV "ValueError.__new__" mg base:=vU KB ow_NotTied (PySem.W.mg_of X G a_NotTied)
 have O_Tied:OwnCls "Tied" C_Tied mV "ValueError.__new__" mg base:=vU KB ow_Tied (PySem.W.mg_of X G a_Tied)
 have G_l_cell_at:Fn P w K mg base (au (au (au (au (au C0 "Ties" C_Ties) "NoHouse" C_NoHouse) "NoNote" C_NoNote) "NotTied" C_NotTied) "Tied" C_Tied) 1 "_law_cell_at" cR:=Bv T_l_cell_at (PySem.W.mg_none_of X G z_len)
 have G_l_draws:Fn P w K mg base (au (au (au (au (au C0 "Ties" C_Ties) "NoHouse" C_NoHouse) "NoNote" C_NoNote) "NotTied" C_NotTied) "Tied" C_Tied) 2 "_law_draws" mF:=Fl T_l_draws (PySem.W.mg_none_of X G z_len) (PySem.W.mg_none_of X G z_range) G_l_cell_at
 have G_l_houses:Fn P w K mg base (au (au (au (au (au C0 "Ties" C_Ties) "NoHouse" C_NoHouse) "NoNote" C_NoNote) "NotTied" C_NotTied) "Tied" C_Tied) 1 "_law_houses" k_:=Cg T_l_houses (PySem.W.mg_none_of X G z_range)
 have G_l_note:Fn P w K mg base (au (au (au (au (au C0 "Ties" C_Ties) "NoHouse" C_NoHouse) "NoNote" C_NoNote) "NotTied" C_NotTied) "Tied" C_Tied) 1 "_law_note" lW:=Iw T_l_note
 have G_l_due:Fn P w K mg base (au (au (au (au (au C0 "Ties" C_Ties) "NoHouse" C_NoHouse) "NoNote" C_NoNote) "NotTied" C_NotTied) "Tied" C_Tied) 1 "_law_due" bZ:=Lx T_l_due (PySem.W.mg_none_of X G z_list) (PySem.W.mg_none_of X G z_max) (PySem.W.mg_none_of X G z_min)
 have G_in_pair:Fn P w K mg base (au (au (au (au (au C0 "Ties" C_Ties) "NoHouse" C_NoHouse) "NoNote" C_NoNote) "NotTied" C_NotTied) "Tied" C_Tied) 1 "in_pair" cO:=Fo T_in_pair (PySem.W.mg_none_of X G z_max) (PySem.W.mg_none_of X G z_min)
 have O_Ties_need_pair:FnOk P w K mg base (CXr P w) 2 f_Ties_need_pair _ ["self","one","other"] (spX K (au (au (au (au (au C0 "Ties" C_Ties) "NoHouse" C_NoHouse) "NoNote" C_NoNote) "NotTied" C_NotTied) "Tied" C_Tied) aP aX):=uB (iH (st:=cI) l_Ties_need_pair cc_Ties_need_pair) T_Ties n_Ties_length_by hC_NotTied O_NotTied G_in_pair
 have M_Ties_need_pair_0:MtX P w K mg base (au (au (au (au (au C0 "Ties" C_Ties) "NoHouse" C_NoHouse) "NoNote" C_NoNote) "NotTied" C_NotTied) "Tied" C_Tied) 2 "Ties" "need_pair" aP aX []:=⟨C_Ties,f_Ties_need_pair,_,_,[],[],hC_Ties,⟨pg_Ties,hd_Ties,po_Ties,sa_Ties⟩,⟨a_Ties_need_pair,i_Ties_need_pair,k_Ties_need_pair⟩,(jD (ps:=["self","one","other"]) fun us hl=>xm us hl (fun _ _ _=>rfl)),.nil,fun _ _=>.nil,O_Ties_need_pair⟩
 have G_made_anew:Fn P w K mg base (au (au (au (au (au C0 "Ties" C_Ties) "NoHouse" C_NoHouse) "NoNote" C_NoNote) "NotTied" C_NotTied) "Tied" C_Tied) 1 "made_anew" eF:=Bx T_made_anew (PySem.W.mg_none_of X G z_all) (PySem.W.mg_none_of X G z_enumerate) (PySem.W.mg_none_of X G z_isinstance) (PySem.W.mg_none_of X G z_len) (PySem.W.mg_none_of X G z_list) (PySem.W.mg_none_of X G z_tuple)
 have O_Ties_notes:FnOk P w K mg base (CXr P w) 3 f_Ties_notes _ ["self","one","other"] (spX K (au (au (au (au (au C0 "Ties" C_Ties) "NoHouse" C_NoHouse) "NoNote" C_NoNote) "NotTied" C_NotTied) "Tied" C_Tied) eU ie):=zb (iH (st:=du) l_Ties_notes cc_Ties_notes) T_Ties n_Ties_sent_on M_Ties_need_pair_0 G_made_anew
 have M_Ties_notes_0:MtX P w K mg base (au (au (au (au (au C0 "Ties" C_Ties) "NoHouse" C_NoHouse) "NoNote" C_NoNote) "NotTied" C_NotTied) "Tied" C_Tied) 3 "Ties" "notes" eU ie []:=⟨C_Ties,f_Ties_notes,_,_,[],[],hC_Ties,⟨pg_Ties,hd_Ties,po_Ties,sa_Ties⟩,⟨a_Ties_notes,i_Ties_notes,k_Ties_notes⟩,(jD (ps:=["self","one","other"]) fun us hl=>xm us hl (fun _ _ _=>rfl)),.nil,fun _ _=>.nil,O_Ties_notes⟩
 have O_Ties_come:FnOk P w K mg base (CXr P w) 2 f_Ties_come _ ["self","one","other","length"] (spX K (au (au (au (au (au C0 "Ties" C_Ties) "NoHouse" C_NoHouse) "NoNote" C_NoNote) "NotTied" C_NotTied) "Tied" C_Tied) dg gQ):=By (iH (st:=fP) l_Ties_come cc_Ties_come) T_Ties n_Ties_length_by hC_NoHouse O_NoHouse hC_Tied O_Tied G_in_pair
 have M_Ties_come_0:MtX P w K mg base (au (au (au (au (au C0 "Ties" C_Ties) "NoHouse" C_NoHouse) "NoNote" C_NoNote) "NotTied" C_NotTied) "Tied" C_Tied) 2 "Ties" "come" dg gQ []:=⟨C_Ties,f_Ties_come,_,_,[],[],hC_Ties,⟨pg_Ties,hd_Ties,po_Ties,sa_Ties⟩,⟨a_Ties_come,i_Ties_come,k_Ties_come⟩,(jD (ps:=["self","one","other","length"]) fun us hl=>Eo us hl (fun _ _ _ _=>rfl)),.nil,fun _ _=>.nil,O_Ties_come⟩
 have O_Ties_fall:FnOk P w K mg base (CXr P w) 3 f_Ties_fall _ ["self","one","other"] (spX K (au (au (au (au (au C0 "Ties" C_Ties) "NoHouse" C_NoHouse) "NoNote" C_NoNote) "NotTied" C_NotTied) "Tied" C_Tied) eG iI):=BJ (iH (st:=fQ) l_Ties_fall cc_Ties_fall) T_Ties n_Ties_length_by n_Ties_sent_on M_Ties_need_pair_0 G_in_pair
 have M_Ties_fall_0:MtX P w K mg base (au (au (au (au (au C0 "Ties" C_Ties) "NoHouse" C_NoHouse) "NoNote" C_NoNote) "NotTied" C_NotTied) "Tied" C_Tied) 3 "Ties" "fall" eG iI []:=⟨C_Ties,f_Ties_fall,_,_,[],[],hC_Ties,⟨pg_Ties,hd_Ties,po_Ties,sa_Ties⟩,⟨a_Ties_fall,i_Ties_fall,k_Ties_fall⟩,(jD (ps:=["self","one","other"]) fun us hl=>xm us hl (fun _ _ _=>rfl)),.nil,fun _ _=>.nil,O_Ties_fall⟩
 have O_Ties_send:FnOk P w K mg base (CXr P w) 3 f_Ties_send _ ["self","one","other","note"] (spX K (au (au (au (au (au C0 "Ties" C_Ties) "NoHouse" C_NoHouse) "NoNote" C_NoNote) "NotTied" C_NotTied) "Tied" C_Tied) dh iJ):=BK (iH (st:=fU) l_Ties_send cc_Ties_send) T_Ties n_Ties_sent_on M_Ties_need_pair_0 G_made_anew
 have M_Ties_send_0:MtX P w K mg base (au (au (au (au (au C0 "Ties" C_Ties) "NoHouse" C_NoHouse) "NoNote" C_NoNote) "NotTied" C_NotTied) "Tied" C_Tied) 3 "Ties" "send" dh iJ []:=⟨C_Ties,f_Ties_send,_,_,[],[],hC_Ties,⟨pg_Ties,hd_Ties,po_Ties,sa_Ties⟩,⟨a_Ties_send,i_Ties_send,k_Ties_send⟩,(jD (ps:=["self","one","other","note"]) fun us hl=>Eo us hl (fun _ _ _ _=>rfl)),.nil,fun _ _=>.nil,O_Ties_send⟩
 have O_Ties_carry:FnOk P w K mg base (CXr P w) 3 f_Ties_carry _ ["self","one","other"] (spX K (au (au (au (au (au C0 "Ties" C_Ties) "NoHouse" C_NoHouse) "NoNote" C_NoNote) "NotTied" C_NotTied) "Tied" C_Tied) cT fY):=zc (iH (st:=eV) l_Ties_carry cc_Ties_carry) T_Ties n_Ties_sent_on M_Ties_need_pair_0 hC_NoNote O_NoNote
 have M_Ties_carry_0:MtX P w K mg base (au (au (au (au (au C0 "Ties" C_Ties) "NoHouse" C_NoHouse) "NoNote" C_NoNote) "NotTied" C_NotTied) "Tied" C_Tied) 3 "Ties" "carry" cT fY []:=⟨C_Ties,f_Ties_carry,_,_,[],[],hC_Ties,⟨pg_Ties,hd_Ties,po_Ties,sa_Ties⟩,⟨a_Ties_carry,i_Ties_carry,k_Ties_carry⟩,(jD (ps:=["self","one","other"]) fun us hl=>xm us hl (fun _ _ _=>rfl)),.nil,fun _ _=>.nil,O_Ties_carry⟩
 have O_Ties_length:FnOk P w K mg base (CXr P w) 3 f_Ties_length _ ["self","one","other"] (spX K (au (au (au (au (au C0 "Ties" C_Ties) "NoHouse" C_NoHouse) "NoNote" C_NoNote) "NotTied" C_NotTied) "Tied" C_Tied) dC gD):=xY (iH (st:=dF) l_Ties_length cc_Ties_length) T_Ties n_Ties_length_by M_Ties_need_pair_0 G_in_pair
 have M_Ties_length_0:MtX P w K mg base (au (au (au (au (au C0 "Ties" C_Ties) "NoHouse" C_NoHouse) "NoNote" C_NoNote) "NotTied" C_NotTied) "Tied" C_Tied) 3 "Ties" "length" dC gD []:=⟨C_Ties,f_Ties_length,_,_,[],[],hC_Ties,⟨pg_Ties,hd_Ties,po_Ties,sa_Ties⟩,⟨a_Ties_length,i_Ties_length,k_Ties_length⟩,(jD (ps:=["self","one","other"]) fun us hl=>xm us hl (fun _ _ _=>rfl)),.nil,fun _ _=>.nil,O_Ties_length⟩
 have G_l_word:Fn P w K mg base (au (au (au (au (au C0 "Ties" C_Ties) "NoHouse" C_NoHouse) "NoNote" C_NoNote) "NotTied" C_NotTied) "Tied" C_Tied) 4 "_law_word" bU:=Iz T_l_word M_Ties_come_0 M_Ties_fall_0 M_Ties_send_0 M_Ties_carry_0 M_Ties_length_0 M_Ties_notes_0 (PySem.W.mg_of X G a_BadDeed) (PySem.W.mg_of X G a_BadText) (PySem.W.mg_of X G a_NoHouse) (PySem.W.mg_of X G a_NoNote) (PySem.W.mg_of X G a_NoRow) (PySem.W.mg_of X G a_NotTied) (PySem.W.mg_of X G a_Owned) (PySem.W.mg_of X G a_PostError) (PySem.W.mg_of X G a_Tied) tc_PostError x_0 x_1 x_2 x_3 x_4 x_5 (PySem.W.mg_none_of X G z_ValueError) (PySem.W.mg_none_of X G z_isinstance)
 have O_Ties___init__:FnOk P w K mg base CX0 1 f_Ties___init__ _ ["self"] (spD K (au (au (au (au (au C0 "Ties" C_Ties) "NoHouse" C_NoHouse) "NoNote" C_NoNote) "NotTied" C_NotTied) "Tied" C_Tied) bW):=vo (iH (st:=dw) l_Ties___init__ cc_Ties___init__) T_Ties n_Ties_length_by n_Ties_sent_on
 have K_Ties:MkD P w K mg base (au (au (au (au (au C0 "Ties" C_Ties) "NoHouse" C_NoHouse) "NoNote" C_NoNote) "NotTied" C_NotTied) "Tied" C_Tied) 1 "Ties" bW []:=⟨C_Ties,f_Ties___init__,_,_,[],[],hC_Ties,PySem.W.mg_of X G a_Ties,⟨mk_Ties,a_Ties___init__,i_Ties___init__,kc_Ties⟩,(jD (ps:=["self"]) fun us hl=>sZ us hl (fun _=>rfl)),.nil,fun _ _=>.nil,O_Ties___init__⟩
 have G_l_kind:Fn P w K mg base (au (au (au (au (au C0 "Ties" C_Ties) "NoHouse" C_NoHouse) "NoNote" C_NoNote) "NotTied" C_NotTied) "Tied" C_Tied) 1 "_law_kind" jd:=IK T_l_kind (PySem.W.mg_none_of X G z_int) (PySem.W.mg_none_of X G z_isinstance) (PySem.W.mg_none_of X G z_str) (PySem.W.mg_none_of X G z_tuple)
 have G_l_same:Fn P w K mg base (au (au (au (au (au C0 "Ties" C_Ties) "NoHouse" C_NoHouse) "NoNote" C_NoNote) "NotTied" C_NotTied) "Tied" C_Tied) 2 "_law_same" fu:=IV T_l_same (PySem.W.mg_none_of X G z_isinstance) (PySem.W.mg_none_of X G z_len) (PySem.W.mg_none_of X G z_list) G_l_kind
 have O_Ties_pairs:FnOk P w K mg base CX0 1 f_Ties_pairs _ ["self"] (spD K (au (au (au (au (au C0 "Ties" C_Ties) "NoHouse" C_NoHouse) "NoNote" C_NoNote) "NotTied" C_NotTied) "Tied" C_Tied) fZ):=zf (iH (st:=eX) l_Ties_pairs cc_Ties_pairs) T_Ties n_Ties_length_by (PySem.W.mg_none_of X G z_sorted)
 have M_Ties_pairs_0:Mt P w K mg base (au (au (au (au (au C0 "Ties" C_Ties) "NoHouse" C_NoHouse) "NoNote" C_NoNote) "NotTied" C_NotTied) "Tied" C_Tied) 1 "Ties" "pairs" fZ []:=⟨C_Ties,f_Ties_pairs,_,_,[],[],hC_Ties,⟨pg_Ties,hd_Ties,po_Ties,sa_Ties⟩,⟨a_Ties_pairs,i_Ties_pairs,k_Ties_pairs⟩,(jD (ps:=["self"]) fun us hl=>sZ us hl (fun _=>rfl)),.nil,fun _ _=>.nil,O_Ties_pairs⟩
 have O_Ties_waiting:FnOk P w K mg base CX0 1 f_Ties_waiting _ ["self"] (spD K (au (au (au (au (au C0 "Ties" C_Ties) "NoHouse" C_NoHouse) "NoNote" C_NoNote) "NotTied" C_NotTied) "Tied" C_Tied) dW):=wG (iH (st:=dY) l_Ties_waiting cc_Ties_waiting) T_Ties n_Ties_sent_on (PySem.W.mg_none_of X G z_sorted)
 have M_Ties_waiting_0:Mt P w K mg base (au (au (au (au (au C0 "Ties" C_Ties) "NoHouse" C_NoHouse) "NoNote" C_NoNote) "NotTied" C_NotTied) "Tied" C_Tied) 1 "Ties" "waiting" dW []:=⟨C_Ties,f_Ties_waiting,_,_,[],[],hC_Ties,⟨pg_Ties,hd_Ties,po_Ties,sa_Ties⟩,⟨a_Ties_waiting,i_Ties_waiting,k_Ties_waiting⟩,(jD (ps:=["self"]) fun us hl=>sZ us hl (fun _=>rfl)),.nil,fun _ _=>.nil,O_Ties_waiting⟩
 have G_l_looked:Fn P w K mg base (au (au (au (au (au C0 "Ties" C_Ties) "NoHouse" C_NoHouse) "NoNote" C_NoNote) "NotTied" C_NotTied) "Tied" C_Tied) 5 "_law_looked" gK:=Ci T_l_looked M_Ties_pairs_0 M_Ties_waiting_0 (PySem.W.mg_none_of X G z_list) (PySem.W.mg_none_of X G z_range) (PySem.W.mg_none_of X G z_sorted) G_l_word G_l_due G_l_same
 exact(BL (C:=(au (au (au (au (au C0 "Ties" C_Ties) "NoHouse" C_NoHouse) "NoNote" C_NoNote) "NotTied" C_NotTied) "Tied" C_Tied)) (iz (st:=lG) l_law cc_law k_law) K_Ties (PySem.W.mg_none_of X G z_all) (PySem.W.mg_none_of X G z_isinstance) (PySem.W.mg_none_of X G z_len) (PySem.W.mg_none_of X G z_list) (PySem.W.mg_none_of X G z_min) (PySem.W.mg_none_of X G z_sorted) (PySem.W.mg_none_of X G z_str) G_l_draws G_l_cell_at G_l_houses G_l_note G_l_due G_l_word G_l_same G_l_looked).imp fun vs H Q E h=>h _
theorem walk{l:PySem.W.OpenLaw}{q:Program}{loose:List Str}{XP:(Str->Option Value)->Heap->Prop}{YP:World->Heap->Prop}{d:DefRec}{K:Params->PySem.W.Frag}(hn:l.most=some 63)(hdf:d.params.defaults=[])
  (hY:∀(w:World) (h:Heap),YP w h->(K w.params).In h) (holds:∀ns:List Int,ns.length<=63->∃Ω,um [.scr ns] []=some (.bl true,Ω))
  (F:∀(w:World) (mg:Str->Option Value) (fa:Addr) (h:Heap),(K w.params).In h->h.Ns mainGlobals mg->mg d.name=some (.ref fa) ->
   ∃fd:FuncData,(∀(s:Shared) (u:Value),BindsTo s fd ⟨[u],[]⟩ [("_law_script",u)])/\∀base:Heap,(K w.params).In base->base.Ns mainGlobals mg->FnOk l.prog w (K w.params) mg base CX0 6 fa fd ["_law_script"] (spC (K w.params) um)) :
  PySem.W.WalkO q loose XP YP l.row.toRowW d [] (fun f vs=>PySem.call f vs) :=
 L2.Cu (n:=63) (k:=6) (x:="_law_script") (CX:=fun _=>CX0) (sp:=fun w=>spC (K w.params) um) hn (by decide) hdf ⟨rfl,by decide,by decide,rfl⟩ hY F (fun _ _ a ns hl _ hS=>Pa hS (holds ns hl)) fun _ _ _ _ _ z=>z
end Law
namespace PySem.W.Fast
theorem tw10016630658640822591:True:=⟨⟩
theorem tw10238275728183844058:True:=⟨⟩
theorem tw10431058982485805693:True:=⟨⟩
theorem tw10555394095451926965:True:=⟨⟩
theorem tw10599971681386738333:True:=⟨⟩
theorem tw10732607826938449476:True:=⟨⟩
theorem tw11006602285202384074:True:=⟨⟩
theorem tw11328800950705521800:True:=⟨⟩
theorem tw11411179707427389989:True:=⟨⟩
theorem tw11668213075471816735:True:=⟨⟩
theorem tw11733153486244238644:True:=⟨⟩
theorem tw11812663543858448745:True:=⟨⟩
theorem tw12013335423501583696:True:=⟨⟩
theorem tw12188727958735345602:True:=⟨⟩
theorem tw12309587134113038105:True:=⟨⟩
theorem tw12452603157158167667:True:=⟨⟩
theorem tw12567052521372396645:True:=⟨⟩
theorem tw13253771444175034312:True:=⟨⟩
theorem tw13353760829784945750:True:=⟨⟩
theorem tw13441722541729296795:True:=⟨⟩
theorem tw13601180259178716974:True:=⟨⟩
theorem tw13604575002715645675:True:=⟨⟩
theorem tw13745612101177556206:True:=⟨⟩
theorem tw13866270388090970190:True:=⟨⟩
theorem tw13966487190118090606:True:=⟨⟩
theorem tw14484833802823045941:True:=⟨⟩
theorem tw14559470762462812064:True:=⟨⟩
theorem tw14711042647608336563:True:=⟨⟩
theorem tw14893866062467719507:True:=⟨⟩
theorem tw14944314135651442785:True:=⟨⟩
theorem tw15068662435800494194:True:=⟨⟩
theorem tw15595624438804679085:True:=⟨⟩
theorem tw16091652515673687104:True:=⟨⟩
theorem tw16129727389070989503:True:=⟨⟩
theorem tw16319365882390465625:True:=⟨⟩
theorem tw16575731830719726325:True:=⟨⟩
theorem tw16587801056643266370:True:=⟨⟩
theorem tw16658613302289797038:True:=⟨⟩
theorem tw16728851745164632400:True:=⟨⟩
theorem tw16777611005401246872:True:=⟨⟩
theorem tw16839015114711610120:True:=⟨⟩
theorem tw17031202229488822847:True:=⟨⟩
theorem tw17032750996802152208:True:=⟨⟩
theorem tw17461822053004174321:True:=⟨⟩
theorem tw18018394491849155733:True:=⟨⟩
theorem tw18106417840844142195:True:=⟨⟩
theorem tw18173620810757345849:True:=⟨⟩
theorem tw18270246141108827064:True:=⟨⟩
theorem tw2126869881161269729:True:=⟨⟩
theorem tw2307888477782268960:True:=⟨⟩
theorem tw239080013532807660:True:=⟨⟩
theorem tw2396825162184662790:True:=⟨⟩
theorem tw248978024815475598:True:=⟨⟩
theorem tw2517824146498659161:True:=⟨⟩
theorem tw2714019645961892706:True:=⟨⟩
theorem tw2766274116583024656:True:=⟨⟩
theorem tw2804947841982698082:True:=⟨⟩
theorem tw2976753135682624282:True:=⟨⟩
theorem tw2977596379547204148:True:=⟨⟩
theorem tw3234339133972804577:True:=⟨⟩
theorem tw3293550934889762048:True:=⟨⟩
theorem tw3648879353937882250:True:=⟨⟩
theorem tw3919784946397937731:True:=⟨⟩
theorem tw3923741870585203616:True:=⟨⟩
theorem tw4457033039258772292:True:=⟨⟩
theorem tw452859843336714719:True:=⟨⟩
theorem tw4639403528215640682:True:=⟨⟩
theorem tw488613445020147359:True:=⟨⟩
theorem tw4957619208285047377:True:=⟨⟩
theorem tw5181166291259790177:True:=⟨⟩
theorem tw5220771346710709394:True:=⟨⟩
theorem tw5242141351051515397:True:=⟨⟩
theorem tw539455162835446774:True:=⟨⟩
theorem tw5439660524832663348:True:=⟨⟩
theorem tw5985609518087296351:True:=⟨⟩
theorem tw6191766414934892564:True:=⟨⟩
theorem tw6227938329721158063:True:=⟨⟩
theorem tw6308039177581527678:True:=⟨⟩
theorem tw6436403580684762777:True:=⟨⟩
theorem tw6458618981218408025:True:=⟨⟩
theorem tw6632656095642891665:True:=⟨⟩
theorem tw7095382698221230275:True:=⟨⟩
theorem tw7571420089824477449:True:=⟨⟩
theorem tw7691798306745754944:True:=⟨⟩
theorem tw7849579650049712193:True:=⟨⟩
theorem tw789993789326353017:True:=⟨⟩
theorem tw7974139787913537585:True:=⟨⟩
theorem tw8166531948074592684:True:=⟨⟩
theorem tw8403854091711920378:True:=⟨⟩
theorem tw8442059795794534249:True:=⟨⟩
theorem tw8647471636864886183:True:=⟨⟩
theorem tw8666002534239739951:True:=⟨⟩
theorem tw9206535848171593119:True:=⟨⟩
theorem tw9210946370239393187:True:=⟨⟩
theorem tw9250805437115350343:True:=⟨⟩
theorem tw9741913122311774251:True:=⟨⟩
end PySem.W.Fast
open PySem PySem.W PyProof.Rows
set_option maxRecDepth 100000 in
set_option maxHeartbeats 0 in
theorem PySem.Challenge.cw_posthouse_k34_whole_ties_by_turns_holds : PySem.Challenge.rw_posthouse_k34_whole_ties_by_turns.Holds := by
 w_on;o_law;k_head;(case hw=>w_witness2)
 k_fill
 refine Law.walk (l:=PySem.Challenge.rw_posthouse_k34_whole_ties_by_turns) rfl rfl (fun w h Y=>PySem.W.kIn_of Y) Law.holds ?F
 case F =>
  intro w mg fa h KX G hmg
  refine' Law.all_mk KX G hmg ?a_l_cell_at ?l_l_cell_at ?cc_l_cell_at ?k_l_cell_at ?a_l_draws ?l_l_draws ?cc_l_draws ?k_l_draws ?a_l_houses ?l_l_houses ?cc_l_houses ?k_l_houses ?a_l_note ?l_l_note ?cc_l_note ?k_l_note ?a_l_due ?l_l_due ?cc_l_due ?k_l_due ?a_in_pair ?l_in_pair ?cc_in_pair ?k_in_pair ?a_Ties_need_pair ?i_Ties_need_pair ?l_Ties_need_pair ?cc_Ties_need_pair ?k_Ties_need_pair ?a_made_anew ?l_made_anew ?cc_made_anew ?k_made_anew ?a_Ties_notes ?i_Ties_notes ?l_Ties_notes ?cc_Ties_notes ?k_Ties_notes ?a_Ties_come ?i_Ties_come ?l_Ties_come ?cc_Ties_come ?k_Ties_come ?a_Ties_fall ?i_Ties_fall ?l_Ties_fall ?cc_Ties_fall ?k_Ties_fall ?a_Ties_send ?i_Ties_send ?l_Ties_send ?cc_Ties_send ?k_Ties_send ?a_Ties_carry ?i_Ties_carry ?l_Ties_carry ?cc_Ties_carry ?k_Ties_carry ?a_Ties_length ?i_Ties_length ?l_Ties_length ?cc_Ties_length ?k_Ties_length ?a_l_word ?l_l_word ?cc_l_word ?k_l_word ?a_Ties___init__ ?i_Ties___init__ ?l_Ties___init__ ?cc_Ties___init__ ?k_Ties___init__ ?a_l_kind ?l_l_kind ?cc_l_kind ?k_l_kind ?a_l_same ?l_l_same ?cc_l_same ?k_l_same ?a_Ties_pairs ?i_Ties_pairs ?l_Ties_pairs ?cc_Ties_pairs ?k_Ties_pairs ?a_Ties_waiting ?i_Ties_waiting ?l_Ties_waiting ?cc_Ties_waiting ?k_Ties_waiting ?a_l_looked ?l_l_looked ?cc_l_looked ?k_l_looked ?a_law ?l_law ?cc_law ?k_law ?a_Ties ?pg_Ties ?hd_Ties ?po_Ties ?sa_Ties ?mk_Ties ?kc_Ties ?a_BadDeed ?a_BadText ?a_NoHouse ?a_NoNote ?a_NoRow ?a_NotTied ?a_Owned ?a_PostError ?a_Tied ?lk_hn ?lk_tk ?ow_NoHouse ?lk_cl_NoHouse ?lk_ga_NoHouse ?lk_hk_NoHouse ?lk_sub_NoHouse ?lk_ha_NoHouse ?lk_hm_NoHouse ?ex_NoHouse_PostError ?y_0_NoHouse ?y_1_NoHouse ?y_2_NoHouse ?y_3_NoHouse ?y_4_NoHouse ?y_5_NoHouse ?ow_NoNote ?lk_cl_NoNote ?lk_ga_NoNote ?lk_hk_NoNote ?lk_sub_NoNote ?lk_ha_NoNote ?lk_hm_NoNote ?ex_NoNote_PostError ?y_0_NoNote ?y_1_NoNote ?y_2_NoNote ?y_3_NoNote ?y_4_NoNote ?y_5_NoNote ?ow_NotTied ?lk_cl_NotTied ?lk_ga_NotTied ?lk_hk_NotTied ?lk_sub_NotTied ?lk_ha_NotTied ?lk_hm_NotTied ?ex_NotTied_PostError ?y_0_NotTied ?y_1_NotTied ?y_2_NotTied ?y_3_NotTied ?y_4_NotTied ?y_5_NotTied ?ow_Tied ?lk_cl_Tied ?lk_ga_Tied ?lk_hk_Tied ?lk_sub_Tied ?lk_ha_Tied ?lk_hm_Tied ?ex_Tied_PostError ?y_0_Tied ?y_1_Tied ?y_2_Tied ?y_3_Tied ?y_4_Tied ?y_5_Tied ?nf_Ties_length_by ?nf_Ties_sent_on ?z_ValueError ?z_all ?z_enumerate ?z_int ?z_isinstance ?z_len ?z_list ?z_max ?z_min ?z_range ?z_sorted ?z_str ?z_tuple
  (case a_Ties=>k_is)
  (case a_BadDeed=>k_is)
  (case a_BadText=>k_is)
  (case a_NoHouse=>k_is)
  (case a_NoNote=>k_is)
  (case a_NoRow=>k_is)
  (case a_NotTied=>k_is)
  (case a_Owned=>k_is)
  (case a_PostError=>k_is)
  (case a_Tied=>k_is)
  (case a_l_cell_at=>k_is)
  (case l_l_cell_at=>k_is)
  (case cc_l_cell_at=>k_is)
  (case k_l_cell_at=>k_is)
  (case a_l_draws=>k_is)
  (case l_l_draws=>k_is)
  (case cc_l_draws=>k_is)
  (case k_l_draws=>k_is)
  (case a_l_houses=>k_is)
  (case l_l_houses=>k_is)
  (case cc_l_houses=>k_is)
  (case k_l_houses=>k_is)
  (case a_l_note=>k_is)
  (case l_l_note=>k_is)
  (case cc_l_note=>k_is)
  (case k_l_note=>k_is)
  (case a_l_due=>k_is)
  (case l_l_due=>k_is)
  (case cc_l_due=>k_is)
  (case k_l_due=>k_is)
  (case a_in_pair=>k_is)
  (case l_in_pair=>k_is)
  (case cc_in_pair=>k_is)
  (case k_in_pair=>k_is)
  (case a_Ties_need_pair=>k_is)
  (case i_Ties_need_pair=>k_is)
  (case l_Ties_need_pair=>k_is)
  (case cc_Ties_need_pair=>k_is)
  (case k_Ties_need_pair=>k_is)
  (case a_made_anew=>k_is)
  (case l_made_anew=>k_is)
  (case cc_made_anew=>k_is)
  (case k_made_anew=>k_is)
  (case a_Ties_notes=>k_is)
  (case i_Ties_notes=>k_is)
  (case l_Ties_notes=>k_is)
  (case cc_Ties_notes=>k_is)
  (case k_Ties_notes=>k_is)
  (case a_Ties_come=>k_is)
  (case i_Ties_come=>k_is)
  (case l_Ties_come=>k_is)
  (case cc_Ties_come=>k_is)
  (case k_Ties_come=>k_is)
  (case a_Ties_fall=>k_is)
  (case i_Ties_fall=>k_is)
  (case l_Ties_fall=>k_is)
  (case cc_Ties_fall=>k_is)
  (case k_Ties_fall=>k_is)
  (case a_Ties_send=>k_is)
  (case i_Ties_send=>k_is)
  (case l_Ties_send=>k_is)
  (case cc_Ties_send=>k_is)
  (case k_Ties_send=>k_is)
  (case a_Ties_carry=>k_is)
  (case i_Ties_carry=>k_is)
  (case l_Ties_carry=>k_is)
  (case cc_Ties_carry=>k_is)
  (case k_Ties_carry=>k_is)
  (case a_Ties_length=>k_is)
  (case i_Ties_length=>k_is)
  (case l_Ties_length=>k_is)
  (case cc_Ties_length=>k_is)
  (case k_Ties_length=>k_is)
  (case a_l_word=>k_is)
  (case l_l_word=>k_is)
  (case cc_l_word=>k_is)
  (case k_l_word=>k_is)
  (case a_Ties___init__=>k_is)
  (case i_Ties___init__=>k_is)
  (case l_Ties___init__=>k_is)
  (case cc_Ties___init__=>k_is)
  (case k_Ties___init__=>k_is)
  (case a_l_kind=>k_is)
  (case l_l_kind=>k_is)
  (case cc_l_kind=>k_is)
  (case k_l_kind=>k_is)
  (case a_l_same=>k_is)
  (case l_l_same=>k_is)
  (case cc_l_same=>k_is)
  (case k_l_same=>k_is)
  (case a_Ties_pairs=>k_is)
  (case i_Ties_pairs=>k_is)
  (case l_Ties_pairs=>k_is)
  (case cc_Ties_pairs=>k_is)
  (case k_Ties_pairs=>k_is)
  (case a_Ties_waiting=>k_is)
  (case i_Ties_waiting=>k_is)
  (case l_Ties_waiting=>k_is)
  (case cc_Ties_waiting=>k_is)
  (case k_Ties_waiting=>k_is)
  (case a_l_looked=>k_is)
  (case l_l_looked=>k_is)
  (case cc_l_looked=>k_is)
  (case k_l_looked=>k_is)
  (case a_law=>k_is)
  (case l_law=>k_is)
  (case cc_law=>k_is)
  (case k_law=>k_is)
  (case pg_Ties=>k_is)
  (case hd_Ties=>k_is)
  (case po_Ties=>k_is)
  (case sa_Ties=>k_is)
  (case mk_Ties=>k_is)
  (case kc_Ties=>k_is)
  (case lk_hn=>k_is)
  (case lk_tk=>k_is)
  (case ow_NoHouse=>kernel_rfl)
  (case lk_cl_NoHouse=>kernel_rfl)
  (case lk_ga_NoHouse=>k_is)
  (case lk_hk_NoHouse=>k_is)
  (case lk_sub_NoHouse=>k_is)
  (case lk_ha_NoHouse=>k_is)
  (case lk_hm_NoHouse=>k_is)
  (case ex_NoHouse_PostError=>kernel_rfl)
  (case y_0_NoHouse=>kernel_rfl)
  (case y_1_NoHouse=>kernel_rfl)
  (case y_2_NoHouse=>kernel_rfl)
  (case y_3_NoHouse=>kernel_rfl)
  (case y_4_NoHouse=>kernel_rfl)
  (case y_5_NoHouse=>kernel_rfl)
  (case ow_NoNote=>kernel_rfl)
  (case lk_cl_NoNote=>kernel_rfl)
  (case lk_ga_NoNote=>k_is)
  (case lk_hk_NoNote=>k_is)
  (case lk_sub_NoNote=>k_is)
  (case lk_ha_NoNote=>k_is)
  (case lk_hm_NoNote=>k_is)
  (case ex_NoNote_PostError=>kernel_rfl)
  (case y_0_NoNote=>kernel_rfl)
  (case y_1_NoNote=>kernel_rfl)
  (case y_2_NoNote=>kernel_rfl)
  (case y_3_NoNote=>kernel_rfl)
  (case y_4_NoNote=>kernel_rfl)
  (case y_5_NoNote=>kernel_rfl)
  (case ow_NotTied=>kernel_rfl)
  (case lk_cl_NotTied=>kernel_rfl)
  (case lk_ga_NotTied=>k_is)
  (case lk_hk_NotTied=>k_is)
  (case lk_sub_NotTied=>k_is)
  (case lk_ha_NotTied=>k_is)
  (case lk_hm_NotTied=>k_is)
  (case ex_NotTied_PostError=>kernel_rfl)
  (case y_0_NotTied=>kernel_rfl)
  (case y_1_NotTied=>kernel_rfl)
  (case y_2_NotTied=>kernel_rfl)
  (case y_3_NotTied=>kernel_rfl)
  (case y_4_NotTied=>kernel_rfl)
  (case y_5_NotTied=>kernel_rfl)
  (case ow_Tied=>kernel_rfl)
  (case lk_cl_Tied=>kernel_rfl)
  (case lk_ga_Tied=>k_is)
  (case lk_hk_Tied=>k_is)
  (case lk_sub_Tied=>k_is)
  (case lk_ha_Tied=>k_is)
  (case lk_hm_Tied=>k_is)
  (case ex_Tied_PostError=>kernel_rfl)
  (case y_0_Tied=>kernel_rfl)
  (case y_1_Tied=>kernel_rfl)
  (case y_2_Tied=>kernel_rfl)
  (case y_3_Tied=>kernel_rfl)
  (case y_4_Tied=>kernel_rfl)
  (case y_5_Tied=>kernel_rfl)
  (case nf_Ties_length_by=>k_is)
  (case nf_Ties_sent_on=>k_is)
  (case z_ValueError=>k_is)
  (case z_all=>k_is)
  (case z_enumerate=>k_is)
  (case z_int=>k_is)
  (case z_isinstance=>k_is)
  (case z_len=>k_is)
  (case z_list=>k_is)
  (case z_max=>k_is)
  (case z_min=>k_is)
  (case z_range=>k_is)
  (case z_sorted=>k_is)
  (case z_str=>k_is)
  (case z_tuple=>k_is)

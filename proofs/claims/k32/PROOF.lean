import PyProof.Rows.All
import Wide.All
import OpenK.AllK
import Wide.FinOn
import Lean
import PyProof.EqAt
import PyProof.EqKinds
import PyProof.TupleCall
import KE.KNest
import KE.KSortTup
import KE.KIntText
import KE.KTryMore
import PyProof.ExcArgs
import KE.KIsAll
import PyProof.ReprNest
import PyProof.NsMap
import PyProof.Rows.Own
import PyProof.ReprStr
import PyProof.ExcBaseAll.ValueError
import PyProof.FitsInt
import PyProof.ZipIter
import KE.KDictOf
import PyProof.AttrMissHeap
import PyProof.WalksEnum
import PyProof.EnumMake
import PySem.Challenge.RW_posthouse_k32_notes_in_order
set_option Elab.async false
set_option linter.all false
set_option maxRecDepth 100000
set_option genSizeOf false
set_option bootstrap.genMatcherCode false
namespace L2
open PySem PySem.Spec PyProof.Rows
noncomputable abbrev Key:=Sum Int Str
noncomputable def tO:Key->Value->Bool
 | .inl k,v=>Value.isInt k v
 | .inr x,v=>Value.isStrOf x v
noncomputable def TY(w:World):Key->Int
 | .inl k=>hashInt k
 | .inr x=>hashStr w x
theorem dF:∀{k:Key} {v:Value},tO k v=true->(∃i t,k=Sum.inl i/\v=Value.int i t)\/(∃x t,k=Sum.inr x/\v=Value.str x t)
 | .inl i,v,h=>by
  obtain⟨t,e⟩:=Value.isInt_shape (k:=i) (v:=v) h
  exact .inl ⟨i,t,rfl,e⟩
 | .inr x,v,h=>by
  obtain⟨t,e⟩:=Value.isStrOf_shape (x:=x) (v:=v) h
  exact .inr ⟨x,t,rfl,e⟩
theorem Fx(i:Int)(t:Tok):tO (.inl i) (.int i t)=true:=by simp[tO,Value.isInt]
theorem Fy(x:Str)(t:Tok):tO (.inr x) (.str x t)=true:=by simp[tO,Value.isStrOf]
theorem Qn(a b:Int):decide ((Sum.inl a:Key)=Sum.inl b)=(a==b):=by
 by_cases e:a=b
 ·subst e;simp
 ·have h:¬(Sum.inl a:Key)=Sum.inl b:=fun q=>e (Sum.inl.inj q)
  rw[decide_eq_false h]
  exact(beq_eq_false_iff_ne.mpr e).symm
theorem Qo(a b:Str):decide ((Sum.inr a:Key)=Sum.inr b)=decide (a=b):=by
 by_cases e:a=b
 ·subst e;simp
 ·have h:¬(Sum.inr a:Key)=Sum.inr b:=fun q=>e (Sum.inr.inj q)
  rw[decide_eq_false h,decide_eq_false e]
theorem Qp(a:Int)(b:Str):decide ((Sum.inl a:Key)=Sum.inr b)=false:=decide_eq_false (fun q=>nomatch q)
theorem Qq(a:Str)(b:Int):decide ((Sum.inr a:Key)=Sum.inl b)=false:=decide_eq_false (fun q=>nomatch q)
noncomputable def cD(prog:Program)(w:World):PySem.KeyKind prog w Key where
 is:=tO
 hash:=TY w
 inj:=fun v a b ha hb=>by
  rcases dF ha with⟨i,t,rfl,rfl⟩ |⟨x,t,rfl,rfl⟩
  ·rcases dF hb with⟨j,u,rfl,e⟩ |⟨y,u,rfl,e⟩
   ·injection e with e1 _;rw[e1]
   ·exact nomatch e
  ·rcases dF hb with⟨j,u,rfl,e⟩ |⟨y,u,rfl,e⟩
   ·exact nomatch e
   ·injection e with e1 _;rw[e1]
 byValue:=fun k v h=>by
  rcases dF h with⟨i,t,rfl,rfl⟩ |⟨x,t,rfl,rfl⟩<;>rfl
 pyHash:=fun hv h=>by
  rcases dF hv with⟨i,t,rfl,rfl⟩ |⟨x,t,rfl,rfl⟩
  ·exact wpAny_pyHash_int h
  ·exact wpAny_pyHash_str h
 eqBool:=fun hu hv h=>by
  rcases dF hu with⟨i,t,rfl,rfl⟩ |⟨x,t,rfl,rfl⟩
  ·rcases dF hv with⟨j,u,rfl,rfl⟩ |⟨y,u,rfl,rfl⟩
   ·rw[Qn] at h;exact wpAny_eqBool_int h
   ·rw[Qp] at h;exact SeqAt.EqAt.int_str i t y u _ _ _ _ h
  ·rcases dF hv with⟨j,u,rfl,rfl⟩ |⟨y,u,rfl,rfl⟩
   ·rw[Qq] at h;exact SeqAt.EqAt.str_int x t j u _ _ _ _ h
   ·rw[Qo] at h;exact wpAny_eqBool_str h
 «strs»:=fun k x t v h=>by
  rcases dF h with⟨i,u,rfl,e⟩ |⟨y,u,rfl,e⟩
  ·exact nomatch e
  ·injection e with e1 _
   subst e1
   cases v<;>rfl
theorem Cg(prog:Program)(w:World)(i:Int)(t:Tok):(cD prog w).is (.inl i) (.int i t)=true:=Fx i t
theorem Ci(prog:Program)(w:World)(x:Str)(t:Tok):(cD prog w).is (.inr x) (.str x t)=true:=Fy x t
end L2
namespace L2
open PySem PySem.Spec PyProof.Rows
inductive V where
 | non |bl (b:Bool) |int (i:Int) |str (x:Str) |byt (b:Array UInt8) |flt (b:UInt64) |ref (a:Addr) |ty (n:String)
 deriving DecidableEq
noncomputable def RelV:V->Value->Prop
 | .non,u=>u=Value.none
 | .bl b,u=>u=Value.bool b
 | .int i,u=>∃t,u=Value.int i t
 | .str x,u=>∃t,u=Value.str x t
 | .byt b,u=>∃t,u=Value.bytes b t
 | .flt b,u=>∃t,u=Value.float b t
 | .ref a,u=>u=Value.ref a
 | .ty n,u=>u=Value.type n
noncomputable abbrev Vals:List V->List Value->Prop:=Paired RelV
theorem Vals.length{xs:List V}{us:List Value}(r:Vals xs us):xs.length=us.length:=Paired.length r
theorem Vals.get:∀{xs:List V} {us:List Value} {i:Nat} {x:V},Vals xs us->xs[i]? = some x->∃u,us[i]? = some u/\RelV x u
 | _,_,_,_,.nil,e=>by simp at e
 | _,_,0,_,.cons r _,e=>by simp at e;subst e;exact⟨_,rfl,r⟩
 | _,_,i+1,x,.cons _ t,e=>by
  obtain⟨u,h1,h2⟩:=Vals.get (i:=i) (x:=x) t (by simpa using e)
  exact⟨u,by simpa using h1,h2⟩
theorem Vals.set{x:V}{u:Value}(r:RelV x u):∀{xs:List V} {us:List Value} (i:Nat),Vals xs us->Vals (xs.set i x) (us.set i u)
 | _,_,_,.nil=>.nil
 | _,_,0,.cons _ t=>.cons r t
 | _,_,i+1,.cons q t=>.cons q (Vals.set r i t)
theorem Vals.append:∀{xs ys:List V} {us ws:List Value},Vals xs us->Vals ys ws->Vals (xs++ys) (us++ws)
 | _,_,_,_,.nil,s=>s
 | _,_,_,_,.cons r t,s=>.cons r (Vals.append t s)
theorem Vals.take:∀{xs:List V} {us:List Value} (n:Nat),Vals xs us->Vals (xs.take n) (us.take n)
 | _,_,0,_=>.nil
 | _,_,_+1,.nil=>.nil
 | _,_,n+1,.cons r t=>.cons r (Vals.take n t)
theorem Vals.drop:∀{xs:List V} {us:List Value} (n:Nat),Vals xs us->Vals (xs.drop n) (us.drop n)
 | _,_,0,r=>r
 | _,_,_+1,.nil=>.nil
 | _,_,n+1,.cons _ t=>Vals.drop n t
noncomputable def gY:Option V->Option Value->Prop
 | some v,some u=>RelV v u
 | none,none=>True
 | _,_=>False
noncomputable def KV{κ:Type}:List (κ×V)->List (κ×Value)->Prop:=Paired fun(p:κ×V) (q:κ×Value)=>p.1=q.1/\RelV p.2 q.2
noncomputable def kV:Key->V
 | .inl i=>.int i
 | .inr x=>.str x
inductive HO where
  | lst (xs:List V)
  | tup (xs:List V)
  | dK (kvs:List (Key×V)) |dT (kvs:List (List Key×V))
  | set (S:Int->Bool) (n:Nat)
  | ins (C dx:Addr) (fs:List (Str×V))
  | own (x:Addr)
  | xd (fs:List (Str×V))
  | met (f x:Addr)
  | rng (lo hi:Int)
  | frz (o:Obj) (u:HO)
  | tbl (ps:Array Value)
  | ext (φ:Heap->Prop)
noncomputable abbrev Hp:=Addr->Option HO
noncomputable def upd(H:Hp)(a:Addr)(o:HO):Hp:=fun b=>if b=a then some o else H b
theorem aJ{H:Hp}{a:Addr}{o:HO}:upd H a o a=some o:=by unfold upd;rw[if_pos rfl]
theorem aC{H:Hp}{a b:Addr}{o:HO}(h:b≠a):upd H a o b=H b:=by unfold upd;rw[if_neg h]
theorem zE{H:Hp}{a b:Addr}{o u:HO}(h:H a=some o)(h':H b=some u)(d:o≠u):a≠b:=by
 intro e;subst e;rw[h] at h';exact d (Option.some.inj h')
theorem aM{H:Hp}{a b:Addr}{o:HO}(h:H a=some o)(h':H b=none):a≠b:=by
 intro e;subst e;rw[h] at h';cases h'
section
variable (P:Program) (w:World)
noncomputable def bI(H:Hp)(h:Heap)(a:Addr):HO->Prop
 | .lst xs=>xs.length<=sizeLine/\∃(its:List Value) (n:Nat),Vals xs its/\h.get? a=some { cls:=.type "list",data:=.seq its.toArray n }
 | .tup xs=>xs.length<=sizeLine/\∃its:List Value,Vals xs its/\IsTup h a its.toArray
 | .dK kvs=>kvs.length<=sizeLine/\(a==sysModules)=false/\∃vs,KV kvs vs/\h.DictOf (cD P w) a vs
 | .dT kvs=>kvs.length<=sizeLine/\(a==sysModules)=false/\∃xs:List (List Key×Addr×Value),
   Paired (fun(p:List Key×V) (q:List Key×Addr×Value)=>p.1=q.1/\H q.2.1=some (.tup (p.1.map kV))/\RelV p.2 q.2.2) kvs xs /\
   ∃o es ep,h.get? a=some o/\o.ExactDict/\o.data=.dict es ep/\es.toList=xs.map (entryOfKey (tupleKind (cD P w)))/\(xs.map (·.1)).Nodup
 | .set S n=>h.SetOf (intKind P w) a S n
 | .ins C dx fs=>H dx=some (.own a)/\fs.length<=1000/\dx≠a/\h.get? a=some (PySem.W.instObj C dx) /\
   ∃mA,h.Ns1 dx mA/\(∀f,gY (fs.lookup f) (mA f))/\PySem.Within mA (fs.map (·.1))
 | .own _=>∃o,h.get? a=some o
 | .xd fs=>∃mA,h.Ns1 a mA/\∀f,gY (fs.lookup f) (mA f)
 | .rng lo hi=>∃t u v,h.get? a=some { cls:=.type "range",data:=.fields #[.int lo t,.int hi u,.int 1 v] }
 | .frz o u=>h.get? a=some o/\bI H h a u
 | .tbl ps=>h.get? a=some { cls:=.none,data:=.fields ps }
 | .met f x=>h.get? a=some (PySem.W.methodObj (.ref f) (.ref x))
 | .ext φ=>φ h/\(∃o,h.get? a=some o)/\∀h1 h2:Heap,φ h1->(∀o,h1.get? a=some o->h2.get? a=some o)->φ h2
noncomputable def HOk(H:Hp)(h:Heap):Prop:=∀a o,H a=some o->bI P w H h a o
end
section
variable {P:Program} {w:World} {H H':Hp} {h h':Heap} {a:Addr} {o:HO}
theorem bI.lt(x:bI P w H h a o):a<h.objs.size:=by
 cases o with
 | lst xs=>obtain⟨_,_,_,_,e⟩:=x;exact Heap.lt_size e
 | tup xs=>obtain⟨_,_,_,p⟩:=x;exact p.lt
 | dK kvs=>obtain⟨_,_,_,_,o,_,_,e,_⟩:=x;exact Heap.lt_size e
 | dT kvs=>obtain⟨_,_,_,_,o,_,_,e,_⟩:=x;exact Heap.lt_size e
 | set S n=>obtain⟨o,_,_,_,e,_⟩:=x;exact Heap.lt_size e
 | ins C dx fs=>obtain⟨_,_,_,e,_⟩:=x;exact Heap.lt_size e
 | own y=>obtain⟨_,e⟩:=x;exact Heap.lt_size e
 | xd fs=>obtain⟨_,⟨_,_,_,e,_⟩,_⟩:=x;exact Heap.lt_size e
 | rng lo hi=>obtain⟨_,_,_,e⟩:=x;exact Heap.lt_size e
 | frz ob u=>obtain⟨e,_⟩:=x;exact Heap.lt_size e
 | tbl ps=>exact Heap.lt_size (show h.get? a=some _ from x)
 | met f y=>exact Heap.lt_size (show h.get? a=some _ from x)
 | ext φ=>obtain⟨_,⟨_,e⟩,_⟩:=x;exact Heap.lt_size e
theorem Paired.mapP{α β:Type}{F G:α->β->Prop}:∀{l₁:List α} {l₂:List β},Paired F l₁ l₂->(∀a b,F a b->G a b)->Paired G l₁ l₂
 | _,_,.nil,_=>.nil
 | _,_,.cons r t,f=>.cons (f _ _ r) (Paired.mapP t f)
theorem bI.stay(x:bI P w H h a o)(k:∀b u,(b=a\/H b=some (.own a))->h.get? b=some u->h'.get? b=some u)
  (ho:∀b,H b=some (.own a)->H' b=some (.own a)) (ht:∀b xs,H b=some (.tup xs)->H' b=some (.tup xs)):bI P w H' h' a o:=by
 induction o with
 | lst xs=>obtain⟨z,its,n,r,e⟩:=x;exact⟨z,its,n,r,k _ _ (.inl rfl) e⟩
 | tup xs=>obtain⟨z,its,r,ob,e,c⟩:=x;exact⟨z,its,r,ob,k _ _ (.inl rfl) e,c⟩
 | dK kvs=>obtain⟨z,y,vs,r,ob,es,ep,e,c⟩:=x;exact⟨z,y,vs,r,ob,es,ep,k _ _ (.inl rfl) e,c⟩
 | dT kvs =>
  obtain⟨z,y,xs,r,ob,es,ep,e,c⟩:=x
  exact⟨z,y,xs,Paired.mapP r fun p q z=>⟨z.1,ht _ _ z.2.1,z.2.2⟩,ob,es,ep,k _ _ (.inl rfl) e,c⟩
 | set S n=>obtain⟨ob,es,ep,t,e,c⟩:=x;exact⟨ob,es,ep,t,k _ _ (.inl rfl) e,c⟩
 | ins C dx fs =>
  obtain⟨d,z,ne,e,mA,⟨od,es,ep,e2,c⟩,r⟩:=x
  exact⟨ho _ d,z,ne,k _ _ (.inl rfl) e,mA,⟨od,es,ep,k _ _ (.inr d) e2,c⟩,r⟩
 | own y=>obtain⟨ob,e⟩:=x;exact⟨ob,k _ _ (.inl rfl) e⟩
 | xd fs=>obtain⟨mA,⟨od,es,ep,e,c⟩,r⟩:=x;exact⟨mA,⟨od,es,ep,k _ _ (.inl rfl) e,c⟩,r⟩
 | rng lo hi=>obtain⟨t,u,v,e⟩:=x;exact⟨t,u,v,k _ _ (.inl rfl) e⟩
 | frz ob u ih=>obtain⟨e,q⟩:=x;exact⟨k _ _ (.inl rfl) e,ih q⟩
 | tbl ps =>
  have e:h.get? a=some { cls:=.none,data:=.fields ps }:=x
  show h'.get? a=some { cls:=.none,data:=.fields ps }
  exact k a _ (.inl rfl) e
 | met f y =>
  have e:h.get? a=some (PySem.W.methodObj (.ref f) (.ref y)):=x
  show h'.get? a=some (PySem.W.methodObj (.ref f) (.ref y))
  exact k a _ (.inl rfl) e
 | ext φ=>obtain⟨p,⟨o,e⟩,st⟩:=x;exact⟨st _ _ p fun o q=>k _ _ (.inl rfl) q,⟨o,k _ _ (.inl rfl) e⟩,st⟩
theorem HOk.lt(x:HOk P w H h)(e:H a=some o):a<h.objs.size:=(x a o e).lt
theorem HOk.fresh(x:HOk P w H h)(e:h.objs.size<=a):H a=none:=by
 cases q:H a with
 | none=>rfl
 | some u=>exact absurd (Nat.lt_of_lt_of_le (x.lt q) e) (Nat.lt_irrefl _)
theorem HOk.kept(x:HOk P w H h)(k:∀b u,h.get? b=some u->h'.get? b=some u):HOk P w H h':=fun a o e =>
 (x a o e).stay (fun b u _ q=>k b u q) (fun _ q=>q) fun _ _ q=>q
theorem HOk.laid(x:HOk P w H h)(k:∀b u,h.get? b=some u->h'.get? b=some u)(hp:h.objs.size<=a)(new:bI P w (upd H a o) h' a o):HOk P w (upd H a o) h':=fun b u e=>by
 have hn:=x.fresh hp
 by_cases hb:b=a
 ·subst hb;rw[aJ] at e;cases e;exact new
 ·rw[aC hb] at e
  exact(x b u e).stay (fun c v _ q=>k c v q) (fun c q=>by rw[aC (aM q hn)];exact q) fun c xs q=>by rw[aC (aM q hn)];exact q
end
noncomputable def Rd(H:Hp)(a:Addr)(u:HO):Prop:=H a=some u\/∃o,H a=some (.frz o u)
theorem Rd.ok{P:Program}{w:World}{H:Hp}{h:Heap}{a:Addr}{u:HO}(r:Rd H a u)(x:HOk P w H h):bI P w H h a u:=by
 rcases r with r |⟨o,r⟩
 ·exact x a u r
 ·obtain⟨_,q⟩:=x a _ r
  exact q
noncomputable def Mut:Option HO->Prop
 | some (.lst _)=>True
 | some (.dK _)=>True
 | some (.dT _)=>True
 | some (.set _ _)=>True
 | some (.ins _ _ _)=>True
 | some (.ext _)=>True
 | _=>False
section
variable {P:Program} {w:World} {H:Hp} {h h':Heap} {x e:Addr} {o':HO}
theorem HOk.write(ok:HOk P w H h)(mu:Mut (H x))(he:e=x\/H e=some (.own x))(k:∀b u,b≠e->h.get? b=some u->h'.get? b=some u)(heo:∃u,h'.get? e=some u)
  (new:bI P w (upd H x o') h' x o'):HOk P w (upd H x o') h':=fun b u q=>by
 have nown:∀c y,H c=some (.own y)->c≠x:=fun c y r z=>by subst z;rw[r] at mu;exact mu
 have ntup:∀c xs,H c=some (.tup xs)->c≠x:=fun c xs r z=>by subst z;rw[r] at mu;exact mu
 by_cases hb:b=x
 ·subst hb;rw[aJ] at q;cases q;exact new
 ·rw[aC hb] at q
  by_cases hbe:b=e
  ·have q':H b=some (.own x):=by
    rcases he with z |z
    ·exact absurd (hbe.trans z) hb
    ·rw[hbe];exact z
   rw[q] at q';cases q'
   obtain⟨v,hv⟩:=heo
   exact⟨v,by rw[hbe];exact hv⟩
  ·refine(ok b u q).stay (fun c v hc r=>k c v ?_ r) (fun c r=>by rw[aC (nown c b r)];exact r) fun c xs r=>by rw[aC (ntup c xs r)];exact r
   rcases hc with rfl |hc
   ·exact hbe
   ·rintro rfl
    rcases he with z |z
    ·exact nown c b hc z
    ·rw[hc] at z;cases z;exact hb rfl
end
structure Un(fs ex:List Addr)(H H':Hp)(h h':Heap):Prop where
 keep:∀b o,h.get? b=some o->H b=none->b∉fs->b∉ex->h'.get? b=some o
 slot:∀b o,h.get? b=some o->H b=none->b∈fs->b∉ex->∃sl,h'.get? b=some { o with slots:=sl }
 free:∀b o,h.get? b=some o->H b=none->b∉ex->H' b=none
 there:∀b o,h.get? b=some o->b∉ex->∃o',h'.get? b=some o'
 tups:∀b xs,H b=some (.tup xs)->H' b=some (.tup xs)
 frzs:∀b o u,H b=some (.frz o u)->H' b=some (.frz o u)
 tbls:∀b ps,H b=some (.tbl ps)->∃more,H' b=some (.tbl (ps++more))
section
variable {fs fs' ex ex':List Addr} {H H1 H2:Hp} {h h1 h2 h':Heap} {a x e:Addr} {o:HO}
theorem Un.any(u:Un fs ex H H1 h h1){b:Addr}{ob:Obj}(q:h.get? b=some ob)(n:H b=none)(hx:b∉ex):∃sl,h1.get? b=some { ob with slots:=sl }:=by
 by_cases hb:b∈fs
 ·exact u.slot b ob q n hb hx
 ·exact⟨ob.slots,u.keep b ob q n hb hx⟩
theorem Un.kept(k:∀b u,h.get? b=some u->h'.get? b=some u):Un fs ex H H h h' :=
 ⟨fun b ob q _ _ _=>k b ob q,fun b ob q _ _ _=>⟨ob.slots,k b ob q⟩,fun _ _ _ n _=>n,fun b ob q _=>⟨ob,k b ob q⟩,fun _ _ q=>q,fun _ _ _ q=>q,fun _ ps q=>⟨#[],by rw[q];simp⟩⟩
theorem Un.refl:Un fs ex H H h h:=Un.kept fun _ _ q=>q
theorem Un.laid(k:∀b u,h.get? b=some u->h'.get? b=some u)(hp:h.objs.size<=a)(hn:H a=none):Un fs ex H (upd H a o) h h' where
 keep:=fun b u q _ _ _=>k b u q
 slot:=fun b u q _ _ _=>⟨u.slots,k b u q⟩
 free:=fun b u q n _=>by rw[aC (Nat.ne_of_lt (Nat.lt_of_lt_of_le (Heap.lt_size q) hp))];exact n
 there:=fun b u q _=>⟨u,k b u q⟩
 tups:=fun b xs q=>by rw[aC (aM q hn)];exact q
 frzs:=fun b u xs q=>by rw[aC (aM q hn)];exact q
 tbls:=fun b ps q=>⟨#[],by rw[aC (aM q hn),q];simp⟩
theorem Un.write(mu:Mut (H x))(he:e=x\/H e=some (.own x))(k:∀b u,b≠e->h.get? b=some u->h'.get? b=some u)(heo:∃u,h'.get? e=some u):Un fs ex H (upd H x o) h h':=by
 have hx:∀b,H b=none->b≠x:=fun b n z=>by subst z;rw[n] at mu;exact mu
 have hb:∀b,H b=none->b≠e:=fun b n z=>by
  subst z
  rcases he with r |r
  ·exact hx b n r
  ·rw[n] at r;cases r
 have hm:∀b u,H b=some u->¬Mut (some u)->b≠x:=fun b u q nm z=>by subst z;rw[q] at mu;exact nm mu
 refine⟨fun b u q n _ _=>k b u (hb b n) q,fun b u q n _ _=>⟨u.slots,k b u (hb b n) q⟩,fun b u q n _=>by rw[aC (hx b n)];exact n,fun b u q _=>?_,
  fun b xs q=>by rw[aC (hm b _ q fun z=>z)];exact q,fun b u xs q=>by rw[aC (hm b _ q fun z=>z)];exact q,fun b ps q=>⟨#[],by rw[aC (hm b _ q fun z=>z),q];simp⟩⟩
 by_cases hbe:b=e
 ·subst hbe;exact heo
 ·exact⟨u,k b u hbe q⟩
end
noncomputable def trk(h:Heap)(H:Hp):List Addr:=(List.range h.objs.size).filter fun a=>(H a).isSome
noncomputable def qL(h:Heap)(H:Hp):Heap:=PySem.W.hideAll h (trk h H)
theorem Fz(h:Heap)(H:Hp):(qL h H).objs.size=h.objs.size:=PySem.W.hideAll_size _ _
theorem Iv{h:Heap}{H:Hp}{b:Addr}{o:Obj}(e:h.get? b=some o)(n:H b=none):(qL h H).get? b=some o :=
 PySem.W.hideAll_get _ e fun hm=>by
  have q:(H b).isSome=true:=(List.mem_filter.mp hm).2
  rw[n] at q;simp at q
theorem Ms{h:Heap}{H:Hp}{b:Addr}{o:Obj}(e:(qL h H).get? b=some o):h.get? b=some o/\H b=none:=by
 have e':h.get? b=some o:=PySem.W.of_hideAll (trk h H) e
 refine⟨e',?_⟩
 cases q:H b with
 | none=>rfl
 | some x =>
  have hm:b∈trk h H:=List.mem_filter.mpr ⟨List.mem_range.mpr (Heap.lt_size e'),by simp[q]⟩
  have z:(qL h H).get? b=none:=PySem.W.hideAll_none (trk h H) hm
  rw[z] at e;cases e
noncomputable def Mu(g h:Heap)(L:Addr):List (Addr×Obj):=(List.range h.objs.size).filterMap fun a=>if a=L\/(g.get? a).isSome=true then none else(h.get? a).map fun o=>(a,o)
noncomputable def rest(g h:Heap)(L d:Addr):List (Addr×Obj):=(Mu g h L).filter fun p=>decide (p.1≠d)
end L2
namespace L2
open PySem PySem.Spec PyProof.Rows
structure Mod(K:PySem.W.Frag)(mg:Str->Option Value)(base:Heap):Prop where
 kin:K.In base
 glob:base.Ns mainGlobals mg
 blt:∃mb,base.Ns builtinsNs mb/\∀x:Str,x ≠ "__name__" -> mb x=bootBuiltins x
 nolimit:base.NoLimit
structure Cx where
 prog:Program
 w:World
 K:PySem.W.Frag
 mg:Str->Option Value
 base:Heap
 A:Around
 N:List Str
 s₀:Shared
 H₀:Hp
 env:Env
 outer:List Env
 stack:List Env
 ex:List Addr
 fn:Str->Bool
 calm:Bool
 pn:List (Addr×Obj)
 xe:Value->Shared->Prop
noncomputable def frs(l:List Env):List Addr:=l.filterMap (·.frame)
noncomputable abbrev Cx.fs(X:Cx):List Addr:=frs X.outer
noncomputable def Vis(sc:Scope)(x:Str):Prop:=sc.names.lookup x=some .local\/sc.names.lookup x=some .cell\/sc.names.lookup x=some .free
noncomputable def Loc(sc:Scope)(x:Str):Prop:=sc.names.lookup x=some .local\/sc.names.lookup x=some .cell
noncomputable def Look(env:Env)(h:Heap)(m:Str->Option Value)(x:Str)(u:Value):Prop :=
 (env.kindOf x=some .local/\m x=some u)\/((env.kindOf x=some .cell\/env.kindOf x=some .free)/\∃c,env.cells.lookup x=some c/\h.IsCell c (some u))
structure Cx.Ok(X:Cx):Prop where
 mod:Mod X.K X.mg X.base
 kind:X.env.scope.kind=.function
 glob:X.env.globals=mainGlobals
 blt:X.env.builtins=builtinsNs
 above:X.s₀.heap.objs.size<=X.env.locals
 inj:∀x y c,X.env.cells.lookup x=some c->X.env.cells.lookup y=some c->x=y
 has:∀x,(X.env.kindOf x=some .cell\/X.env.kindOf x=some .free)->∃c,X.env.cells.lookup x=some c
 cab:∀x c,X.fn x=true->X.env.cells.lookup x=some c->X.s₀.heap.objs.size<=c
 hd:X.calm=true->X.A.handled=none
 frames:X.A.frames=some X.stack
 stk:X.stack=X.outer\/(X.stack=X.env::X.outer/\X.env.frame=some X.env.locals)
 exf:∀b∈X.ex,b≠X.env.locals/\∀x c,X.env.cells.lookup x=some c->c≠b
 bs:∀b o,X.base.get? b=some o->X.s₀.heap.get? b=some o/\X.H₀ b=none
 bsz:X.base.objs.size<=X.s₀.heap.objs.size
 noex:∀b o,X.base.get? b=some o->b∉X.ex
 exfs:∀b∈X.ex,b∉X.fs
 funs:X.s₀.heap.FunFrames X.base X.outer
 frf:∀b∈X.fs,X.H₀ b=none
structure Inv(X:Cx)(pins:List (Addr×Obj))(σ:List (Option V))(H:Hp)(s:Shared):Prop where
 ok:X.Ok
 os:s.os=X.s₀.os
 bare:AllBare s.gens
 base:Un X.fs X.ex X.H₀ H X.s₀.heap s.heap
 loc:∃m,s.heap.Ns X.env.locals m/\∀(i:Nat) (x:Str) (v:V),X.N[i]? = some x->σ[i]? = some (some v)->Vis X.env.scope x->∃u,RelV v u/\Look X.env s.heap m x u
 cell:∀x c,X.env.cells.lookup x=some c->∃v,s.heap.IsCell c v
 free:H X.env.locals=none
 freeC:∀x c,X.env.cells.lookup x=some c->H c=none\/(X.fn x=false/\∃o b,H c=some (.frz o (.own b)))
 pin:∀p∈X.pn++pins,s.heap.get? p.1=some p.2/\H p.1=none/\p.1≠X.env.locals/\p.1∉X.fs/\∀v,p.2.data ≠ .cell v
 hok:HOk X.prog X.w H s.heap
 len:σ.length=X.N.length
section
variable {X:Cx} {pins:List (Addr×Obj)} {σ:List (Option V)} {H H':Hp} {s:Shared} {h':Heap}
theorem Cx.Ok.nofr(ok:X.Ok){b:Addr}{o:Obj}(e:X.base.get? b=some o):b∉X.fs:=fun hb=>by
 have:=(ok.funs.mem hb).1
 rw[e] at this;cases this
theorem Inv.bs(I:Inv X pins σ H s):∀b o,X.base.get? b=some o->s.heap.get? b=some o/\H b=none:=fun b o e =>
 ⟨I.base.keep b o (I.ok.bs b o e).1 (I.ok.bs b o e).2 (I.ok.nofr e) (I.ok.noex b o e),I.base.free b o (I.ok.bs b o e).1 (I.ok.bs b o e).2 (I.ok.noex b o e)⟩
theorem Inv.bk(I:Inv X pins σ H s):∀b o,X.base.get? b=some o->s.heap.get? b=some o:=fun b o e=>(I.bs b o e).1
theorem Inv.mod(I:Inv X pins σ H s):Mod X.K X.mg X.base:=I.ok.mod
theorem Inv.kIn(I:Inv X pins σ H s):X.K.In s.heap:=I.ok.mod.kin.keeps I.bk
theorem Inv.lt(I:Inv X pins σ H s):X.env.locals<s.heap.objs.size:=let⟨_,hn,_⟩:=I.loc;hn.lt
theorem Inv.sz(I:Inv X pins σ H s):X.s₀.heap.objs.size<=s.heap.objs.size:=Nat.le_trans I.ok.above (Nat.le_of_lt I.lt)
theorem Inv.nofs(I:Inv X pins σ H s){a:Addr}(h:s.heap.objs.size<=a):a∉X.fs:=fun hb=>by
 obtain⟨_,o,ho,_⟩:=I.ok.funs.mem hb
 exact absurd (Nat.lt_of_lt_of_le (Heap.lt_size ho) (Nat.le_trans I.sz h)) (Nat.lt_irrefl _)
theorem Inv.cne(I:Inv X pins σ H s):∀x c,X.env.cells.lookup x=some c->c≠X.env.locals:=fun x c e z=>by
 obtain⟨v,o,ho,hd⟩:=I.cell x c e
 obtain⟨m,⟨o',es,ep,ho',hd',_⟩,_⟩:=I.loc
 rw[z,ho'] at ho;cases ho;rw[hd'] at hd;cases hd
theorem Inv.funs(I:Inv X pins σ H s):s.heap.FunFrames X.base X.outer:=by
 have all:∀(l:List Env),(∀b∈frs l,b∈X.fs)->X.s₀.heap.FunFrames X.base l->s.heap.FunFrames X.base l:=by
  intro l
  induction l with
  | nil=>intro _ _;trivial
  | cons env r ih =>
   intro hs hl
   obtain⟨hk,⟨L,o,hf,hn,ho,hd⟩,hr⟩:=hl
   have hL:L∈X.fs:=hs L (by unfold frs;rw[List.filterMap_cons,hf];exact List.mem_cons_self)
   obtain⟨sl,e⟩:=I.base.slot L o ho (I.ok.frf L hL) hL fun z=>I.ok.exfs L z hL
   exact⟨hk,⟨L,_,hf,hn,e,hd⟩,ih (fun b hb=>hs b (by unfold frs;rw[List.filterMap_cons,hf];exact List.mem_cons_of_mem _ hb)) hr⟩
 exact all X.outer (fun _ hb=>hb) I.ok.funs
theorem Inv.stack(I:Inv X pins σ H s):s.heap.FunFrames X.base X.stack:=by
 rcases I.ok.stk with e |⟨e,hf⟩
 ·rw[e];exact I.funs
 ·rw[e]
  obtain⟨m,hn,_⟩:=I.loc
  refine .cons (by rw[I.ok.kind];decide) hf hn ?_ I.funs
  exact Heap.get?_none_of_le (Nat.le_trans I.ok.bsz I.ok.above)
theorem Inv.stkSub(I:Inv X pins σ H s):∀b∈frs X.stack,b∈X.env.locals::X.fs:=fun b hb=>by
 rcases I.ok.stk with e |⟨e,hf⟩
 ·rw[e] at hb;exact List.mem_cons_of_mem _ hb
 ·rw[e] at hb
  unfold frs at hb
  rw[List.filterMap_cons,hf] at hb
  exact hb
theorem Inv.stkFree(I:Inv X pins σ H s):∀b∈frs X.stack,H b=none:=fun b hb=>by
 rcases List.mem_cons.mp (I.stkSub b hb) with e |hb
 ·rw[e];exact I.free
 ·obtain⟨_,o,ho,_⟩:=I.ok.funs.mem hb
  exact I.base.free b o ho (I.ok.frf b hb) fun z=>I.ok.exfs b z hb
theorem Inv.step{g':Array GenState}{t':Nat}{d':Drawn}{ch:List Addr}(I:Inv X pins σ H s)
  (hch:∀b∈ch,(b∈X.ex\/X.s₀.heap.objs.size<=b)/\b≠X.env.locals/\(∀x c,X.env.cells.lookup x=some c->c≠b)/\∀p∈X.pn++pins,p.1≠b)
  (keep:∀b o,b≠X.env.locals->b∉X.fs->b∉ch->s.heap.get? b=some o->H b=none->h'.get? b=some o)
  (slot:∀b o,b≠X.env.locals->b∈X.fs->b∉ch->s.heap.get? b=some o->H b=none->∃sl,h'.get? b=some { o with slots:=sl }) (free:∀b o,b∉ch->s.heap.get? b=some o->H b=none->H' b=none)
  (there:∀b o,b∉ch->s.heap.get? b=some o->∃o',h'.get? b=some o')
  (tups:∀b xs,H b=some (.tup xs)->H' b=some (.tup xs)) (frzs:∀b o u,H b=some (.frz o u)->H' b=some (.frz o u)) (tbls:∀b ps,H b=some (.tbl ps)->∃more,H' b=some (.tbl (ps++more)))
  (ns:∀m,s.heap.Ns X.env.locals m->h'.Ns X.env.locals m) (hok:HOk X.prog X.w H' h') (hg:AllBare g') :
  Inv X pins σ H' { s with heap:=h',gens:=g',drawn:=d',toks:=t' }:=by
 have neL:∀b o,X.s₀.heap.get? b=some o->b≠X.env.locals:=fun b o e=>Nat.ne_of_lt (Nat.lt_of_lt_of_le (Heap.lt_size e) I.ok.above)
 have neC:∀b o,X.s₀.heap.get? b=some o->b∉X.ex->b∉ch:=fun b o e hx hb=>by
  rcases (hch b hb).1 with z |z
  ·exact hx z
  ·exact absurd (Nat.lt_of_lt_of_le (Heap.lt_size e) z) (Nat.lt_irrefl _)
 have cellK:∀x c,X.env.cells.lookup x=some c->∀v,s.heap.IsCell c v->h'.IsCell c v:=fun x c e v hw'=>by
  obtain⟨o,ho,hd⟩:=hw'
  have nch:c∉ch:=fun z=>(hch c z).2.2.1 x c e rfl
  rcases I.freeC x c e with fc |⟨_,o1,b1,fc⟩
  ·by_cases hc:c∈X.fs
   ·obtain⟨sl,q⟩:=slot c o (I.cne x c e) hc nch ho fc
    exact⟨_,q,hd⟩
   ·exact⟨o,keep c o (I.cne x c e) hc nch ho fc,hd⟩
  ·obtain⟨e1,_⟩:=I.hok c _ fc
   obtain⟨e2,_⟩:=hok c _ (frzs c _ _ fc)
   rw[ho] at e1
   cases e1
   exact⟨o,e2,hd⟩
 refine⟨I.ok,I.os,hg,⟨fun b o e n hb hx=>?_,fun b o e n hb hx=>?_,fun b o e n hx=>?_,fun b o e hx=>?_,fun b xs e=>tups b xs (I.base.tups b xs e),fun b o xs e=>frzs b o xs (I.base.frzs b o xs e),fun b ps e=>?_⟩,?_,fun x c e=>?_,?_,fun x c e=>?_,fun p hp=>?_,hok,I.len⟩
 ·exact keep b o (neL b o e) hb (neC b o e hx) (I.base.keep b o e n hb hx) (I.base.free b o e n hx)
 ·obtain⟨sl,e1⟩:=I.base.slot b o e n hb hx
  obtain⟨sl',e2⟩:=slot b _ (neL b o e) hb (neC b o e hx) e1 (I.base.free b o e n hx)
  exact⟨sl',e2⟩
 ·obtain⟨o',e1⟩:=I.base.there b o e hx
  exact free b o' (neC b o e hx) e1 (I.base.free b o e n hx)
 ·obtain⟨o',e1⟩:=I.base.there b o e hx
  exact there b o' (neC b o e hx) e1
 ·obtain⟨m1,e1⟩:=I.base.tbls b ps e
  obtain⟨m2,e2⟩:=tbls b _ e1
  exact⟨m1++m2,by rw[e2,Array.append_assoc]⟩
 ·obtain⟨m,hn,hl⟩:=I.loc
  refine⟨m,ns m hn,fun i x v e1 e2 e3=>?_⟩
  obtain⟨u,r,l⟩:=hl i x v e1 e2 e3
  refine⟨u,r,?_⟩
  rcases l with l |⟨k,c,e,z⟩
  ·exact .inl l
  ·exact .inr ⟨k,c,e,cellK x c e _ z⟩
 ·obtain⟨v,z⟩:=I.cell x c e
  exact⟨v,cellK x c e v z⟩
 ·obtain⟨m,⟨o,_,_,ho,_⟩,_⟩:=I.loc
  exact free _ o (fun z=>(hch _ z).2.1 rfl) ho I.free
 ·obtain⟨v,o,ho,hd⟩:=I.cell x c e
  rcases I.freeC x c e with fc |⟨q1,o1,b1,fc⟩
  ·exact .inl (free c o (fun z=>(hch c z).2.2.1 x c e rfl) ho fc)
  ·exact .inr ⟨q1,o1,b1,frzs _ _ _ fc⟩
 ·obtain⟨e,n,ne,nf,d⟩:=I.pin p hp
  have nch:p.1∉ch:=fun z=>(hch p.1 z).2.2.2 p hp rfl
  exact⟨keep p.1 p.2 ne nf nch e n,free p.1 p.2 nch e n,ne,nf,d⟩
theorem Inv.un{t':Nat}(I:Inv X pins σ H s)(u:Un X.fs [] H H' s.heap h')(hok:HOk X.prog X.w H' h'):Inv X pins σ H' { s with heap:=h',toks:=t' }:=by
 obtain⟨m,⟨o,es,ep,ho,r⟩,_⟩:=id I.loc
 obtain⟨sl,hL⟩:=u.any ho I.free (by simp)
 exact I.step (g':=s.gens) (d':=s.drawn) (ch:=[]) (fun _ z=>nomatch z) (fun b o _ hb _ e n=>u.keep b o e n hb (by simp)) (fun b o _ hb _ e n=>u.slot b o e n hb (by simp)) (fun b o _ e n=>u.free b o e n (by simp)) (fun b o _ e=>u.there b o e (by simp)) u.tups u.frzs u.tbls (fun m' hm=>by
  obtain⟨o',es',ep',ho',r'⟩:=hm
  rw[ho] at ho';cases ho'
  exact⟨_,es',ep',hL,r'⟩) hok I.bare
theorem Inv.call{g':Array GenState}{t':Nat}{d':Drawn}{ch:List Addr}(I:Inv X pins σ H s)(u:Un (frs X.stack) ch H H' s.heap h')(hok:HOk X.prog X.w H' h')(hg:AllBare g')
  (hch:∀b∈ch,(b∈X.ex\/X.s₀.heap.objs.size<=b)/\b≠X.env.locals/\(∀x c,X.env.cells.lookup x=some c->c≠b)/\∀p∈X.pn++pins,p.1≠b) :
  Inv X pins σ H' { s with heap:=h',gens:=g',drawn:=d',toks:=t' }:=by
 obtain⟨m,⟨o,es,ep,ho,r⟩,_⟩:=id I.loc
 obtain⟨sl,hL⟩:=u.any ho I.free fun z=>(hch _ z).2.1 rfl
 exact I.step (ch:=ch) hch (fun b o hL hb hc e n=>u.keep b o e n (fun z=>(List.mem_cons.mp (I.stkSub b z)).elim hL hb) hc) (fun b o _ _ hc e n=>u.any e n hc) (fun b o hc e n=>u.free b o e n hc) (fun b o hc e=>u.there b o e hc) u.tups u.frzs u.tbls (fun m' hm=>by
  obtain⟨o',es',ep',ho',r'⟩:=hm
  rw[ho] at ho';cases ho'
  exact⟨_,es',ep',hL,r'⟩) hok hg
theorem Inv.turned{t':Nat}{it:Addr}(I:Inv X pins σ H s)(k:∀b o,b≠it->s.heap.get? b=some o->h'.get? b=some o)(hn:H it=none)(hL:it≠X.env.locals)
  (h1:it∈X.ex\/X.s₀.heap.objs.size<=it) (h2:∀x c,X.env.cells.lookup x=some c->c≠it) (h3:∀p∈X.pn++pins,p.1≠it):Inv X pins σ H { s with heap:=h',toks:=t' }:=by
 have nit:∀b u,H b=some u->b≠it:=fun b u e z=>by rw[z,hn] at e;cases e
 refine I.step (g':=s.gens) (d':=s.drawn) (ch:=[it]) (fun b hb=>?_) (fun b o _ _ hc e _=>k b o (fun z=>hc (by simp[z])) e) (fun b o _ _ hc e _=>⟨o.slots,k b o (fun z=>hc (by simp[z])) e⟩) (fun _ _ _ _ n=>n)
  (fun b o hc e=>⟨o,k b o (fun z=>hc (by simp[z])) e⟩) (fun _ _ e=>e) (fun _ _ _ e=>e) (fun b ps e=>⟨#[],by rw[e];simp⟩) (fun m hm=>?_) (fun b u e=>?_) I.bare
 ·have e:b=it:=by simpa using hb
  subst e
  exact⟨h1,hL,h2,h3⟩
 ·obtain⟨o,es,ep,ho,r⟩:=hm
  exact⟨o,es,ep,k _ o (Ne.symm hL) ho,r⟩
 ·refine(I.hok b u e).stay (fun c v hc q=>k c v ?_ q) (fun _ q=>q) fun _ _ q=>q
  rcases hc with z |z
  ·rw[z];exact nit b u e
  ·exact nit c _ z
theorem Inv.tok(I:Inv X pins σ H s)(t:Nat):Inv X pins σ H { s with toks:=t }:=I.un (h':=s.heap) (t':=t) Un.refl I.hok
theorem Inv.kept{t':Nat}(I:Inv X pins σ H s)(k:∀b u,s.heap.get? b=some u->h'.get? b=some u):Inv X pins σ H { s with heap:=h',toks:=t' }:=I.un (Un.kept k) (I.hok.kept k)
theorem Inv.laid{a:Addr}{o:HO}{t':Nat}(I:Inv X pins σ H s)(k:∀b u,s.heap.get? b=some u->h'.get? b=some u)(hp:s.heap.objs.size<=a)(new:bI X.prog X.w (upd H a o) h' a o) :
  Inv X pins σ (upd H a o) { s with heap:=h',toks:=t' }:=I.un (Un.laid k hp (I.hok.fresh hp)) (I.hok.laid k hp new)
theorem Inv.write{x e:Addr}{o:HO}{t':Nat}(I:Inv X pins σ H s)(mu:Mut (H x))(he:e=x\/H e=some (.own x))(k:∀b u,b≠e->s.heap.get? b=some u->h'.get? b=some u)(heo:∃u,h'.get? e=some u)
  (new:bI X.prog X.w (upd H x o) h' x o):Inv X pins σ (upd H x o) { s with heap:=h',toks:=t' }:=I.un (Un.write mu he k heo) (I.hok.write mu he k heo new)
theorem Inv.pins_of{pins':List (Addr×Obj)}(I:Inv X pins σ H s)(h:∀p∈pins',s.heap.get? p.1=some p.2/\H p.1=none/\p.1≠X.env.locals/\p.1∉X.fs/\∀v,p.2.data ≠ .cell v):Inv X pins' σ H s :=
 ⟨I.ok,I.os,I.bare,I.base,I.loc,I.cell,I.free,I.freeC,fun p hp=>(List.mem_append.mp hp).elim (fun z=>I.pin p (List.mem_append_left _ z)) (h p),I.hok,I.len⟩
theorem zK{N:List Str}(hN:N.Nodup){i j:Nat}{x:Str}(a:N[i]? = some x)(b:N[j]? = some x):i=j:=by
 obtain⟨h1,e1⟩:=List.getElem?_eq_some_iff.mp a
 obtain⟨h2,e2⟩:=List.getElem?_eq_some_iff.mp b
 exact(List.getElem_inj hN).mp (e1.trans e2.symm)
theorem rT{M:Model}{A:Around}{E:Value->Shared->Prop}{i:Nat}{x:Str}{v:V}{u:Value}{Q:Unit->Shared->Prop}(I:Inv X pins σ H s)(hN:X.N.Nodup)(hi:X.N[i]? = some x)(hx:Loc X.env.scope x)(r:RelV v u)
  (h:∀s',Inv X pins (σ.set i (some v)) H s'->(∃a,Heap.SameBut a s.heap s'.heap/\(a=X.env.locals\/X.env.cells.lookup x=some a))->Q () s') (hf:X.fn x=true\/X.env.scope.names.lookup x=some .local:=by first |exact .inl rfl |exact .inr rfl |assumption):wpAny M A (storeName X.env x u) Q E s:=by
 obtain⟨m,hn,hl⟩:=id I.loc
 have hcls:(X.env.scope.kind == .class || (X.env.scope.kind == .module && X.env.locals != X.env.globals))=false:=by rw[I.ok.kind];rfl
 have hiσ:i<σ.length:=by rw[I.len];exact(List.getElem?_eq_some_iff.mp hi).1
 have cne:=I.cne
 have tracked:∀{a:Addr} {h':Heap},(∃o,s.heap.get? a=some o/\H a=none)->Heap.SameBut a s.heap h'->HOk X.prog X.w H h':=fun {a h'} ha hs b ob e=>by
  obtain⟨_,_,hfree⟩:=ha
  refine(I.hok b ob e).stay (fun c w' hc q=>(hs.2 c ?_).trans q) (fun _ q=>q) fun _ _ q=>q
  rintro rfl
  rcases hc with rfl |hc
  ·rw[hfree] at e;cases e
  ·rw[hfree] at hc;cases hc
 rcases hx with hk |hk
 ·refine wpAny_storeName_local hk hn (fun h' hn' hs=>?_) hcls
  obtain⟨oL,_,_,hoL,_⟩:=id hn
  refine h _ ⟨I.ok,I.os,I.bare,⟨fun b o e n hb hx=>?_,fun b o e n hb hx=>?_,I.base.free,fun b o e hx=>?_,I.base.tups,I.base.frzs,I.base.tbls⟩,⟨_,hn',fun j y v' e1 e2 e3=>?_⟩,fun y c e=>?_,I.free,I.freeC,fun p hp=>?_,tracked ⟨oL,hoL,I.free⟩ hs,by simpa using I.len⟩ ⟨_,hs,.inl rfl⟩
  ·exact(hs.2 b (Nat.ne_of_lt (Nat.lt_of_lt_of_le (Heap.lt_size e) I.ok.above))).trans (I.base.keep b o e n hb hx)
  ·obtain⟨sl,e1⟩:=I.base.slot b o e n hb hx
   exact⟨sl,(hs.2 b (Nat.ne_of_lt (Nat.lt_of_lt_of_le (Heap.lt_size e) I.ok.above))).trans e1⟩
  ·obtain⟨o',e1⟩:=I.base.there b o e hx
   exact⟨o',(hs.2 b (Nat.ne_of_lt (Nat.lt_of_lt_of_le (Heap.lt_size e) I.ok.above))).trans e1⟩
  ·by_cases hj:j=i
   ·subst hj
    rw[hi] at e1;cases e1
    rw[List.getElem?_set_self hiσ] at e2
    cases e2
    exact⟨u,r,.inl ⟨hk,by simp⟩⟩
   ·rw[List.getElem?_set_ne (Ne.symm hj)] at e2
    obtain⟨u',r',q⟩:=hl j y v' e1 e2 e3
    refine⟨u',r',?_⟩
    rcases q with⟨k,e⟩ |⟨k,c,e,z⟩
    ·refine .inl ⟨k,?_⟩
     have:y≠x:=fun e=>hj (zK hN e1 (e ▸ hi))
     simp[this,e]
    ·exact .inr ⟨k,c,e,z.sameBut hs (cne y c e)⟩
  ·obtain⟨w',z⟩:=I.cell y c e
   exact⟨w',z.sameBut hs (cne y c e)⟩
  ·obtain⟨e,n,ne,nf,d⟩:=I.pin p hp
   exact⟨(hs.2 p.1 ne).trans e,n,ne,nf,d⟩
 ·have hfn:X.fn x=true:=by
   rcases hf with z |z
   ·exact z
   ·rw[z] at hk;cases hk
  obtain⟨c,hc⟩:=I.ok.has x (.inl hk)
  obtain⟨w',z⟩:=I.cell x c hc
  refine wpAny_storeName_cell I.ok.kind hk hc z (fun h' hc' hs=>?_)
  obtain⟨oc,hoc,hocd⟩:=id z
  have hHc:H c=none:=(I.freeC x c hc).elim id fun z=>by rw[z.1] at hfn;cases hfn
  refine h { s with heap:=h' } ⟨I.ok,I.os,I.bare,⟨fun b o e n hb hx=>?_,fun b o e n hb hx=>?_,I.base.free,fun b o e hx=>?_,I.base.tups,I.base.frzs,I.base.tbls⟩,⟨m,hn.sameBut hs (Ne.symm (cne x c hc)),fun j y v' e1 e2 e3=>?_⟩,fun y c' e=>?_,I.free,I.freeC,fun p hp=>?_,tracked ⟨oc,hoc,hHc⟩ hs,by simpa using I.len⟩ ⟨c,hs,.inr hc⟩
  ·exact(hs.2 b (Nat.ne_of_lt (Nat.lt_of_lt_of_le (Heap.lt_size e) (I.ok.cab x c hfn hc)))).trans (I.base.keep b o e n hb hx)
  ·obtain⟨sl,e1⟩:=I.base.slot b o e n hb hx
   exact⟨sl,(hs.2 b (Nat.ne_of_lt (Nat.lt_of_lt_of_le (Heap.lt_size e) (I.ok.cab x c hfn hc)))).trans e1⟩
  ·obtain⟨o',e1⟩:=I.base.there b o e hx
   exact⟨o',(hs.2 b (Nat.ne_of_lt (Nat.lt_of_lt_of_le (Heap.lt_size e) (I.ok.cab x c hfn hc)))).trans e1⟩
  ·by_cases hj:j=i
   ·subst hj
    rw[hi] at e1;cases e1
    rw[List.getElem?_set_self hiσ] at e2
    cases e2
    exact⟨u,r,.inr ⟨.inl hk,c,hc,hc'⟩⟩
   ·rw[List.getElem?_set_ne (Ne.symm hj)] at e2
    obtain⟨u',r',q⟩:=hl j y v' e1 e2 e3
    refine⟨u',r',?_⟩
    rcases q with q |⟨k,c',e,z'⟩
    ·exact .inl q
    ·refine .inr ⟨k,c',e,z'.sameBut hs ?_⟩
     rintro rfl
     exact hj (zK hN e1 (I.ok.inj _ _ _ e hc ▸ hi))
  ·by_cases hcc:c'=c
   ·subst hcc;exact⟨_,hc'⟩
   ·obtain⟨w2,z2⟩:=I.cell y c' e
    exact⟨w2,z2.sameBut hs hcc⟩
  ·obtain⟨e,n,ne,nf,d⟩:=I.pin p hp
   refine⟨(hs.2 p.1 ?_).trans e,n,ne,nf,d⟩
   intro q
   rw[q,hoc] at e
   have q':oc=p.2:=Option.some.inj e
   exact d w' (by rw[<-q'];exact hocd)
theorem uN{M:Model}{A:Around}{E:Value->Shared->Prop}{i:Nat}{x:Str}{v:V}{u:Value}{Q:Unit->Shared->Prop}(I:Inv X pins σ H s)(hN:X.N.Nodup)(hi:X.N[i]? = some x)(hx:Loc X.env.scope x)(r:RelV v u)
  (h:∀s',Inv X pins (σ.set i (some v)) H s'->Q () s') (hf:X.fn x=true\/X.env.scope.names.lookup x=some .local:=by first |exact .inl rfl |exact .inr rfl |assumption):wpAny M A (storeName X.env x u) Q E s :=
 rT I hN hi hx r (fun s' I' _=>h s' I') hf
theorem Inv.call'{s':Shared}{ch:List Addr}(I:Inv X pins σ H s)(ho:s'.os=s.os)(u:Un (frs X.stack) ch H H' s.heap s'.heap)(hok:HOk X.prog X.w H' s'.heap)(hg:AllBare s'.gens)
  (hch:∀b∈ch,(b∈X.ex\/X.s₀.heap.objs.size<=b)/\b≠X.env.locals/\(∀x c,X.env.cells.lookup x=some c->c≠b)/\∀p∈X.pn++pins,p.1≠b):Inv X pins σ H' s':=by
 obtain⟨h',g',d',t',o'⟩:=s'
 have e:o'=s.os:=ho
 subst e
 exact I.call (g':=g') (t':=t') (d':=d') u hok hg hch
end
noncomputable abbrev XK:=Value->Option Addr->Hp->Prop
noncomputable abbrev St:=List (Option V)
noncomputable abbrev VK:=V->Hp->Prop
noncomputable abbrev TE:=St->Hp->VK->Prop
noncomputable abbrev TT:=St->Hp->(Bool->Hp->Prop)->Prop
noncomputable abbrev TA:=St->Hp->(List V->Hp->Prop)->Prop
structure Ends where
 nx:St->Hp->Prop
 rt:VK
 bk:St->Hp->Prop:=fun _ _=>False
 ct:St->Hp->Prop:=fun _ _=>False
noncomputable abbrev TS:=Ends->St->Hp->Prop
noncomputable def EP(X:Cx)(pins:List (Addr×Obj))(σ:St)(Q:VK)(u:Value)(s':Shared):Prop:=∃v H',Inv X pins σ H' s'/\RelV v u/\Q v H'
noncomputable def TP(X:Cx)(pins:List (Addr×Obj))(σ:St)(Q:Bool->Hp->Prop)(b:Bool)(s':Shared):Prop:=∃H',Inv X pins σ H' s'/\Q b H'
noncomputable def AP(X:Cx)(pins:List (Addr×Obj))(σ:St)(Q:List V->Hp->Prop)(us:List Value)(s':Shared):Prop:=∃vs H',Inv X pins σ H' s'/\Vals vs us/\Q vs H'
noncomputable def SP(X:Cx)(pins:List (Addr×Obj))(D:Ends)(f:Flow)(s':Shared):Prop :=
 match f with
 | .next=>∃σ' H',Inv X pins σ' H' s'/\D.nx σ' H'
 | .brk=>∃σ' H',Inv X pins σ' H' s'/\D.bk σ' H'
 | .cont=>∃σ' H',Inv X pins σ' H' s'/\D.ct σ' H'
 | .ret u=>∃v σ' H',Inv X pins σ' H' s'/\RelV v u/\D.rt v H'
noncomputable def PE(X:Cx)(e:Expr)(t:TE):Prop :=
 ∀(pins:List (Addr×Obj)) (s:Shared) (σ:St) (H:Hp) (Q:VK),Inv X pins σ H s->t σ H Q->wpAny (model X.prog X.w) X.A (eval e X.env) (EP X pins σ Q) X.xe s
noncomputable def PT(X:Cx)(e:Expr)(t:TT):Prop :=
 ∀(pins:List (Addr×Obj)) (s:Shared) (σ:St) (H:Hp) (Q:Bool->Hp->Prop),Inv X pins σ H s->t σ H Q->wpAny (model X.prog X.w) X.A (isTrue e X.env (eval e X.env)) (TP X pins σ Q) X.xe s
noncomputable def PW(X:Cx)(e:Expr)(t:TT):Prop :=
 ∀(whole:Sem Value) (pins:List (Addr×Obj)) (s:Shared) (σ:St) (H:Hp) (Q:Bool->Hp->Prop),Inv X pins σ H s->t σ H Q->wpAny (model X.prog X.w) X.A (isTrue e X.env whole) (TP X pins σ Q) X.xe s
theorem PW.pt{X:Cx}{e:Expr}{t:TT}(h:PW X e t):PT X e t:=h _
noncomputable def PA(X:Cx)(es:List Expr)(t:TA):Prop :=
 ∀(pos:Pos) (pins:List (Addr×Obj)) (s:Shared) (σ:St) (H:Hp) (Q:List V->Hp->Prop),Inv X pins σ H s->t σ H Q->wpAny (model X.prog X.w) X.A (spliced (backTo pos (starEach es X.env))) (AP X pins σ Q) X.xe s
noncomputable def PS(X:Cx)(st:Stmt)(t:TS):Prop :=
 ∀(pins:List (Addr×Obj)) (s:Shared) (σ:St) (H:Hp) (D:Ends),Inv X pins σ H s->t D σ H->wpAny (model X.prog X.w) X.A (exec st X.env) (SP X pins D) X.xe s
noncomputable def PSs(X:Cx)(st:List Stmt)(t:TS):Prop :=
 ∀(pins:List (Addr×Obj)) (s:Shared) (σ:St) (H:Hp) (D:Ends),Inv X pins σ H s->t D σ H->wpAny (model X.prog X.w) X.A (execs st X.env) (SP X pins D) X.xe s
theorem thn{α:Type}{t:Sem α}{Q Q':α->Shared->Prop}{M:Model}{A:Around}{E:Value->Shared->Prop}{s:Shared}(h:wpAny M A t Q E s)(hQ:∀a s,Q a s->Q' a s):wpAny M A t Q' E s:=wpAny_mono h hQ fun _ _ x=>x
end L2
namespace L2
open PySem PySem.Spec PyProof.Rows
section
variable {X:Cx}
noncomputable def wY(i:Nat):TE:=fun σ H Q=>∃v,σ[i]? = some (some v)/\Q v H
noncomputable def tC(v:V):TE:=fun _ H Q=>Q v H
theorem Qs{i:Nat}{x:Str}{pos:Pos}(hN:X.N[i]? = some x)(hv:Vis X.env.scope x)(hd:(x==("__debug__":Str))=false:=by decide)(hcd:(x==("__classdict__":Str))=false:=by decide):PE X (.Name x pos) (wY i):=by
 intro pins s σ H Q I h
 obtain⟨v,e,h⟩:=h
 obtain⟨m,hn,hl⟩:=I.loc
 obtain⟨u,r,l⟩:=hl i x v hN e hv
 have fin:EP X pins σ Q u s:=⟨v,H,I,r,h⟩
 rcases l with⟨hk,hm⟩ |⟨hk,c,hc,hcell⟩
 ·exact wpAny_Name (wpAny_loadName_local I.ok.kind hk hn hm fin) hd
 ·rcases hk with hk |hk
  ·exact wpAny_Name (wpAny_loadName_cell I.ok.kind hk hc hcell fin) hd
  ·exact wpAny_Name (wpAny_loadName_free I.ok.kind hk hc hcell fin hcd) hd
theorem Qt{i j pos}:PE X (.Constant (.int i) j pos) (tC (.int i)):=fun _ _ _ H _ I h=>wpAny_Constant_int ⟨.int i,H,I.tok _,⟨_,rfl⟩,h⟩
theorem Ss{b j pos}:PE X (.Constant (.bool b) j pos) (tC (.bl b)):=fun _ _ _ H _ I h=>Constant_bool ⟨.bl b,H,I,rfl,h⟩
theorem Qu{j pos}:PE X (.Constant .none j pos) (tC .non):=fun _ _ _ H _ I h=>Constant_none ⟨.non,H,I,rfl,h⟩
theorem p_{x j pos}:PE X (.Constant (.str x) j pos) (tC (.str x)):=fun _ _ _ H _ I h=>Calls.Constant_str ⟨.str x,H,I.tok _,⟨_,rfl⟩,h⟩
noncomputable def Gl(X:Cx)(x:Str):Prop:=X.env.kindOf x=some .globalImplicit
theorem qj{E:Value->Shared->Prop}{pins:List (Addr×Obj)}{s:Shared}{σ:St}{H:Hp}{x:Str}{u:Value}{pos:Pos}{Q:Value->Shared->Prop}(I:Inv X pins σ H s)(hg:Gl X x)(hm:X.mg x=some u)(h:Q u s)
  (hd:(x==("__debug__":Str))=false:=by decide):wpAny (model X.prog X.w) X.A (eval (.Name x pos) X.env) Q E s :=
 Calls.Name_function_global I.ok.kind hg (Calls.loadGlobal_global (by rw[I.ok.glob];exact I.mod.glob.keeps I.bk) hm h) hd
theorem rU{E:Value->Shared->Prop}{pins:List (Addr×Obj)}{s:Shared}{σ:St}{H:Hp}{x:Str}{u:Value}{pos:Pos}{Q:Value->Shared->Prop}(I:Inv X pins σ H s)(hg:Gl X x)(hm:X.mg x=none)(hv:bootBuiltins x=some u)(h:Q u s)
  (hn:x ≠ "__name__":=by decide) (hd:(x==("__debug__":Str))=false:=by decide):wpAny (model X.prog X.w) X.A (eval (.Name x pos) X.env) Q E s:=by
 obtain⟨mb,h1,h2⟩:=I.mod.blt
 exact Calls.Name_function_global I.ok.kind hg (Calls.loadGlobal_builtin (by rw[I.ok.glob];exact I.mod.glob.keeps I.bk) hm (by rw[I.ok.blt];exact h1.keeps I.bk) ((h2 x hn).trans hv) h) hd
theorem kJ{x:Str}{v:V}{u:Value}{pos:Pos}(hg:Gl X x)(hm:X.mg x=some u)(r:RelV v u)(hd:(x==("__debug__":Str))=false:=by decide):PE X (.Name x pos) (tC v) :=
 fun _ _ _ H _ I h=>qj I hg hm ⟨v,H,I,r,h⟩ hd
theorem gZ{x:Str}{v:V}{u:Value}{pos:Pos}(hg:Gl X x)(hm:X.mg x=none)(hv:bootBuiltins x=some u)(r:RelV v u)(hn:x ≠ "__name__":=by decide)(hd:(x==("__debug__":Str))=false:=by decide):PE X (.Name x pos) (tC v) :=
 fun _ _ _ H _ I h=>rU I hg hm hv ⟨v,H,I,r,h⟩ hn hd
variable {a b:Expr} {ta tb:TE} {pos:Pos}
noncomputable def PC(X:Cx)(op:CmpOp)(a b:Expr)(t:TE):Prop :=
 ∀(pins:List (Addr×Obj)) (s:Shared) (σ:St) (H:Hp) (Q:VK),Inv X pins σ H s->t σ H Q ->
  wpAny (model X.prog X.w) X.A (eval a X.env) (fun v s₁=>wpAny (model X.prog X.w) X.A (eval b X.env) (fun u s₂=>wpAny (model X.prog X.w) X.A (compareOp op v u) (EP X pins σ Q) X.xe s₂) X.xe s₁) X.xe s
noncomputable def tB(t:TE):TT:=fun σ H Q=>t σ H fun x H1=>∃c,x=.bl c/\Q c H1
theorem FJ{op:CmpOp}{t:TE}(h:PC X op a b t)(h1:behindInMarks op b=false:=by first |exact nobehind _ (by decide) (by decide) |rfl):PT X (.Compare a [op] [b] pos) (tB t):=by
 intro pins s σ H Q I hw
 refine wpAny_isTrue_Compare1 (thn (h pins s σ H _ I hw) fun v s1 h1=>thn h1 fun u s2 h2=>thn h2 fun c s3 hw'=>?_) h1
 obtain⟨x,H1,I1,r1,q1⟩:=hw'
 obtain⟨d,rfl,q⟩:=q1
 cases r1
 exact wpAny_truthy_bool ⟨H1,I1,q⟩
theorem Qv{e:Expr}{t:TE}(h:PE X e t)(he:∀whole,isTrue e X.env whole=(do let v <-whole;standAt e.pos;holding [v] (truthy v)):=by intro _;rfl):PT X e (tB t):=by
 intro pins s σ H Q I hw
 refine isTrue_plain (thn (h pins s σ H _ I hw) fun v s1 ⟨x,H1,I1,r1,q1⟩=>?_) (he _)
 obtain⟨d,rfl,q⟩:=q1
 cases r1
 exact wpAny_truthy_bool ⟨H1,I1,q⟩
variable {tA tB':TT} {rest:List Expr}
noncomputable def Qw(t u:TT):TT:=fun σ H Q=>t σ H fun c H1=>if c=true then u σ H1 Q else Q false H1
noncomputable def tOr(t u:TT):TT:=fun σ H Q=>t σ H fun c H1=>if c=true then Q true H1 else u σ H1 Q
noncomputable def T_(t:TT):TT:=fun σ H Q=>t σ H fun c H1=>Q (!c) H1
theorem Mv(ha:PT X a tA):PW X (.BoolOp .And [a] pos) tA:=by
 intro wh pins s σ H Q I h
 refine isTrue_and (thn (ha pins s σ H Q I h) fun c s1 e=>?_)
 cases c with
 | true=>exact isTrue_and_nil e
 | false=>exact e
theorem Qx(ha:PT X a tA):PW X (.BoolOp .Or [a] pos) tA:=by
 intro wh pins s σ H Q I h
 refine isTrue_or (thn (ha pins s σ H Q I h) fun c s1 e=>?_)
 cases c with
 | false=>exact isTrue_or_nil e
 | true=>exact e
theorem Qy(ha:PT X a tA)(hb:PW X (.BoolOp .And (b::rest) pos) tB'):PW X (.BoolOp .And (a::b::rest) pos) (Qw tA tB'):=by
 intro wh pins s σ H Q I h
 refine isTrue_and (thn (ha pins s σ H _ I h) fun c s1 ⟨H1,I1,q1⟩=>?_)
 cases c with
 | true=>exact hb wh pins s1 σ H1 Q I1 q1
 | false=>exact⟨H1,I1,q1⟩
theorem Su(ha:PT X a tA)(hb:PW X (.BoolOp .Or (b::rest) pos) tB'):PW X (.BoolOp .Or (a::b::rest) pos) (tOr tA tB'):=by
 intro wh pins s σ H Q I h
 refine isTrue_or (thn (ha pins s σ H _ I h) fun c s1 ⟨H1,I1,q1⟩=>?_)
 cases c with
 | true=>exact⟨H1,I1,q1⟩
 | false=>exact hb wh pins s1 σ H1 Q I1 q1
theorem Qz(ha:PT X a tA):PT X (.UnaryOp .Not a pos) (T_ tA):=by
 intro pins s σ H Q I h
 exact isTrue_not (ha pins s σ H (fun c H1=>Q (!c) H1) I h)
end
end L2
namespace L2
open PySem PySem.Spec PyProof.Rows
noncomputable def SqL(K:PySem.W.Frag)(H:Hp)(a:Addr)(xs:List V):Prop :=
 Rd H a (.lst xs) \/
  ∃(o:Obj) (its:Array Value) (n:Nat),K.lookup a=some o/\o.cls=.type "list" /\ o.dict=none/\o.data=.seq its n/\its.size<=sizeLine/\Vals xs its.toList
noncomputable def SqT(K:PySem.W.Frag)(H:Hp)(a:Addr)(xs:List V):Prop :=
 Rd H a (.tup xs) \/
  ∃(o:Obj) (its:Array Value) (n:Nat),K.lookup a=some o/\o.cls=.type "tuple" /\ o.data=.seq its n/\its.size<=sizeLine/\Vals xs its.toList
noncomputable def Ua:Value->Option V
 | .none=>some .non
 | .bool b=>some (.bl b)
 | .int i _=>some (.int i)
 | .str x _=>some (.str x)
 | .bytes b _=>some (.byt b)
 | .float b _=>some (.flt b)
 | .ref a=>some (.ref a)
 | .type n=>some (.ty n)
 | _=>none
theorem RelV.abs{x:V}{u:Value}(r:RelV x u):Ua u=some x:=by
 cases x with
 | non=>cases r;rfl
 | bl _=>cases r;rfl
 | int _=>obtain⟨t,rfl⟩:=r;rfl
 | str _=>obtain⟨t,rfl⟩:=r;rfl
 | byt _=>obtain⟨t,rfl⟩:=r;rfl
 | flt _=>obtain⟨t,rfl⟩:=r;rfl
 | ref _=>cases r;rfl
 | ty _=>cases r;rfl
theorem RelV.inj{x y:V}{u:Value}(r:RelV x u)(q:RelV y u):x=y:=Option.some.inj (r.abs.symm.trans q.abs)
theorem Vals.inj{xs ys:List V}{us:List Value}(h:Vals xs us)(h':Vals ys us):xs=ys:=by
 induction h generalizing ys with
 | nil=>cases h';rfl
 | cons r t ih =>
  cases h' with
  | cons r' t'=>rw[r.inj r',ih t']
section
variable {X:Cx} {pins:List (Addr×Obj)} {σ:St} {H:Hp} {s:Shared} {a:Addr} {xs ys:List V}
theorem SqL.of{K:PySem.W.Frag}(h:H a=some (.lst xs)):SqL K H a xs:=.inl (.inl h)
theorem SqT.of{K:PySem.W.Frag}(h:H a=some (.tup xs)):SqT K H a xs:=.inl (.inl h)
theorem Inv.list(I:Inv X pins σ H s)(h:SqL X.K H a xs):∃its:List Value,Vals xs its/\PlainL s.heap a its.toArray/\xs.length<=sizeLine:=by
 rcases h with h |⟨o,its,n,hk,hc,hd,hs,hz,r⟩
 ·obtain⟨z,its,n,r,e⟩:=h.ok I.hok
  exact⟨its,r,⟨_,n,e,rfl,rfl,rfl⟩,z⟩
 ·refine⟨its.toList,r,⟨o,n,I.kIn a o hk,hc,hd,by simpa using hs⟩,?_⟩
  have e:=r.length
  simp only[Array.length_toList] at e
  omega
theorem Inv.tuple(I:Inv X pins σ H s)(h:SqT X.K H a xs):∃its:List Value,Vals xs its/\IsTup s.heap a its.toArray/\xs.length<=sizeLine:=by
 rcases h with h |⟨o,its,n,hk,hc,hs,hz,r⟩
 ·obtain⟨z,its,r,p⟩:=h.ok I.hok
  exact⟨its,r,p,z⟩
 ·refine⟨its.toList,r,⟨o,I.kIn a o hk,hc,n,by simpa using hs⟩,?_⟩
  have e:=r.length
  simp only[Array.length_toList] at e
  omega
theorem Inv.list_inj(I:Inv X pins σ H s)(h:SqL X.K H a xs)(h':SqL X.K H a ys):xs=ys:=by
 obtain⟨its,r,⟨o,n,e,_,_,d⟩,_⟩:=I.list h
 obtain⟨its',r',⟨o',n',e',_,_,d'⟩,_⟩:=I.list h'
 rw[e] at e';cases e'
 rw[d] at d'
 injection d' with d1 _
 have:its=its':=by simpa using congrArg Array.toList d1
 subst this
 exact r.inj r'
theorem Inv.tuple_inj(I:Inv X pins σ H s)(h:SqT X.K H a xs)(h':SqT X.K H a ys):xs=ys:=by
 obtain⟨its,r,⟨o,e,_,n,d⟩,_⟩:=I.tuple h
 obtain⟨its',r',⟨o',e',_,n',d'⟩,_⟩:=I.tuple h'
 rw[e] at e';cases e'
 rw[d] at d'
 injection d' with d1 _
 have:its=its':=by simpa using congrArg Array.toList d1
 subst this
 exact r.inj r'
end
noncomputable abbrev Cx.wish(X:Cx)(E:Value->Shared->Prop):Cx:={ X with xe:=E }
noncomputable abbrev Cx.nox(X:Cx):Cx:=X.wish fun _ _=>False
theorem Cx.Ok.wish{X:Cx}(ok:X.Ok)(E:Value->Shared->Prop):(X.wish E).Ok :=
 ⟨ok.mod,ok.kind,ok.glob,ok.blt,ok.above,ok.inj,ok.has,ok.cab,ok.hd,ok.frames,ok.stk,ok.exf,ok.bs,ok.bsz,ok.noex,ok.exfs,ok.funs,ok.frf⟩
theorem Cx.Ok.unwish{X:Cx}{E:Value->Shared->Prop}(ok:(X.wish E).Ok):X.Ok :=
 ⟨ok.mod,ok.kind,ok.glob,ok.blt,ok.above,ok.inj,ok.has,ok.cab,ok.hd,ok.frames,ok.stk,ok.exf,ok.bs,ok.bsz,ok.noex,ok.exfs,ok.funs,ok.frf⟩
section
variable {X:Cx} {pins:List (Addr×Obj)} {σ:St} {H:Hp} {s:Shared} {E:Value->Shared->Prop}
theorem Inv.wish(I:Inv X pins σ H s)(E:Value->Shared->Prop):Inv (X.wish E) pins σ H s:=⟨I.ok.wish E,I.os,I.bare,I.base,I.loc,I.cell,I.free,I.freeC,I.pin,I.hok,I.len⟩
theorem Inv.unwish(I:Inv (X.wish E) pins σ H s):Inv X pins σ H s:=⟨I.ok.unwish,I.os,I.bare,I.base,I.loc,I.cell,I.free,I.freeC,I.pin,I.hok,I.len⟩
theorem SP.unwish{D:Ends}{f:Flow}{s':Shared}(h:SP (X.wish E) pins D f s'):SP X pins D f s':=by
 cases f with
 | next=>obtain⟨σ',H',I,q⟩:=h;exact⟨σ',H',I.unwish,q⟩
 | brk=>obtain⟨σ',H',I,q⟩:=h;exact⟨σ',H',I.unwish,q⟩
 | cont=>obtain⟨σ',H',I,q⟩:=h;exact⟨σ',H',I.unwish,q⟩
 | ret u=>obtain⟨v,σ',H',I,r,q⟩:=h;exact⟨v,σ',H',I.unwish,r,q⟩
theorem PSs.nox{st:List Stmt}{t:TS}(h:PSs X.nox st t):PSs X st t:=fun pins s σ H D I hw =>
 wpAny_mono (h pins s σ H D (I.wish _) hw) (fun _ _ q=>q.unwish) fun _ _ z=>False.elim z
end
section
variable {X:Cx} {st:Stmt} {rest:List Stmt} {t u:TS} {e:Expr} {te:TE} {pos:Pos}
noncomputable def Sv:TS:=fun D σ H=>D.nx σ H
noncomputable def Ub(t u:TS):TS:=fun D σ H=>t { D with nx:=u D } σ H
theorem Mw:PSs X [] Sv:=fun _ _ σ H _ I h=>wpAny_execs_nil ⟨σ,H,I,h⟩
theorem uO(h1:PS X st t)(h2:PSs X rest u):PSs X (st::rest) (Ub t u):=by
 intro pins s σ H D I h
 refine wpAny_execs_cons (thn (h1 pins s σ H { D with nx:=u D } I h) fun f s1 q=>?_)
 cases f with
 | next =>
  obtain⟨σ',H',I',q⟩:=q
  exact h2 pins s1 σ' H' D I' q
 | ret v=>exact q
 | brk=>exact q
 | cont=>exact q
theorem Cy(h1:PS X st t):PSs X [st] t:=by
 intro pins s σ H D I h
 refine wpAny_execs_cons (thn (h1 pins s σ H D I h) fun f s1 q=>?_)
 cases f with
 | next=>exact wpAny_execs_nil q
 | ret v=>exact q
 | brk=>exact q
 | cont=>exact q
theorem Inv.quiet{pins:List (Addr×Obj)}{σ:St}{H:Hp}{s:Shared}(I:Inv X pins σ H s):interactive X.env=false:=by simp[interactive,I.ok.kind]
noncomputable def Lh(te:TE):TS:=fun D σ H=>te σ H fun _ H1=>D.nx σ H1
theorem tQ(he:PE X e te)(hs:swapsWith e none pos.line X.env=pure false:=by rfl):PS X (.Expr e pos) (Lh te):=by
 intro pins s σ H D I h
 exact wpAny_Expr_any (thn (he pins s σ H _ I h) fun v s1 ⟨x,H1,I1,r1,q1⟩=>⟨σ,H1,I1,q1⟩) I.quiet hs
noncomputable def Uc(te:TE):TS:=fun D σ H=>te σ H D.rt
theorem FN(he:PE X e te):PS X (.Return (some e) pos) (Uc te):=by
 intro pins s σ H D I h
 exact wpAny_Return_some (thn (he pins s σ H _ I h) fun v s1 ⟨x,H1,I1,r1,q1⟩=>⟨x,σ,H1,I1,r1,q1⟩)
noncomputable def Ud(c:TT)(t u:TS):TS:=fun D σ H=>c σ H fun b H1=>if b=true then t D σ H1 else u D σ H1
theorem Li{c:Expr}{a b:List Stmt}{tc:TT}(hc:PT X c tc)(ha:PSs X a t)(hb:PSs X b u):PS X (.If c a b pos) (Ud tc t u):=by
 intro pins s σ H D I h
 refine wpAny_If (thn (hc pins s σ H _ I h) fun d s1 ⟨H1,I1,q1⟩=>?_)
 cases d with
 | true=>exact ha pins s1 σ H1 D I1 q1
 | false=>exact hb pins s1 σ H1 D I1 q1
noncomputable def FP:TS:=fun _ _ _=>False
theorem Iw:PS X st FP:=fun _ _ _ _ _ _ h=>h.elim
theorem yo{sts:List Stmt}:PSs X sts FP:=fun _ _ _ _ _ _ h=>h.elim
end
noncomputable abbrev TG:=V->St->Hp->(St->Hp->Prop)->Prop
noncomputable abbrev TGs:=List V->St->Hp->(St->Hp->Prop)->Prop
noncomputable def PG(X:Cx)(target:Expr)(t:TG):Prop :=
 ∀(pins:List (Addr×Obj)) (s:Shared) (σ:St) (H:Hp) (v:V) (u:Value) (Q:St->Hp->Prop),Inv X pins σ H s->RelV v u->t v σ H Q ->
  wpAny (model X.prog X.w) X.A (assign target X.env u) (fun _ s'=>∃σ' H',Inv X pins σ' H' s'/\Q σ' H') X.xe s
noncomputable def PGs(X:Cx)(ts:List Expr)(t:TGs):Prop :=
 ∀(pins:List (Addr×Obj)) (s:Shared) (σ:St) (H:Hp) (vs:List V) (us:List Value) (Q:St->Hp->Prop),Inv X pins σ H s->Vals vs us->t vs σ H Q ->
  wpAny (model X.prog X.w) X.A (assignInOrder ((assignEach ts X.env).map (·.2)) us) (fun _ s'=>∃σ' H',Inv X pins σ' H' s'/\Q σ' H') X.xe s
noncomputable abbrev TIp:=V->V->Hp->VK->Prop
noncomputable def PIp(X:Cx)(op:Operator)(t:TIp):Prop :=
 ∀(pins:List (Addr×Obj)) (s:Shared) (σ:St) (H:Hp) (x y:V) (v u:Value) (Q:VK),Inv X pins σ H s->RelV x v->RelV y u->t x y H Q ->
  wpAny (model X.prog X.w) X.A (inplaceOp op v u) (EP X pins σ Q) X.xe s
section
variable {X:Cx} {pos:Pos}
noncomputable def vH(i:Nat):TG:=fun v σ H Q=>Q (σ.set i (some v)) H
theorem Cz{i:Nat}{x:Str}(hN:X.N.Nodup)(hi:X.N[i]? = some x)(hx:Loc X.env.scope x)(hf:X.fn x=true\/X.env.scope.names.lookup x=some .local:=by first |exact .inl rfl |exact .inr rfl |assumption):PG X (.Name x pos) (vH i):=by
 intro pins s σ H v u Q I r h
 exact wpAny_assign_Name (uN I hN hi hx r (fun s' I'=>⟨_,H,I',h⟩) hf)
noncomputable def aA:TGs:=fun vs σ H Q=>vs=[]/\Q σ H
noncomputable def ao(t:TG)(u:TGs):TGs:=fun vs σ H Q=>∃v r,vs=v::r/\t v σ H fun σ' H'=>u r σ' H' Q
theorem Mx:PGs X [] aA:=by
 intro pins s σ H vs us Q I r h
 obtain⟨e,h⟩:=h
 subst e
 cases r
 exact assignInOrder_nil ⟨σ,H,I,h⟩
theorem Iz{e:Expr}{es:List Expr}{t:TG}{u:TGs}(h1:PG X e t)(h2:PGs X es u)
  (hs:(assignEach (e::es) X.env).map (·.2)=assign e X.env::(assignEach es X.env).map (·.2):=by rfl):PGs X (e::es) (ao t u):=by
 intro pins s σ H vs us Q I r h
 obtain⟨v,vr,e1,h⟩:=h
 subst e1
 cases r with
 | cons r rr =>
  rw[hs]
  refine assignInOrder_cons (thn (h1 pins s σ H _ _ _ I r h) fun _ s1 hw'=>?_)
  obtain⟨σ1,H1,I1,q1⟩:=hw'
  exact h2 pins s1 σ1 H1 _ _ Q I1 rr q1
noncomputable def bB(K:PySem.W.Frag)(n:Nat)(t:TGs):TG:=fun v σ H Q=>∃a xs,v=.ref a/\SqT K H a xs/\xs.length=n/\t xs σ H Q
theorem QB{es:List Expr}{k:Nat}{t:TGs}{n:Nat}(hc:X.calm=true)(h:PGs X es t)
  (hn:(assignEach es X.env).length=n:=by rfl) (hst:(assignEach es X.env).findIdx? (·.1)=none:=by rfl):PG X (.Tuple es k pos) (bB X.K n t):=by
 intro pins s σ H v u Q I r hw
 obtain⟨a,xs,e1,hq,hl,hw⟩:=hw
 subst e1
 cases r
 obtain⟨its,rv,ht,hz⟩:=I.tuple hq
 refine assign_Tuple_tuple (I.ok.hd hc) ht (by simp[hn,<-hl,rv.length]) hst fun h' hx=>?_
 have I1:Inv X pins σ H { s with heap:=h' }:=I.kept (t':=s.toks) fun b o e=>hx b o (Nat.ne_of_lt (Heap.lt_size e)) e
 exact h pins _ σ H xs _ Q I1 (by simpa using rv) hw
noncomputable def DQ(te:TE)(g:TG):TS:=fun D σ H=>te σ H fun x H1=>g x σ H1 D.nx
theorem FQ{i:Nat}{x:Str}{e:Expr}{te:TE}{pos':Pos}(hN:X.N.Nodup)(hi:X.N[i]? = some x)(hx:Loc X.env.scope x)(he:PE X e te)(hs:swapsWith e (some (.Name x pos')) pos.line X.env=pure false:=by rfl)(hf:X.fn x=true\/X.env.scope.names.lookup x=some .local:=by first |exact .inl rfl |exact .inr rfl |assumption) :
  PS X (.Assign [.Name x pos'] e pos) (DQ te (vH i)):=by
 intro pins s σ H D I h
 refine wpAny_Assign_Name (thn (he pins s σ H _ I h) fun v s1 hw'=>?_) hs
 obtain⟨y,H1,I1,r1,q1⟩:=hw'
 exact uN I1 hN hi hx r1 (fun s2 I2=>⟨_,H1,I2,q1⟩) hf
noncomputable def Ue(i:Nat)(te:TE)(ti:TIp):TS:=fun D σ H=>∃x,σ[i]? = some (some x)/\te σ H fun y H1=>ti x y H1 fun z H2=>D.nx (σ.set i (some z)) H2
theorem QC{i:Nat}{x:Str}{e:Expr}{te:TE}{op:Operator}{ti:TIp}{pos':Pos}(hN:X.N.Nodup)(hi:X.N[i]? = some x)(hx:Loc X.env.scope x)(he:PE X e te)(ho:PIp X op ti)(hf:X.fn x=true\/X.env.scope.names.lookup x=some .local:=by first |exact .inl rfl |exact .inr rfl |assumption) :
  PS X (.AugAssign (.Name x pos') op e pos) (Ue i te ti):=by
 intro pins s σ H D I h
 obtain⟨v,e1,h⟩:=h
 obtain⟨m,hn,hl⟩:=I.loc
 have vis:Vis X.env.scope x:=by rcases hx with k |k;exact .inl k;exact .inr (.inl k)
 obtain⟨u,r,l⟩:=hl i x v hi e1 vis
 refine wpAny_AugAssign_Name ?_
 have go:wpAny (model X.prog X.w) X.A (eval e X.env) (fun w s₂=>wpAny (model X.prog X.w) X.A (inplaceOp op u w) (fun r s₃=>wpAny (model X.prog X.w) X.A (storeName X.env x r) (fun _=>SP X pins D .next) X.xe s₃) X.xe s₂) X.xe s:=by
  refine thn (he pins s σ H _ I h) fun w s1 hw'=>?_
  obtain⟨y,H1,I1,r1,q1⟩:=hw'
  refine thn (ho pins s1 σ H1 v y u w _ I1 r r1 q1) fun z s2 hw'=>?_
  obtain⟨zv,H2,I2,r2,q2⟩:=hw'
  exact uN I2 hN hi hx r2 (fun s3 I3=>⟨_,H2,I3,q2⟩) hf
 rcases l with⟨hk,hm⟩ |⟨hk,c,hc,hcell⟩
 ·exact wpAny_loadName_local I.ok.kind hk hn hm go
 ·rcases hk with hk |hk
  ·exact wpAny_loadName_cell I.ok.kind hk hc hcell go
  ·rcases hx with k |k
   ·have:X.env.scope.names.lookup x=some .free:=hk
    rw[k] at this;cases this
   ·have:X.env.scope.names.lookup x=some .free:=hk
    rw[k] at this;cases this
noncomputable def ipI(f:Int->Int->Int):TIp:=fun x y H Q=>∃i j,x=.int i/\y=.int j/\Q (.int (f i j)) H
theorem QD:PIp X .Add (ipI fun i j=>i+j):=by
 intro pins s σ H x y v u Q I r1 r2 h
 obtain⟨i,j,e1,e2,q⟩:=h
 subst e1;subst e2
 obtain⟨t,rfl⟩:=r1
 obtain⟨t',rfl⟩:=r2
 exact iadd_int ⟨.int _,H,I.tok _,⟨_,rfl⟩,q⟩
end
section
variable {X:Cx} {pos:Pos}
noncomputable def QF(c:TT)(tb:TS):TS:=fun D σ H=>∃W:Nat->St->Hp->Prop,(∃m,W m σ H)/\∀m σ H,W m σ H ->
 c σ H fun b H1=>if b=true then ∃N:St->Hp->Prop,(∀σ' H',N σ' H'->∃m',m'<m/\W m' σ' H')/\tb { D with nx:=N,ct:=N,bk:=D.nx } σ H1 else D.nx σ H1
theorem IK{c:Expr}{body:List Stmt}{tc:TT}{tb:TS}(hp:PassesOwn (model X.prog X.w) X.A X.env X.xe)(hc:PT X c tc)(hb:PSs X body tb):PS X (.While c body [] pos) (QF tc tb):=by
 intro pins s σ H D I h
 obtain⟨W,⟨m0,w0⟩,turn⟩:=h
 refine wpAny_While (codeAny_whileLoop (fun n s'=>∃σ' H',Inv X pins σ' H' s'/\W n σ' H') ?_ m0 ⟨σ,H,I,w0⟩)
 rintro n s1 ⟨σ1,H1,I1,w1⟩
 refine wpAny_passesOwn hp (thn (hc pins s1 σ1 H1 _ I1 (turn n σ1 H1 w1)) fun b s2 ⟨H2,I2,q2⟩=>?_)
 cases b with
 | true =>
  obtain⟨N,hN,q2⟩:=q2
  rw[if_pos rfl]
  refine wpAny_passesOwn hp (thn (hb pins s2 σ1 H2 _ I2 q2) fun f s3 q3=>?_)
  cases f with
  | next =>
   obtain⟨σ3,H3,I3,n3⟩:=q3
   obtain⟨m',hm,w3⟩:=hN σ3 H3 n3
   exact⟨m',hm,σ3,H3,I3,w3⟩
  | cont =>
   obtain⟨σ3,H3,I3,n3⟩:=q3
   obtain⟨m',hm,w3⟩:=hN σ3 H3 n3
   exact⟨m',hm,σ3,H3,I3,w3⟩
  | brk=>exact q3
  | ret v=>exact q3
 | false =>
  rw[if_neg Bool.false_ne_true]
  exact wpAny_execs_nil ⟨σ1,H2,I2,q2⟩
end
structure It where
 go:Nat->Hp->Prop
 yld:Nat->Hp->V->Hp->Prop
 stop:Nat->Hp->Prop
noncomputable def mq(X:Cx)(pins:List (Addr×Obj))(H:Hp)(b:Addr):Prop :=
 H b=none/\b≠X.env.locals/\b∉X.fs/\(b∈X.ex\/X.s₀.heap.objs.size<=b)/\(∀x c,X.env.cells.lookup x=some c->c≠b)/\∀p∈X.pn++pins,p.1≠b
theorem Inv.fpOk{X:Cx}{pins:List (Addr×Obj)}{σ:St}{H H':Hp}{s:Shared}{b:Addr}(I:Inv X pins σ H s)(hb:s.heap.objs.size<=b)(hn:H' b=none):mq X pins H' b:=by
 refine⟨hn,Nat.ne_of_gt (Nat.lt_of_lt_of_le I.lt hb),I.nofs hb,.inr (Nat.le_trans I.sz hb),fun x c e z=>?_,fun p hp z=>?_⟩
 ·obtain⟨v,q⟩:=I.cell x c e
  exact absurd (Nat.lt_of_lt_of_le q.lt (by rw[z];exact hb)) (Nat.lt_irrefl _)
 ·exact absurd (Nat.lt_of_lt_of_le (Heap.lt_size (I.pin p hp).1) (by rw[z];exact hb)) (Nat.lt_irrefl _)
structure Turn(P:Program)(w:World)(K:PySem.W.Frag)(tg:Expr)(J:It)(fp:List Addr)(it:Addr)(tn:Nat->Heap->Prop):Prop where
 mem:it∈fp
 obj:∀i h,tn i h->∀b∈fp,∃o,h.get? b=some o/\∀v,o.data ≠ .cell v
 keep:∀i h h',tn i h->(∀b∈fp,∀o,h.get? b=some o->h'.get? b=some o)->tn i h'
 item:∀(X:Cx),X.prog=P->X.w=w->X.K=K->X.calm=true->∀(i:Nat) (pins:List (Addr×Obj)) (s:Shared) (σ:St) (H:Hp) (E:Value->Shared->Prop),Inv X pins σ H s->(∀b∈fp,mq X pins H b)->tn i s.heap->J.go i H ->
  wpAny (model P w) X.A (pyNext (.ref it)) (fun r s1=>∃u,r=some u /\
   wpAny (model P w) X.A (letOwnedTupleGo tg (.ref it) u) (fun _ s2=>∃x H',Inv X pins σ H' s2/\RelV x u/\J.yld i H x H'/\tn (i+1) s2.heap/\∀b∈fp,H' b=none) E s1) E s
 done:∀(X:Cx),X.prog=P->X.w=w->X.K=K->X.calm=true->∀(i:Nat) (pins:List (Addr×Obj)) (s:Shared) (σ:St) (H:Hp) (E:Value->Shared->Prop),Inv X pins σ H s->(∀b∈fp,mq X pins H b)->tn i s.heap->J.stop i H ->
  wpAny (model P w) X.A (pyNext (.ref it)) (fun r s1=>r=none/\Inv X pins σ H s1) E s
 self:∀(A:Around) (i:Nat) (s:Shared) (Q:Value->Shared->Prop) (E:Value->Shared->Prop),tn i s.heap->Q (.ref it) s->wpAny (model P w) A (pyIter (.ref it)) Q E s
noncomputable abbrev TI:=St->Hp->(It->Hp->Prop)->Prop
noncomputable def PIE(X:Cx)(pins:List (Addr×Obj))(σ:St)(tg:Expr)(R:It->Hp->Prop)(itv:Value)(s2:Shared):Prop :=
 ∃(it:Addr) (fp:List Addr) (tn:Nat->Heap->Prop) (J:It) (H':Hp),itv=.ref it/\Inv X pins σ H' s2/\Turn X.prog X.w X.K tg J fp it tn/\tn 0 s2.heap/\(∀b∈fp,mq X pins H' b)/\R J H'
noncomputable def PI(X:Cx)(tg iter:Expr)(wi:TI):Prop :=
 ∀(pins:List (Addr×Obj)) (s:Shared) (σ:St) (H:Hp) (R:It->Hp->Prop),Inv X pins σ H s->wi σ H R ->
  wpAny (model X.prog X.w) X.A (eval iter X.env) (fun v s1=>wpAny (model X.prog X.w) X.A (pyIter v) (PIE X pins σ tg R) X.xe s1) X.xe s
theorem Lj{M : Model}{A : Around}{E : Value → Shared → Prop}{s : Shared}{tg : Expr}{it : Addr}{u : Value}{o : Obj}{n : String}{vs : Array Value}{Q : Unit → Shared → Prop}(ho : s.heap.get? it=some o)(hc : o.cls=.type n)(hd : o.data=.fields vs)
    (hn : ["enumerate", "zip", "dict_itemiterator", "dict_reverseitemiterator", "odict_iterator", "itertools.zip_longest", "itertools.pairwise"].contains n=false) (hQ : Q () s) : wpAny M A (letOwnedTupleGo tg (.ref it) u) Q E s := by
  unfold letOwnedTupleGo
  cases tg<;>first
    | exact wpAny_pure hQ
    | (cases u<;>first
        | exact wpAny_pure hQ
        | (refine wpAny_bind (wpAny_load ho ?_)
           rw[hc, hd]
           show wpAny M A (if(["enumerate", "zip", "dict_itemiterator", "dict_reverseitemiterator", "odict_iterator", "itertools.zip_longest", "itertools.pairwise"].contains n && vs[0]? == some (rawInt _))=true then _ else _) Q E s
           rw[if_neg (by intro h;rw[hn, Bool.false_and] at h;cases h)]
           exact wpAny_pure hQ))
noncomputable def Itl(K:PySem.W.Frag)(a:Addr):It :=
 ⟨fun i H=>∃xs x,SqL K H a xs/\xs[i]? = some x,fun i H x H'=>H'=H/\∀xs,SqL K H a xs->xs[i]? = some x,fun i H=>∃xs,SqL K H a xs/\xs.length<=i⟩
noncomputable def Itr(lo:Int)(n:Nat):It:=⟨fun i _=>i<n,fun i H x H'=>H'=H/\x=.int (lo+i),fun i _=>n<=i⟩
theorem FT{P:Program}{w:World}{K:PySem.W.Frag}{tg:Expr}(a it:Addr):Turn P w K tg (Itl K a) [it] it (fun i h=>h.IsListIter it a i) where
 mem:=by simp
 obj:=fun i h st b hb=>by
  have e:b=it:=by simpa using hb
  subst e
  obtain⟨o,e,c,d⟩:=st
  exact⟨o,e,fun v z=>by rw[d] at z;cases z⟩
 keep:=fun i h h' st k=>st.at fun o e=>k it (by simp) o e
 item:=by
  intro X hP hw hK hc i pins s σ H E I hf st hg
  subst hP hw hK
  obtain⟨xs,x,hq,hx⟩:=hg
  obtain⟨its,rv,p,hz⟩:=I.list hq
  obtain⟨u,hu,ru⟩:=rv.get hx
  obtain⟨f0,f1,f2,f3,f4,f5⟩:=hf it (by simp)
  refine wpAny_pyNext_list_item st p.isList (x:=u) (by simpa using hu) fun h' st' sb=>?_
  have I1:Inv X pins σ H { s with heap:=h' }:=I.turned (t':=s.toks) (fun b o hb e=>(sb.2 b hb).trans e) f0 f1 f3 f4 f5
  obtain⟨o,e,c,d⟩:=id st'
  exact⟨u,rfl,Lj (s:={ s with heap:=h' }) e c d (by decide) ⟨x,H,I1,ru,⟨rfl,fun ys hy=>by rw[I.list_inj hy hq];exact hx⟩,st',fun b hb=>(hf b hb).1⟩⟩
 done:=by
  intro X hP hw hK hc i pins s σ H E I hf st hg
  subst hP hw hK
  obtain⟨xs,hq,hx⟩:=hg
  obtain⟨its,rv,p,hz⟩:=I.list hq
  obtain⟨f0,f1,f2,f3,f4,f5⟩:=hf it (by simp)
  have hl:=rv.length
  exact wpAny_pyNext_list_end (I.ok.hd hc) st p.isList (by simp;omega) fun h' eb=>⟨rfl,I.turned (t':=s.toks) (fun b o hb e=>eb b o hb e) f0 f1 f3 f4 f5⟩
 self:=fun _ _ _ _ _ st h=>wpAny_pyIter_listiter st h
theorem DW{P:Program}{w:World}{K:PySem.W.Frag}{tg:Expr}(it:Addr)(lo:Int)(n:Nat):Turn P w K tg (Itr lo n) [it] it (fun i h=>IsRangeIter h it (lo+(i:Nat)*1) ((n:Int)-(i:Nat)) 1) where
 mem:=by simp
 obj:=fun i h st b hb=>by
  have e:b=it:=by simpa using hb
  subst e
  exact⟨_,st,fun v z=>by
   have z':Data.fields _=Data.cell v:=z
   cases z'⟩
 keep:=fun i h h' st k=>k it (by simp) _ st
 item:=by
  intro X hP hw hK hc i pins s σ H E I hf st hg
  subst hP hw hK
  obtain⟨f0,f1,f2,f3,f4,f5⟩:=hf it (by simp)
  have W:=Walks.range (prog:=X.prog) (w:=X.w) (I.ok.hd hc) it lo 1 n
  refine W.item i s _ _ hg st fun v h' tk hv st' kk=>?_
  obtain⟨t,rfl⟩:=hv
  have I1:Inv X pins σ H { s with heap:=h',toks:=tk }:=I.turned (fun b o hb e=>kk b o (by simpa using hb) e) f0 f1 f3 f4 f5
  refine⟨_,rfl,Lj (s:={ s with heap:=h',toks:=tk }) (n:="range_iterator") st' rfl rfl (by decide) ⟨.int (lo+i),H,I1,⟨t,?_⟩,⟨rfl,rfl⟩,st',fun b hb=>(hf b hb).1⟩⟩
  rw[Int.mul_one]
 done:=by
  intro X hP hw hK hc i pins s σ H E I hf st hg
  subst hP hw hK
  obtain⟨f0,f1,f2,f3,f4,f5⟩:=hf it (by simp)
  exact wpAny_pyNext_range_end (I.ok.hd hc) st (by have:n<=i:=hg;omega) fun h' eb=>⟨rfl,I.turned (t':=s.toks) (fun b o hb e=>eb b o hb e) f0 f1 f3 f4 f5⟩
 self:=fun _ _ _ _ _ st h=>wpAny_pyIter_rangeiter st h
end L2
namespace L2
open PySem PySem.Spec PyProof.Rows
section
variable {X:Cx} {tg:Expr}
noncomputable def Lk(K:PySem.W.Frag)(tl:TE):TI:=fun σ H R=>tl σ H fun x H1=>∃a,x=.ref a/\(∃xs,SqL K H1 a xs)/\R (Itl K a) H1
theorem tU{l:Expr}{tl:TE}(hl:PE X l tl):PI X tg l (Lk X.K tl):=by
 intro pins s σ H R I h
 refine thn (hl pins s σ H _ I h) fun v s1 hw'=>?_
 obtain⟨x,H1,I1,r1,q1⟩:=hw'
 obtain⟨a,e,⟨xs,hq⟩,q⟩:=q1
 subst e
 cases r1
 obtain⟨its,rv,p,hz⟩:=I1.list hq
 refine wpAny_pyIter_list p.isList ?_
 refine⟨s1.heap.objs.size,[s1.heap.objs.size],_,_,H1,rfl,I1.kept (t':=s1.toks) fun b o e=>Heap.get?_push_of_some _ e,FT a _,⟨_,Heap.get?_push_size _ rfl,rfl,rfl⟩,fun b hb=>?_,q⟩
 have e:b=s1.heap.objs.size:=by simpa using hb
 subst e
 exact I1.fpOk (Nat.le_refl _) (I1.hok.fresh (Nat.le_refl _))
theorem IV{pins:List (Addr×Obj)}{σ:St}{H:Hp}{s:Shared}{R:It->Hp->Prop}{E:Value->Shared->Prop}{lo hi:Int}{t u v:Tok}{tk:Nat}(I:Inv X pins σ H s)(h1:-(2 ^ 62)<=lo)(h2:lo<2 ^ 62)(h3:-(2 ^ 62)<=hi)(h4:hi<2 ^ 62)
  (q:R (Itr lo (hi-lo).toNat) H):wpAny (model X.prog X.w) X.A (pyIter (.ref s.heap.objs.size)) (PIE X pins σ tg R) E { s with heap:=s.heap.push { cls:=.type "range",data:=.fields #[.int lo t,.int hi u,.int 1 v] },toks:=tk }:=by
 refine wpAny_pyIter_range (IsRange.new ..) (small_one h1 h2 h3 h4) ?_
 have I1:Inv X pins σ H { s with heap:=s.heap.push { cls:=.type "range",data:=.fields #[.int lo t,.int hi u,.int 1 v] },toks:=tk }:=I.kept fun b o e=>Heap.get?_push_of_some _ e
 refine⟨(s.heap.push { cls:=.type "range",data:=.fields #[.int lo t,.int hi u,.int 1 v] }).objs.size,[(s.heap.push { cls:=.type "range",data:=.fields #[.int lo t,.int hi u,.int 1 v] }).objs.size],_,_,H,rfl,
  I1.kept (t':=tk) fun b o e=>Heap.get?_push_of_some _ e,DW _ lo (hi-lo).toNat,?_,fun b hb=>?_,q⟩
 ·have e1:lo+((0:Nat):Int)*1=lo:=by simp
  have e2:(((hi-lo).toNat:Nat):Int)-((0:Nat):Int)=Builtin.Range.rangeSize lo hi 1:=by rw[rangeSize_one];split<;>omega
  show IsRangeIter _ _ (lo+((0:Nat):Int)*1) ((((hi-lo).toNat:Nat):Int)-((0:Nat):Int)) 1
  rw[e1,e2]
  exact Heap.get?_push_size _ rfl
 ·have e:b=(s.heap.push { cls:=.type "range",data:=.fields #[.int lo t,.int hi u,.int 1 v] }).objs.size:=by simpa using hb
  subst e
  exact I1.fpOk (Nat.le_refl _) (I1.hok.fresh (Nat.le_refl _))
noncomputable def Sx(ta:TA):TI:=fun σ H R=>ta σ H fun vs H1=>∃j:Int,vs=[.int j] /\ -(2 ^ 62)<=j/\j<2 ^ 62/\R (Itr 0 j.toNat) H1
theorem FW{a:Expr}{ta:TA}{p pos:Pos}(hg:Gl X "range")(hm:X.mg "range" = none)(ha:PA X [a] ta)(hs:starEach [a] X.env=[(false,eval a X.env)]:=by rfl):PI X tg (.Call (.Name "range" p) [a] [] pos) (Sx ta):=by
 intro pins s σ H R I h
 refine Call_ (rU I hg hm boot_range (PyProof.Rows.callWith_type1 (thn (ha pos pins s σ H _ I h) fun us s1 hw'=>?_) hs rfl))
 obtain⟨vs,H1,I1,r1,q1⟩:=hw'
 obtain⟨j,e,q1,q2,q⟩:=q1
 subst e
 cases r1 with
 | cons r rr =>
  cases rr
  obtain⟨t,rfl⟩:=r
  exact call_range_1 (IV I1 (by omega) (by omega) q1 q2 (by simpa using q))
noncomputable def Ug(wi:TI)(g:TG)(tb:TS):TS:=fun D σ H=>wi σ H fun J H1=>∃W:Nat->Nat->St->Hp->Prop,(∃m,W 0 m σ H1)/\∀i m σ H,W i m σ H ->
 (J.stop i H/\D.nx σ H)\/(J.go i H/\∃N:St->Hp->Prop,(∀σ' H',N σ' H'->∃m',m'<m/\W (i+1) m' σ' H')/\∀x H',J.yld i H x H'->g x σ H' fun σ2 H2=>tb { D with nx:=N,ct:=N,bk:=D.nx } σ2 H2)
noncomputable def rW(fp:List Addr)(h:Heap):List (Addr×Obj):=fp.filterMap fun b=>(h.get? b).map fun o=>(b,o)
theorem nQ{fp:List Addr}{h:Heap}{b:Addr}{o:Obj}(hb:b∈fp)(e:h.get? b=some o):(b,o)∈rW fp h:=List.mem_filterMap.mpr ⟨b,hb,by rw[e];rfl⟩
theorem FZ{fp:List Addr}{h:Heap}{p:Addr×Obj}(hp:p∈rW fp h):p.1∈fp/\h.get? p.1=some p.2:=by
 obtain⟨b,hb,e⟩:=List.mem_filterMap.mp hp
 cases q:h.get? b with
 | none=>rw[q] at e;cases e
 | some o =>
  rw[q] at e
  have e':(b,o)=p:=Option.some.inj e
  subst e'
  exact⟨hb,q⟩
theorem Inv.pinned{pins:List (Addr×Obj)}{σ:St}{H:Hp}{s:Shared}{fp:List Addr}(I:Inv X pins σ H s)(hf:∀b∈fp,mq X pins H b)(ho:∀b∈fp,∃o,s.heap.get? b=some o/\∀v,o.data ≠ .cell v):Inv X (pins++rW fp s.heap) σ H s :=
 I.pins_of fun p hp=>(List.mem_append.mp hp).elim (fun z=>I.pin p (List.mem_append_right _ z)) fun z=>by
  obtain⟨hb,e⟩:=FZ z
  obtain⟨f0,f1,f2,_⟩:=hf p.1 hb
  obtain⟨o,e',d⟩:=ho p.1 hb
  rw[e] at e';cases e'
  exact⟨e,f0,f1,f2,d⟩
theorem Inv.unpinned{pins pl:List (Addr×Obj)}{σ:St}{H:Hp}{s:Shared}(I:Inv X (pins++pl) σ H s):Inv X pins σ H s:=I.pins_of fun p hp=>I.pin p (List.mem_append_right _ (List.mem_append_left _ hp))
theorem F_{iter:Expr}{body:List Stmt}{wi:TI}{g:TG}{tb:TS}{pos:Pos}(hp:PassesOwn (model X.prog X.w) X.A X.env X.xe)(hc:X.calm=true)(hi:PI X tg iter wi)(hg:PG X tg g)(hb:PSs X body tb)
  (hs:∀x,foldedSetIterable iter X.env x=pure x:=by intro _;rfl):PS X (.For tg iter body [] pos) (Ug wi g tb):=by
 intro pins s σ H D I h
 refine wpAny_For (thn (hi pins s σ H _ I h) fun v s1 h1=>thn h1 fun itv s2 h2=>?_) hs
 obtain⟨it,fp,tn,J,H2,e,I2,T,st2,f2,W,⟨m0,w0⟩,turn⟩:=h2
 subst e
 have stat:∀{H':Hp},(∀b∈fp,H' b=none)->∀b∈fp,mq X pins H' b:=fun hn b hb=>⟨hn b hb,(f2 b hb).2⟩
 refine codeAny_forLoop_any (fun n s'=>∃i σ' H',Inv X pins σ' H' s'/\tn i s'.heap/\(∀b∈fp,H' b=none)/\W i n σ' H') ?_ m0 ⟨0,σ,H2,I2,st2,fun b hb=>(f2 b hb).1,w0⟩
 rintro n s3 ⟨i,σ3,H3,I3,st3,fr3,w3⟩
 rcases turn i n σ3 H3 w3 with⟨stop,qn⟩ |⟨go,N,hN,step⟩
 ·refine wpAny_passesOwn hp (thn (T.done X rfl rfl rfl hc i pins s3 σ3 H3 X.xe I3 (stat fr3) st3 stop) fun r s4 ⟨hr,I4⟩=>?_)
  subst hr
  exact wpAny_execs_nil ⟨σ3,H3,I4,qn⟩
 ·refine wpAny_passesOwn hp (thn (T.item X rfl rfl rfl hc i pins s3 σ3 H3 X.xe I3 (stat fr3) st3 go) fun r s4 ⟨u,hr,h4⟩=>?_)
  subst hr
  refine wpAny_passesOwn hp (thn h4 fun _ s5 hw'=>?_)
  obtain⟨x,H5,I5,r5,y5,st5,fr5⟩:=hw'
  have I5':=I5.pinned (stat fr5) (T.obj _ _ st5)
  refine wpAny_passesOwn hp (thn (hg _ s5 σ3 H5 x u _ I5' r5 (step x H5 y5)) fun _ s6 hw'=>?_)
  obtain⟨σ6,H6,I6,q6⟩:=hw'
  refine wpAny_passesOwn hp (thn (hb _ s6 σ6 H6 _ I6 q6) fun f s7 q7=>?_)
  have again:∀{σ7:St} {H7:Hp},Inv X (pins++rW fp s5.heap) σ7 H7 s7->N σ7 H7->∃m,m<n/\∃i σ' H',Inv X pins σ' H' s7/\tn i s7.heap/\(∀b∈fp,H' b=none)/\W i m σ' H':=fun {σ7 H7} I7 n7=>by
   obtain⟨m',hm,w7⟩:=hN σ7 H7 n7
   refine⟨m',hm,i+1,σ7,H7,I7.unpinned,T.keep _ _ _ st5 fun b hb o e=>(I7.pin (b,o) (List.mem_append_right _ (List.mem_append_right _ (nQ hb e)))).1,fun b hb=>?_,w7⟩
   obtain⟨o,e,d⟩:=T.obj _ _ st5 b hb
   exact(I7.pin (b,o) (List.mem_append_right _ (List.mem_append_right _ (nQ hb e)))).2.1
  cases f with
  | next=>obtain⟨σ7,H7,I7,n7⟩:=q7;exact again I7 n7
  | cont=>obtain⟨σ7,H7,I7,n7⟩:=q7;exact again I7 n7
  | brk=>obtain⟨σ7,H7,I7,q7⟩:=q7;exact⟨σ7,H7,I7.unpinned,q7⟩
  | ret v=>obtain⟨x7,σ7,H7,I7,r7,q7⟩:=q7;exact⟨x7,σ7,H7,I7.unpinned,r7,q7⟩
end
end L2
namespace L2
open PySem PySem.Spec PyProof.Rows
noncomputable abbrev R2:=V->V->Hp->VK->Prop
noncomputable def OpR(X:Cx)(f:Value->Value->Sem Value)(r:R2):Prop :=
 ∀(pins:List (Addr×Obj)) (s:Shared) (σ:St) (H:Hp) (x y:V) (v u:Value) (Q:VK),Inv X pins σ H s->RelV x v->RelV y u->r x y H Q ->
  wpAny (model X.prog X.w) X.A (f v u) (EP X pins σ Q) X.xe s
noncomputable def fL(X:Cx)(f:Value)(r:List V->Hp->VK->Prop):Prop :=
 ∀(pins:List (Addr×Obj)) (s:Shared) (σ:St) (H:Hp) (xs:List V) (us:List Value) (Q:VK),Inv X pins σ H s->Vals xs us->r xs H Q ->
  wpAny (model X.prog X.w) X.A (call f us) (EP X pins σ Q) X.xe s
noncomputable def tOp(r:R2)(ta tb:TE):TE:=fun σ H Q=>ta σ H fun x H1=>tb σ H1 fun y H2=>r x y H2 Q
noncomputable def rI(C:Int->Int->Prop)(g:Int->Int->V):R2:=fun x y H Q=>∃i j,x=.int i/\y=.int j/\C i j/\Q (g i j) H
noncomputable def rI0(g:Int->Int->V):R2:=fun x y H Q=>∃i j,x=.int i/\y=.int j/\Q (g i j) H
section
variable {X:Cx} {a b c:Expr} {ta tb tc:TE} {pos:Pos}
theorem IW(ha:PE X a ta)(hb:PE X b tb){pins:List (Addr×Obj)}{s:Shared}{σ:St}{H:Hp}{R:V->V->Hp->Prop}(I:Inv X pins σ H s)
  (h:ta σ H fun x H1=>tb σ H1 fun y H2=>R x y H2) {Q:Value->Shared->Prop} {f:Value->Value->Sem Value}
  (hf:∀v u s2 x y H2,Inv X pins σ H2 s2->RelV x v->RelV y u->R x y H2->wpAny (model X.prog X.w) X.A (f v u) Q X.xe s2) :
  wpAny (model X.prog X.w) X.A (eval a X.env) (fun v s₁=>wpAny (model X.prog X.w) X.A (eval b X.env) (fun u s₂=>wpAny (model X.prog X.w) X.A (f v u) Q X.xe s₂) X.xe s₁) X.xe s:=by
 refine thn (ha pins s σ H _ I h) fun v s1 hw'=>?_
 obtain⟨x,H1,I1,r1,q1⟩:=hw'
 refine thn (hb pins s1 σ H1 _ I1 q1) fun u s2 hw'=>?_
 obtain⟨y,H2,I2,r2,q2⟩:=hw'
 exact hf v u s2 x y H2 I2 r1 r2 q2
theorem Sy{op:Operator}{r:R2}(ho:OpR X (binaryOp op) r)(ha:PE X a ta)(hb:PE X b tb):PE X (.BinOp a op b pos) (tOp r ta tb):=by
 intro pins s σ H Q I h
 exact wpAny_BinOp (IW ha hb I h fun v u s2 x y H2 I2 rx ry q=>ho pins s2 σ H2 x y v u Q I2 rx ry q)
theorem opI{f:Value->Value->Sem Value}{C:Int->Int->Prop}{g:Int->Int->Int}
  (rule:∀(i j:Int) (t u:Tok) (s:Shared) (Q:Value->Shared->Prop) (E:Value->Shared->Prop),C i j->Q (.int (g i j) s.toks) { s with toks:=s.toks+1 }->wpAny (model X.prog X.w) X.A (f (.int i t) (.int j u)) Q E s) :
  OpR X f (rI C fun i j=>.int (g i j)):=by
 intro pins s σ H x y v u Q I rx ry h
 obtain⟨i,j,rfl,rfl,hc,q⟩:=h
 obtain⟨t,rfl⟩:=rx
 obtain⟨t',rfl⟩:=ry
 exact rule i j t t' s _ _ hc ⟨.int (g i j),H,I.tok _,⟨_,rfl⟩,q⟩
theorem Uh{f:Value->Value->Sem Value}{g:Int->Int->Int}
  (rule:∀(i j:Int) (t u:Tok) (s:Shared) (Q:Value->Shared->Prop) (E:Value->Shared->Prop),Q (.int (g i j) s.toks) { s with toks:=s.toks+1 }->wpAny (model X.prog X.w) X.A (f (.int i t) (.int j u)) Q E s) :
  OpR X f (rI0 fun i j=>.int (g i j)):=by
 intro pins s σ H x y v u Q I rx ry h
 obtain⟨i,j,rfl,rfl,q⟩:=h
 obtain⟨t,rfl⟩:=rx
 obtain⟨t',rfl⟩:=ry
 exact rule i j t t' s _ _ ⟨.int (g i j),H,I.tok _,⟨_,rfl⟩,q⟩
theorem Ui{f:Value->Value->Sem Value}{g:Int->Int->Bool}
  (rule:∀(i j:Int) (t u:Tok) (s:Shared) (Q:Value->Shared->Prop) (E:Value->Shared->Prop),Q (.bool (g i j)) s->wpAny (model X.prog X.w) X.A (f (.int i t) (.int j u)) Q E s) :
  OpR X f (rI0 fun i j=>.bl (g i j)):=by
 intro pins s σ H x y v u Q I rx ry h
 obtain⟨i,j,rfl,rfl,q⟩:=h
 obtain⟨t,rfl⟩:=rx
 obtain⟨t',rfl⟩:=ry
 exact rule i j t t' s _ _ ⟨.bl (g i j),H,I,rfl,q⟩
noncomputable def Uj(i j:Int):Prop:=0<j/\j<1073741824
noncomputable def I_(i j:Int):Prop:=(-(2 ^ 64)<i/\i<2 ^ 64)\/(-(2 ^ 64)<j/\j<2 ^ 64)
theorem I_.ok{i j:Int}(h:I_ i j):IntMulOk i j:=by
 rcases h with⟨h1,h2⟩ |⟨h1,h2⟩
 ·exact .of_left (intBits_le_64 h1 h2)
 ·exact .of_right (intBits_le_64 h1 h2)
theorem QG:OpR X (binaryOp .Add) (rI0 fun i j=>.int (i+j)):=Uh fun _ _ _ _ _ _ _ q=>add_int q
theorem QH:OpR X (binaryOp .Mult) (rI I_ fun i j=>.int (i*j)):=opI fun _ _ _ _ _ _ _ hc q=>mul_int q hc.ok
theorem Mz:OpR X (binaryOp .FloorDiv) (rI Uj fun i j=>.int (i / j)):=opI fun i j _ _ _ _ _ hc q=>by
 have h1:(0:Int)<j:=hc.1
 have h2:j<1073741824:=hc.2
 exact floordiv_int (by omega) (by rw[Int.fdiv_eq_ediv_of_nonneg i (by omega)];exact q) (.inl (PyProof.noPylong_small (by omega)))
theorem QJ:OpR X (binaryOp .Mod) (rI (fun _ j=>0<j) fun i j=>.int (i%j)):=opI fun i j _ _ _ _ _ hc q=>by
 have h1:(0:Int)<j:=hc
 exact mod_int' (by omega) (by rw[Int.fmod_eq_emod_of_nonneg i (by omega)];exact q)
end
section
variable {X:Cx} {a b c:Expr} {ta tb tc:TE} {pos:Pos}
theorem QK{pins:List (Addr×Obj)}{σ:St}{H:Hp}{s:Shared}{Q:VK}{k k':Bool}(I:Inv X pins σ H s)(q:Q (.bl k) H)(e:k=k'):EP X pins σ Q (.bool k') s:=by
 subst e
 exact⟨.bl k,H,I,rfl,q⟩
theorem SJ:OpR X (compareOp .Lt) (rI0 fun i j=>.bl (decide (i<j))):=Ui fun _ _ _ _ _ _ _ q=>lt_int q
theorem QL:OpR X (compareOp .Is) (fun x y H Q=>y=.non/\Q (.bl (decide (x=.non))) H):=by
 intro pins s σ H x y v u Q I rx ry h
 obtain⟨rfl,q⟩:=h
 cases ry
 refine is_none_gen (QK I q ?_)
 cases x<;>first
  | (cases rx;rfl)
  | (obtain⟨t,rfl⟩:=rx;rfl)
theorem a_(b:Expr){op:CmpOp}(h:op ≠ .In:=by decide)(h2:op ≠ .NotIn:=by decide):behindInMarks op b=false:=by
 have e1:(op==CmpOp.In)=false:=by cases op<;>first |rfl |exact absurd rfl h
 have e2:(op==CmpOp.NotIn)=false:=by cases op<;>first |rfl |exact absurd rfl h2
 cases b<;>simp[behindInMarks,e1,e2]
theorem MF{op:CmpOp}{r:R2}(ho:OpR X (compareOp op) r)(ha:PE X a ta)(hb:PE X b tb)(hm:behindInMarks op b=false):PE X (.Compare a [op] [b] pos) (tOp r ta tb):=by
 intro pins s σ H Q I h
 exact wpAny_Compare1 (IW ha hb I h fun v u s2 x y H2 I2 rx ry q=>ho pins s2 σ H2 x y v u Q I2 rx ry q) hm
noncomputable def SM(t:TE):TT:=fun σ H Q=>t σ H fun x H'=>∃k,x=.bl k/\Q k H'
theorem tW{op:CmpOp}{r:R2}(ho:OpR X (compareOp op) r)(ha:PE X a ta)(hb:PE X b tb)(hm:behindInMarks op b=false):PT X (.Compare a [op] [b] pos) (SM (tOp r ta tb)):=by
 intro pins s σ H Q I h
 refine wpAny_isTrue_Compare1 (thn (ha pins s σ H _ I h) fun v s1 ⟨x,H1,I1,r1,q1⟩=>thn (hb pins s1 σ H1 _ I1 q1) fun u s2 ⟨y,H2,I2,r2,q2⟩ =>
  thn (ho pins s2 σ H2 x y v u _ I2 r1 r2 q2) fun c s3 hw'=>?_) hm
 obtain⟨z,H3,I3,r3,k,e,q3⟩:=hw'
 subst e
 cases r3
 exact wpAny_truthy_bool ⟨H3,I3,q3⟩
theorem ql:(sizeLine:Nat)<2 ^ 63:=by rw[sizeLine_eq];decide
theorem DX:OpR X (binaryOp .Add) (fun x y H Q=>∃i j,x=.str i/\y=.str j/\i.length+j.length<=sizeLine/\Q (.str (i++j)) H):=by
 intro pins s σ H x y v u Q I rx ry h
 obtain⟨i,j,rfl,rfl,hz,q⟩:=h
 obtain⟨t,rfl⟩:=rx
 obtain⟨t',rfl⟩:=ry
 exact add_str (fun t' tk=>⟨.str (i++j),H,I.tok _,⟨_,rfl⟩,q⟩) hz
theorem vals1{x:V}{us:List Value}(r:Vals [x] us):∃u,us=[u]/\RelV x u:=by
 cases r with
 | cons r1 r2=>cases r2;exact⟨_,rfl,r1⟩
theorem vals2{x y:V}{us:List Value}(r:Vals [x,y] us):∃u w',us=[u,w']/\RelV x u/\RelV y w':=by
 cases r with
 | cons r1 r2 =>
  cases r2 with
  | cons r3 r4=>cases r4;exact⟨_,_,rfl,r1,r3⟩
theorem Ga(hc:X.calm=true):fL X (.builtin "max") (fun xs H Q=>∃i j,xs=[.int i,.int j]/\Q (.int (if j>i then j else i)) H):=by
 intro pins s σ H xs us Q I r h
 obtain⟨i,j,rfl,q⟩:=h
 obtain⟨u,w',rfl,⟨t,rfl⟩,⟨t',rfl⟩⟩:=vals2 r
 refine max_two_ints (I.ok.hd hc) fun h' tk k=>⟨_,H,I.kept k,?_,q⟩
 by_cases hj:j>i
 ·rw[if_pos hj,if_pos hj];exact⟨_,rfl⟩
 ·rw[if_neg hj,if_neg hj];exact⟨_,rfl⟩
theorem Gb(hc:X.calm=true):fL X (.builtin "min") (fun xs H Q=>∃i j,xs=[.int i,.int j]/\Q (.int (if j<i then j else i)) H):=by
 intro pins s σ H xs us Q I r h
 obtain⟨i,j,rfl,q⟩:=h
 obtain⟨u,w',rfl,⟨t,rfl⟩,⟨t',rfl⟩⟩:=vals2 r
 refine min_two_ints (I.ok.hd hc) fun h' tk k=>⟨_,H,I.kept k,?_,q⟩
 by_cases hj:j<i
 ·rw[if_pos hj,if_pos hj];exact⟨_,rfl⟩
 ·rw[if_neg hj,if_neg hj];exact⟨_,rfl⟩
theorem yp:fL X (.type "int") (fun xs H Q=>(∃i,xs=[.int i]/\Q (.int i) H)\/∃k,xs=[.bl k]/\Q (.int (if k then 1 else 0)) H):=by
 intro pins s σ H xs us Q I r h
 rcases h with⟨i,rfl,q⟩ |⟨k,rfl,q⟩
 ·obtain⟨u,rfl,t,rfl⟩:=vals1 r
  exact call_int_int ⟨.int i,H,I,⟨_,rfl⟩,q⟩
 ·obtain⟨u,rfl,r1⟩:=vals1 r
  cases r1
  exact call_int_bool ⟨.int (if k then 1 else 0),H,I.tok _,⟨_,rfl⟩,q⟩
noncomputable def Uk(K:PySem.W.Frag)(x:V)(H:Hp)(n:Nat):Prop :=
 match x with
 | .str y=>y.length<=sizeLine/\n=y.length
 | .byt y=>y.size<=sizeLine/\n=y.size
 | .ref p=>(∃xs,SqL K H p xs/\n=xs.length)\/∃xs,SqT K H p xs/\n=xs.length
 | _=>False
theorem Ja:fL X (.builtin "len") (fun xs H Q=>∃x n,xs=[x]/\Uk X.K x H n/\Q (.int n) H):=by
 intro pins s σ H xs us Q I r h
 obtain⟨x,n,rfl,e,q⟩:=h
 obtain⟨u,rfl,rx⟩:=vals1 r
 have hl:=ql
 have hs:sizeLine=16777216:=sizeLine_eq
 cases x with
 | str y =>
  obtain⟨t,rfl⟩:=rx
  obtain⟨hy,e'⟩:y.length<=sizeLine/\n=y.length:=e
  subst e'
  exact len_str (by omega) ⟨.int _,H,I.tok _,⟨_,rfl⟩,q⟩
 | byt y =>
  obtain⟨t,rfl⟩:=rx
  obtain⟨hy,e'⟩:y.size<=sizeLine/\n=y.size:=e
  subst e'
  exact PySem.W.len_bytes (by omega) ⟨.int _,H,I.tok _,⟨_,rfl⟩,q⟩
 | ref p =>
  cases rx
  have e':(∃xs,SqL X.K H p xs/\n=xs.length)\/∃xs,SqT X.K H p xs/\n=xs.length:=e
  rcases e' with⟨xs,hx,e'⟩ |⟨xs,hx,e'⟩
  ·subst e'
   obtain⟨its,r',pl,hz⟩:=I.list hx
   have hlen:=r'.length
   exact Calls.call_len_list pl.isList (by simp only[List.size_toArray];omega) ⟨.int xs.length,H,I.tok _,⟨_,by simp only[List.size_toArray];rw[hlen]⟩,q⟩
  ·subst e'
   obtain⟨its,r',pl,hz⟩:=I.tuple hx
   have hlen:=r'.length
   exact len_tuple pl (by simp only[List.size_toArray];omega) ⟨.int xs.length,H,I.tok _,⟨_,by simp only[List.size_toArray];rw[hlen]⟩,q⟩
 | _=>exact(show False from e).elim
end
end L2
namespace L2
open PySem PySem.Spec PyProof.Rows
structure ObjM(h:Heap)(x dx C:Addr)(mA:Str->Option Value):Prop where
 obj:h.get? x=some (PySem.W.instObj C dx)
 ns:h.Ns1 dx mA
 ne:dx≠x
theorem Gd{h:Heap}{dx:Addr}{mA:Str->Option Value}(n:h.Ns1 dx mA):∃od,h.get? dx=some od/\∀name,PySem.W.lookIn name od=some (mA name):=by
 obtain⟨o,es,ep,ho,hd,hk,_,hm⟩:=n
 refine⟨o,ho,fun name=>?_⟩
 have e:=hm name
 unfold nsFind findBy at e
 rw[<-Array.find?_toList] at e
 unfold PySem.W.lookIn
 rw[hd]
 dsimp only
 split
 ·rename_i y q
  rw[q] at e
  exact congrArg some e
 ·rename_i q
  rw[q] at e
  have a:es.toList.any (·.refKey)=false:=by
   rw[List.any_eq_false]
   intro y hy
   obtain⟨z,t,hkey⟩:=hk y (Array.mem_toList_iff.mp hy)
   simp[DictEntry.refKey,hkey]
  have a':¬es.toList.any (·.refKey)=true:=by rw[a];exact Bool.false_ne_true
  rw[if_neg a']
  exact congrArg some e
theorem ObjM.look{h:Heap}{x dx C:Addr}{mA:Str->Option Value}(I:ObjM h x dx C mA):∃od,PySem.W.InstAt h x (PySem.W.instObj C dx) C (some od)/\∀name,PySem.W.lookIn name od=some (mA name) :=
 let⟨od,ho,hl⟩:=Gd I.ns
 ⟨od,⟨I.obj,rfl,rfl,ho⟩,hl⟩
section
variable {prog:Program} {w:World} {A:Around} {E:Value->Shared->Prop} {s:Shared} {K:PySem.W.Frag} {x dx C f:Addr} {mA:Str->Option Value} {name:Str} {v:Value}
theorem get_map{expr:Bool}{Q:Value->Shared->Prop}(X:K.In s.heap)(I:ObjM s.heap x dx C mA)(hg:PySem.W.plainGet K C name=true)(hh:PySem.W.hasDictIn K C=true)
  (ha:PySem.W.findIn K (.ref C) name=some none) (hv:mA name=some v) (hv':PySem.W.handedIn v=true) (h:Q v { s with toks:=s.toks+1 }) :
  wpAny (model prog w) A (getAttr (.ref x) name expr) Q E s:=by
 obtain⟨od,J,hl⟩:=I.look
 exact PySem.W.get_value X J (PySem.W.plainGet_of hg).1 (PySem.W.findObj_own hh ha rfl (by rw[hl,hv])) hv' h
theorem Jb{pl:Sem Bool}{Q:Value×List Value->Shared->Prop}(X:K.In s.heap)(I:ObjM s.heap x dx C mA)(hg:PySem.W.plainGet K C name=true)
  (hf:PySem.W.findIn K (.ref C) name=some (some (.ref f))) (ht:PySem.W.isFn K (.ref f)=true) (hv:mA name=none) (h:Q (.ref f,[.ref x]) s) :
  wpAny (model prog w) A (getMethod (.ref x) name pl) Q E s:=by
 obtain⟨od,J,hl⟩:=I.look
 exact PySem.W.method_fn X J (PySem.W.plainGet_of hg).1 (PySem.W.plainGet_of hg).2 hf (beq_iff_eq.mp ht) (by show(PySem.W.lookIn name od).map (·.isSome)=some false;rw[hl,hv];rfl) h
theorem MJ{ns:List Str}{Q:Unit->Shared->Prop}(X:K.In s.heap)(I:ObjM s.heap x dx C mA)
  (hs:PySem.W.findIn K (.ref C) "__setattr__" = some (some (.builtin "object.__setattr__"))) (hp:PySem.W.plainOver K C=true) (ht:PySem.W.takerIn K C name=some none) (hh:PySem.W.hasDictIn K C=true)
  (hw:PySem.Within mA ns) (hsz:ns.length<=sizeLine)
  (h:∀h',ObjM h' x dx C (fun y=>if y=name then some v else mA y)->Heap.SameBut dx s.heap h'->Q () { s with heap:=h',toks:=s.toks+2 }) :
  wpAny (model prog w) A (setAttr (.ref x) name v) Q E s:=by
 obtain⟨od,J,hl⟩:=I.look
 refine PySem.W.set_plain X J hs (PySem.W.osa_open (s:={ s with toks:=s.toks+1 }) (r:=none) X J hp ht fun b=>?_)
 obtain⟨cd,hc,hd'⟩:=PySem.W.any_some hh
 have hx:s.heap.get? x=some ⟨.ref C,some dx,.plain,#[]⟩:=I.obj
 refine wpAny_bind (wpAny_pure (wpAny_bind (wpAny_bind (wpAny_loadPart hx (wpAny_bind (PySem.W.Looks.here (s:={ s with toks:=s.toks+1 }) (PySem.W.looks_clsIn X hc) ?_))))))
 rw[hd']
 refine wpAny_pure (a:=some dx) (wpAny_bind (wpAny_pure (wpAny_bind ?_)))
 refine wpAny_nsSet1 (s:={ s with toks:=s.toks+1 }) I.ns fun h' hn2 hs2=>?_
 obtain⟨oD,esD,epD,hoD,hdD,hcD⟩:=hn2.count (PySem.Within.cons name v hw)
 refine wpAny_bind (wpAny_lookBehind hoD (by rw[hdD];exact pastItsLine_dict (Nat.le_trans hcD (by rw[List.length_cons];omega))) ?_)
 exact wpAny_pure (h _ ⟨(hs2.2 _ (Ne.symm I.ne)).trans I.obj,hn2,I.ne⟩ hs2)
theorem Jc{R:Result->Shared->Prop}{vs:List Value}{kw:List (Str×Value)}(X:K.In s.heap)(hm:PySem.W.makesIn K C=true)
  (hi:PySem.W.findIn K (.ref C) "__init__" = some (some (.ref f))) (hf:PySem.W.typeIn K (.ref f)=some (.type "function"))
  (h:codeAny (model prog w) (A.under (.builtin "type.__call__" ⟨.ref C::vs,kw⟩)) (.call (.ref f) ⟨.ref (s.heap.objs.size+1)::vs,kw⟩) (PySem.W.InitBack (s.heap.objs.size+1) R)
   { s with heap:=(s.heap.push PySem.W.emptyDict).push (PySem.W.instObj C s.heap.objs.size) }) :
  codeAny (model prog w) A (.call (.ref C) ⟨vs,kw⟩) R s:=by
 obtain⟨hh,g,d,t,os⟩:=s
 exact PySem.W.make_core (PySem.W.makes_of X hm) (PySem.W.looks_findIn X hi) (fun self=>PySem.W.bind_fn X self hf) (.inl rfl) h
end
noncomputable def gG(f:Str)(v:V):List (Str×V)->List (Str×V)
 | []=>[(f,v)]
 | (g,x)::r=>if g=f then(g,v)::r else(g,x)::gG f v r
theorem uK(f g:Str)(v:V):∀fs:List (Str×V),(gG f v fs).lookup g=if g=f then some v else fs.lookup g
 | []=>by
  show List.lookup g [(f,v)]=_
  by_cases h:g=f
  ·have hb:(g==f)=true:=beq_iff_eq.mpr h
   simp only[List.lookup,hb,if_pos h]
  ·have hb:(g==f)=false:=beq_eq_false_iff_ne.mpr h
   simp only[List.lookup,hb,if_neg h]
 | (k,x)::r=>by
  have ih:=uK f g v r
  rw[show gG f v ((k,x)::r)=(if k=f then(k,v)::r else(k,x)::gG f v r) from rfl]
  by_cases hk:k=f
  ·rw[if_pos hk]
   by_cases h:g=k
   ·have hb:(g==k)=true:=beq_iff_eq.mpr h
    simp only[List.lookup,hb,if_pos (h.trans hk)]
   ·have hb:(g==k)=false:=beq_eq_false_iff_ne.mpr h
    simp only[List.lookup,hb,if_neg (fun e:g=f=>h (e.trans hk.symm))]
  ·rw[if_neg hk]
   by_cases h:g=k
   ·have hb:(g==k)=true:=beq_iff_eq.mpr h
    simp only[List.lookup,hb,if_neg (fun e:g=f=>hk (h.symm.trans e))]
   ·have hb:(g==k)=false:=beq_eq_false_iff_ne.mpr h
    simp only[List.lookup,hb]
    exact ih
theorem rY(f:Str)(v:V):∀fs:List (Str×V),f∈(gG f v fs).map (·.1)/\∀g,g∈fs.map (·.1)->g∈(gG f v fs).map (·.1)
 | []=>⟨by simp[gG],fun g h=>by simp at h⟩
 | (k,x)::r=>by
  obtain⟨i1,i2⟩:=rY f v r
  rw[show gG f v ((k,x)::r)=(if k=f then(k,v)::r else(k,x)::gG f v r) from rfl]
  by_cases hk:k=f
  ·rw[if_pos hk]
   subst hk
   exact⟨by simp,fun g h=>by simpa using h⟩
  ·rw[if_neg hk]
   refine⟨?_,fun g h=>?_⟩
   ·rw[List.map_cons]
    exact List.mem_cons_of_mem _ i1
   ·rw[List.map_cons] at h ⊢
    rcases List.mem_cons.mp h with e |e
    ·exact List.mem_cons.mpr (.inl e)
    ·exact List.mem_cons_of_mem _ (i2 g e)
theorem uL(f:Str)(v:V):∀fs:List (Str×V),(gG f v fs).length<=fs.length+1
 | []=>by simp[gG]
 | (k,x)::r=>by
  have ih:=uL f v r
  rw[show gG f v ((k,x)::r)=(if k=f then(k,v)::r else(k,x)::gG f v r) from rfl]
  by_cases hk:k=f
  ·rw[if_pos hk,List.length_cons,List.length_cons];omega
  ·rw[if_neg hk,List.length_cons,List.length_cons];omega
theorem gY.some_of{v:V}{o:Option Value}(r:gY (some v) o):∃u,o=some u/\RelV v u:=by
 cases o with
 | none=>exact(show False from r).elim
 | some u=>exact⟨u,rfl,r⟩
theorem gY.none_of{o:Option Value}(r:gY none o):o=none:=by
 cases o with
 | none=>rfl
 | some u=>exact(show False from r).elim
theorem Ge{v:V}{u:Value}(r:RelV v u):PySem.W.handedIn u=true:=by
 cases v with
 | non=>cases (show u=Value.none from r);rfl
 | bl b=>cases (show u=Value.bool b from r);rfl
 | int i=>obtain⟨t,e⟩:=(show ∃t,u=Value.int i t from r);cases e;rfl
 | str x=>obtain⟨t,e⟩:=(show ∃t,u=Value.str x t from r);cases e;rfl
 | byt b=>obtain⟨t,e⟩:=(show ∃t,u=Value.bytes b t from r);cases e;rfl
 | flt b=>obtain⟨t,e⟩:=(show ∃t,u=Value.float b t from r);cases e;rfl
 | ref a=>cases (show u=Value.ref a from r);rfl
 | ty n=>cases (show u=Value.type n from r);rfl
section
variable {P:Program} {w:World} {H H':Hp} {h h':Heap} {a C dx:Addr} {fs fs':List (Str×V)}
theorem tX(hok:HOk P w H h)(e:H a=some (.ins C dx fs)):∃mA,ObjM h a dx C mA/\(∀f,gY (fs.lookup f) (mA f))/\PySem.Within mA (fs.map (·.1))/\fs.length<=1000/\H dx=some (.own a):=by
 obtain⟨d,z,ne,ob,mA,n,r,q⟩:=(show bI P w H h a (.ins C dx fs) from hok a _ e)
 exact⟨mA,⟨ob,n,ne⟩,r,q,z,d⟩
end
structure Cls(K:PySem.W.Frag)(C:Addr):Prop where
 pg:PySem.W.plainGet K C Str.empty=true
 hd:PySem.W.hasDictIn K C=true
 po:PySem.W.plainOver K C=true
 sa:PySem.W.findIn K (.ref C) "__setattr__" = some (some (.builtin "object.__setattr__"))
theorem Cls.get{K:PySem.W.Frag}{C:Addr}(c:Cls K C)(f:Str):PySem.W.plainGet K C f=true:=c.pg
noncomputable def mR(K:PySem.W.Frag)(C:Addr)(f:Str):Prop:=PySem.W.findIn K (.ref C) f=some none
theorem mR.taker{K:PySem.W.Frag}{C:Addr}{f:Str}(n:mR K C f):PySem.W.takerIn K C f=some none:=by
 unfold PySem.W.takerIn
 rw[show PySem.W.findIn K (.ref C) f=some none from n]
 rfl
structure Meth(K:PySem.W.Frag)(C:Addr)(m:Str)(f:Addr):Prop where
 at_:PySem.W.findIn K (.ref C) m=some (some (.ref f))
 fn:PySem.W.isFn K (.ref f)=true
 kp:PySem.W.keepIn K (.ref f)=true
section
variable {X:Cx} {pins:List (Addr×Obj)} {σ:St} {H:Hp} {s:Shared} {a C dx:Addr} {fs:List (Str×V)} {f:Str} {v:V} {A:Around} {E:Value->Shared->Prop}
theorem DY{b:Bool}{Q:Value->Shared->Prop}(I:Inv X pins σ H s)(e:H a=some (.ins C dx fs))(c:Cls X.K C)(n:mR X.K C f)(l:fs.lookup f=some v)
  (h:∀u s',Inv X pins σ H s'->RelV v u->Q u s'):wpAny (model X.prog X.w) A (getAttr (.ref a) f b) Q E s:=by
 obtain⟨mA,O,r,_,_,_⟩:=tX I.hok e
 obtain⟨u,hu,ru⟩:=gY.some_of (v:=v) (o:=mA f) (by rw[<-l];exact r f)
 exact get_map I.kIn O (c.get f) c.hd n hu (Ge ru) (h u _ (I.tok _) ru)
theorem vI{m:Str}{g:Addr}{pl:Sem Bool}{Q:Value×List Value->Shared->Prop}(I:Inv X pins σ H s)(e:H a=some (.ins C dx fs))(c:Cls X.K C)(k:Meth X.K C m g)(l:fs.lookup m=none)
  (h:Q (.ref g,[.ref a]) s):wpAny (model X.prog X.w) A (getMethod (.ref a) m pl) Q E s:=by
 obtain⟨mA,O,r,_,_,_⟩:=tX I.hok e
 have hn:mA m=none:=gY.none_of (by rw[<-l];exact r m)
 exact Jb I.kIn O (c.get m) k.at_ k.fn hn h
theorem D_{y:V}{u:Value}{Q:Unit->Shared->Prop}(I:Inv X pins σ H s)(e:H a=some (.ins C dx fs))(c:Cls X.K C)(n:mR X.K C f)(hl:fs.length<1000)(ry:RelV y u)
  (h:∀s',Inv X pins σ (upd H a (.ins C dx (gG f y fs))) s'->Q () s'):wpAny (model X.prog X.w) A (setAttr (.ref a) f u) Q E s:=by
 obtain⟨mA,O,r,wi,_,ho⟩:=tX I.hok e
 have hz:(fs.map (·.1)).length<=sizeLine:=by rw[List.length_map,sizeLine_eq];omega
 refine MJ I.kIn O c.sa c.po n.taker c.hd wi hz fun h' O' sb=>h _ ?_
 have hd:∃o,h'.get? dx=some o:=let⟨o,_,_,e',_⟩:=O'.ns;⟨o,e'⟩
 refine I.write (x:=a) (e:=dx) (by rw[e];exact True.intro) (.inr ho) (fun b q hb z=>(sb.2 b hb).trans z) hd ?_
 refine⟨by rw[aC O.ne];exact ho,?_,O.ne,O'.obj,_,O'.ns,fun g=>?_,fun g hg=>?_⟩
 ·have:=uL f y fs;omega
 ·show gY ((gG f y fs).lookup g) (if g=f then some u else mA g)
  rw[uK]
  by_cases q:g=f
  ·rw[if_pos q,if_pos q];exact ry
  ·rw[if_neg q,if_neg q];exact r g
 ·by_cases q:g=f
  ·rw[q];exact(rY f y fs).1
  ·refine(rY f y fs).2 g (wi g fun z=>hg ?_)
   show(if g=f then some u else mA g)=none
   rw[if_neg q];exact z
theorem Inv.made(I:Inv X pins σ H s):Inv X pins σ (upd (upd H s.heap.objs.size (.own (s.heap.objs.size+1))) (s.heap.objs.size+1) (.ins C s.heap.objs.size []))
  { s with heap:=(s.heap.push PySem.W.emptyDict).push (PySem.W.instObj C s.heap.objs.size) }:=by
 have e1:(s.heap.push PySem.W.emptyDict).get? s.heap.objs.size=some PySem.W.emptyDict:=Heap.get?_push_size s.heap rfl
 have e2:((s.heap.push PySem.W.emptyDict).push (PySem.W.instObj C s.heap.objs.size)).get? (s.heap.objs.size+1)=some (PySem.W.instObj C s.heap.objs.size):=by
  have:=Heap.get?_push_size (s.heap.push PySem.W.emptyDict) (o:=PySem.W.instObj C s.heap.objs.size) rfl
  rwa [Heap.size_push] at this
 have e3:(s.heap.push PySem.W.emptyDict).Ns s.heap.objs.size (fun _=>none):=⟨PySem.W.emptyDict,#[],_,e1,rfl,(fun e he=>absurd he (by simp)),fun _=>rfl⟩
 have I1:=I.laid (a:=s.heap.objs.size) (o:=.own (s.heap.objs.size+1)) (h':=s.heap.push PySem.W.emptyDict) (t':=s.toks) (fun b u q=>Heap.get?_push_of_some _ q) (Nat.le_refl _) ⟨_,e1⟩
 refine I1.laid (a:=s.heap.objs.size+1) (o:=.ins C s.heap.objs.size []) (t':=s.toks) (fun b u q=>Heap.get?_push_of_some _ q) (Nat.le_of_eq (Heap.size_push _ _)) ?_
 have ne:s.heap.objs.size≠s.heap.objs.size+1:=Nat.ne_of_lt (Nat.lt_succ_self _)
 refine⟨by rw[aC ne,aJ],Nat.zero_le _,ne,e2,fun _=>none,(Heap.Ns1.of_empty e3).at fun o q=>Heap.get?_push_of_some _ q,fun _=>True.intro,fun y hy=>absurd rfl hy⟩
theorem MK{prog:Program}{w:World}{env:Env}{e:Expr}{f:Str}{pos:Pos}{s:Shared}{Q:Value->Shared->Prop}(hb:attributeBase e f env (eval e env)=eval e env)
  (h:wpAny (model prog w) A (eval e env) (fun o s₁=>wpAny (model prog w) A (getAttr o f true) Q E s₁) E s):wpAny (model prog w) A (eval (.Attribute e f pos) env) Q E s :=
 Attribute_any_ h (by rw[arm_eval_Attribute,hb])
end
noncomputable def Ul(K:PySem.W.Frag)(ta:TE)(f:Str):TE:=fun σ H Q=>ta σ H fun x H1=>∃a C dx fs v,x=.ref a/\H1 a=some (.ins C dx fs)/\Cls K C/\mR K C f/\fs.lookup f=some v/\Q v H1
noncomputable def Um(K:PySem.W.Frag)(ta tv:TE)(f:Str):TS:=fun D σ H=>tv σ H fun y H1=>ta σ H1 fun x H2=>∃a C dx fs,x=.ref a/\H2 a=some (.ins C dx fs)/\Cls K C/\mR K C f/\fs.length<1000 /\
 D.nx σ (upd H2 a (.ins C dx (gG f y fs)))
section
variable {X:Cx} {o e value:Expr} {f:Str} {pos pos' tpos:Pos} {ta tv:TE}
theorem QM(he:PE X e ta)(hb:attributeBase e f X.env (eval e X.env)=eval e X.env):PE X (.Attribute e f pos) (Ul X.K ta f):=by
 intro pins s σ H Q I h
 refine MK hb (thn (he pins s σ H _ I h) fun u s1 hw'=>?_)
 obtain⟨x,H1,I1,rx,a,C,dx,fs,v,ex,ea,c,n,l,q⟩:=hw'
 subst ex
 obtain rfl:u=Value.ref a:=rx
 exact DY I1 ea c n l fun u' s2 I2 ru=>⟨v,H1,I2,ru,q⟩
theorem QQ(ha:PE X o ta)(hv:PE X value tv)(hs:swapsWith value (some (.Attribute o f pos')) pos.line X.env=pure false):PS X (.Assign [.Attribute o f pos'] value pos) (Um X.K ta tv f):=by
 intro pins s σ H D I h
 refine plainObj_wpAny_Assign_Attribute (thn (hv pins s σ H _ I h) fun u s1 ⟨y,H1,I1,ry,q⟩=>thn (ha pins s1 σ H1 _ I1 q) fun ov s2 hw'=>?_) hs
 obtain⟨x,H2,I2,rx,a,C,dx,fs,ex,ea,c,n,l,q2⟩:=hw'
 subst ex
 obtain rfl:ov=Value.ref a:=rx
 exact D_ I2 ea c n l ry fun s3 I3=>⟨σ,_,I3,q2⟩
end
section
variable {X:Cx} {pins:List (Addr×Obj)} {σ:St} {H:Hp} {s:Shared} {A:Around} {E:Value->Shared->Prop} {Q:Value->Shared->Prop} {c:Value} {b:Bool}
inductive TyOf(K:PySem.W.Frag)(H:Hp):V->Value->Prop where
 | non:TyOf K H .non (.type "NoneType")
 | bl (x:Bool):TyOf K H (.bl x) (.type "bool")
 | int (i:Int):TyOf K H (.int i) (.type "int")
 | str (x:Str):TyOf K H (.str x) (.type "str")
 | flt (x:UInt64):TyOf K H (.flt x) (.type "float")
 | lst {a:Addr} {xs:List V} (e:H a=some (.lst xs)):TyOf K H (.ref a) (.type "list")
 | frz {a:Addr} {o:Obj} {xs:List V} (e:H a=some (.frz o (.lst xs))):TyOf K H (.ref a) (.type "list")
 | tup {a:Addr} {xs:List V} (e:H a=some (.tup xs)):TyOf K H (.ref a) (.type "tuple")
 | dK {a:Addr} {kvs:List (Key×V)} (e:H a=some (.dK kvs)):TyOf K H (.ref a) (.type "dict")
 | dT {a:Addr} {kvs:List (List Key×V)} (e:H a=some (.dT kvs)):TyOf K H (.ref a) (.type "dict")
 | ins {a C dx:Addr} {fs:List (Str×V)} (e:H a=some (.ins C dx fs)) (cl:Cls K C) (ha:PySem.W.findIn K (.ref C) "__class__" = some (some (.builtin "object.__class__")))
   (hn:PySem.W.specialIn K (.builtin "object.__class__") "__get__" = some (some (.builtin "getset_descriptor.__get__"))) (htk:PySem.W.takesIn K (.builtin "object.__class__")=some true)
   (hm:PySem.W.mroIn K C (.type "object")=some true):TyOf K H (.ref a) (.ref C)
theorem yq{x:V}{u t:Value}(I:Inv X pins σ H s)(rx:RelV x u)(ty:TyOf X.K H x t)(e:PySem.W.kitOne X.K t c=some b)(h:∀tk,Q (.bool b) { s with toks:=tk }) :
  wpAny (model X.prog X.w) A (call (.builtin "isinstance") [u,c]) Q E s:=by
 cases ty with
 | non=>cases (show u=Value.none from rx);exact PySem.W.kia_one PySem.W.kitx_none I.kIn True.intro e (fun z=>nomatch z) h
 | bl y=>cases (show u=Value.bool y from rx);exact PySem.W.kia_one PySem.W.kitx_bool I.kIn True.intro e (fun z=>nomatch z) h
 | int i=>obtain⟨t,q⟩:=(show ∃t,u=Value.int i t from rx);cases q;exact PySem.W.kia_one PySem.W.kitx_int I.kIn True.intro e (fun z=>nomatch z) h
 | str y=>obtain⟨t,q⟩:=(show ∃t,u=Value.str y t from rx);cases q;exact PySem.W.kia_one PySem.W.kitx_str I.kIn True.intro e (fun z=>nomatch z) h
 | flt y=>obtain⟨t,q⟩:=(show ∃t,u=Value.float y t from rx);cases q;exact PySem.W.kia_one PySem.W.kitx_float I.kIn True.intro e (fun z=>nomatch z) h
 | @lst a xs ea =>
  cases (show u=Value.ref a from rx)
  obtain⟨_,_,n,_,h1⟩:=(show bI X.prog X.w H s.heap a (.lst xs) from I.hok a _ ea)
  exact PySem.W.kia_one PySem.W.kitx_list I.kIn ⟨_,h1,rfl⟩ e (fun z=>nomatch z) h
 | @frz a ob xs ea =>
  cases (show u=Value.ref a from rx)
  obtain⟨_,_,_,n,_,h1⟩:=(show bI X.prog X.w H s.heap a (.frz ob (.lst xs)) from I.hok a _ ea)
  exact PySem.W.kia_one PySem.W.kitx_list I.kIn ⟨_,h1,rfl⟩ e (fun z=>nomatch z) h
 | @tup a xs ea =>
  cases (show u=Value.ref a from rx)
  obtain⟨_,_,_,p⟩:=(show bI X.prog X.w H s.heap a (.tup xs) from I.hok a _ ea)
  obtain⟨o,h1,h2,_⟩:=p
  exact PySem.W.kia_one PySem.W.kitx_tuple I.kIn ⟨o,h1,h2⟩ e (fun z=>nomatch z) h
 | @dK a kvs ea =>
  cases (show u=Value.ref a from rx)
  obtain⟨_,_,vs,_,p⟩:=(show bI X.prog X.w H s.heap a (.dK kvs) from I.hok a _ ea)
  obtain⟨o,es,ep,h1,h2,_⟩:=p
  exact PySem.W.kia_one PySem.W.kitx_dict I.kIn ⟨o,h1,h2.1⟩ e (fun z=>nomatch z) h
 | @dT a kvs ea =>
  cases (show u=Value.ref a from rx)
  obtain⟨_,_,xs,_,o,es,ep,h1,h2,_⟩:=(show bI X.prog X.w H s.heap a (.dT kvs) from I.hok a _ ea)
  exact PySem.W.kia_one PySem.W.kitx_dict I.kIn ⟨o,h1,h2.1⟩ e (fun z=>nomatch z) h
 | @ins a C dx fs ea cl ha hn htk hm =>
  cases (show u=Value.ref a from rx)
  obtain⟨mA,O,_⟩:=tX I.hok ea
  obtain⟨od,J,_⟩:=O.look
  exact PySem.W.kia_one (PySem.W.kitx_own (cl.get _) cl.hd ha hn htk hm) I.kIn J e (fun z=>nomatch z) h
end
end L2
namespace L2
open PySem PySem.Spec PyProof.Rows
structure Room(k:Nat)(A:Around):Prop where
 hd:A.handled=none
 dp:A.depth+3*k+5<recursionLimit
 un:A.units+16*k+200<cLine
 gd:A.guards=some []:=by rfl
theorem Room.mono{j k:Nat}{A:Around}(r:Room k A)(h:j<=k):Room j A:=⟨r.hd,by have:=r.dp;omega,by have:=r.un;omega,r.gd⟩
theorem Room.deeper{k:Nat}{A:Around}(r:Room (k+1) A)(env:Env):Room k (A.deeper env) :=
 ⟨r.hd,by have:=r.dp;show A.depth+1+3*k+5<_;omega,by have:=r.un;show A.units+3+16*k+200<_;omega,r.gd⟩
theorem Ea{A:Around}{C:Addr}{us:List Value}{kw:List (Str×Value)}:(A.under (.builtin "type.__call__" ⟨.ref C::us,kw⟩)).depth=A.depth+1:=by
 first |rfl |simp[Around.under,Code.weight,Code.isCreation,Code.isGuard,Code.isCaller,Code.frames,Code.isFrame,guardIds]
theorem Eb{A:Around}{C:Addr}{us:List Value}{kw:List (Str×Value)}:(A.under (.builtin "type.__call__" ⟨.ref C::us,kw⟩)).units=A.units+1:=by
 first |rfl |simp[Around.under,Code.cUnits,Code.frames,Code.isFrame]
theorem Room.make{k:Nat}{A:Around}(r:Room (k+1) A)(C:Addr)(us:List Value)(kw:List (Str×Value)):Room k (A.under (.builtin "type.__call__" ⟨.ref C::us,kw⟩)) :=
 ⟨r.hd,by have:=r.dp;rw[Ea];omega,by have:=r.un;rw[Eb];omega,by first |exact r.gd |simpa [Around.under,Code.isGuard,Code.frames,Code.isFrame,guardIds] using r.gd⟩
theorem Room.depth{k:Nat}{A:Around}(r:Room k A):A.depth<recursionLimit:=by have:=r.dp;omega
theorem Room.units{k:Nat}{A:Around}(r:Room k A):A.units+64<cLine:=by have:=r.un;omega
noncomputable def zL:TA:=fun _ H Q=>Q [] H
noncomputable def zF(ta:TE)(tr:TA):TA:=fun σ H Q=>ta σ H fun x H1=>tr σ H1 fun xs H2=>Q (x::xs) H2
section
variable {X:Cx} {e:Expr} {es:List Expr} {te:TE} {t:TA} {pos:Pos}
theorem cQ:PA X [] zL:=fun _ _ _ _ H Q I h=>Calls.spliced_nil ⟨[],H,I,.nil,h⟩
theorem bF(ha:PE X e te)(hr:PA X es t)(hs:starEach (e::es) X.env=(false,eval e X.env)::starEach es X.env:=by rfl):PA X (e::es) (zF te t):=by
 intro pos pins s σ H Q I h
 rw[hs]
 show wpAny _ _ (spliced ((false,eval e X.env)::backTo pos (starEach es X.env))) _ _ s
 refine Calls.spliced_cons (thn (ha pins s σ H _ I h) fun u s1 hw'=>?_)
 obtain⟨x,H1,I1,r1,q1⟩:=hw'
 exact thn (hr pos pins s1 σ H1 _ I1 q1) fun us s2 ⟨xs,H2,I2,r2,q2⟩=>⟨x::xs,H2,I2,.cons r1 r2,q2⟩
noncomputable def Uo(t:TA):TE:=fun σ H Q=>t σ H fun xs H1=>xs.length<=sizeLine/\∀p,H1 p=none->Q (.ref p) (upd H1 p (.tup xs))
noncomputable def Uq(t:TA):TE:=fun σ H Q=>t σ H fun xs H1=>xs.length<=sizeLine/\∀p,H1 p=none->Q (.ref p) (upd H1 p (.lst xs))
theorem zM{x1}(h:PA X es t):PE X (.Tuple es x1 pos) (Uo t):=by
 intro pins s σ H Q I hq
 refine wpAny_Tuple_spliced (thn (h pos pins s σ H _ I hq) fun us s1 ⟨xs,H1,I1,r,z,q⟩=>⟨by rw[<-r.length];exact z,?_⟩)
 have hf:H1 s1.heap.objs.size=none:=I1.hok.fresh (Nat.le_refl _)
 refine⟨.ref s1.heap.objs.size,upd H1 s1.heap.objs.size (.tup xs),I1.laid (t':=s1.toks) (fun b u e=>Heap.get?_push_of_some _ e) (Nat.le_refl _) ?_,rfl,q _ hf⟩
 exact⟨z,us,r,⟨_,Heap.get?_push_size _ rfl,rfl,_,rfl⟩⟩
theorem vJ(h:PA X es t):PE X (.List es pos) (Uq t):=by
 intro pins s σ H Q I hq
 refine wpAny_List_spliced (thn (h pos pins s σ H _ I hq) fun us s1 ⟨xs,H1,I1,r,z,q⟩=>⟨by rw[<-r.length];exact z,?_⟩)
 have hf:H1 s1.heap.objs.size=none:=I1.hok.fresh (Nat.le_refl _)
 refine⟨.ref s1.heap.objs.size,upd H1 s1.heap.objs.size (.lst xs),I1.laid (t':=s1.toks) (fun b u e=>Heap.get?_push_of_some _ e) (Nat.le_refl _) ?_,rfl,q _ hf⟩
 exact⟨z,us,0,r,Heap.get?_push_size _ rfl⟩
end
noncomputable abbrev Sp:=List V->Hp->VK->XK->Prop
noncomputable abbrev CXT:=List Env->Hp->Shared->XK->Value->Shared->Prop
structure Env0(P:Program)(w:World)(K:PySem.W.Frag)(mg:Str->Option Value)(base:Heap)(A:Around)(outer:List Env)(s:Shared)(H:Hp):Prop where
 frames:A.frames=some outer
 mod:Mod K mg base
 bs:∀b o,base.get? b=some o->s.heap.get? b=some o/\H b=none
 bsz:base.objs.size<=s.heap.objs.size
 funs:s.heap.FunFrames base outer
 frf:∀b∈frs outer,H b=none
 hok:HOk P w H s.heap
 bare:AllBare s.gens
noncomputable def CE(outer:List Env)(P:Program)(w:World)(H:Hp)(s:Shared)(Q:VK)(u:Value)(s':Shared):Prop :=
 ∃v H',s'.os=s.os/\AllBare s'.gens/\Un (frs outer) [] H H' s.heap s'.heap/\HOk P w H' s'.heap/\RelV v u/\Q v H'
noncomputable def CR(CX:CXT)(outer:List Env)(P:Program)(w:World)(H:Hp)(s:Shared)(Q:VK)(E:XK)(r:Result)(s':Shared):Prop :=
 match r with
 | .ok (.ret u)=>CE outer P w H s Q u s'
 | .ok _=>False
 | .error e=>CX outer H s E e s'
structure FnOk(P:Program)(w:World)(K:PySem.W.Frag)(mg:Str->Option Value)(base:Heap)(CX:CXT)(k:Nat)(f:Addr)(fd:FuncData)(ps:List Str)(sp:Sp):Prop where
 len:∀vs H Q E,sp vs H Q E->vs.length=ps.length
 run:∀(A:Around) (outer:List Env) (s:Shared) (H:Hp) (args:Args) (us:List Value) (vs:List V) (Q:VK) (E:XK),Room k A->Env0 P w K mg base A outer s H->BindsTo s fd args (ps.zip us)->Vals vs us->sp vs H Q E ->
  codeAny (model P w) A (.call (.ref f) args) (CR CX outer P w H s Q E) s
theorem FnOk.imp{P:Program}{w:World}{K:PySem.W.Frag}{mg:Str->Option Value}{base:Heap}{CX:CXT}{k:Nat}{f:Addr}{fd:FuncData}{ps:List Str}{sp sp':Sp}(F:FnOk P w K mg base CX k f fd ps sp)
  (h:∀vs H Q E,sp' vs H Q E->sp vs H Q E):FnOk P w K mg base CX k f fd ps sp' :=
 ⟨fun vs H Q E q=>F.len vs H Q E (h _ _ _ _ q),fun A outer s H args us vs Q E hr he hb hv hs=>F.run A outer s H args us vs Q E hr he hb hv (h _ _ _ _ hs)⟩
theorem Env0.make{P:Program}{w:World}{K:PySem.W.Frag}{mg:Str->Option Value}{base:Heap}{A:Around}{outer:List Env}{s:Shared}{H:Hp}(e:Env0 P w K mg base A outer s H)(C:Addr)(us:List Value)(kw:List (Str×Value)) :
  Env0 P w K mg base (A.under (.builtin "type.__call__" ⟨.ref C::us,kw⟩)) outer s H:=⟨by first |exact e.frames |(simpa [Around.under,Code.envs,Code.isFrame,pushEnvs] using e.frames),e.mod,e.bs,e.bsz,e.funs,e.frf,e.hok,e.bare⟩
section
variable {X:Cx} {pins:List (Addr×Obj)} {σ:St} {H:Hp} {s s':Shared}
theorem Inv.env0(I:Inv X pins σ H s):Env0 X.prog X.w X.K X.mg X.base X.A X.stack s H :=
 ⟨I.ok.frames,I.ok.mod,I.bs,Nat.le_trans I.ok.bsz I.sz,I.stack,I.stkFree,I.hok,I.bare⟩
theorem Inv.after{Q:VK}{u:Value}(I:Inv X pins σ H s)(h:CE X.stack X.prog X.w H s Q u s'):EP X pins σ Q u s':=by
 obtain⟨v,H',os,bare,un,hok,r,q⟩:=h
 obtain⟨hh,g,d,t,os'⟩:=s'
 obtain rfl:os'=s.os:=os
 exact⟨v,H',I.call (h':=hh) (g':=g) (d':=d) (t':=t) (ch:=[]) un hok bare (fun b z=>absurd z (by simp)),r,q⟩
end
noncomputable def Ln(sp:Sp)(dvs:List V)(E:XK)(t:TA):TE:=fun σ H Q=>t σ H fun vs H1=>sp (vs++dvs) H1 Q E
noncomputable def Lp(C:Addr)(m:Str)(sp:Sp)(dvs:List V)(E:XK)(ta:TE)(t:TA):TE:=fun σ H Q=>ta σ H fun x H1=>∃a dx fs,x=.ref a/\H1 a=some (.ins C dx fs)/\fs.lookup m=none /\
 t σ H1 fun vs H2=>sp (x::(vs++dvs)) H2 Q E
noncomputable def Lq(C:Addr)(sp:Sp)(dvs:List V)(E:XK)(t:TA):TE:=fun σ H Q=>t σ H fun vs H1=>∀x dx,H1 x=none->H1 dx=none->dx≠x ->
 sp (.ref x::(vs++dvs)) (upd (upd H1 dx (.own x)) x (.ins C dx [])) (fun v H2=>v=.non/\Q (.ref x) H2) E
noncomputable def Binds(K:PySem.W.Frag)(fd:FuncData)(ps:List Str)(ds:List Value):Prop :=
 ∀(s:Shared) (us:List Value),K.In s.heap->(us++ds).length=ps.length->BindsTo s fd ⟨us,[]⟩ (ps.zip (us++ds))
theorem Binds.all{K:PySem.W.Frag}{fd:FuncData}{ps:List Str}(h:∀us:List Value,us.length=ps.length->bindArgs fd ⟨us,[]⟩=pure (ps.zip us)):Binds K fd ps []:=fun s us _ hl=>by
 rw[List.append_nil] at hl ⊢
 exact .of_eq (h us hl)
noncomputable def Passes(CX:CXT)(X:Cx)(E:XK):Prop:=∀(pins:List (Addr×Obj)) (σ:St) (H:Hp) (s:Shared) (e:Value) (s':Shared),Inv X pins σ H s->CX X.stack H s E e s'->X.xe e s'
section
variable {X:Cx} {CX:CXT} {k:Nat} {f C:Addr} {fd:FuncData} {ps:List Str} {sp:Sp} {dvs:List V} {ds:List Value} {E:XK} {x m:Str} {p pos apos:Pos} {e o:Expr} {es:List Expr} {ta:TE} {t:TA}
theorem Gf{pins:List (Addr×Obj)}{σ:St}{H:Hp}{s:Shared}{Q:VK}{us:List Value}{vs:List V}(F:FnOk X.prog X.w X.K X.mg X.base CX k f fd ps sp)(hr:Room k X.A)(hb:Binds X.K fd ps ds)(hd:Vals dvs ds)(hx:Passes CX X E)
  (I:Inv X pins σ H s) (r:Vals vs us) (h:sp (vs++dvs) H Q E):wpAny (model X.prog X.w) X.A (call (.ref f) us) (EP X pins σ Q) X.xe s:=by
 have r2:Vals (vs++dvs) (us++ds):=r.append hd
 have hl:(us++ds).length=ps.length:=by rw[<-r2.length];exact F.len _ _ _ _ h
 refine wpAny_call (codeAny_mono (F.run X.A X.stack s H ⟨us,[]⟩ (us++ds) (vs++dvs) Q E hr I.env0 (hb s us I.kIn hl) r2 h) fun r s' hq=>?_)
 cases r with
 | error e=>exact hx pins σ H s e s' I hq
 | ok fl =>
  cases fl with
  | ret u=>exact I.after hq
  | next=>exact False.elim hq
  | brk=>exact False.elim hq
  | cont=>exact False.elim hq
theorem MN(F:FnOk X.prog X.w X.K X.mg X.base CX k f fd ps sp)(hr:Room k X.A)(hg:Gl X x)(hm:X.mg x=some (.ref f))(hk:PySem.W.keepIn X.K (.ref f)=true)(hb:Binds X.K fd ps ds)(hd:Vals dvs ds)(hx:Passes CX X E)
  (ha:PA X (e::es) t) (hdb:(x==("__debug__":Str))=false:=by decide) (he:starEach (e::es) X.env=(false,eval e X.env)::starEach es X.env:=by rfl) (hpl:(backTo pos (starEach es X.env)).any (·.1)=false:=by rfl) :
  PE X (.Call (.Name x p) (e::es) [] pos) (Ln sp dvs E t):=by
 intro pins s σ H Q I h
 refine wpAny_Call_Name_kw (qj I hg hm ?_ hdb)
 refine PySem.W.callWith_K (h₀:=X.base) I.ok.mod.kin hk (thn (ha pos pins s σ H _ I h) fun us s1 ⟨vs,H1,I1,r,q⟩=>⟨I1.kIn,?_⟩) he hpl
 exact Gf F hr hb hd hx I1 r q
theorem Jd{pl:Sem Bool}(he:PE X o ta)(c:Cls X.K C)(hm:Meth X.K C m f)(F:FnOk X.prog X.w X.K X.mg X.base CX k f fd ps sp)(hr:Room k X.A)(hb:Binds X.K fd ps ds)(hd:Vals dvs ds)(hx:Passes CX X E)
  (ht:eval (.Call (.Attribute o m apos) [] [] pos) X.env=(do
   let ov <-eval o X.env
   standAt apos.atName
   let (f,first) <-holding [ov] (getMethod ov m pl)
   callWith pos f first (backTo pos (starEach [] X.env)) (backToKw pos (keywordEach [] X.env))):=by rfl) :
  PE X (.Call (.Attribute o m apos) [] [] pos) (Lp C m sp dvs E ta zL):=by
 intro pins s σ H Q I h
 refine PySem.W.methodCall_KW (pl:=pl) (thn (he pins s σ H _ I h) fun u s1 hw'=>?_) ht
 obtain⟨x,H1,I1,rx,a,dx,fs,ex,ea,l,q⟩:=hw'
 subst ex
 obtain rfl:u=Value.ref a:=rx
 refine vI I1 ea c hm l ?_
 exact PySem.W.callWith_K0 (first:=[.ref a]) I1.kIn hm.kp (Gf (us:=[.ref a]) (vs:=[.ref a]) F hr hb hd hx I1 (.cons rfl .nil) q)
structure Mk(K:PySem.W.Frag)(C f:Addr):Prop where
 makes:PySem.W.makesIn K C=true
 init:PySem.W.findIn K (.ref C) "__init__" = some (some (.ref f))
 fn:PySem.W.isFn K (.ref f)=true
 kp:PySem.W.keepIn K (.ref C)=true
theorem Je{pins:List (Addr×Obj)}{σ:St}{H:Hp}{s:Shared}{Q:VK}{us:List Value}{vs:List V}(M:Mk X.K C f)(F:FnOk X.prog X.w X.K X.mg X.base CX k f fd ps sp)(hr:Room (k+1) X.A)(hb:Binds X.K fd ps ds)(hd:Vals dvs ds)
  (hx:Passes CX X E) (I:Inv X pins σ H s) (r:Vals vs us)
  (h:∀x dx,H x=none->H dx=none->dx≠x->sp (.ref x::(vs++dvs)) (upd (upd H dx (.own x)) x (.ins C dx [])) (fun v H2=>v=.non/\Q (.ref x) H2) E) :
  wpAny (model X.prog X.w) X.A (call (.ref C) us) (EP X pins σ Q) X.xe s:=by
 have hq:=h (s.heap.objs.size+1) s.heap.objs.size (I.hok.fresh (Nat.le_succ _)) (I.hok.fresh (Nat.le_refl _)) (Nat.ne_of_lt (Nat.lt_succ_self _))
 have I2:=Inv.made (C:=C) I
 have r2:Vals (V.ref (s.heap.objs.size+1)::(vs++dvs)) (Value.ref (s.heap.objs.size+1)::(us++ds)):=.cons rfl (r.append hd)
 have hl:(Value.ref (s.heap.objs.size+1)::us++ds).length=ps.length:=by
  have e:=r2.length
  rw[F.len _ _ _ _ hq] at e
  exact e.symm
 refine wpAny_call (Jc (f:=f) I.kIn M.makes M.init (beq_iff_eq.mp M.fn) (codeAny_mono (F.run _ X.stack _ _ ⟨Value.ref (s.heap.objs.size+1)::us,[]⟩ (Value.ref (s.heap.objs.size+1)::(us++ds)) _ _ E (hr.make C us [])
  (I2.env0.make C us []) (hb _ (Value.ref (s.heap.objs.size+1)::us) I2.kIn hl) r2 hq) fun r s' hq'=>?_))
 cases r with
 | error e=>exact hx pins σ _ _ e s' I2 hq'
 | ok fl =>
  cases fl with
  | ret u =>
   obtain⟨v,H',I3,rv,ev,q3⟩:=I2.after hq'
   subst ev
   exact⟨rv,⟨V.ref (s.heap.objs.size+1),H',I3,rfl,q3⟩⟩
  | next=>exact False.elim hq'
  | brk=>exact False.elim hq'
  | cont=>exact False.elim hq'
theorem Jf(M:Mk X.K C f)(F:FnOk X.prog X.w X.K X.mg X.base CX k f fd ps sp)(hr:Room (k+1) X.A)(hg:Gl X x)(hm:X.mg x=some (.ref C))(hb:Binds X.K fd ps ds)(hd:Vals dvs ds)(hx:Passes CX X E)
  (hdb:(x==("__debug__":Str))=false:=by decide):PE X (.Call (.Name x p) [] [] pos) (Lq C sp dvs E zL):=by
 intro pins s σ H Q I h
 refine wpAny_Call_Name_kw (qj I hg hm ?_ hdb)
 exact PySem.W.callWith_K0 I.kIn M.kp (Je (us:=[]) M F hr hb hd hx I .nil h)
end
structure FnScope(N P:List Str)(sc:Scope):Prop where
 kind:sc.kind=.function
 co:sc.isCoroutine=false
 gen:sc.isGenerator=false
 nd:N.Nodup
 pre:N.take P.length=P
 par:∀x∈P,sc.names.lookup x=some .local\/sc.names.lookup x=some .cell
 nofree:∀y∈sc.names,y.2 ≠ .free
theorem yr{kindOf:Str->Option NameKind}{x:Str}:∀{binds:List (Str×Value)} {m:Str->Option Value},(∀v,(x,v)∉binds)->bindL kindOf binds m x=m x
 | [],_,_=>rfl
 | (n,v)::r,m,h=>by
  unfold bindL
  rw[yr fun w hw=>h w (List.mem_cons_of_mem _ hw)]
  split
  ·have:x≠n:=by rintro rfl;exact h v List.mem_cons_self
   simp[this]
  ·rfl
theorem yt{kindOf:Str->Option NameKind}{x:Str}:∀{binds:List (Str×Value)} {m:Str->Option Value},(∀v,(x,v)∉binds)->bindC kindOf binds m x=m x
 | [],_,_=>rfl
 | (n,v)::r,m,h=>by
  unfold bindC
  rw[yt fun w hw=>h w (List.mem_cons_of_mem _ hw)]
  split
  ·rfl
  ·have:x≠n:=by rintro rfl;exact h v List.mem_cons_self
   simp[this]
theorem yu{kindOf:Str->Option NameKind}{x:Str}{v:Value}:∀{P:List Str} {vs:List Value} {i:Nat} {m:Str->Option Value},P.Nodup->P[i]? = some x->vs[i]? = some v->kindOf x=some .local ->
  bindL kindOf (P.zip vs) m x=some v
 | [],_,_,_,_,h,_,_=>by simp at h
 | _::_,[],_,_,_,_,h,_=>by simp at h
 | p::P,w::vs,0,m,nd,h1,h2,hk=>by
  simp at h1 h2;subst h1;subst h2
  show bindL kindOf ((p,w)::P.zip vs) m p=_
  unfold bindL
  rw[yr fun v hv=>(List.nodup_cons.mp nd).1 (List.of_mem_zip hv).1,if_pos hk]
  simp
 | p::P,w::vs,i+1,m,nd,h1,h2,hk=>by
  show bindL kindOf ((p,w)::P.zip vs) m x=_
  unfold bindL
  exact yu (i:=i) (List.nodup_cons.mp nd).2 (by simpa using h1) (by simpa using h2) hk
theorem yw{kindOf:Str->Option NameKind}{x:Str}{v:Value}:∀{P:List Str} {vs:List Value} {i:Nat} {m:Str->Option Value},P.Nodup->P[i]? = some x->vs[i]? = some v->kindOf x≠some .local ->
  bindC kindOf (P.zip vs) m x=some v
 | [],_,_,_,_,h,_,_=>by simp at h
 | _::_,[],_,_,_,_,h,_=>by simp at h
 | p::P,w::vs,0,m,nd,h1,h2,hk=>by
  simp at h1 h2;subst h1;subst h2
  show bindC kindOf ((p,w)::P.zip vs) m p=_
  unfold bindC
  rw[yt fun v hv=>(List.nodup_cons.mp nd).1 (List.of_mem_zip hv).1,if_neg hk]
  simp
 | p::P,w::vs,i+1,m,nd,h1,h2,hk=>by
  show bindC kindOf ((p,w)::P.zip vs) m x=_
  unfold bindC
  exact yw (i:=i) (List.nodup_cons.mp nd).2 (by simpa using h1) (by simpa using h2) hk
noncomputable def start(N:List Str)(vs:List V):St:=vs.map some++List.replicate (N.length-vs.length) none
noncomputable def bJ(CX:CXT)(P:Program)(w:World)(K:PySem.W.Frag)(mg:Str->Option Value)(base:Heap)(N:List Str)(qual:Str)(scope:Scope)(f:Addr)(cd:Value)(A:Around)(outer:List Env)(s:Shared)(H:Hp)(E:XK):Cx where
 prog:=P
 w:=w
 K:=K
 mg:=mg
 base:=base
 A:=A.deeper (envOfC qual scope s.heap.objs.size f cd)
 N:=N
 s₀:=s
 H₀:=H
 env:=envOfC qual scope s.heap.objs.size f cd
 outer:=outer
 stack:=envOfC qual scope s.heap.objs.size f cd::outer
 ex:=[]
 calm:=true
 fn:=fun _=>true
 pn:=[]
 xe:=fun e s'=>wpAny (model P w) (A.deeper (envOfC qual scope s.heap.objs.size f cd)) (leaving (envOfC qual scope s.heap.objs.size f cd) e) (fun _ s''=>CX outer H s E e s'') (fun e' s''=>CX outer H s E e' s'') s'
theorem zN{sc:Scope}{n:Nat}{x:Str}(h:sc.names.lookup x=some .cell):∃c,(cellsFrom n sc.names []).lookup x=some c:=by
 have q:=PySem.W.cellsFrom_some sc.names n [] (.inl h)
 exact Option.isSome_iff_exists.mp q
theorem Gg{CX:CXT}{P:Program}{w:World}{K:PySem.W.Frag}{mg:Str->Option Value}{base:Heap}{N ps:List Str}{qual:Str}{scope:Scope}{f:Addr}{cd:Value}{A:Around}{outer:List Env}{s s1:Shared}{H:Hp}{E:XK}{us:List Value}{vs:List V}
  (S:FnScope N ps scope) (hd:A.handled=none) (e0:Env0 P w K mg base A outer s H) (hl:vs.length=ps.length) (r:Vals vs us)
  (x:InCallC s s.heap.objs.size (bindL (envOfC qual scope s.heap.objs.size f cd).kindOf (ps.zip us) fun _=>none) (cellsFrom (s.heap.objs.size+1) scope.names []) (bindC (envOfC qual scope s.heap.objs.size f cd).kindOf (ps.zip us) fun _=>none) s1) :
  Inv (bJ CX P w K mg base N qual scope f cd A outer s H E) [] (start N vs) H s1:=by
 have hpl:ps.length<=N.length:=by have:=congrArg List.length S.pre;rw[List.length_take] at this;omega
 obtain⟨h1,tk,rfl,hk⟩:=x.done
 have noA:∀b:Addr,b∉(bJ CX P w K mg base N qual scope f cd A outer s H E).ex:=fun b z=>absurd (show b∈([]:List Addr) from z) (by simp)
 refine⟨⟨e0.mod,S.kind,rfl,rfl,Nat.le_refl _,fun y z c h1 h2=>?_,fun y hy=>?_,fun y c _ h=>?_,fun _=>hd,Around.frames_deeper e0.frames,.inr ⟨rfl,rfl⟩,fun b z=>absurd z (noA b),e0.bs,e0.bsz,fun b _ _=>noA b,fun b z=>absurd z (noA b),e0.funs,e0.frf⟩,
  rfl,e0.bare,Un.kept hk,⟨_,x.toInCall.ns,fun i y v h1 h2 h3=>?_⟩,fun y c h=>⟨_,x.cell y c h⟩,e0.hok.fresh (Nat.le_refl _),fun y c h=>?_,fun p hp=>absurd (show p∈([]:List (Addr×Obj)) from hp) (by simp),e0.hok.kept hk,?_⟩
 ·exact name_of_addr x.apart (PySem.mem_of_lookup h1) (PySem.mem_of_lookup h2)
 ·have hy:scope.names.lookup y=some .cell\/scope.names.lookup y=some .free:=hy
  rcases hy with hy |hy
  ·exact zN hy
  ·exact absurd rfl (S.nofree _ (PySem.mem_of_lookup hy))
 ·exact Nat.le_of_lt (x.above y c (PySem.mem_of_lookup h))
 ·have hi:i<vs.length:=by
   unfold start at h2
   by_cases hi:i<vs.length
   ·exact hi
   ·rw[List.getElem?_append_right (by simpa using hi)] at h2
    rw[List.getElem?_replicate] at h2
    split at h2<;>cases h2
  have ha:vs[i]? = some v:=by
   unfold start at h2
   rw[List.getElem?_append_left (by simpa using hi),List.getElem?_map] at h2
   cases e:vs[i]? with
   | none=>rw[e] at h2;cases h2
   | some a=>rw[e] at h2;cases h2;rfl
  obtain⟨u,hu,rv⟩:=r.get ha
  have hp:ps[i]? = some y:=by
   rw[<-S.pre,List.getElem?_take_of_lt (by omega)];exact h1
  have ndP:ps.Nodup:=by rw[<-S.pre];exact S.nd.sublist (List.take_sublist _ _)
  refine⟨u,rv,?_⟩
  rcases S.par y (List.mem_of_getElem? hp) with k |k
  ·exact .inl ⟨k,yu ndP hp hu k⟩
  ·obtain⟨c,e⟩:=zN (n:=s.heap.objs.size+1) k
   refine .inr ⟨.inl k,c,e,?_⟩
   have q:=x.cell y c e
   rw[yw ndP hp hu (by show scope.names.lookup y≠_;rw[k];decide)] at q
   exact q
 ·exact .inl (e0.hok.fresh (Nat.le_of_lt (x.above y c (PySem.mem_of_lookup h))))
 ·unfold start
  show _=N.length
  rw[List.length_append,List.length_map,List.length_replicate]
  omega
theorem Ec{CX:CXT}{P:Program}{w:World}{K:PySem.W.Frag}{mg:Str->Option Value}{base:Heap}{k:Nat}{f:Addr}{name qual:Str}{params:Arguments}{body:List Stmt}{scope:Scope}{dV kV doc pm cdv ct oc:Value}{an od:Option Addr}
  {osl:Array (Option Value)} {N ps:List Str} {sp:Sp} (lk:K.lookup f=some ⟨oc,od,.func (PySem.W.fnOf name qual params body scope dV kV doc pm an cdv ct),osl⟩) (hcd:PySem.W.codeIn K cdv qual=true) (S:FnScope N ps scope)
  (len:∀vs H Q E,sp vs H Q E->vs.length=ps.length)
  (hbody:∀(A:Around) (outer:List Env) (s:Shared) (H:Hp) (vs:List V) (Q:VK) (E:XK),Room k (A.deeper (envOfC qual scope s.heap.objs.size f cdv))->sp vs H Q E ->
   ∃t,PSs (bJ CX P w K mg base N qual scope f cdv A outer s H E) body t/\t { nx:=fun _ H'=>Q .non H',rt:=Q } (start N vs) H) :
  FnOk P w K mg base CX (k+1) f (PySem.W.fnOf name qual params body scope dV kV doc pm an cdv ct) ps sp:=by
 refine⟨len,fun A outer s H args us vs Q E hr e0 hb r hsp=>?_⟩
 have hl:=len _ _ _ _ hsp
 have KX:K.In s.heap:=e0.mod.kin.keeps fun b o e=>(e0.bs b o e).1
 have lim:s.heap.NoLimit:=e0.mod.nolimit.keeps fun b o e=>(e0.bs b o e).1
 have hkind:∀y∈ps.zip us,scope.names.lookup y.1=some .local\/(scope.names.lookup y.1=some .cell/\((cellsFrom (s.heap.objs.size+1) scope.names []).lookup y.1).isSome=true):=fun hw' hy=>by
  obtain⟨n,v⟩:=hw'
  rcases S.par n (List.of_mem_zip hy).1 with q |q
  ·exact .inl q
  ·exact .inr ⟨q,PySem.W.cellsFrom_some _ _ _ (.inl q)⟩
 refine codeAny_call_function hr.depth (KX _ _ lk) rfl S.co S.gen rfl (PySem.W.codeRec_of KX hcd) (hb _ _ _ _ ?_)
 refine wpAny_newFunctionEnv_cells S.kind hkind fun env he s1 x=>?_
 subst he
 refine⟨lim.keeps x.toInCall.keep,codeAny_func ?_⟩
 obtain⟨t,ht,hq⟩:=hbody A outer s H vs Q E (hr.deeper _) hsp
 have I:Inv (bJ CX P w K mg base N qual scope f cdv A outer s H E) [] (start N vs) H s1:=Gg S hr.hd e0 hl r x
 refine wpAny_mono (ht [] s1 (start N vs) H _ I hq) (fun fl s' hs=>?_) fun e s' hs=>hs
 have fin:∀{σ':St} {H':Hp} {v:V} {u:Value},Inv (bJ CX P w K mg base N qual scope f cdv A outer s H E) [] σ' H' s'->RelV v u->Q v H'->CE outer P w H s Q u s' :=
  fun {σ' H' v u} J rv q=>⟨v,H',J.os,J.bare,J.base,J.hok,rv,q⟩
 cases fl with
 | ret u =>
  obtain⟨v,σ',H',J,rv,q⟩:=hs
  exact fin J rv q
 | next =>
  obtain⟨σ',H',J,q⟩:=hs
  exact fin (v:=V.non) (u:=Value.none) J rfl q
 | brk =>
  obtain⟨_,_,_,q⟩:=hs
  exact False.elim q
 | cont =>
  obtain⟨_,_,_,q⟩:=hs
  exact False.elim q
end L2
namespace L2
open PySem PySem.Spec PyProof.Rows
section
variable {X:Cx} {x:Str} {p pos:Pos} {e:Expr} {es:List Expr} {t:TA} {id T:String} {r:List V->Hp->VK->Prop}
noncomputable def tCB(r:List V->Hp->VK->Prop)(t:TA):TE:=fun σ H Q=>t σ H fun vs H1=>r vs H1 Q
theorem fZ(hc:fL X (.builtin id) r)(hg:Gl X x)(hm:X.mg x=none)(hv:bootBuiltins x=some (.builtin id))(ha:PA X (e::es) t)(hn:x ≠ "__name__":=by decide)(hdb:(x==("__debug__":Str))=false:=by decide)
  (he:starEach (e::es) X.env=(false,eval e X.env)::starEach es X.env:=by rfl) (hpl:(backTo pos (starEach es X.env)).any (·.1)=false:=by rfl):PE X (.Call (.Name x p) (e::es) [] pos) (tCB r t):=by
 intro pins s σ H Q I h
 refine wpAny_Call_Name_kw (rU I hg hm hv ?_ hn hdb)
 exact PyProof.Rows.callWith_builtin1 (thn (ha pos pins s σ H _ I h) fun us s1 ⟨vs,H1,I1,r1,q1⟩=>hc pins s1 σ H1 vs us Q I1 r1 q1) he hpl
theorem rZ(hc:fL X (.type T) r)(hg:Gl X x)(hm:X.mg x=none)(hv:bootBuiltins x=some (.type T))(ha:PA X (e::es) t)(hn:x ≠ "__name__":=by decide)(hdb:(x==("__debug__":Str))=false:=by decide)
  (he:starEach (e::es) X.env=(false,eval e X.env)::starEach es X.env:=by rfl) (hpl:(backTo pos (starEach es X.env)).any (·.1)=false:=by rfl):PE X (.Call (.Name x p) (e::es) [] pos) (tCB r t):=by
 intro pins s σ H Q I h
 refine wpAny_Call_Name_kw (rU I hg hm hv ?_ hn hdb)
 exact PyProof.Rows.callWith_type1 (thn (ha pos pins s σ H _ I h) fun us s1 ⟨vs,H1,I1,r1,q1⟩=>hc pins s1 σ H1 vs us Q I1 r1 q1) he hpl
end
end L2
namespace HT
open PySem PyProof.Rows
noncomputable def lexLt:List Int->List Int->Bool
 | [],[]=>false
 | [],_::_=>true
 | _::_,[]=>false
 | x::xs,y::ys=>if x=y then lexLt xs ys else decide (x<y)
theorem iH(x y:Int)(xs ys:List Int):lexLt (x::xs) (y::ys)=if x=y then lexLt xs ys else decide (x<y):=rfl
section
variable {prog:Program} {w:World} {A:Around} {E:Value->Shared->Prop} {s:Shared}
noncomputable def sIx(n d:Nat):Option Int->Nat
 | none=>d
 | some v=>if v<0 then(v+(n:Int)).toNat else min v.toNat n
theorem Jg(n d:Nat):sIx n d none=d:=rfl
theorem MP(n d k:Nat):sIx n d (some (k:Int))=min k n:=by
 show(if(k:Int)<0 then((k:Int)+(n:Int)).toNat else min (k:Int).toNat n)=min k n
 rw[if_neg (by omega),Int.toNat_natCast]
end
end HT
namespace L2
open PySem PySem.Spec PyProof.Rows
noncomputable abbrev TO:=St->Hp->(Option Int->Hp->Prop)->Prop
noncomputable def PO(X:Cx)(e:Option Expr)(t:TO):Prop :=
 ∀(pins:List (Addr×Obj)) (s:Shared) (σ:St) (H:Hp) (Q:Option Int->Hp->Prop),Inv X pins σ H s->t σ H Q ->
  wpAny (model X.prog X.w) X.A (evalPart e X.env) (fun u s'=>∃o H',Inv X pins σ H' s'/\IsPart u o/\Q o H') X.xe s
noncomputable def MT:TO:=fun _ H Q=>Q none H
noncomputable def SN(t:TE):TO:=fun σ H Q=>t σ H fun x H1=>∃i,x=.int i/\Q (some i) H1
theorem intsAre_of{ns:List Int}:∀{us:List Value},Vals (ns.map V.int) us->IntsAre us ns:=by
 induction ns with
 | nil=>intro us r;rw[List.map_nil] at r;cases r;exact .nil
 | cons n ns ih =>
  intro us r
  rw[List.map_cons] at r
  cases r with
  | cons r1 r2 =>
   obtain⟨t,e⟩:=r1
   subst e
   exact .cons n t (ih r2)
section
variable {X:Cx} {e:Expr} {te:TE} {lo hi:Option Expr} {tl th:TO} {pos p2:Pos}
theorem M_:PO X none MT:=by
 intro pins s σ H Q I h
 rw[evalPart_none]
 exact wpAny_pure ⟨none,H,I,.none,h⟩
theorem Nb(h:PE X e te):PO X (some e) (SN te):=by
 intro pins s σ H Q I hw
 rw[evalPart_some]
 refine thn (h pins s σ H _ I hw) fun u s1 hw'=>?_
 obtain⟨x,H1,I1,r1,q1⟩:=hw'
 obtain⟨i,rfl,q⟩:=q1
 obtain⟨t,rfl⟩:=r1
 exact⟨some i,H1,I1,.int i t,q⟩
noncomputable def SlR(X:Cx)(r:V->Option Int->Option Int->Hp->VK->Prop):Prop :=
 ∀(pins:List (Addr×Obj)) (s:Shared) (σ:St) (H:Hp) (x:V) (v vl vu:Value) (lo hi:Option Int) (sl:Addr) (Q:VK),Inv X pins σ H s->RelV x v->s.heap.IsSliceOf sl vl vu .none->IsPart vl lo->IsPart vu hi->r x lo hi H Q ->
  ∃T id,typeLookup (.type T) "__getitem__" = pure (some (.builtin id))/\s.TypeIs v T/\wpAny (model X.prog X.w) X.A (getItem v (.ref sl)) (EP X pins σ Q) X.xe s
noncomputable def tSl(r:V->Option Int->Option Int->Hp->VK->Prop)(te:TE)(tl th:TO):TE:=fun σ H Q=>te σ H fun x H1=>tl σ H1 fun l H2=>th σ H2 fun u H3=>r x l u H3 Q
theorem Jh{r:V->Option Int->Option Int->Hp->VK->Prop}(hr:SlR X r)(he:PE X e te)(hl:PO X lo tl)(hu:PO X hi th):PE X (.Subscript e (.Slice lo hi none p2) pos) (tSl r te tl th):=by
 intro pins s σ H Q I h
 refine Subscript_ (thn (he pins s σ H _ I h) fun v s1 hw'=>?_)
 obtain⟨x,H1,I1,r1,q1⟩:=hw'
 refine wpAny_Slice (thn (hl pins s1 σ H1 _ I1 q1) fun vl s2 ⟨l,H2,I2,pl,q2⟩=>thn (hu pins s2 σ H2 _ I2 q2) fun vu s3 hw'=>?_)
 obtain⟨u,H3,I3,pu,q3⟩:=hw'
 rw[evalPart_none]
 refine wpAny_pure ?_
 have I4:Inv X pins σ H3 { s3 with heap:=s3.heap.push { cls:=.type "slice",data:=.fields #[vl,vu,.none] } }:=I3.kept (t':=s3.toks) fun b ob q=>Heap.get?_push_of_some _ q
 obtain⟨T,id,hT,ht,hg⟩:=hr pins { s3 with heap:=s3.heap.push { cls:=.type "slice",data:=.fields #[vl,vu,.none] } } σ H3 x v vl vu l u s3.heap.objs.size Q I4 r1 (Heap.IsSliceOf.new ..) pl pu q3
 show wpAny (model X.prog X.w) X.A (subscriptTail e (.Slice lo hi none p2) v (.ref s3.heap.objs.size)) (EP X pins σ Q) X.xe { s3 with heap:=s3.heap.push { cls:=.type "slice",data:=.fields #[vl,vu,.none] } }
 exact tail_any (ops:=[.ref s3.heap.objs.size,v]) ht hT hg (by with_unfolding_all rfl)
noncomputable def wZ(xs:List V)(lo hi:Option Int):List V:=(xs.drop (HT.sIx xs.length 0 lo)).take (HT.sIx xs.length xs.length hi-HT.sIx xs.length 0 lo)
theorem Cj(xs:List V)(lo hi:Option Int):(wZ xs lo hi).length<=xs.length:=by
 unfold wZ
 rw[List.length_take,List.length_drop]
 omega
end
end L2
namespace L2
open PySem PySem.Spec PyProof.Rows
noncomputable def ixN(n:Nat)(i:Int):Option Nat:=if 0<=i then(if i<n then some i.toNat else none) else if -(n:Int)<=i then some (i+n).toNat else none
noncomputable def atI{α:Type}(xs:List α)(i:Int):Option α:=(ixN xs.length i).bind fun j=>xs[j]?
theorem Nf{n:Nat}{i:Int}{j:Nat}(h:ixN n i=some j):seqIndex? i n=some j/\j<n /\ -(n:Int)<=i/\i<n:=by
 unfold ixN at h
 by_cases h0:0<=i
 ·rw[if_pos h0] at h
  by_cases h1:i<n
  ·rw[if_pos h1] at h
   have e:i.toNat=j:=Option.some.inj h
   exact⟨by rw[seqIndex_of h0 h1,e],by omega,by omega,h1⟩
  ·rw[if_neg h1] at h;cases h
 ·rw[if_neg h0] at h
  by_cases h1:-(n:Int)<=i
  ·rw[if_pos h1] at h
   have e:(i+n).toNat=j:=Option.some.inj h
   exact⟨by rw[seqIndex_neg (by omega) h1,e],by omega,h1,by omega⟩
  ·rw[if_neg h1] at h;cases h
theorem xf{α:Type}{xs:List α}{i:Int}{v:α}(h:atI xs i=some v):∃j,seqIndex? i xs.length=some j/\xs[j]? = some v/\j<xs.length /\ -(xs.length:Int)<=i/\i<xs.length:=by
 unfold atI at h
 cases e:ixN xs.length i with
 | none=>rw[e] at h;cases h
 | some j =>
  rw[e] at h
  obtain⟨h1,h2,h3,h4⟩:=Nf e
  exact⟨j,h1,h,h2,h3,h4⟩
theorem CG{α:Type}{xs:List α}{j:Nat}{v:α}(h:xs[j]? = some v):atI xs (j:Int)=some v:=by
 have hj:j<xs.length:=(List.getElem?_eq_some_iff.mp h).1
 have e:ixN xs.length (j:Int)=some j:=by
  unfold ixN
  rw[if_pos (by omega),if_pos (by omega)];simp
 unfold atI;rw[e];exact h
noncomputable def xg(b:Expr):Prop:=∀o i,subscripted b false o i=operate [o,i] (getItem o i)
noncomputable def IxR(X:Cx)(r:R2):Prop :=
 ∀(value slice:Expr) (pins:List (Addr×Obj)) (s:Shared) (σ:St) (H:Hp) (x y:V) (v u:Value) (Q:VK),Inv X pins σ H s->RelV x v->RelV y u->r x y H Q ->
  subscripted slice false v u=operate [v,u] (getItem v u)->wpAny (model X.prog X.w) X.A (subscriptTail value slice v u) (EP X pins σ Q) X.xe s
noncomputable def MtR(X:Cx)(id:String)(r:V->List V->Hp->VK->Prop):Prop :=
 ∀(pins:List (Addr×Obj)) (s:Shared) (σ:St) (H:Hp) (x:V) (xs:List V) (v:Value) (us:List Value) (Q:VK),Inv X pins σ H s->RelV x v->Vals xs us->r x xs H Q ->
  wpAny (model X.prog X.w) X.A (call (.builtin id) (v::us)) (EP X pins σ Q) X.xe s
section
variable {X:Cx} {a b:Expr} {ta tb:TE} {pos:Pos}
theorem IxR.or{r r':R2}(h:IxR X r)(h':IxR X r'):IxR X (fun x y H Q=>r x y H Q\/r' x y H Q):=by
 intro value slice pins s σ H x y v u Q I rx ry q hs
 rcases q with q |q
 ·exact h value slice pins s σ H x y v u Q I rx ry q hs
 ·exact h' value slice pins s σ H x y v u Q I rx ry q hs
theorem Lr{r:R2}(hr:IxR X r)(ha:PE X a ta)(hb:PE X b tb)(hs:xg b):PE X (.Subscript a b pos) (tOp r ta tb):=by
 intro pins s σ H Q I h
 exact Subscript_ (IW ha hb I h fun v u s2 x y H2 I2 rx ry q=>hr a b pins s2 σ H2 x y v u Q I2 rx ry q (hs _ _))
noncomputable def QR(K:PySem.W.Frag):R2:=fun x y H Q=>∃p xs i v,x=.ref p/\y=.int i/\SqL K H p xs/\atI xs i=some v/\Q v H
noncomputable def QS(K:PySem.W.Frag):R2:=fun x y H Q=>∃p xs i v,x=.ref p/\y=.int i/\SqT K H p xs/\atI xs i=some v/\Q v H
noncomputable def QT:R2:=fun x y H Q=>∃z i c,x=.str z/\y=.int i/\z.length<=sizeLine/\atI z.cps.toList i=some c/\Q (.str ⟨#[c]⟩) H
theorem CJ:IxR X (QR X.K):=by
 intro value slice pins s σ H x y v u Q I rx ry h hs
 obtain⟨p,xs,i,z,rfl,rfl,hq,he,q⟩:=h
 cases rx
 obtain⟨t,rfl⟩:=ry
 obtain⟨its,r,pl,hz⟩:=I.list hq
 obtain⟨j,h1,h2,h3,h4,h5⟩:=xf he
 obtain⟨w,ew,rw'⟩:=r.get h2
 have hl:=r.length
 have hn:=ql
 have fin:EP X pins σ Q w s:=⟨z,H,I,rw',q⟩
 by_cases h0:0<=i
 ·have hj:i.toNat=j:=by
   rw[seqIndex_of h0 h5] at h1
   exact Option.some.inj h1
  exact item_listR pl.isList h0 (by omega) (by rw[hj];simpa using ew) fin hs
 ·have hj:(i+(its.toArray.size:Int)).toNat=j:=by
   rw[seqIndex_neg (by omega) h4] at h1
   rw[List.size_toArray,<-hl]
   exact Option.some.inj h1
  exact subscriptTail_builtinR (x:=w) pl.isList.typeIs slot_list_getitem.lookup
   (wpAny_getItem_list_neg (Q:=fun r s'=>r=w/\EP X pins σ Q r s') pl.isList (by omega) (by rw[List.size_toArray]<;>omega) (by omega) (by rw[hj];simpa using ew) ⟨rfl,fin⟩) hs
theorem Gh:IxR X (QS X.K):=by
 intro value slice pins s σ H x y v u Q I rx ry h hs
 obtain⟨p,xs,i,z,rfl,rfl,hq,he,q⟩:=h
 cases rx
 obtain⟨t,rfl⟩:=ry
 obtain⟨its,r,pl,hz⟩:=I.tuple hq
 obtain⟨j,h1,h2,h3,h4,h5⟩:=xf he
 obtain⟨w,ew,rw'⟩:=r.get h2
 have hl:=r.length
 have hn:=ql
 have fin:EP X pins σ Q w s:=⟨z,H,I,rw',q⟩
 exact subscriptTail_builtinR (x:=w) pl.typeIs slot_tuple_getitem.lookup
  (getItem_tuple (j:=j) (Q:=fun r s'=>r=w/\EP X pins σ Q r s') pl (by omega) (by omega) (by rw[List.size_toArray,<-hl];exact h1) (by simpa using ew) ⟨rfl,fin⟩) hs
theorem QV:IxR X QT:=by
 intro value slice pins s σ H x y v u Q I rx ry h hs
 obtain⟨z,i,c,rfl,rfl,hz,he,q⟩:=h
 obtain⟨t,rfl⟩:=rx
 obtain⟨t',rfl⟩:=ry
 obtain⟨j,h1,h2,h3,h4,h5⟩:=xf he
 have hl:z.cps.toList.length=z.length:=by simp[Str.length]
 rw[hl] at h1 h4 h5
 have hn:=ql
 exact tail_any (typeIs_str s z t) slot_str_getitem.lookup (getItem_str (c:=c) (by
  have e1:decide (i < -(2 ^ 63:Int))=false:=decide_eq_false (by omega)
  have e2:decide (i ≥ 2 ^ 63)=false:=decide_eq_false (by omega)
  rw[e1,e2,Bool.or_false]) (by rw[h1];simpa using h2) ⟨.str ⟨#[c]⟩,H,I.tok _,⟨_,rfl⟩,q⟩) hs
noncomputable def rIx(K:PySem.W.Frag):R2:=fun x y H Q=>QR K x y H Q\/QS K x y H Q\/QT x y H Q
theorem QW:IxR X (rIx X.K):=CJ.or (Gh.or QV)
theorem zO(lo hi:Option Int)(n:Nat):(sliceBounds lo hi none n).1=((HT.sIx n 0 lo:Nat):Int)/\(sliceBounds lo hi none n).2.1=((HT.sIx n n hi:Nat):Int)/\(sliceBounds lo hi none n).2.2=1:=by
 refine⟨?_,?_,rfl⟩
 ·cases lo with
  | none=>simp[sliceBounds,HT.sIx]
  | some i =>
   simp only[sliceBounds,HT.sIx,Option.getD_none,show(1:Int)>0 by decide,if_true]
   by_cases h:i<0
   ·simp only[h,if_true]<;>omega
   ·simp only[h,if_false]<;>omega
 ·cases hi with
  | none=>simp[sliceBounds,HT.sIx]
  | some i =>
   simp only[sliceBounds,HT.sIx,Option.getD_none,show(1:Int)>0 by decide,if_true]
   by_cases h:i<0
   ·simp only[h,if_true]<;>omega
   ·simp only[h,if_false]<;>omega
theorem zf(its:List Value)(lo hi:Option Int):slicePick its.toArray lo hi none=((its.drop (HT.sIx its.length 0 lo)).take (HT.sIx its.length its.length hi-HT.sIx its.length 0 lo)).toArray:=by
 obtain⟨h1,h2,h3⟩:=zO lo hi its.toArray.size
 unfold slicePick
 rw[h1,h2,h3]
 simp only[sliceRange_one,pick_run,List.size_toArray]<;>rfl
noncomputable def Ur(K:PySem.W.Frag):V->Option Int->Option Int->Hp->VK->Prop:=fun x lo hi H Q=>∃a xs,x=.ref a/\SqL K H a xs/\∀p,H p=none->Q (.ref p) (upd H p (.lst (wZ xs lo hi)))
theorem Ng:SlR X (Ur X.K):=by
 intro pins s σ H x v vl vu lo hi sl Q I rx hs pl pu h
 obtain⟨a,xs,rfl,hx,q⟩:=h
 cases rx
 obtain⟨its,r,ht,hz⟩:=I.list hx
 have hlen:=r.length
 refine⟨"list",_,slot_list_getitem.lookup,ht.isList.typeIs,?_⟩
 refine wpAny_getItem_list_slice ht.isList hs pl pu .none (by simp) ?_ (by rw[List.size_toArray]<;>omega)
 rw[zf,<-hlen]
 refine⟨.ref s.heap.objs.size,_,I.laid (t':=s.toks) (o:=.lst (wZ xs lo hi)) (fun b ob q=>Heap.get?_push_of_some _ q) (Nat.le_refl _) ?_,rfl,q _ (I.hok.fresh (Nat.le_refl _))⟩
 exact⟨Nat.le_trans (Cj xs lo hi) hz,_,0,(r.drop (HT.sIx xs.length 0 lo)).take (HT.sIx xs.length xs.length hi-HT.sIx xs.length 0 lo),Heap.get?_push_size _ rfl⟩
theorem lz:fL X (.builtin "len") (fun xs H Q=>∃p ys,xs=[.ref p]/\(SqL X.K H p ys\/SqT X.K H p ys)/\Q (.int ys.length) H):=by
 intro pins s σ H xs us Q I r h
 obtain⟨p,ys,rfl,hq,q⟩:=h
 obtain⟨u,rfl,rx⟩:=vals1 r
 cases rx
 have hn:=ql
 rcases hq with hq |hq
 ·obtain⟨its,r',pl,hz⟩:=I.list hq
  have hlen:=r'.length
  exact Calls.call_len_list pl.isList (by simp only[List.size_toArray]<;>omega) ⟨.int ys.length,H,I.tok _,⟨s.toks+1,by rw[List.size_toArray,hlen]⟩,q⟩
 ·obtain⟨its,r',pl,hz⟩:=I.tuple hq
  have hlen:=r'.length
  exact len_tuple pl (by simp only[List.size_toArray]<;>omega) ⟨.int ys.length,H,I.tok _,⟨s.toks+1,by rw[List.size_toArray,hlen]⟩,q⟩
theorem zP:fL X (.builtin "len") (fun xs H Q=>∃z,xs=[.str z]/\z.length<=sizeLine/\Q (.int z.length) H):=by
 intro pins s σ H xs us Q I r h
 obtain⟨z,rfl,hz,q⟩:=h
 obtain⟨u,rfl,t,rfl⟩:=vals1 r
 have hn:=ql
 exact len_str (by omega) ⟨.int z.length,H,I.tok _,⟨_,rfl⟩,q⟩
theorem lA:fL X (.type "list") (fun xs H Q=>∃p ys,xs=[.ref p]/\(SqL X.K H p ys\/SqT X.K H p ys)/\∀l,H l=none->Q (.ref l) (upd H l (.lst ys))):=by
 intro pins s σ H xs us Q I r h
 obtain⟨p,ys,rfl,hq,q⟩:=h
 obtain⟨u,rfl,rx⟩:=vals1 r
 cases rx
 have fin:∀(its:List Value),Vals ys its->ys.length<=sizeLine->∀(h':Heap) (c':Nat),(∀b o',s.heap.get? b=some o'->h'.get? b=some o') ->
   h'.get? s.heap.objs.size=some { cls:=.type "list",dict:=none,data:=.seq its.toArray c',slots:=#[] }->EP X pins σ Q (.ref s.heap.objs.size) { s with heap:=h' }:=fun its r' hz h' c' kp e =>
  ⟨.ref s.heap.objs.size,_,I.laid (t':=s.toks) kp (Nat.le_refl _) (show bI X.prog X.w _ h' _ (.lst ys) from⟨hz,its,c',r',e⟩),rfl,q _ (I.hok.fresh (Nat.le_refl _))⟩
 rcases hq with hq |hq
 ·obtain⟨its,r',pl,hz⟩:=I.list hq
  have hlen:=r'.length
  obtain⟨o,ho,hc,n,hd⟩:=pl.isList
  exact call_list_seq p (.inl rfl) ho hc hd (fun h' c' kp e=>fin its r' hz h' c' kp e) (by simp only[List.size_toArray]<;>omega)
 ·obtain⟨its,r',pl,hz⟩:=I.tuple hq
  have hlen:=r'.length
  obtain⟨o,ho,hc,n,hd⟩:=pl
  exact call_list_seq p (.inr rfl) ho hc hd (fun h' c' kp e=>fin its r' hz h' c' kp e) (by simp only[List.size_toArray]<;>omega)
noncomputable def tyV(K:PySem.W.Frag)(T:String)(x:V)(H:Hp):Prop:=match x with
 | .str _=>T = "str"
 | .int _=>T = "int"
 | .ref p=>(T = "list" /\ ∃xs,SqL K H p xs)\/(T = "tuple" /\ ∃o,K.lookup p=some o/\o.cls=.type "tuple" /\ o.dict=none) \/
   (T = "dict" /\ ((∃kvs,H p=some (.dK kvs))\/∃kvs,H p=some (.dT kvs)))\/(T = "set" /\ ∃S n,H p=some (.set S n))
 | _=>False
theorem QX{pins:List (Addr×Obj)}{σ:St}{H:Hp}{s:Shared}{T:String}{x:V}{v:Value}(I:Inv X pins σ H s)(r:RelV x v)(ty:tyV X.K T x H) :
  s.TypeIs v T/\∀a,v=.ref a->∃ob,s.heap.get? a=some ob/\ob.dict=none:=by
 cases x with
 | str z =>
  obtain⟨t,rfl⟩:=r
  cases (show T = "str" from ty)
  exact⟨typeIs_str s z t,fun _ e=>nomatch e⟩
 | int i =>
  obtain⟨t,rfl⟩:=r
  cases (show T = "int" from ty)
  exact⟨typeIs_int s i t,fun _ e=>nomatch e⟩
 | ref p =>
  cases r
  rcases ty with⟨rfl,xs,hq⟩ |⟨rfl,o,hk,hc,hd⟩ |⟨rfl,hk⟩ |⟨rfl,S,n,hk⟩
  ·obtain⟨its,_,pl,_⟩:=I.list hq
   refine⟨pl.isList.typeIs,fun a e=>?_⟩
   cases e
   obtain⟨o,n,e,c,hd,_⟩:=pl
   exact⟨o,e,hd⟩
  ·refine⟨⟨o,I.kIn p o hk,hc⟩,fun a e=>?_⟩
   cases e
   exact⟨o,I.kIn _ o hk,hd⟩
  ·have z:∃o,s.heap.get? p=some o/\o.ExactDict:=by
    rcases hk with⟨kvs,hk⟩ |⟨kvs,hk⟩
    ·obtain⟨_,_,_,_,o,_,_,e,ex,_⟩:=I.hok p _ hk
     exact⟨o,e,ex⟩
    ·obtain⟨_,_,_,_,o,_,_,e,ex,_⟩:=I.hok p _ hk
     exact⟨o,e,ex⟩
   obtain⟨o,e,ex⟩:=z
   refine⟨⟨o,e,ex.1⟩,fun a e2=>?_⟩
   cases e2
   exact⟨o,e,ex.2.1⟩
  ·obtain⟨o,_,_,_,e,ex,_⟩:=I.hok p _ hk
   refine⟨⟨o,e,ex.1⟩,fun a e2=>?_⟩
   cases e2
   exact⟨o,e,ex.2.1⟩
 | _=>exact False.elim ty
noncomputable def tBM(K:PySem.W.Frag)(T:String)(r:V->List V->Hp->VK->Prop)(to:TE)(t:TA):TE:=fun σ H Q=>to σ H fun x H1=>tyV K T x H1/\t σ H1 fun xs H2=>r x xs H2 Q
variable {o e:Expr} {es:List Expr} {to:TE} {t:TA} {name:Str} {apos cpos:Pos} {T id:String} {r:V->List V->Hp->VK->Prop}
theorem vK(pa:PlainAttrs T)(slot:Slot T name id)(hty:typeOf (.builtin id)=pure (.type "method_descriptor"))(hm:MtR X id r)(ho:PE X o to)(ha:PA X (e::es) t)
  (hbase:attributeBase o name X.env (eval o X.env)=eval o X.env:=by rfl)
  (hfew:((backTo cpos (starEach (e::es) X.env)).all (fun x=>!x.1) && (backToKw cpos (keywordEach [] X.env)).all (fun x=>x.1.isSome)
   && decide ((e::es).length+([]:List Keyword).length+(if([]:List Keyword).isEmpty then 0 else 1)<30))=true:=by rfl)
  (hline:(apos.endLine==cpos.line)=true:=by rfl) (hs:starEach (e::es) X.env=(false,eval e X.env)::starEach es X.env:=by rfl) (hplain:(backTo cpos (starEach es X.env)).any (·.1)=false:=by rfl) :
  PE X (.Call (.Attribute o name apos) (e::es) [] cpos) (tBM X.K T r to t):=by
 intro pins s σ H Q I h
 refine wpAny_Call_method_late hbase hfew hline rfl (thn (ho pins s σ H _ I h) fun v s1 hw'=>?_)
 obtain⟨x,H1,I1,r1,ty,q1⟩:=hw'
 obtain⟨h1,h2⟩:=QX I1 r1 ty
 refine⟨T,id,pa,slot,hty,h1,h2,?_⟩
 have hA:=ha cpos pins s1 σ H1 _ I1 q1
 rw[hs] at hA ⊢
 refine Calls.callWith_builtin (by show(false || (backTo cpos (starEach es X.env)).any (·.1))=false;rw[hplain]<;>rfl) (Calls.evalArgs_plain ?_)
 exact thn hA fun us s2 ⟨vs,H2,I2,r2,q2⟩=>hm pins s2 σ H2 x vs v us Q I2 r1 r2 q2
/- xs.append(e),list.index on a module's tuple .. are MtR facts of 06m -/
end
end L2
namespace L2
open PySem PySem.Spec PyProof.Rows
noncomputable def MtM(X:Cx)(id:String)(r:V->List V->Hp->VK->Prop):Prop :=
 ∀(pins:List (Addr×Obj)) (s:Shared) (σ:St) (H:Hp) (x:V) (xs:List V) (v:Value) (us:List Value) (Q:VK),Inv X pins σ H s->RelV x v->Vals xs us->r x xs H Q ->
  wpAny (model X.prog X.w) X.A (call (.builtin id) (v::us)) (EP X pins σ Q) X.xe s
theorem Vals.one{x:V}{us:List Value}(h:Vals [x] us):∃u,us=[u]/\RelV x u:=vals1 h
theorem Vals.eraseIdx:∀{xs:List V} {us:List Value} (i:Nat),Vals xs us->Vals (xs.eraseIdx i) (us.eraseIdx i)
 | _,_,_,.nil=>.nil
 | _,_,0,.cons _ t=>t
 | _,_,i+1,.cons r t=>.cons r (Vals.eraseIdx i t)
theorem Vals.rep{xs:List V}{us:List Value}(h:Vals xs us):∀k:Nat,Vals (List.replicate k xs).flatten (List.replicate k us).flatten
 | 0=>.nil
 | k+1=>by
  rw[List.replicate_succ,List.replicate_succ,List.flatten_cons,List.flatten_cons]
  exact Vals.append h (Vals.rep h k)
theorem yx{α:Type}:∀(l:List α) (i:Nat),(l.eraseIdx i).length<=l.length
 | [],_=>Nat.le_refl _
 | _::_,0=>Nat.le_succ _
 | _::r,i+1=>Nat.succ_le_succ (yx r i)
theorem foldl_rep(its:List Value):∀(k:Nat) (acc:List Value),
  List.foldl (fun x1 x2=>x1++x2) acc.toArray (List.replicate k its.toArray)=(acc++(List.replicate k its).flatten).toArray
 | 0,acc=>by simp
 | k+1,acc=>by
  have e:acc.toArray++its.toArray=(acc++its).toArray:=by simp
  have e2:(acc++its)++(List.replicate k its).flatten=acc++(List.replicate (k+1) its).flatten:=by
   rw[List.replicate_succ,List.flatten_cons,List.append_assoc]
  rw[<-e2,<-foldl_rep its k (acc++its),<-e,List.replicate_succ,List.foldl_cons]
section
variable {X:Cx} {pins:List (Addr×Obj)} {σ:St} {H:Hp} {s:Shared} {l b:Addr} {xs ys zs:List V}
theorem Inv.lset{its its':List Value}{n:Nat}{f:Array Value->Array Value}{t':Nat}(I:Inv X pins σ H s)(hH:H l=some (.lst xs))
  (e:s.heap.get? l=some { cls:=.type "list",data:=.seq its.toArray n }) (hf:f its.toArray=its'.toArray) (hv:Vals ys its') (hz:ys.length<=sizeLine) :
  Inv X pins σ (upd H l (.lst ys)) { s with heap:=s.heap.update l (Obj.mapSeq f),toks:=t' }:=by
 have q:=PySem.IsL.update e f
 rw[hf] at q
 refine I.write (x:=l) (e:=l) (by rw[hH];exact trivial) (.inl rfl) (fun b' u hb hu=>(Heap.get?_update_other s.heap (Obj.mapSeq f) (Ne.symm hb)).trans hu) ⟨_,q⟩ ?_
 exact⟨hz,its',_,hv,q⟩
theorem Inv.lnew{its:List Value}{t':Nat}(I:Inv X pins σ H s)(hv:Vals ys its)(hz:ys.length<=sizeLine) :
  Inv X pins σ (upd H s.heap.objs.size (.lst ys)) { s with heap:=s.heap.push { cls:=.type "list",data:=.seq its.toArray },toks:=t' } :=
 I.laid (fun _ _ q=>Heap.get?_push_of_some _ q) (Nat.le_refl _) ⟨hz,its,0,hv,Heap.get?_push_size _ rfl⟩
theorem Inv.fresh(I:Inv X pins σ H s):H s.heap.objs.size=none:=I.hok.fresh (Nat.le_refl _)
theorem Inv.lstM(I:Inv X pins σ H s)(hH:H l=some (.lst xs)):xs.length<=sizeLine/\∃(its:List Value) (n:Nat),Vals xs its/\xs.length=its.length/\s.heap.get? l=some { cls:=.type "list",data:=.seq its.toArray n }:=by
 obtain⟨z,its,n,r,e⟩:=I.hok l _ hH
 exact⟨z,its,n,r,r.length,e⟩
theorem Ji{n:Nat}(h:n<=sizeLine):Builtin.List.listTooLong n=false:=by
 unfold Builtin.List.listTooLong
 exact decide_eq_false (by omega)
end
section
variable {X:Cx}
noncomputable def CK:V->List V->Hp->VK->Prop:=fun x vs H Q=>∃l xs y,x=.ref l/\vs=[y]/\H l=some (.lst xs)/\xs.length<sizeLine/\Q .non (upd H l (.lst (xs++[y])))
theorem sr:MtM X "list.append" CK:=by
 intro pins s σ H x vs v us Q I rx rv h
 obtain⟨l,xs,y,rfl,rfl,hH,hz,q⟩:=h
 cases rx
 obtain⟨u,rfl,ru⟩:=rv.one
 obtain⟨z,its,n,r,hl,e⟩:=I.lstM hH
 refine call_meets F.slot_list_append ⟨_,e,rfl⟩ F.entry_list_append (F.args_list_append_2 _ _) (PySem.list_append l its.toArray n u (by rw[List.size_toArray];omega)) ⟨e,?_⟩
 refine⟨.non,_,I.lset (its':=its++[u]) hH e (by simp) (r.append (.cons ru .nil)) ?_,rfl,q⟩
 rw[List.length_append,List.length_singleton]
 omega
noncomputable def QZ:V->List V->Hp->VK->Prop:=fun x vs H Q=>∃l xs i k y,x=.ref l/\vs=[.int i]/\H l=some (.lst xs) /\ -(2 ^ 63)<=i/\i<2 ^ 63/\seqIndex? i xs.length=some k/\xs[k]? = some y/\Q y (upd H l (.lst (xs.eraseIdx k)))
theorem Jj:MtM X "list.pop" QZ:=by
 intro pins s σ H x vs v us Q I rx rv h
 obtain⟨l,xs,i,k,y,rfl,rfl,hH,h1,h2,hk,hy,q⟩:=h
 cases rx
 obtain⟨u,rfl,ru⟩:=rv.one
 obtain⟨t,rfl⟩:=ru
 obtain⟨z,its,n,r,hl,e⟩:=I.lstM hH
 obtain⟨w,hw,rw'⟩:=r.get hy
 refine call_meets F.slot_list_pop ⟨_,e,rfl⟩ F.entry_list_pop (F.args_list_pop_2 _ _)
  (MeetsSeq.list_pop_at l its.toArray n i t k w (fitsIndex_both h1 h2) (by rw[List.size_toArray,<-hl];exact hk) (by rw[<-Array.getElem?_toList];exact hw) (by rw[List.size_toArray];omega)) ⟨e,?_⟩
 refine⟨y,_,I.lset (its':=its.eraseIdx k) hH e ?_ (r.eraseIdx k) ?_,rw',q⟩
 ·show its.toArray.eraseIdxIfInBounds k=(its.eraseIdx k).toArray
  rw[List.eraseIdxIfInBounds_toArray]
 ·have:=yx xs k
  omega
noncomputable def Ut:R2:=fun x y H Q=>∃l b xs zs,x=.ref l/\y=.ref b/\H l=some (.lst xs)/\H b=some (.lst zs)/\xs.length+zs.length<=sizeLine/\∀p,H p=none->Q (.ref p) (upd H p (.lst (xs++zs)))
theorem Q_:OpR X (binaryOp .Add) Ut:=by
 intro pins s σ H x y v u Q I rx ry h
 obtain⟨l,b,xs,zs,rfl,rfl,hH,hB,hz,q⟩:=h
 cases rx
 cases ry
 obtain⟨z,its,n,r,hl,e⟩:=I.lstM hH
 obtain⟨z2,its2,n2,r2,hl2,e2⟩:=I.lstM hB
 refine PySem.P.add_list e e2 ?_ (by rw[List.size_toArray,List.size_toArray];omega)
 have ea:its.toArray++its2.toArray=(its++its2).toArray:=by simp
 rw[ea]
 exact⟨.ref _,_,I.lnew (t':=s.toks) (r.append r2) (by rw[List.length_append];omega),rfl,q _ I.fresh⟩
noncomputable def Uu:R2:=fun x y H Q=>∃l k xs,x=.ref l/\y=.int k/\H l=some (.lst xs) /\ -(2 ^ 63)<=k/\k<2 ^ 63/\xs.length*k.toNat<=sizeLine /\
 ∀p,H p=none->Q (.ref p) (upd H p (.lst (List.replicate k.toNat xs).flatten))
theorem len_rep{α:Type}(xs:List α)(k:Nat):(List.replicate k xs).flatten.length=k*xs.length:=by
 induction k with
 | zero=>simp
 | succ k ih=>rw[List.replicate_succ,List.flatten_cons,List.length_append,ih,Nat.succ_mul,Nat.add_comm]
theorem Ra:OpR X (binaryOp .Mult) Uu:=by
 intro pins s σ H x y v u Q I rx ry h
 obtain⟨l,k,xs,rfl,rfl,hH,h1,h2,hz,q⟩:=h
 cases rx
 obtain⟨t,rfl⟩:=ry
 obtain⟨z,its,n,r,hl,e⟩:=I.lstM hH
 have hlen:its.toArray.size*k.toNat<=sizeLine:=by rw[List.size_toArray,<-hl];exact hz
 have hcap:¬its.toArray.size*k.toNat>(2 ^ 63-1) / 8:=by
  have:(sizeLine:Nat)<=(2 ^ 63-1) / 8:=by decide
  omega
 have hfit:¬(!Builtin.List.listFitsIndex k)=true:=by
  rw[fitsIndex_both h1 h2]
  exact Bool.false_ne_true
 have hlong:¬Builtin.List.listTooLong (its.toArray.size*k.toNat)=true:=by
  rw[Ji hlen]
  exact Bool.false_ne_true
 have hnew:List.foldl (fun x1 x2=>x1++x2) #[] (List.replicate (if its.toArray.isEmpty=true then 0 else k.toNat) its.toArray)=(List.replicate k.toNat its).flatten.toArray:=by
  have f0:∀m:Nat,List.foldl (fun x1 x2=>x1++x2) #[] (List.replicate m its.toArray)=(List.replicate m its).flatten.toArray:=fun m=>by
   have:=foldl_rep its m []
   rw[List.nil_append] at this
   exact this
  rw[f0]
  cases its with
  | nil=>simp
  | cons a r'=>rw[if_neg (by simp)]
 refine wpAny_binaryOp_repeat_ref (T:="list") (U:="int") (by decide) ⟨_,e,rfl⟩ (fun s'=>typeIs_int s' k t) noFill_list_mul F.fills_int_mul F.slot_int_rmul repeat_list F.slot_int_index.lookup
  (call_meets F.slot_int_rmul (typeIs_int s k t) F.entry_int_rmul (F.args_int_rmul_2 _ _) (int___rmul___int_list k t l its.toArray n)
   ⟨e,rfl,⟨_,e,rfl⟩,call_meets F.slot_list_mul ⟨_,e,rfl⟩ F.entry_list_mul (F.args_list_mul_2 _ _) (AutoListH.list___mul___list_int_3 l its.toArray n k t hfit hcap hlong) ⟨e,?_⟩⟩)
 rw[hnew]
 exact⟨.ref _,_,I.lnew (t':=s.toks) (r.rep k.toNat) (by rw[len_rep,Nat.mul_comm];exact hz),rfl,q _ I.fresh⟩
end
section
variable {prog:Program} {w:World} {A:Around} {E:Value->Shared->Prop} {s:Shared}
set_option maxRecDepth 100000 in
end
end L2
namespace L2
open PySem PySem.Spec PyProof.Rows
section
variable {κ:Type} [DecidableEq κ]
noncomputable def du(kvs:List (κ×V))(k:κ):Option V:=(kvs.find? fun kv=>decide (kv.1=k)).map (·.2)
noncomputable def putK(kvs:List (κ×V))(k:κ)(v:V):List (κ×V) :=
 if(kvs.any fun kv=>decide (kv.1=k))=true then kvs.map (fun kv=>if kv.1=k then(kv.1,v) else kv) else kvs++[(k,v)]
noncomputable def fj(kvs:List (κ×V))(k:κ):List (κ×V):=kvs.filter fun kv=>decide (kv.1≠k)
theorem qM{p:κ×V}{r:List (κ×V)}{k:κ}(e:p.1=k):du (p::r) k=some p.2:=by simp[du,List.find?_cons,e]
theorem qN{p:κ×V}{r:List (κ×V)}{k:κ}(e:¬p.1=k):du (p::r) k=du r k:=by simp[du,List.find?_cons,e]
theorem zQ(k:κ):∀kvs:List (κ×V),(kvs.any fun kv=>decide (kv.1=k))=(du kvs k).isSome
 | []=>rfl
 | p::r=>by
  rw[List.any_cons]
  by_cases e:p.1=k
  ·simp only[qM e,decide_eq_true e,Bool.true_or,Option.isSome_some]
  ·rw[qN e,decide_eq_false e,Bool.false_or];exact zQ k r
theorem pR(kvs:List (κ×V))(k:κ)(v:V):(putK kvs k v).length<=kvs.length+1:=by
 unfold putK
 split
 ·rw[List.length_map];omega
 ·rw[List.length_append,List.length_cons,List.length_nil];omega
theorem gY.isSome_eq{o:Option V}{u:Option Value}(r:gY o u):o.isSome=u.isSome:=by
 cases o with
 | none=>cases u with
  | none=>rfl
  | some _=>exact(show False from r).elim
 | some _=>cases u with
  | none=>exact(show False from r).elim
  | some _=>rfl
theorem gY.getD{o:Option V}{u:Option Value}{d:V}{d':Value}(r:gY o u)(rd:RelV d d'):RelV (o.getD d) (u.getD d'):=by
 cases o with
 | none=>cases u with
  | none=>exact rd
  | some _=>exact(show False from r).elim
 | some _=>cases u with
  | none=>exact(show False from r).elim
  | some _=>exact r
theorem KV.val{kvs:List (κ×V)}{vs:List (κ×Value)}(r:KV kvs vs)(k:κ):gY (du kvs k) (valueAt vs k):=by
 unfold KV at r
 induction r with
 | nil=>exact True.intro
 | @cons p q ps qs h t ih =>
  obtain⟨h1,h2⟩:=h
  by_cases e:p.1=k
  ·have e':q.1=k:=h1.symm.trans e
   have b:valueAt (q::qs) k=some q.2:=by simp[valueAt,List.find?_cons,e']
   rw[qM e,b];exact h2
  ·have e':¬q.1=k:=fun z=>e (h1.trans z)
   have b:valueAt (q::qs) k=valueAt qs k:=by simp[valueAt,List.find?_cons,e']
   rw[qN e,b];exact ih
theorem KV.any{kvs:List (κ×V)}{vs:List (κ×Value)}(r:KV kvs vs)(k:κ):(kvs.any fun kv=>decide (kv.1=k))=vs.any fun kv=>decide (kv.1=k):=by
 unfold KV at r
 induction r with
 | nil=>rfl
 | cons h t ih=>rw[List.any_cons,List.any_cons,ih,h.1]
theorem KV.repl{kvs:List (κ×V)}{vs:List (κ×Value)}(r:KV kvs vs)(k:κ){y:V}{u:Value}(ry:RelV y u) :
  KV (kvs.map fun kv=>if kv.1=k then(kv.1,y) else kv) (vs.map fun kv=>if kv.1=k then(kv.1,u) else kv):=by
 unfold KV at r ⊢
 induction r with
 | nil=>exact .nil
 | @cons p q ps qs h t ih =>
  rw[List.map_cons,List.map_cons]
  refine .cons ?_ ih
  obtain⟨h1,h2⟩:=h
  by_cases e:p.1=k
  ·rw[if_pos e,if_pos (h1.symm.trans e)];exact⟨h1,ry⟩
  ·rw[if_neg e,if_neg (fun z=>e (h1.trans z))];exact⟨h1,h2⟩
theorem KV.put{kvs:List (κ×V)}{vs:List (κ×Value)}(r:KV kvs vs)(k:κ){y:V}{u:Value}(ry:RelV y u):KV (putK kvs k y) (stored vs k u):=by
 unfold putK stored
 rw[r.any k]
 by_cases e:(vs.any fun kv=>decide (kv.1=k))=true
 ·rw[if_pos e,if_pos e];exact r.repl k ry
 ·rw[if_neg e,if_neg e];exact Paired.snoc r ⟨rfl,ry⟩
theorem KV.drop{kvs:List (κ×V)}{vs:List (κ×Value)}(r:KV kvs vs)(k:κ):KV (fj kvs k) (without vs k):=by
 unfold KV at r ⊢
 unfold fj without
 induction r with
 | nil=>exact .nil
 | @cons p q ps qs h t ih =>
  obtain⟨h1,h2⟩:=h
  rw[List.filter_cons,List.filter_cons]
  by_cases e:p.1=k
  ·have a:¬decide (p.1≠k)=true:=by simp[e]
   have b:¬decide (q.1≠k)=true:=by simp[h1.symm.trans e]
   rw[if_neg a,if_neg b];exact ih
  ·have e':¬q.1=k:=fun z=>e (h1.trans z)
   have a:decide (p.1≠k)=true:=by simp[e]
   have b:decide (q.1≠k)=true:=by simp[e']
   rw[if_pos a,if_pos b];exact .cons ⟨h1,h2⟩ ih
theorem KV.keys{kvs:List (κ×V)}{vs:List (κ×Value)}(r:KV kvs vs):kvs.map (·.1)=vs.map (·.1):=by
 unfold KV at r
 induction r with
 | nil=>rfl
 | cons h t ih=>rw[List.map_cons,List.map_cons,ih,h.1]
theorem KV.length{kvs:List (κ×V)}{vs:List (κ×Value)}(r:KV kvs vs):kvs.length=vs.length:=Paired.length r
theorem uP(kvs:List (κ×V))(k:κ):(fj kvs k).length<=kvs.length:=List.length_filter_le _ _
end
theorem qO{P:Program}{w:World}{k:Key}{u:Value}(r:RelV (kV k) u):(cD P w).is k u=true:=by
 cases k with
 | inl i=>obtain⟨t,e⟩:=(show ∃t,u=Value.int i t from r);subst e;exact Cg P w i t
 | inr x=>obtain⟨t,e⟩:=(show ∃t,u=Value.str x t from r);subst e;exact Ci P w x t
theorem yz{P:Program}{w:World}:∀{ks:List Key} {us:List Value},Vals (ks.map kV) us->ItemsAre (cD P w) ks us
 | [],_,r=>by rw[List.map_nil] at r;cases r;exact .nil
 | k::ks,_,r=>by
  rw[List.map_cons] at r
  cases r with
  | cons h t=>exact .cons (qO h) (yz t)
noncomputable abbrev KT(H:Hp):List (List Key×V)->List (List Key×Addr×Value)->Prop:=Paired fun p q=>p.1=q.1/\H q.2.1=some (.tup (p.1.map kV))/\RelV p.2 q.2.2
theorem KT.val{H:Hp}{kvs:List (List Key×V)}{xs:List (List Key×Addr×Value)}(r:KT H kvs xs)(k:List Key):gY (du kvs k) ((atKey xs k).map (·.2)):=by
 induction r with
 | nil=>exact True.intro
 | @cons p q ps qs h t ih =>
  obtain⟨h1,_,h2⟩:=h
  by_cases e:p.1=k
  ·have e':q.1=k:=h1.symm.trans e
   have b:atKey (q::qs) k=some q.2:=by simp[atKey,List.find?_cons,e']
   rw[qM e,b];exact h2
  ·have e':¬q.1=k:=fun z=>e (h1.trans z)
   have b:atKey (q::qs) k=atKey qs k:=by simp[atKey,List.find?_cons,e']
   rw[qN e,b];exact ih
theorem KT.repl{H:Hp}{kvs:List (List Key×V)}{xs:List (List Key×Addr×Value)}(r:KT H kvs xs)(k:List Key){y:V}{u:Value}(ry:RelV y u) :
  KT H (kvs.map fun kv=>if kv.1=k then(kv.1,y) else kv) (xs.map (putAt k u)):=by
 induction r with
 | nil=>exact .nil
 | @cons p q ps qs h t ih =>
  rw[List.map_cons,List.map_cons]
  refine .cons ?_ ih
  obtain⟨h1,h2,h3⟩:=h
  unfold putAt
  by_cases e:p.1=k
  ·rw[if_pos e,if_pos (h1.symm.trans e)];exact⟨h1,h2,ry⟩
  ·rw[if_neg e,if_neg (fun z=>e (h1.trans z))];exact⟨h1,h2,h3⟩
theorem KT.put{H:Hp}{kvs:List (List Key×V)}{xs:List (List Key×Addr×Value)}(r:KT H kvs xs)(k:List Key){b:Addr}{y:V}{u:Value}(hb:H b=some (.tup (k.map kV)))(ry:RelV y u) :
  KT H (putK kvs k y) (storedH xs k b u):=by
 have e:(kvs.any fun kv=>decide (kv.1=k))=(atKey xs k).isSome:=by
  rw[zQ,(r.val k).isSome_eq,Option.isSome_map]
 unfold putK storedH
 rw[e]
 by_cases q:(atKey xs k).isSome=true
 ·rw[if_pos q,if_pos q];exact r.repl k ry
 ·rw[if_neg q,if_neg q];exact Paired.snoc r ⟨rfl,hb,ry⟩
theorem KT.keeps{H H':Hp}{kvs:List (List Key×V)}{xs:List (List Key×Addr×Value)}(r:KT H kvs xs)(ht:∀b ys,H b=some (.tup ys)->H' b=some (.tup ys)):KT H' kvs xs :=
 Paired.mapP r fun _ _ z=>⟨z.1,ht _ _ z.2.1,z.2.2⟩
section
variable {P:Program} {w:World} {H:Hp} {h:Heap} {a:Addr}
theorem Ls{u:HO}(ok:HOk P w H h)(e:Rd H a u):bI P w H h a u:=e.ok ok
theorem qP{kvs:List (Key×V)}(ok:HOk P w H h)(e:Rd H a (.dK kvs)):kvs.length<=sizeLine/\(a==sysModules)=false/\∃vs,KV kvs vs/\h.DictOf (cD P w) a vs :=
 show bI P w H h a (.dK kvs) from Ls ok e
theorem Ed{kvs:List (Key×V)}(ok:HOk P w H h)(e:H a=some (.dK kvs)):kvs.length<=sizeLine/\(a==sysModules)=false/\∃vs,KV kvs vs/\h.DictOf (cD P w) a vs:=qP ok (.inl e)
theorem lB{ks:List Key}(ok:HOk P w H h)(e:H a=some (.tup (ks.map kV))):(tupleKind (cD P w)).is h ks a:=by
 obtain⟨_,its,r,o,h1,h2,n,h3⟩:=(show bI P w H h a (.tup (ks.map kV)) from ok a _ e)
 exact⟨o,its.toArray,n,h1,h2,h3,by simpa using yz r⟩
theorem qQ{kvs:List (List Key×V)}(ok:HOk P w H h)(e:Rd H a (.dT kvs)):kvs.length<=sizeLine/\(a==sysModules)=false /\
  ∃xs,KT H kvs xs/\h.DictOfH (tupleKind (cD P w)) a xs:=by
 obtain⟨z,y,xs,r,o,es,ep,h1,h2,h3,h4,h5⟩:=(show bI P w H h a (.dT kvs) from Ls ok e)
 refine⟨z,y,xs,r,o,es,ep,h1,h2,h3,h4,fun x hx=>?_,h5⟩
 have all:∀{l:List (List Key×V)} {m:List (List Key×Addr×Value)},KT H l m->∀x∈m,(tupleKind (cD P w)).is h x.1 x.2.1:=by
  intro l m q
  induction q with
  | nil=>intro x hx;exact nomatch hx
  | @cons p q ps qs hq t ih =>
   intro x hx
   rcases List.mem_cons.mp hx with e |hx
   ·subst e
    exact lB ok (by rw[<-hq.1];exact hq.2.1)
   ·exact ih x hx
 exact all r x hx
theorem zG{kvs:List (List Key×V)}(ok:HOk P w H h)(e:H a=some (.dT kvs)):kvs.length<=sizeLine/\(a==sysModules)=false /\
  ∃xs,KT H kvs xs/\h.DictOfH (tupleKind (cD P w)) a xs:=qQ ok (.inl e)
end
noncomputable def jk(H:Hp)(a:Addr)(y:V)(r:Option V):Prop :=
 (∃kvs k,Rd H a (.dK kvs)/\y=kV k/\r=du kvs k)\/∃kvs k b,Rd H a (.dT kvs)/\y=.ref b/\H b=some (.tup (k.map kV))/\r=du kvs k
noncomputable def qR(H:Hp)(a:Addr)(y v:V)(H':Hp):Prop :=
 (∃kvs k,H a=some (.dK kvs)/\y=kV k/\kvs.length<sizeLine/\H'=upd H a (.dK (putK kvs k v))) \/
 ∃kvs k b,H a=some (.dT kvs)/\y=.ref b/\H b=some (.tup (k.map kV))/\kvs.length<sizeLine/\H'=upd H a (.dT (putK kvs k v))
theorem jk.k{H:Hp}{a:Addr}{kvs:List (Key×V)}{k:Key}(e:H a=some (.dK kvs)):jk H a (kV k) (du kvs k):=.inl ⟨kvs,k,.inl e,rfl,rfl⟩
theorem jk.t{H:Hp}{a b:Addr}{kvs:List (List Key×V)}{k:List Key}(e:H a=some (.dT kvs))(eb:H b=some (.tup (k.map kV))):jk H a (.ref b) (du kvs k):=.inr ⟨kvs,k,b,.inl e,rfl,eb,rfl⟩
theorem qR.k{H:Hp}{a:Addr}{kvs:List (Key×V)}{k:Key}{v:V}(e:H a=some (.dK kvs))(hl:kvs.length<sizeLine):qR H a (kV k) v (upd H a (.dK (putK kvs k v))):=.inl ⟨kvs,k,e,rfl,hl,rfl⟩
theorem qR.t{H:Hp}{a b:Addr}{kvs:List (List Key×V)}{k:List Key}{v:V}(e:H a=some (.dT kvs))(eb:H b=some (.tup (k.map kV)))(hl:kvs.length<sizeLine) :
  qR H a (.ref b) v (upd H a (.dT (putK kvs k v))):=.inr ⟨kvs,k,b,e,rfl,eb,hl,rfl⟩
section
variable {X:Cx} {pins:List (Addr×Obj)} {σ:St} {H:Hp} {s:Shared} {a:Addr} {y v:V} {u r:Value} {o:Option V} {A:Around} {E:Value->Shared->Prop}
theorem Inv.big(I:Inv X pins σ H s):sysModules<s.heap.objs.size:=by
 have h:mainGlobals<s.heap.objs.size:=(I.mod.glob.keeps I.bk).lt
 exact Nat.lt_trans (by decide) h
theorem Gi{Q:Value->Shared->Prop}(hu:A.units+1<cLine)(I:Inv X pins σ H s)(g:jk H a y (some v))(ry:RelV y u)(h:∀w' s',Inv X pins σ H s'->RelV v w'->Q w' s') :
  wpAny (model X.prog X.w) A (getItem (.ref a) u) Q E s:=by
 rcases g with⟨kvs,k,e,ey,l⟩ |⟨kvs,k,b,e,ey,eb,l⟩
 ·subst ey
  obtain⟨z,hd,vs,rel,dd⟩:=qP I.hok e
  obtain⟨w',hw,rw'⟩:=gY.some_of (v:=v) (o:=valueAt vs k) (by rw[l];exact rel.val k)
  exact wpAny_getItem_of (qO ry) dd.mapOf hw (h w' _ (I.tok _) rw')
 ·subst ey
  cases (show u=Value.ref b from ry)
  obtain⟨z,hd,xs,rel,dd⟩:=qQ I.hok e
  obtain⟨w',hw,rw'⟩:=gY.some_of (v:=v) (o:=(atKey xs k).map (·.2)) (by rw[l];exact rel.val k)
  obtain⟨p,hp,hp2⟩:=Option.map_eq_some_iff.mp hw
  refine wpAny_getItem_heap (tupleKind_room_in1 hu) (lB I.hok eb) dd hp ?_
  rw[hp2]
  exact h w' _ (I.tok _) rw'
theorem Uv{Q:Value->Shared->Prop}(hu:A.units+1<cLine)(I:Inv X pins σ H s)(g:jk H a y o)(ry:RelV y u)(h:∀s',Inv X pins σ H s'->Q (.bool o.isSome) s') :
  wpAny (model X.prog X.w) A (compareOp .In u (.ref a)) Q E s:=by
 rcases g with⟨kvs,k,e,ey,l⟩ |⟨kvs,k,b,e,ey,eb,l⟩
 ·subst ey
  obtain⟨z,hd,vs,rel,dd⟩:=qP I.hok e
  refine wpAny_in_of (qO ry) hd dd.mapOf ?_
  rw[<-(rel.val k).isSome_eq,<-l]
  exact h _ (I.tok _)
 ·subst ey
  cases (show u=Value.ref b from ry)
  obtain⟨z,hd,xs,rel,dd⟩:=qQ I.hok e
  refine wpAny_in_heap (tupleKind_room_in1 hu) (lB I.hok eb) hd dd ?_
  have q:=(rel.val k).isSome_eq
  rw[Option.isSome_map] at q
  rw[<-q,<-l]
  exact h _ (I.tok _)
theorem Nh{Q:Value->Shared->Prop}(hu:A.units+1<cLine)(I:Inv X pins σ H s)(g:jk H a y o)(ry:RelV y u)(h:∀s',Inv X pins σ H s'->Q (.bool (!o.isSome)) s') :
  wpAny (model X.prog X.w) A (compareOp .NotIn u (.ref a)) Q E s:=by
 rcases g with⟨kvs,k,e,ey,l⟩ |⟨kvs,k,b,e,ey,eb,l⟩
 ·subst ey
  obtain⟨z,hd,vs,rel,dd⟩:=qP I.hok e
  refine wpAny_notIn_of (qO ry) hd dd.mapOf ?_
  rw[<-(rel.val k).isSome_eq,<-l]
  exact h _ (I.tok _)
 ·subst ey
  cases (show u=Value.ref b from ry)
  obtain⟨z,hd,xs,rel,dd⟩:=qQ I.hok e
  refine wpAny_notIn_heap (tupleKind_room_in1 hu) (lB I.hok eb) hd dd ?_
  have q:=(rel.val k).isSome_eq
  rw[Option.isSome_map] at q
  rw[<-q,<-l]
  exact h _ (I.tok _)
theorem nZ{h':Heap}{t':Nat}{ob:HO}(I:Inv X pins σ H s)(mu:Mut (H a))(hs:Heap.SameBut a s.heap h')(he:∃q,h'.get? a=some q)(new:bI X.prog X.w (upd H a ob) h' a ob) :
  Inv X pins σ (upd H a ob) { s with heap:=h',toks:=t' } :=
 I.write (x:=a) (e:=a) mu (.inl rfl) (fun b q hb z=>(hs.2 b hb).trans z) he new
theorem Gj{P:Program}{w:World}{H':Hp}{h':Heap}{kvs:List (Key×V)}{vs:List (Key×Value)}(z:kvs.length<=sizeLine)(hd:(a==sysModules)=false)(rel:KV kvs vs)(dd:h'.DictOf (cD P w) a vs) :
  bI P w H' h' a (.dK kvs):=⟨z,hd,vs,rel,dd⟩
theorem Gk{H':Hp}{Q:Unit->Shared->Prop}(hu:A.units+1<cLine)(I:Inv X pins σ H s)(g:qR H a y v H')(ry:RelV y u)(rv:RelV v r)(h:∀s',Inv X pins σ H' s'->Q () s') :
  wpAny (model X.prog X.w) A (setItem (.ref a) u r) Q E s:=by
 rcases g with⟨kvs,k,e,ey,l,eH⟩ |⟨kvs,k,b,e,ey,eb,l,eH⟩
 ·subst ey eH
  obtain⟨z,hd,vs,rel,dd⟩:=Ed I.hok e
  have hz:vs.length<=sizeLine:=by rw[<-rel.length];exact z
  have hl:(putK kvs k v).length<=sizeLine:=by have:=pR kvs k v;omega
  refine wpAny_setItem_pairs (hsz:=hz) (qO ry) dd fun h' dd' hs=>h _ ?_
  have he:∃q,h'.get? a=some q:=let⟨q,_,_,hq,_⟩:=dd';⟨q,hq⟩
  exact nZ I (by rw[e];exact True.intro) hs he (Gj hl hd (rel.put k rv) dd')
 ·subst ey eH
  cases (show u=Value.ref b from ry)
  obtain⟨z,hd,xs,rel,dd⟩:=zG I.hok e
  have hz:xs.length<=sizeLine:=by rw[<-Paired.length rel];exact z
  have hl:(putK kvs k v).length<=sizeLine:=by have:=pR kvs k v;omega
  refine wpAny_setItem_heap (hsz:=hz) (tupleKind_room_in1 hu) (lB I.hok eb) dd fun h' dd' hs=>h _ ?_
  obtain⟨q,es,ep,hq,h2,h3,h4,_,h5⟩:=dd'
  refine nZ I (by rw[e];exact True.intro) hs ⟨q,hq⟩ ⟨hl,hd,_,(rel.put k eb rv).keeps fun c ys ec=>?_,q,es,ep,hq,h2,h3,h4,h5⟩
  rw[aC (zE ec e (fun z=>nomatch z))]
  exact ec
end
section
variable {X:Cx} {pins:List (Addr×Obj)} {σ:St} {H:Hp} {s:Shared} {a:Addr} {kvs:List (Key×V)} {k:Key} {u:Value} {A:Around} {E:Value->Shared->Prop}
theorem SQ{v:V}{more:List Value}{Q:Value->Shared->Prop}(I:Inv X pins σ H s)(e:H a=some (.dK kvs))(ry:RelV (kV k) u)(l:du kvs k=some v)(hm:more=[]\/∃x,more=[x])
  (h:∀w' s',Inv X pins σ (upd H a (.dK (fj kvs k))) s'->RelV v w'->Q w' s'):wpAny (model X.prog X.w) A (call (.builtin "dict.pop") (.ref a::u::more)) Q E s:=by
 obtain⟨z,hd,vs,rel,dd⟩:=Ed I.hok e
 obtain⟨w',hw,rw'⟩:=gY.some_of (v:=v) (o:=valueAt vs k) (by rw[<-l];exact rel.val k)
 have hp:(keyPart u).isSome=true:=by
  cases k with
  | inl i=>obtain⟨t,q⟩:=(show ∃t,u=Value.int i t from ry);subst q;rfl
  | inr x=>obtain⟨t,q⟩:=(show ∃t,u=Value.str x t from ry);subst q;rfl
 have ha:argsOk "dict.pop" ⟨.ref a::u::more,[]⟩:=by
  rcases hm with q |⟨x,q⟩
  ·subst q;exact PySem.F.args_dict_pop_2 _ _
  ·subst q;exact PySem.F.args_dict_pop_3 _ _ _
 refine call_meetsIn PySem.F.slot_dict_pop dd.typeIs PySem.F.entry_dict_pop ha (meets_dict_pop_there (cD X.prog X.w) a (qO ry) more hm hp)
  ⟨vs,w',dd,by rw[<-rel.length];exact z,hw,fun h' dd' hs=>h w' _ ?_ rw'⟩
 have he:∃q,h'.get? a=some q:=let⟨q,_,_,hq,_⟩:=dd';⟨q,hq⟩
 exact nZ I (by rw[e];exact True.intro) hs he (Gj (Nat.le_trans (uP kvs k) z) hd (rel.drop k) dd')
end
noncomputable def Jk(i:Expr):Prop:=∀ov iv,subscripted i false ov iv=operate [ov,iv] (getItem ov iv)
theorem Ni{prog:Program}{w:World}{A:Around}{E:Value->Shared->Prop}{s:Shared}{env:Env}{value slice:Expr}{pos:Pos}{T id:String}{Q:Value->Shared->Prop}
  (hl:typeLookup (.type T) "__getitem__" = pure (some (.builtin id))) (hs:Jk slice)
  (h:wpAny (model prog w) A (eval value env) (fun o s₁=>wpAny (model prog w) A (eval slice env) (fun i s₂=>s₂.TypeIs o T/\wpAny (model prog w) A (getItem o i) Q E s₂) E s₁) E s) :
  wpAny (model prog w) A (eval (.Subscript value slice pos) env) Q E s:=by
 refine Subscript_ (wpAny_mono h (fun o s₁ h₁=>wpAny_mono h₁ (fun i s₂ h₂=>?_) fun _ _ x=>x) fun _ _ x=>x)
 obtain⟨hT,h₂⟩:=h₂
 unfold subscriptTail
 refine wpAny_bind ?_
 rw[getitemInPython_of_ne hT.not_modules]
 refine wpAny_bind (wpAny_specialOf hT hl ?_)
 have fin:wpAny (model prog w) A (subscripted slice false o i) (fun r s₃=>wpAny (model prog w) A (letTemporaryGo value o r>>=fun _=>pure r) Q E s₃) E s₂:=by
  rw[hs o i]
  exact wpAny_operating (wpAny_mono h₂ (fun r s₃ h₃=>wpAny_bind (wpAny_letTemporaryGo (wpAny_pure h₃))) fun _ _ x=>x)
 first
  | exact wpAny_pure (wpAny_bind fin)
  | exact wpAny_bind (wpAny_pure (wpAny_bind fin))
  | exact wpAny_bind fin
theorem Ck{X:Cx}{pins:List (Addr×Obj)}{σ:St}{H:Hp}{s:Shared}{a:Addr}{y:V}{o:Option V}(I:Inv X pins σ H s)(g:jk H a y o):s.TypeIs (.ref a) "dict":=by
 rcases g with⟨kvs,k,e,_,_⟩ |⟨kvs,k,b,e,_,_,_⟩
 ·obtain⟨_,_,vs,_,dd⟩:=qP I.hok e
  exact dd.typeIs
 ·obtain⟨_,_,xs,_,dd⟩:=qQ I.hok e
  exact dd.typeIs
noncomputable def SX(td ty:TE):TE:=fun σ H Q=>td σ H fun x H1=>ty σ H1 fun y H2=>∃a v,x=.ref a/\jk H2 a y (some v)/\Q v H2
noncomputable def Uw(ty td:TE):TE:=fun σ H Q=>ty σ H fun y H1=>td σ H1 fun x H2=>∃a o,x=.ref a/\jk H2 a y o/\Q (.bl o.isSome) H2
noncomputable def Nj(ty td:TE):TE:=fun σ H Q=>ty σ H fun y H1=>td σ H1 fun x H2=>∃a o,x=.ref a/\jk H2 a y o/\Q (.bl (!o.isSome)) H2
noncomputable def jV(td ty tv:TE):TS:=fun D σ H=>tv σ H fun v H1=>td σ H1 fun x H2=>ty σ H2 fun y H3=>∃a H4,x=.ref a/\qR H3 a y v H4/\D.nx σ H4
section
variable {X:Cx} {o i e value:Expr} {pos pos' tpos:Pos} {td ty tv:TE}
theorem Nk(hu:X.A.units+1<cLine)(ho:PE X o td)(hi:PE X i ty)(hs:Jk i):PE X (.Subscript o i pos) (SX td ty):=by
 intro pins s σ H Q I h
 refine Ni PySem.F.slot_dict_getitem.lookup hs (thn (ho pins s σ H _ I h) fun u s1 ⟨x,H1,I1,rx,q1⟩=>thn (hi pins s1 σ H1 _ I1 q1) fun iv s2 hw'=>?_)
 obtain⟨y,H2,I2,ry,a,v,ex,g,q2⟩:=hw'
 subst ex
 obtain rfl:u=Value.ref a:=rx
 exact⟨Ck I2 g,Gi hu I2 g ry fun w' s3 I3 rw'=>⟨v,H2,I3,rw',q2⟩⟩
theorem Rb(hu:X.A.units+1<cLine)(hi:PE X i ty)(ho:PE X o td):PC X .In i o (Uw ty td):=by
 intro pins s σ H Q I h
 refine thn (hi pins s σ H _ I h) fun iv s1 ⟨y,H1,I1,ry,q1⟩=>thn (ho pins s1 σ H1 _ I1 q1) fun u s2 hw'=>?_
 obtain⟨x,H2,I2,rx,a,ov,ex,g,q2⟩:=hw'
 subst ex
 obtain rfl:u=Value.ref a:=rx
 exact Uv hu I2 g ry fun s3 I3=>⟨.bl ov.isSome,H2,I3,rfl,q2⟩
theorem Gm(hu:X.A.units+1<cLine)(hi:PE X i ty)(ho:PE X o td):PC X .NotIn i o (Nj ty td):=by
 intro pins s σ H Q I h
 refine thn (hi pins s σ H _ I h) fun iv s1 ⟨y,H1,I1,ry,q1⟩=>thn (ho pins s1 σ H1 _ I1 q1) fun u s2 hw'=>?_
 obtain⟨x,H2,I2,rx,a,ov,ex,g,q2⟩:=hw'
 subst ex
 obtain rfl:u=Value.ref a:=rx
 exact Nh hu I2 g ry fun s3 I3=>⟨.bl (!ov.isSome),H2,I3,rfl,q2⟩
theorem Nm(hu:X.A.units+1<cLine)(ho:PE X o td)(hi:PE X i ty)(hv:PE X value tv)(hs:swapsWith value (some (.Subscript o i pos')) pos.line X.env=pure false) :
  PS X (.Assign [.Subscript o i pos'] value pos) (jV td ty tv):=by
 intro pins s σ H D I h
 refine wpAny_Assign_Subscript (thn (hv pins s σ H _ I h) fun r s1 ⟨v,H1,I1,rv,q1⟩=>thn (ho pins s1 σ H1 _ I1 q1) fun u s2 ⟨x,H2,I2,rx,q2⟩=>thn (hi pins s2 σ H2 _ I2 q2) fun iv s3 hw'=>?_) hs
 obtain⟨y,H3,I3,ry,a,H4,ex,g,q3⟩:=hw'
 subst ex
 obtain rfl:u=Value.ref a:=rx
 exact Gk hu I3 g ry rv fun s4 I4=>⟨σ,H4,I4,q3⟩
end
theorem Jl{P:Program}{w:World}{H:Hp}(h:Heap)(hb:sysModules<h.objs.size):bI P w H (h.push { cls:=.type "dict",data:=.dict #[] }) h.objs.size (.dT []) :=
 ⟨Nat.zero_le _,beq_eq_false_iff_ne.mpr (Ne.symm (Nat.ne_of_lt hb)),[],.nil,_,#[],0,Heap.get?_push_size _ rfl,⟨rfl,rfl,rfl⟩,rfl,rfl,List.nodup_nil⟩
noncomputable def Rc:TE:=fun _ H Q=>∀p,H p=none->Q (.ref p) (upd H p (.dT []))
section
variable {X:Cx} {pos:Pos}
theorem Jm:PE X (.Dict [] [] pos) Rc:=fun pins s σ H Q I h =>
 wpAny_Dict_empty ⟨.ref s.heap.objs.size,_,I.laid (a:=s.heap.objs.size) (o:=.dT []) (t':=s.toks) (fun _ _ q=>Heap.get?_push_of_some _ q) (Nat.le_refl _) (Jl s.heap I.big),rfl,h _ (I.hok.fresh (Nat.le_refl _))⟩
end
structure M1(X:Cx)(o:Expr)(m:Str)(apos:Pos)(e:Expr)(cpos:Pos):Prop where
 base:attributeBase o m X.env (eval o X.env)=eval o X.env
 few:((backTo cpos (starEach [e] X.env)).all (fun x=>!x.1) && (backToKw cpos (keywordEach [] X.env)).all (fun x=>x.1.isSome)
  && decide (([e]:List Expr).length+([]:List Keyword).length+(if([]:List Keyword).isEmpty then 0 else 1)<30))=true
 line:(apos.endLine==cpos.line)=true
 trees:backTo cpos (starEach [e] X.env)=[(false,eval e X.env)]
structure M2(X:Cx)(o:Expr)(m:Str)(apos:Pos)(e f:Expr)(cpos:Pos):Prop where
 base:attributeBase o m X.env (eval o X.env)=eval o X.env
 few:((backTo cpos (starEach [e,f] X.env)).all (fun x=>!x.1) && (backToKw cpos (keywordEach [] X.env)).all (fun x=>x.1.isSome)
  && decide (([e,f]:List Expr).length+([]:List Keyword).length+(if([]:List Keyword).isEmpty then 0 else 1)<30))=true
 line:(apos.endLine==cpos.line)=true
 trees:backTo cpos (starEach [e,f] X.env)=[(false,eval e X.env),(false,eval f X.env)]
noncomputable def IsD(H:Hp)(a:Addr):Prop:=(∃kvs,Rd H a (.dK kvs))\/∃kvs,Rd H a (.dT kvs)
theorem vL{X:Cx}{pins:List (Addr×Obj)}{σ:St}{H:Hp}{s:Shared}{a:Addr}(I:Inv X pins σ H s)(d:IsD H a) :
  s.TypeIs (.ref a) "dict" /\ (∀b,Value.ref a=.ref b->∃ob,s.heap.get? b=some ob/\ob.dict=none)/\(a==sysModules)=false:=by
 rcases d with⟨kvs,e⟩ |⟨kvs,e⟩
 ·obtain⟨_,hd,vs,_,dd⟩:=qP I.hok e
  refine⟨dd.typeIs,fun b q=>?_,hd⟩
  cases q
  obtain⟨ob,_,_,h1,h2,_⟩:=dd
  exact⟨ob,h1,h2.2.1⟩
 ·obtain⟨_,hd,xs,_,dd⟩:=qQ I.hok e
  refine⟨dd.typeIs,fun b q=>?_,hd⟩
  cases q
  obtain⟨ob,_,_,h1,h2,_⟩:=dd
  exact⟨ob,h1,h2.2.1⟩
section
variable {X:Cx} {pins:List (Addr×Obj)} {σ:St} {H:Hp} {s:Shared} {a:Addr} {y d:V} {u r:Value} {o:Option V} {A:Around} {E:Value->Shared->Prop}
theorem Rf{Q:Value->Shared->Prop}(hu:A.units+1<cLine)(I:Inv X pins σ H s)(g:jk H a y o)(ry:RelV y u)(rd:RelV d r)(h:∀w' s',Inv X pins σ H s'->RelV (o.getD d) w'->Q w' s') :
  wpAny (model X.prog X.w) A (call (.builtin "dict.get") [.ref a,u,r]) Q E s:=by
 rcases g with⟨kvs,k,e,ey,l⟩ |⟨kvs,k,b,e,ey,eb,l⟩
 ·subst ey
  obtain⟨z,hd,vs,rel,dd⟩:=qP I.hok e
  refine call_meetsIn PySem.F.slot_dict_get dd.typeIs PySem.F.entry_dict_get (PySem.F.args_dict_get_3 _ _ _) (meets_dict_get_default (cD X.prog X.w) a (qO ry) hd r) ⟨_,dd.mapOf,h _ _ (I.tok _) ?_⟩
  rw[l]
  exact(rel.val k).getD rd
 ·subst ey
  cases (show u=Value.ref b from ry)
  obtain⟨z,hd,xs,rel,dd⟩:=qQ I.hok e
  refine call_meetsIn PySem.F.slot_dict_get dd.typeIs PySem.F.entry_dict_get (PySem.F.args_dict_get_3 _ _ _) (meetsH_dict_get_default (tupleKind (cD X.prog X.w)) a b hd r) ⟨tupleKind_room_in1 hu,k,xs,lB I.hok eb,dd,h _ _ (I.tok _) ?_⟩
  rw[l]
  exact(rel.val k).getD rd
end
noncomputable def Rg(td ty tx:TE):TE:=fun σ H Q=>td σ H fun x H1=>∃a,x=.ref a/\IsD H1 a/\ty σ H1 fun y H2=>tx σ H2 fun z H3=>∃o,jk H3 a y o/\Q (o.getD z) H3
section
variable {X:Cx} {o e f:Expr} {apos cpos:Pos} {td ty tx:TE}
theorem Jo(hu:X.A.units+1<cLine)(ho:PE X o td)(he:PE X e ty)(hf:PE X f tx)(m:M2 X o "get" apos e f cpos):PE X (.Call (.Attribute o "get" apos) [e,f] [] cpos) (Rg td ty tx):=by
 intro pins s σ H Q I h
 refine wpAny_Call_method m.base m.few m.line PySem.F.plainAttrs_dict PySem.F.slot_dict_get PySem.F.type_dict_get (thn (ho pins s σ H _ I h) fun u s1 hw'=>?_)
 obtain⟨x,H1,I1,rx,a,ex,d,q1⟩:=hw'
 subst ex
 obtain rfl:u=Value.ref a:=rx
 obtain⟨t1,t2,_⟩:=vL I1 d
 refine⟨t1,t2,?_⟩
 rw[m.trees]
 refine Calls.callWith_builtin rfl (Calls.evalArgs_plain (Calls.spliced_cons (thn (he pins s1 σ H1 _ I1 q1) fun iv s2 ⟨y,H2,I2,ry,q2⟩ =>
  Calls.spliced_cons (thn (hf pins s2 σ H2 _ I2 q2) fun fv s3 ⟨z,H3,I3,rz,ov,g,q3⟩=>Calls.spliced_nil ?_))))
 exact Rf hu I3 g ry rz fun w' s4 I4 rw'=>⟨_,H3,I4,rw',q3⟩
end
end L2
namespace Att
open PySem PySem.W PySem.Calls PyProof.Rows
theorem vM{P:Params}{h:Heap}:∀(ns:List Int) (vs:List Value),WellAll P h vs (ns.map WData.int)->IntsAre vs ns:=by
 intro ns
 induction ns with
 | nil =>
  intro vs w
  rw[List.map_nil] at w
  cases w
  exact .nil
 | cons n ns ih =>
  intro vs w
  rw[List.map_cons] at w
  cases w with
  | cons a b =>
   cases a
   exact .cons _ _ (ih _ b)
theorem Gn{l:OpenLaw}{n:Nat}(hn:l.most=some n){P:Params}{h:Heap}{args:List WData}{vals:List Value}
  (hpre:l.row.toRowW.claim.pre args=true) (hwl:WellAll P h vals args) :
  ∃a vs ns,vals=[Value.ref a]/\args=[WData.list (ns.map WData.int)]/\h.get? a=some { cls:=.type "list",data:=.seq vs.toArray }/\IntsAre vs ns/\ns.length<=n:=by
 have hsh:WShape.hasAll [] args [.list .int]=true:=(pre_splitW hpre).1
 have hc:l.pre.holds [] { args:=args }=true:=(pre_splitW hpre).2
 obtain⟨d,r,rfl,h1,h2⟩:=hasAllW_cons hsh
 obtain rfl:=hasAllW_nil h2
 obtain⟨xs,rfl,h3⟩:=hasW_list h1
 obtain⟨ns,rfl⟩:=items_int h3
 have hlen:ns.length<=n:=by
  unfold OpenLaw.pre at hc
  have h4:(WTm.not (.lt (.lit (.int (n:Int))) (.len (.arg 0)))).holds [] { args:=[.list (ns.map .int)] }=true:=by
   have h4:=(holds_andW hc).1
   rw[hn] at h4
   exact h4
  have h5:=condW_of h4 (w_not (w_lt w_lit (w_len_list (w_arg rfl))))
  rw[List.length_map] at h5
  refine Nat.le_of_not_lt fun q=>?_
  have q':(n:Int)<((ns.length:Nat):Int):=by omega
  first
   | (rw[decide_eq_true q'] at h5;exact absurd h5 (by decide))
   | (simp at h5;omega)
 cases hwl with
 | cons w1 w2 =>
  cases w2
  cases w1 with
  | list ho hall=>exact⟨_,_,ns,rfl,rfl,ho,vM ns _ hall,hlen⟩
theorem Gp(l:OpenLaw)(args:List WData):l.row.toRowW.claim.post args (.bool true) args=true :=
 postW_of (r:=l.row.toRowW) (X:=(true==true))
  (show WShape.has [] (.bool true) .bool=true by first |rfl |decide |simp[WShape.has,WShape.arms,WShape.armsAll])
  (show(WTm.eq .res (.lit (.bool true))).value [] { args:=args,res:=some (.bool true),after:=args }=some (.bool (true==true)) from w_eq_bool (w_res rfl) w_lit) rfl
theorem Cm{l:OpenLaw}{n:Nat}{q:Program}{loose:List Str}{XP:(Str->Option Value)->Heap->Prop}{YP:World->Heap->Prop}{d:DefRec}
  (hn:l.most=some n) (hdf:d.params.defaults=[])
  (call:∀(w:World) (s₀ s₁:Shared) (mg mb:Str->Option Value) (fa:Addr) (o:Obj) (pm cd doc:Value) (a:Addr) (vs:List Value) (ns:List Int),
   Ground q loose [] XP w s₀ mg mb s₁.heap->YP w s₁.heap ->
   s₁.heap.get? fa=some o->o.data=.func (docDef d.name d.params d.body d.scope pm cd doc)->s₁.heap.CodeRec cd d.name->mg d.name=some (.ref fa) ->
   s₁.heap.get? a=some { cls:=.type "list",data:=.seq vs.toArray }->IntsAre vs ns->ns.length<=n->s₁.gens = #[] ->
   codeAny (model l.prog w) callerA (.call (.ref fa) ⟨[.ref a],[]⟩) (fun r s'=>r=.ok (.ret (.bool true))/\OldK s₁.heap s'.heap/\s'.os=s₁.os/\AllBare s'.gens) s₁) :
  WalkO q loose XP YP l.row.toRowW d [] (fun f vs=>PySem.call f vs):=by
 intro w s₀ s₁ mg mb G Y fa o pm cd doc dV kV ho hd hcd hD hmg hg args vals as hpre hlay hrd hwl hlo
 obtain rfl:dV=.none:=Dflts.none hD hdf
 obtain rfl:kV=.none:=Dflts.noKw hD
 obtain⟨a,vs,ns,rfl,rfl,hobj,hints,hlen⟩:=Gn hn hpre hwl
 refine enter_call (codeAny_mono (call w s₀ s₁ mg mb fa o pm cd doc a vs ns G Y ho (fd_plain hd) hcd hmg hobj hints hlen hg) fun r s' hq=>?_)
 obtain⟨rfl,h2,h3,h4⟩:=hq
 exact⟨.inl ⟨.bool true,.bool true,[],rfl,fun _=>rfl,.bool true,Gp l _,fun _=>⟨List.Pairwise.nil,fun _ hm=>(nomatch hm)⟩⟩,h2,h3,h4⟩
section
variable {prog:Program} {w:World} {A:Around} {E:Value->Shared->Prop} {s:Shared} {K:Frag}
noncomputable def ledger(h:Heap)(L d:Addr):List (Addr×Obj):=(List.range h.objs.size).filterMap fun a=>if a=L\/a=d then none else(h.get? a).map fun o=>(a,o)
end
end Att
namespace L2
open PySem PySem.Spec PyProof.Rows
theorem yC:∀{vs:List Value} {ns:List Int},IntsAre vs ns->Vals (ns.map V.int) vs
 | _,_,.nil=>.nil
 | _,_,.cons n t h=>.cons ⟨t,rfl⟩ (yC h)
noncomputable def Only(H:Hp):Prop:=∀b,H b=none\/∃o xs,H b=some (.frz o (.lst xs))
theorem Jp{P:Program}{w:World}{K:PySem.W.Frag}{mg mb:Str->Option Value}{CX:CXT}{k:Nat}{fa a:Addr}{fd:FuncData}{x:Str}{sp:Sp}{s₁:Shared}{vs:List Value}{ns:List Int}
  (KX:K.In s₁.heap) (hns:s₁.heap.Ns mainGlobals mg) (hb:s₁.heap.Ns builtinsNs mb) (hbb:∀x:Str,x ≠ "__name__" -> mb x=bootBuiltins x) (hlim:s₁.heap.NoLimit) (hg:s₁.gens = #[])
  (ha:s₁.heap.get? a=some { cls:=.type "list",data:=.seq vs.toArray }) (hi:IntsAre vs ns) (hl:ns.length<=sizeLine) (hr:Room k callerA)
  (F:∀base:Heap,K.In base->base.Ns mainGlobals mg->FnOk P w K mg base CX k fa fd [x] sp) (hbind:∀(s:Shared) (u:Value),BindsTo s fd ⟨[u],[]⟩ [(x,u)])
  (hsp:∀H:Hp,Only H->SqL K H a (ns.map V.int)->sp [.ref a] H (fun v _=>v=.bl true) fun _ _ _=>False)
  (hCX:∀H e s',CX [] H s₁ (fun _ _ _=>False) e s'->False) :
  codeAny (model P w) callerA (.call (.ref fa) ⟨[.ref a],[]⟩) (fun r s'=>r=.ok (.ret (.bool true))/\OldK s₁.heap s'.heap/\s'.os=s₁.os/\AllBare s'.gens) s₁:=by
 have rv:=yC hi
 have lenV:=hi.length
 have core:∀H:Hp,Only H->SqL K H a (ns.map V.int)->HOk P w H s₁.heap->(∀b,H b≠none->b=a)->(H a≠none->K.lookup a=none) ->
   codeAny (model P w) callerA (.call (.ref fa) ⟨[.ref a],[]⟩) (fun r s'=>r=.ok (.ret (.bool true))/\OldK s₁.heap s'.heap/\s'.os=s₁.os/\AllBare s'.gens) s₁:=by
  intro H hO hS hok hA hK
  have base_of:∀{b:Addr} {o:Obj},s₁.heap.get? b=some o->H b=none->(qL s₁.heap H).get? b=some o:=fun e n=>Iv e n
  have noA:∀{b:Addr} {o:Obj} {es:Array DictEntry} {ep:Nat},s₁.heap.get? b=some o->o.data=.dict es ep->H b=none:=fun {b o es ep} e d=>by
   cases q:H b with
   | none=>rfl
   | some u =>
    have e':b=a:=hA b (by rw[q];simp)
    subst e'
    rw[ha] at e;cases e
    have d':Data.seq vs.toArray _=Data.dict es ep:=d
    cases d'
  have nsK:∀{b:Addr} {m:Str->Option Value},s₁.heap.Ns b m->(qL s₁.heap H).Ns b m:=fun {b m} ⟨o,es,ep,e,d,r⟩=>⟨o,es,ep,base_of e (noA e d),d,r⟩
  have hKb:K.In (qL s₁.heap H):=fun b o e=>base_of (KX b o e) (by
   cases q:H b with
   | none=>rfl
   | some u =>
    have e':b=a:=hA b (by rw[q];simp)
    subst e'
    rw[hK (by rw[q];simp)] at e;cases e)
  have hM:Mod K mg (qL s₁.heap H):=⟨hKb,nsK hns,⟨mb,nsK hb,hbb⟩,let⟨mc,h1,h2⟩:=hlim;⟨mc,nsK h1,h2⟩⟩
  have e0:Env0 P w K mg (qL s₁.heap H) callerA [] s₁ H:=⟨rfl,hM,fun b o e=>Ms e,Nat.le_of_eq (Fz _ _),trivial,fun b hb=>absurd (show b∈([]:List Addr) from hb) (by simp),hok,.of_eq hg⟩
  refine codeAny_mono ((F _ hKb (nsK hns)).run callerA [] s₁ H ⟨[.ref a],[]⟩ [.ref a] [.ref a] _ _ hr e0 (hbind s₁ (.ref a)) (.cons rfl .nil) (hsp H hO hS)) fun r s' h=>?_
  cases r with
  | error e=>exact(hCX H e s' h).elim
  | ok fl =>
   cases fl with
   | next=>exact False.elim h
   | brk=>exact False.elim h
   | cont=>exact False.elim h
   | ret u =>
    obtain⟨v,H',os,bare,un,hok',r',q⟩:=h
    have q':v=.bl true:=q
    subst q'
    obtain rfl:u=Value.bool true:=r'
    refine⟨rfl,OldK.of_keep fun b o e=>?_,os,bare⟩
    cases q:H b with
    | none=>exact un.keep b o e q (by intro z;exact absurd (show b∈([]:List Addr) from z) (by simp)) (by simp)
    | some u =>
     rcases hO b with z |⟨ob,xs,z⟩
     ·rw[q] at z;cases z
     ·have z2:=un.frzs b ob _ z
      obtain⟨e1,_⟩:=hok b _ z
      obtain⟨e2,_⟩:=hok' b _ z2
      rw[e] at e1;cases e1
      exact e2
 cases hk:K.lookup a with
 | some o =>
  have e:=KX a o hk
  rw[ha] at e
  cases e
  refine core (fun _=>none) (fun _=>.inl rfl) (.inr ⟨_,vs.toArray,_,hk,rfl,rfl,rfl,by rw[List.size_toArray,lenV];exact hl,by simpa using rv⟩) (fun b u z=>by have z':(none:Option HO)=some u:=z;cases z') (fun b z=>absurd rfl z) fun z=>absurd rfl z
 | none =>
  refine core (fun b=>if b=a then some (.frz { cls:=.type "list",data:=.seq vs.toArray } (.lst (ns.map V.int))) else none) (fun b=>?_) (.inl (.inr ⟨{ cls:=.type "list",data:=.seq vs.toArray },if_pos rfl⟩)) (fun b u z=>?_) (fun b z=>?_) fun _=>hk
  ·by_cases hb:b=a
   ·exact .inr ⟨_,_,if_pos hb⟩
   ·exact .inl (if_neg hb)
  ·by_cases hb:b=a
   ·have z':=(if_pos hb).symm.trans z
    cases z'
    subst hb
    exact⟨ha,by rw[List.length_map];exact hl,vs,_,rv,ha⟩
   ·have z':=(if_neg hb).symm.trans z
    cases z'
  ·by_cases hb:b=a
   ·exact hb
   ·exact absurd (if_neg hb) z
end L2
namespace L2
open PySem PySem.Spec PyProof.Rows
noncomputable abbrev KOf{K:PySem.W.Frag}{h:Heap}(_:K.In h):PySem.W.Frag:=K
theorem CN{l:PySem.W.OpenLaw}{n k:Nat}{q:Program}{loose:List Str}{XP:(Str->Option Value)->Heap->Prop}{YP:World->Heap->Prop}{d:DefRec}{K:Params->PySem.W.Frag}{CX:World->CXT}{sp:World->Sp}{x:Str}
  (hn:l.most=some n) (hn2:n<=sizeLine) (hdf:d.params.defaults=[]) (hr:Room k callerA)
  (hY:∀(w:World) (h:Heap),YP w h->(K w.params).In h)
  (F:∀(w:World) (mg:Str->Option Value) (fa:Addr) (h:Heap),(K w.params).In h->h.Ns mainGlobals mg->mg d.name=some (.ref fa) ->
   ∃fd:FuncData,(∀(s:Shared) (u:Value),BindsTo s fd ⟨[u],[]⟩ [(x,u)]) /\
    ∀base:Heap,(K w.params).In base->base.Ns mainGlobals mg->FnOk l.prog w (K w.params) mg base (CX w) k fa fd [x] (sp w))
  (hsp:∀(w:World) (H:Hp) (a:Addr) (ns:List Int),ns.length<=n->Only H->SqL (K w.params) H a (ns.map V.int)->sp w [.ref a] H (fun v _=>v=.bl true) fun _ _ _=>False)
  (hCX:∀(w:World) (H:Hp) (s:Shared) (e:Value) (s':Shared),CX w [] H s (fun _ _ _=>False) e s'->False) :
  PySem.W.WalkO q loose XP YP l.row.toRowW d [] (fun f vs=>PySem.call f vs):=by
 refine Att.Cm hn hdf fun w s₀ s₁ mg mb fa o pm cd doc a vs ns G Y ho hd hcd hmg hobj hints hlen hg=>?_
 have KX:=hY w _ Y
 obtain⟨fd,hb,hF⟩:=F w mg fa _ KX G.T.g hmg
 exact Jp KX G.T.g G.T.b G.T.builtins G.T.nolimit hg hobj hints (Nat.le_trans hlen hn2) hr hF hb (fun H hO hS=>hsp w H a ns hlen hO hS) fun H e s'=>hCX w H s₁ e s'
end L2
/- THE LAST THEOREM (shape;LID,My.* are yours):
  My.Adr: a structure of the addresses that your layer names (classes,functions);My.Txt K t: a structure (Prop) of the equations over K;
  My.txt_mk:{K} {implicit addresses ..} (e1:nsIn K mainGlobals "law" = some (some (.ref f))) (e2:K.lookup f=some ⟨oc,od,.func (fnOf "law" "law" params body scope dV kV doc pm an cdv ct),sl⟩) (e3:codeIn K cdv "law" = true) ..:∃t,My.Txt K t
set_option maxRecDepth 100000 in
set_option maxHeartbeats 0 in
theorem PySem.Challenge.cw_LID_holds : PySem.Challenge.rw_LID.Holds := by
 w_on;o_law;k_head;(case hw=>w_witness2)
 k_fill
 refine L2.CN (l:=PySem.Challenge.rw_LID) (n:=63) (k:=40) (x:="script") (CX:=fun w=>..) (sp:=fun _=>My.sp_law) rfl (by decide) rfl ⟨rfl,by decide,by decide⟩ (fun w h Y=>PySem.W.kIn_of Y) ?F ?S ?C
 case F =>
  intro w mg fa h KX G hmg
  have T:∃t,My.Txt (L2.KOf KX) t:=by
   dsimp only[L2.KOf]                          -- K must stand as «<heap const> w.params» for k_is
   refine' My.txt_mk ?e1 ?e2 ?e3 ..
   (case e1=>PySem.W.k_is)                    -- in the order: a name->its address->its object->its parts
   (case e2=>PySem.W.k_is)
   ..
  obtain⟨t,T⟩:=T
  have e0:=hmg.symm.trans (PySem.W.mg_of KX G T.law)
  cases e0                                       -- fa is the law's own address
  exact⟨_,fun s u=>.of_eq rfl,fun base kb nb=>My.Ce T kb nb⟩     -- if «.of_eq rfl» comes too early: refine' ⟨_,?b,fun base kb nb=>My.Ce T kb nb⟩;exact fun s u=>.of_eq rfl
 case S=>exact fun w H a ns hl hO hS=>..
 case C=>exact ..
(the tactic k_is has no namespace: write k_is) -/
namespace L2
open PySem PySem.Spec PyProof.Rows
noncomputable def inClass(s:Stmt)(j:Nat):Stmt:=match s with
 | .ClassDef _ _ _ body _ _ _ _ _ _ _=>body.getD j (.Pass ⟨0,0,0,0⟩)
 | _=>.Pass ⟨0,0,0,0⟩
noncomputable def bA(s:Stmt):Arguments:=match s with
 | .FunctionDef _ a _ _ _ _ _ _ _ _=>a
 | _=>{ posonlyargs:=[],args:=[],vararg:=none,kwonlyargs:=[],kw_defaults:=[],kwarg:=none,defaults:=[] }
noncomputable def bh(s:Stmt):List Stmt:=match s with
 | .FunctionDef _ _ b _ _ _ _ _ _ _=>b
 | _=>[]
noncomputable def aB(s:Stmt):Scope:=match s with
 | .FunctionDef _ _ _ _ _ _ sc _ _ _=>sc
 | _=>{ kind:=.function,names:=[],isGenerator:=false,isCoroutine:=false }
noncomputable abbrev CX0:CXT:=fun _ _ _ _ _ _=>False
noncomputable abbrev E0:XK:=fun _ _ _=>False
theorem Ef{X:Cx}:Passes CX0 X E0:=fun _ _ _ _ _ _ _ h=>h.elim
structure Fun(K:PySem.W.Frag)(x qual:Str)(st:Stmt)(f:Addr)(fd:FuncData):Prop where
 ex:∃(oc:Value) (od:Option Addr) (kV doc pm:Value) (an:Option Addr) (cdv ct:Value) (osl:Array (Option Value)),
  fd=PySem.W.fnOf x qual (bA st) (bh st) (aB st) .none kV doc pm an cdv ct/\K.lookup f=some ⟨oc,od,.func fd,osl⟩/\PySem.W.codeIn K cdv qual=true
 kp:PySem.W.keepIn K (.ref f)=true
section
variable {P:Program} {w:World} {K:PySem.W.Frag} {mg:Str->Option Value} {base:Heap}
theorem Fun.ok{x qual:Str}{st:Stmt}{f:Addr}{fd:FuncData}{N ps:List Str}{k:Nat}{sp:Sp}(F:Fun K x qual st f fd)(S:FnScope N ps (aB st))(len:∀vs H Q E,sp vs H Q E->vs.length=ps.length)
  (hbody:∀(cdv:Value) (A:Around) (outer:List Env) (s:Shared) (H:Hp) (vs:List V) (Q:VK) (E:XK),Room k (A.deeper (envOfC qual (aB st) s.heap.objs.size f cdv))->sp vs H Q E ->
   ∃t,PSs (bJ CX0 P w K mg base N qual (aB st) f cdv A outer s H E).nox (bh st) t/\t { nx:=fun _ H'=>Q .non H',rt:=Q } (start N vs) H):FnOk P w K mg base CX0 (k+1) f fd ps sp:=by
 obtain⟨oc,od,kV,doc,pm,an,cdv,ct,osl,rfl,lk,hcd⟩:=F.ex
 refine Ec lk hcd S len fun A outer s H vs Q E hr hsp=>?_
 obtain⟨t,h,q⟩:=hbody cdv A outer s H vs Q E hr hsp
 exact⟨t,h.nox,q⟩
theorem Fun.binds{x qual:Str}{st:Stmt}{f:Addr}{fd:FuncData}{ps:List Str}(F:Fun K x qual st f fd)
  (h:∀(kV doc pm:Value) (an:Option Addr) (cdv ct:Value) (us:List Value),us.length=ps.length->bindArgs (PySem.W.fnOf x qual (bA st) (bh st) (aB st) .none kV doc pm an cdv ct) ⟨us,[]⟩=pure (ps.zip us)):Binds K fd ps []:=by
 obtain⟨oc,od,kV,doc,pm,an,cdv,ct,osl,rfl,lk,hcd⟩:=F.ex
 exact .all (h kV doc pm an cdv ct)
theorem g_{x qual:Str}{st:Stmt}{f:Addr}{oc:Value}{od an:Option Addr}{osl:Array (Option Value)}{kV doc pm cdv ct:Value}(l:K.lookup f=some ⟨oc,od,.func (PySem.W.fnOf x qual (bA st) (bh st) (aB st) .none kV doc pm an cdv ct),osl⟩)
  (c:PySem.W.codeIn K cdv qual=true) (k:PySem.W.keepIn K (.ref f)=true):Fun K x qual st f (PySem.W.fnOf x qual (bA st) (bh st) (aB st) .none kV doc pm an cdv ct):=⟨⟨oc,od,kV,doc,pm,an,cdv,ct,osl,rfl,l,c⟩,k⟩
end
theorem bU{A:Around}{k:Nat}(hr:Room k A):A.units+1<cLine:=Nat.lt_of_le_of_lt (Nat.add_le_add_left (by decide:1<=64) _) hr.units
section
variable {X:Cx}
theorem pv(i:Nat){x:Str}{pos:Pos}(hN:X.N[i]? = some x:=by rfl)(hv:Vis X.env.scope x:=by first |exact Or.inl rfl |exact Or.inr (Or.inl rfl) |exact Or.inr (Or.inr rfl))(hd:(x==("__debug__":Str))=false:=by decide)
  (hcd:(x==("__classdict__":Str))=false:=by decide):PE X (.Name x pos) (wY i):=Qs hN hv hd hcd
end
theorem Jq{A B:Prop}(h:B):if false=true then A else B:=by
 rw[if_neg Bool.false_ne_true]
 exact h
theorem Jr{A B:Prop}(h:A):if true=true then A else B:=by
 rw[if_pos rfl]
 exact h
noncomputable def bC(H H':Hp):Prop:=∀b o,H b=some o->H' b=some o
theorem bC.refl(H:Hp):bC H H:=fun _ _ h=>h
theorem bC.trans{H H1 H2:Hp}(a:bC H H1)(b:bC H1 H2):bC H H2:=fun c o h=>b c o (a c o h)
theorem bC.seq{K:PySem.W.Frag}{H H':Hp}{a:Addr}{xs:List V}(e:bC H H')(h:SqL K H a xs):SqL K H' a xs:=by
 rcases h with (h |⟨o,h⟩) |h
 ·exact .inl (.inl (e _ _ h))
 ·exact .inl (.inr ⟨o,e _ _ h⟩)
 ·exact .inr h
end L2
namespace L2
open PySem PySem.Spec PyProof.Rows
noncomputable def clos(cells:List (Str×Addr)):List (Str×NameKind)->List (Str×Addr)->List (Str×Addr)
 | [],acc=>acc
 | (n,k)::r,acc=>clos cells r (if k == .free then(n,(cells.lookup n).getD 0)::acc else acc)
theorem zR{env:Env}:∀(names:List (Str×NameKind)) (acc:List (Str×Addr)),(∀y∈names,y.2=.free->∃c,env.cells.lookup y.1=some c) ->
  (forIn names acc (fun(x:Str×NameKind) (r:List (Str×Addr))=>if(x.2==NameKind.free)=true then(do let a <-cellOf env x.1;pure (ForInStep.yield ((x.1,a)::r))) else pure (ForInStep.yield r)):Sem (List (Str×Addr)))=pure (clos env.cells names acc)
 | [],acc,_=>rfl
 | (n,k)::r,acc,h=>by
  rw[List.forIn_cons]
  have ih:=fun a=>zR r a fun y hy=>h y (List.mem_cons_of_mem _ hy)
  cases hk:(k==NameKind.free) with
  | true =>
   have hk':k=.free:=by cases k<;>first |rfl |exact absurd hk (by decide)
   obtain⟨c,hc⟩:=h (n,k) List.mem_cons_self hk'
   have hc':env.cells.lookup n=some c:=hc
   have e:cellOf env n=pure c:=by unfold cellOf;rw[hc']
   dsimp only
   rw[if_pos rfl,e]
   show(forIn r ((n,c)::acc) _:Sem _)=_
   rw[ih]
   conv=>rhs;unfold clos
   rw[if_pos hk,hc']
   rfl
  | false =>
   dsimp only
   rw[if_neg (by decide)]
   show(forIn r acc _:Sem _)=_
   rw[ih]
   conv=>rhs;unfold clos
   rw[if_neg (by rw[hk];decide)]
theorem vN{scope:Scope}{env:Env}(h:∀y∈scope.names,y.2=.free->∃c,env.cells.lookup y.1=some c):closureFor scope env=pure (clos env.cells scope.names []):=by
 have e:=zR scope.names [] h
 simp only[closureFor]
 rw[e]
 rfl
theorem CP{cells:List (Str×Addr)}:∀{names:List (Str×NameKind)} {acc:List (Str×Addr)} {x:Str} {c:Addr},(∀y∈names,y.2=.free->∃c,cells.lookup y.1=some c)->(∀x c,acc.lookup x=some c->cells.lookup x=some c) ->
  (clos cells names acc).lookup x=some c->cells.lookup x=some c
 | [],acc,x,c,_,ha,h=>ha x c h
 | (n,k)::r,acc,x,c,hn,ha,h=>by
  unfold clos at h
  refine CP (fun y hy=>hn y (List.mem_cons_of_mem _ hy)) (fun y d hy=>?_) h
  split at hy
  ·rename_i hk
   have hk':k=.free:=by cases k<;>first |rfl |exact absurd hk (by decide)
   obtain⟨c',hc⟩:=hn (n,k) List.mem_cons_self hk'
   have hc':cells.lookup n=some c':=hc
   rw[List.lookup_cons] at hy
   cases e:(y==n) with
   | true =>
    rw[e] at hy
    have ey:y=n:=by simpa using e
    subst ey
    rw[hc'] at hy ⊢
    exact hy
   | false =>
    rw[e] at hy
    exact ha y d hy
  ·exact ha y d hy
theorem zT{cells:List (Str×Addr)}:∀{names:List (Str×NameKind)} {acc:List (Str×Addr)} {x:Str},(∃c,acc.lookup x=some c)->∃c,(clos cells names acc).lookup x=some c
 | [],_,_,h=>h
 | (n,k)::r,acc,x,h=>by
  unfold clos
  refine zT ?_
  split
  ·rw[List.lookup_cons]
   cases (x==n) with
   | true=>exact⟨_,rfl⟩
   | false=>exact h
  ·exact h
theorem uQ{cells:List (Str×Addr)}:∀{names:List (Str×NameKind)} {acc:List (Str×Addr)} {x:Str},(x,NameKind.free)∈names->∃c,(clos cells names acc).lookup x=some c
 | [],_,_,h=>by cases h
 | (n,k)::r,acc,x,h=>by
  unfold clos
  rcases List.mem_cons.mp h with e |e
  ·cases e
   refine zT ?_
   rw[if_pos (by decide),List.lookup_cons]
   simp
  ·exact uQ e
noncomputable def bD(X:Cx)(N:List Str)(scope:Scope)(cl:List (Str×Addr))(C:Addr)(fp:List Addr)(s:Shared)(H:Hp):Cx :=
 { X with N:=N,s₀:=s,H₀:=H,env:=compEnvC scope cl C X.env,outer:=X.stack,stack:=X.stack,ex:=fp,fn:=fun _=>false,pn:=[],xe:=fun _ _=>False }
noncomputable def inner(μ:List (Option Nat))(σ:St):St:=μ.map fun o=>o.bind fun j=>(σ[j]?).join
noncomputable def nH(oN:List Str)(osc:Scope)(N:List Str)(isc:Scope)(μ:List (Option Nat)):Bool :=
 decide (μ.length=N.length) && (μ.zip N).all fun(o,x)=>match o with
  | none=>true
  | some j=>decide (oN[j]? = some x) && decide (osc.names.lookup x=some .cell) && (decide (isc.names.lookup x=some .cell) || decide (isc.names.lookup x=some .free))
theorem nH.get{oN N:List Str}{osc isc:Scope}{μ:List (Option Nat)}(h:nH oN osc N isc μ=true){i j:Nat}{x:Str}(h1:μ[i]? = some (some j))(h2:N[i]? = some x) :
  oN[j]? = some x/\osc.names.lookup x=some .cell/\(isc.names.lookup x=some .cell\/isc.names.lookup x=some .free):=by
 unfold nH at h
 rw[Bool.and_eq_true] at h
 have hz:(μ.zip N)[i]? = some (some j,x):=by rw[List.getElem?_zip_eq_some];exact⟨h1,h2⟩
 have q:=List.all_eq_true.mp h.2 _ (List.mem_of_getElem? hz)
 simp only[Bool.and_eq_true,Bool.or_eq_true,decide_eq_true_eq] at q
 exact⟨q.1.1,q.1.2,q.2⟩
section
variable {prog:Program} {w:World} {A:Around} {R:Result->Shared->Prop} {s:Shared}
theorem Cp{elt target iter:Expr}{ifs:List Expr}{scope:Scope}{pos:Pos}{it acc:Value}{env:Env}(I:Nat->Shared->Prop)
  (turn:∀n s,I n s->wpAny (model prog w) A (pyNext it) (fun r s₁=>match r with
   | none=>R (.ok .next) s₁
   | some v=>wpAny (model prog w) A (letOwnedTupleGo target it v) (fun _ s₂=>wpAny (model prog w) A (assign target env v) (fun _ s₂ =>
     wpAny (model prog w) A (forIn ifs true fun c r=>if r=true then do let ok <-isTrue c env (eval c env);pure (ForInStep.yield ok) else pure (ForInStep.yield r)) (fun ok s₃ =>
      if ok=true then wpAny (model prog w) A (eval elt env) (fun x s₄ =>
       wpAny (model prog w) A (call (.builtin "list.append") [acc,x]) (fun _ s₅=>∃m,m<n/\I m s₅) (fun _ _=>False) s₄) (fun _ _=>False) s₃
      else ∃m,m<n/\I m s₃) (fun _ _=>False) s₂) (fun _ _=>False) s₂) (fun _ _=>False) s₁) (fun _ _=>False) s)
  (n:Nat) (h:I n s) :
  codeAny (model prog w) A (.compLoop (.ListComp elt [⟨target,iter,ifs,0⟩] scope pos) 0 it acc env) R s:=by
 refine codeAny_loop rfl I (fun n s hI=>?_) n h
 show wpAny _ A ((compTurn (.ListComp elt [⟨target,iter,ifs,0⟩] scope pos) 0 it acc env).onRaise (fun x=>do noteFrame x env;theTreesLotGoes x)) _ _ s
 refine wpAny_noted ?_
 rw[compTurn_list]
 refine wpAny_bind (wpAny_standAt (wpAny_bind (wpAny_mono (turn n s hI) (fun r s₁ h₁=>?_) fun _ _ h'=>h'.elim)))
 cases r with
 | none=>exact wpAny_pure h₁
 | some v =>
  refine wpAny_bind (wpAny_mono h₁ (fun _ s₂ h₂=>wpAny_bind (wpAny_mono h₂ (fun _ s₃ h₃=>wpAny_bind (wpAny_mono h₃ (fun ok s₄ h₄=>?_) fun _ _ h'=>h'.elim)) fun _ _ h'=>h'.elim)) fun _ _ h'=>h'.elim)
  cases ok with
  | false=>exact wpAny_pure ⟨rfl,h₄⟩
  | true =>
   exact wpAny_bind (wpAny_bind (wpAny_mono h₄ (fun x s₅ h₅=>wpAny_bind (wpAny_mono h₅ (fun _ s₆ h₆=>wpAny_pure (wpAny_pure ⟨rfl,h₆⟩)) fun _ _ h'=>h'.elim)) fun _ _ h'=>h'.elim))
end
noncomputable def PTs(X:Cx)(ifs:List Expr)(t:TT):Prop :=
 ∀(pins:List (Addr×Obj)) (s:Shared) (σ:St) (H:Hp) (Q:Bool->Hp->Prop),Inv X pins σ H s->t σ H Q ->
  wpAny (model X.prog X.w) X.A (forIn ifs true fun c r=>if r=true then do let ok <-isTrue c X.env (eval c X.env);pure (ForInStep.yield ok) else pure (ForInStep.yield r)) (TP X pins σ Q) X.xe s
theorem Np{X:Cx}:PTs X [] (fun _ H Q=>Q true H):=fun pins s σ H Q I h=>wpAny_tests_nil ⟨H,I,h⟩
theorem Nq{X:Cx}{c:Expr}{t:TT}(h:PT X c t):PTs X [c] t:=fun pins s σ H Q I hw=>wpAny_tests_one (h pins s σ H Q I hw)
noncomputable def Lw(μ:List (Option Nat))(g:TG)(tt:TT)(te:TE)(σ:St)(Q:VK)(J:It)(H1:Hp):Prop :=
 ∀p,H1 p=none->∃W:Nat->Nat->St->Hp->Prop,(∃m,W 0 m (inner μ σ) (upd H1 p (.lst [])))/\∀i m σ' H',W i m σ' H' ->
  (J.stop i H'/\Q (.ref p) H')\/(J.go i H'/\∃Nn:St->Hp->Prop,(∀σ2 H2,Nn σ2 H2->∃m',m'<m/\W (i+1) m' σ2 H2) /\
   ∀x H2,J.yld i H' x H2->g x σ' H2 fun σ3 H3=>tt σ3 H3 fun b H4=>if b=true then te σ3 H4 fun y H5=>∃ys,H5 p=some (.lst ys)/\ys.length<sizeLine/\Nn σ3 (upd H5 p (.lst (ys++[y]))) else Nn σ3 H4)
noncomputable def vO(μ:List (Option Nat))(wi:TI)(g:TG)(tt:TT)(te:TE):TE:=fun σ H Q=>wi σ H (Lw μ g tt te σ Q)
section
variable {X:Cx} {pins:List (Addr×Obj)} {σ:St} {H2:Hp} {s2:Shared} {tg iter elt:Expr} {ifs:List Expr} {scope:Scope} {pos:Pos} {it:Addr} {fp:List Addr} {tn:Nat->Heap->Prop} {J:It} {N:List Str} {μ:List (Option Nat)} {g:TG} {tt:TT} {te:TE} {Q:VK}
theorem yD{RR:Value->Addr->Result->Shared->Prop}(I2:Inv X pins σ H2 s2)(T:Turn X.prog X.w X.K tg J fp it tn)(st2:tn 0 s2.heap)(f2:∀b∈fp,mq X pins H2 b)(hc:X.calm=true)
  (hcell:∀y∈scope.names,y.2 ≠ .cell) (hkind:scope.kind=.function) (hfr:∀y∈scope.names,y.2=.free->∃c,X.env.cells.lookup y.1=some c)
  (hhas:∀x,((relabel scope X.env).names.lookup x=some .cell\/(relabel scope X.env).names.lookup x=some .free)->(x,NameKind.free)∈scope.names)
  (hμ:nH X.N X.env.scope N (relabel scope X.env) μ=true)
  (hg:∀C s H,PG (bD X N scope (clos X.env.cells scope.names []) C fp s H) tg g) (ht:∀C s H,PTs (bD X N scope (clos X.env.cells scope.names []) C fp s H) ifs tt) (he:∀C s H,PE (bD X N scope (clos X.env.cells scope.names []) C fp s H) elt te)
  (hW:Lw μ g tt te σ Q J H2)
  (hRR:∀p C s' H' m,Inv X pins σ H' s'->s'.heap.Ns C m->mq X pins H' C->Q (.ref p) H'->RR (.ref p) C (.ok .next) s') :
  wpAny (model X.prog X.w) X.A (newList []) (fun acc s₃=>wpAny (model X.prog X.w) X.A (newFunctionEnv scope X.env.globals (clos X.env.cells scope.names []) [] X.env.qual none .none (some X.env)) (fun cenv s₄ =>
   codeAny (model X.prog X.w) X.A (.compStart (.ListComp elt [⟨tg,iter,ifs,0⟩] scope pos) 0 (.ref it) acc { cenv with scope:=relabel scope X.env }) (RR acc cenv.locals) s₄) X.xe s₃) X.xe s2:=by
 refine wpAny_newObj_type (wpAny_newFunctionEnv hcell (by intro y hy;simp at hy) (fun h₁ hns₁ hsb₁=>?_) hkind)
 dsimp only at hns₁ hsb₁ ⊢
 generalize hH2:s2.heap.push { cls:=.type "list",dict:=none,data:=.seq ([]:List Value).toArray }=G at hns₁ hsb₁ ⊢
 have hC:G.objs.size=s2.heap.objs.size+1:=by rw[<-hH2,Heap.size_push]
 have hDC:s2.heap.objs.size≠G.objs.size:=by rw[hC];exact Nat.ne_of_lt (Nat.lt_succ_self _)
 have hCle:s2.heap.objs.size<=G.objs.size:=by rw[hC];exact Nat.le_succ _
 have below:∀b,b<s2.heap.objs.size->b≠G.objs.size/\b≠s2.heap.objs.size:=fun b hb=>⟨by rw[hC];exact Nat.ne_of_lt (Nat.lt_succ_of_lt hb),Nat.ne_of_lt hb⟩
 have old:∀b o,s2.heap.get? b=some o->h₁.get? b=some o:=fun b o e=>hsb₁.extBut b o (below b (Heap.lt_size e)).1 (Heap.get?_push_of_some _ (hH2 ▸ Heap.get?_push_of_some _ e))
 have hobj:h₁.get? s2.heap.objs.size=some { cls:=.type "list",dict:=none,data:=.seq ([]:List Value).toArray }:=hsb₁.extBut _ _ hDC (Heap.get?_push_of_some _ (hH2 ▸ Heap.get?_push_size _ rfl))
 have hclin:∀x c,(clos X.env.cells scope.names []).lookup x=some c->X.env.cells.lookup x=some c:=fun x c h=>CP hfr (fun _ _ z=>by simp at z) h
 have cellt:∀x c,(clos X.env.cells scope.names []).lookup x=some c->c<s2.heap.objs.size:=fun x c h=>by
  obtain⟨v,o,ho,_⟩:=I2.cell x c (hclin x c h)
  exact Heap.lt_size ho
 have fplt:∀b∈fp,b<s2.heap.objs.size:=fun b hb=>by
  obtain⟨o,ho,_⟩:=T.obj 0 _ st2 b hb
  exact Heap.lt_size ho
 have Hn:∀a,s2.heap.objs.size<=a->H2 a=none:=fun a ha=>I2.hok.fresh ha
 obtain⟨W,⟨m0,w0⟩,turn⟩:=hW s2.heap.objs.size (Hn _ (Nat.le_refl _))
 have okc:(bD X N scope (clos X.env.cells scope.names []) G.objs.size fp s2 H2).Ok:=by
  refine⟨I2.ok.mod,by show(relabel scope X.env).kind=_;exact hkind,I2.ok.glob,I2.ok.blt,hCle,fun x y c h1 h2=>?_,fun x hx=>?_,fun _ _ z=>(by cases z),I2.ok.hd,I2.ok.frames,.inl rfl,fun b hb=>⟨?_,fun x c h z=>?_⟩,I2.bs,Nat.le_trans I2.ok.bsz I2.sz,fun b o e hb=>?_,fun b hb z=>?_,I2.stack,I2.stkFree⟩
  ·exact I2.ok.inj x y c (hclin x c h1) (hclin y c h2)
  ·exact uQ (hhas x hx)
  ·exact(below b (fplt b hb)).1
  ·exact(f2 b hb).2.2.2.2.1 x c (hclin x c h) z
  ·rcases (f2 b hb).2.2.2.1 with z |z
   ·exact I2.ok.noex b o e z
   ·exact absurd (Nat.lt_of_lt_of_le (Heap.lt_size e) (Nat.le_trans I2.ok.bsz z)) (Nat.lt_irrefl _)
  ·rcases List.mem_cons.mp (I2.stkSub b z) with e |e
   ·exact(f2 b hb).2.1 e
   ·exact(f2 b hb).2.2.1 e
 have Hfree:∀b,b≠s2.heap.objs.size->H2 b=none->(upd H2 s2.heap.objs.size (.lst [])) b=none:=fun b h1 h2=>by rw[aC h1];exact h2
 have I3:Inv (bD X N scope (clos X.env.cells scope.names []) G.objs.size fp s2 H2) [] (inner μ σ) (upd H2 s2.heap.objs.size (.lst [])) { s2 with heap:=h₁,toks:=s2.toks+([]:List (Str×Value)).length }:=by
  refine⟨okc,rfl,I2.bare,Un.laid old (Nat.le_refl _) (Hn _ (Nat.le_refl _)),⟨_,hns₁,fun i x v e1 e2 e3=>?_⟩,fun x c h=>?_,Hfree _ hDC.symm (Hn _ hCle),fun x c h=>(I2.freeC x c (hclin x c h)).elim (fun z=>.inl (Hfree _ (below c (cellt x c h)).2 z)) (fun⟨_,o1,b1,z⟩=>.inr ⟨rfl,o1,b1,by rw[aC (below c (cellt x c h)).2];exact z⟩),fun p hp=>absurd (show p∈([]:List (Addr×Obj)) from hp) (by simp),I2.hok.laid old (Nat.le_refl _) ⟨by decide,[],0,.nil,hobj⟩,?_⟩
  ·have e1':N[i]? = some x:=e1
   have e2':(μ.map fun o=>o.bind fun j=>(σ[j]?).join)[i]? = some (some v):=e2
   rw[List.getElem?_map] at e2'
   cases q:μ[i]? with
   | none=>rw[q] at e2';cases e2'
   | some o =>
    rw[q] at e2'
    cases o with
    | none=>cases e2'
    | some j =>
     have e4:(σ[j]?).join=some v:=Option.some.inj e2'
     have e5:σ[j]? = some (some v):=by
      cases z:σ[j]? with
      | none=>rw[z] at e4;cases e4
      | some y=>rw[z] at e4;cases y with
       | none=>cases e4
       | some y=>rw[show y=v from Option.some.inj e4]
     obtain⟨a1,a2,a3⟩:=nH.get hμ q e1'
     obtain⟨m,hn,hl⟩:=I2.loc
     obtain⟨u,r,l⟩:=hl j x v a1 e5 (.inr (.inl a2))
     refine⟨u,r,?_⟩
     rcases l with⟨k,_⟩ |⟨_,c,hcc,hce⟩
     ·exact absurd ((show X.env.scope.names.lookup x=some .local from k).symm.trans a2) (by intro z;cases z)
     ·obtain⟨c',hc'⟩:∃c,(clos X.env.cells scope.names []).lookup x=some c:=uQ (hhas x a3)
      have ec:c'=c:=Option.some.inj ((hclin x c' hc').symm.trans hcc)
      subst ec
      exact .inr ⟨a3,c',hc',hce.keeps old⟩
  ·obtain⟨v,z⟩:=I2.cell x c (hclin x c h)
   exact⟨v,z.keeps old⟩
  ·show(μ.map _).length=N.length
   rw[List.length_map]
   have q:=hμ
   unfold nH at q
   rw[Bool.and_eq_true] at q
   exact of_decide_eq_true q.1
 have fin:∀{σ':St} {H':Hp} {s':Shared},Inv (bD X N scope (clos X.env.cells scope.names []) G.objs.size fp s2 H2) [] σ' H' s'->Q (.ref s2.heap.objs.size) H'->RR (.ref s2.heap.objs.size) G.objs.size (.ok .next) s':=fun {σ' H' s'} I4 q=>by
  have I5:Inv X pins σ H' s':=I2.call' (ch:=fp) I4.os I4.base I4.hok I4.bare fun b hb=>⟨(f2 b hb).2.2.2.1,(f2 b hb).2.1,(f2 b hb).2.2.2.2.1,(f2 b hb).2.2.2.2.2⟩
  obtain⟨m,hn,_⟩:=I4.loc
  have hn':s'.heap.Ns G.objs.size m:=hn
  refine hRR _ _ s' H' m I5 hn' ⟨I4.free,Nat.ne_of_gt (Nat.lt_of_lt_of_le I2.lt hCle),I2.nofs hCle,.inr (Nat.le_trans I2.sz hCle),fun x c h z=>?_,fun p hp z=>?_⟩ q
  ·obtain⟨v,o,ho,_⟩:=I2.cell x c h
   exact(below c (Heap.lt_size ho)).1 z
  ·exact(below p.1 (Heap.lt_size (I2.pin p hp).1)).1 z
 have stat:∀{H':Hp},(∀b∈fp,H' b=none)->∀b∈fp,mq (bD X N scope (clos X.env.cells scope.names []) G.objs.size fp s2 H2) [] H' b:=fun {H'} hn b hb=>by
  refine⟨hn b hb,(below b (fplt b hb)).1,fun z=>?_,.inl hb,fun x c h z=>(f2 b hb).2.2.2.2.1 x c (hclin x c h) z,fun p hp=>absurd (show p∈([]:List (Addr×Obj)) from hp) (by simp)⟩
  exact okc.exfs b hb z
 have loop:codeAny (model X.prog X.w) X.A (.compLoop (.ListComp elt [⟨tg,iter,ifs,0⟩] scope pos) 0 (.ref it) (.ref s2.heap.objs.size) (compEnvC scope (clos X.env.cells scope.names []) G.objs.size X.env))
   (RR (.ref s2.heap.objs.size) G.objs.size) { s2 with heap:=h₁,toks:=s2.toks+([]:List (Str×Value)).length }:=by
  refine Cp (fun n s'=>∃i σ' H',Inv (bD X N scope (clos X.env.cells scope.names []) G.objs.size fp s2 H2) [] σ' H' s'/\tn i s'.heap/\(∀b∈fp,H' b=none)/\W i n σ' H') ?_ m0
   ⟨0,inner μ σ,_,I3,T.keep _ _ _ st2 (fun b hb o e=>old b o e),fun b hb=>Hfree b (below b (fplt b hb)).2 (f2 b hb).1,w0⟩
  rintro n s3 ⟨i,σ3,H3,I3,st3,fr3,w3⟩
  rcases turn i n σ3 H3 w3 with⟨stop,qn⟩ |⟨go,Nn,hN,step⟩
  ·refine thn (T.done (bD X N scope (clos X.env.cells scope.names []) G.objs.size fp s2 H2) rfl rfl rfl hc i [] s3 σ3 H3 _ I3 (stat fr3) st3 stop) fun r s4 ⟨hr,I4⟩=>?_
   subst hr
   exact fin I4 qn
  ·refine thn (T.item (bD X N scope (clos X.env.cells scope.names []) G.objs.size fp s2 H2) rfl rfl rfl hc i [] s3 σ3 H3 _ I3 (stat fr3) st3 go) fun r s4 ⟨u,hr,h4⟩=>?_
   subst hr
   refine thn h4 fun _ s5 hw'=>?_
   obtain⟨x,H5,I5,r5,y5,st5,fr5⟩:=hw'
   have I5':=I5.pinned (stat fr5) (T.obj _ _ st5)
   have again:∀{σ7:St} {H7:Hp} {s7:Shared},Inv (bD X N scope (clos X.env.cells scope.names []) G.objs.size fp s2 H2) ([]++rW fp s5.heap) σ7 H7 s7->Nn σ7 H7 ->
     ∃m,m<n/\∃i σ' H',Inv (bD X N scope (clos X.env.cells scope.names []) G.objs.size fp s2 H2) [] σ' H' s7/\tn i s7.heap/\(∀b∈fp,H' b=none)/\W i m σ' H':=fun {σ7 H7 s7} I7 n7=>by
    obtain⟨m',hm,w7⟩:=hN σ7 H7 n7
    refine⟨m',hm,i+1,σ7,H7,I7.unpinned,T.keep _ _ _ st5 fun b hb o e=>(I7.pin (b,o) (List.mem_append_right _ (List.mem_append_right _ (nQ hb e)))).1,fun b hb=>?_,w7⟩
    obtain⟨o,e,d⟩:=T.obj _ _ st5 b hb
    exact(I7.pin (b,o) (List.mem_append_right _ (List.mem_append_right _ (nQ hb e)))).2.1
   refine thn (hg G.objs.size s2 H2 _ s5 σ3 H5 x u _ I5' r5 (step x H5 y5)) fun _ s6 hw'=>?_
   obtain⟨σ6,H6,I6,q6⟩:=hw'
   refine thn (ht G.objs.size s2 H2 _ s6 σ6 H6 _ I6 q6) fun ok s7 ⟨H7,I7,q7⟩=>?_
   cases ok with
   | false =>
    rw[if_neg (by decide)] at q7 ⊢
    exact again I7 q7
   | true =>
    rw[if_pos rfl] at q7 ⊢
    refine thn (he G.objs.size s2 H2 _ s7 σ6 H7 _ I7 q7) fun u8 s8 hw'=>?_
    obtain⟨y,H8,I8,r8,ys,e8,l8,q8⟩:=hw'
    have ma:=sr (X:=bD X N scope (clos X.env.cells scope.names []) G.objs.size fp s2 H2) _ s8 σ6 H8 (.ref s2.heap.objs.size) [y] (.ref s2.heap.objs.size) [u8]
     (fun _ H9=>Nn σ6 H9) I8 rfl (.cons r8 .nil) ⟨_,ys,y,rfl,rfl,e8,l8,q8⟩
    exact thn ma fun _ s9 ⟨_,H9,I9,_,q9⟩=>again I9 q9
 exact codeAny_compStart_list loop (T.self _ 0 _ _ _ (T.keep _ _ _ st2 (fun b hb o e=>old b o e)) loop)
theorem xj{wi:TI}(hc:X.calm=true)(hcell:∀y∈scope.names,y.2 ≠ .cell)(hkind:scope.kind=.function)(hnames:∀y∈scope.names,y.2=.local->scope.names.lookup y.1=some .local)
  (hfree:∀y∈scope.names,y.2=.free->X.env.kindOf y.1=some .cell\/X.env.kindOf y.1=some .free)
  (hhas:∀x,((relabel scope X.env).names.lookup x=some .cell\/(relabel scope X.env).names.lookup x=some .free)->(x,NameKind.free)∈scope.names)
  (hμ:nH X.N X.env.scope N (relabel scope X.env) μ=true) (hi:PI X tg iter wi)
  (hg:∀fp C s H,PG (bD X N scope (clos X.env.cells scope.names []) C fp s H) tg g) (ht:∀fp C s H,PTs (bD X N scope (clos X.env.cells scope.names []) C fp s H) ifs tt) (he:∀fp C s H,PE (bD X N scope (clos X.env.cells scope.names []) C fp s H) elt te)
  (hs:∀x,foldedSetIterable iter X.env x=pure x:=by intro _;rfl):PE X (.ListComp elt [⟨tg,iter,ifs,0⟩] scope pos) (vO μ wi g tt te):=by
 intro pins s σ H Q I h
 have hfr:∀y∈scope.names,y.2=.free->∃c,X.env.cells.lookup y.1=some c:=fun y hy hk=>I.ok.has y.1 (hfree y hy hk)
 rw[eval_ListComp]
 refine wpAny_comprehension_free (use:=none) rfl hs (vN hfr) hkind hnames (thn (hi pins s σ H _ I h) fun v s1 h1=>thn h1 fun itv s2 h2=>?_)
 obtain⟨it,fp,tn,J,H2,rfl,I2,T,st2,f2,W⟩:=h2
 refine yD (RR:=fun acc C=>compPost (model X.prog X.w) X.A X.xe none (EP X pins σ Q) acc C) I2 T st2 f2 hc hcell hkind hfr hhas hμ (hg fp) (ht fp) (he fp) W ?_
 intro p C s' H' m I' hn fc q
 exact⟨m,hn,fun h' hsb=>⟨.ref p,H',I'.turned (t':=s'.toks) (fun b o ne e=>(hsb.2 b ne).trans e) fc.1 (Ne.symm fc.2.1).symm fc.2.2.2.1 fc.2.2.2.2.1 fc.2.2.2.2.2,rfl,q⟩⟩
theorem Nr{wi:TI}{i:Nat}{y:Str}{py spos:Pos}(hN:X.N.Nodup)(hiN:X.N[i]? = some y)(hx:Loc X.env.scope y)(hc:X.calm=true)(hcell:∀y∈scope.names,y.2 ≠ .cell)(hkind:scope.kind=.function)(hnames:∀y∈scope.names,y.2=.local->scope.names.lookup y.1=some .local)
  (hfree:∀y∈scope.names,y.2=.free->X.env.kindOf y.1=some .cell\/X.env.kindOf y.1=some .free)
  (hhas:∀x,((relabel scope X.env).names.lookup x=some .cell\/(relabel scope X.env).names.lookup x=some .free)->(x,NameKind.free)∈scope.names)
  (hμ:nH X.N X.env.scope N (relabel scope X.env) μ=true) (hi:PI X tg iter wi)
  (hg:∀fp C s H,PG (bD X N scope (clos X.env.cells scope.names []) C fp s H) tg g) (ht:∀fp C s H,PTs (bD X N scope (clos X.env.cells scope.names []) C fp s H) ifs tt) (he:∀fp C s H,PE (bD X N scope (clos X.env.cells scope.names []) C fp s H) elt te)
  (hsw:swapsWith (.ListComp elt [⟨tg,iter,ifs,0⟩] scope pos) (some (.Name y py)) spos.line X.env=pure true:=by rfl)
  (hf:X.fn y=true\/X.env.scope.names.lookup y=some .local:=by first |exact .inl rfl |exact .inr rfl |assumption)
  (hs:∀x,foldedSetIterable iter X.env x=pure x:=by intro _;rfl):PS X (.Assign [.Name y py] (.ListComp elt [⟨tg,iter,ifs,0⟩] scope pos) spos) (DQ (vO μ wi g tt te) (vH i)):=by
 intro pins s σ H D I h
 have hfr:∀y∈scope.names,y.2=.free->∃c,X.env.cells.lookup y.1=some c:=fun y hy hk=>I.ok.has y.1 (hfree y hy hk)
 rw[exec_Assign_Name_used _ _ _ _ hsw]
 refine wpAny_bind (wpAny_standAt (wpAny_bind ?_))
 show wpAny _ _ (do let _ <-comprehension (.ListComp elt [⟨tg,iter,ifs,0⟩] scope pos) scope X.env _ (newList []) false (eval iter X.env) (some (assign (.Name y py) X.env))) _ _ s
 refine wpAny_bind (wpAny_mono (wpAny_comprehension_free (use:=some (assign (.Name y py) X.env)) (Q:=fun _ s'=>SP X pins D .next s') rfl hs (vN hfr) hkind hnames
  (thn (hi pins s σ H _ I h) fun v s1 h1=>thn h1 fun itv s2 h2=>?_)) (fun _ s' hq=>wpAny_pure (wpAny_pure hq)) fun _ _ e=>e)
 obtain⟨it,fp,tn,J,H2,rfl,I2,T,st2,f2,W⟩:=h2
 refine yD (RR:=fun acc C=>compPost (model X.prog X.w) X.A X.xe (some (assign (.Name y py) X.env)) (fun _ s'=>SP X pins D .next s') acc C) I2 T st2 f2 hc hcell hkind hfr hhas hμ (hg fp) (ht fp) (he fp) W ?_
 intro p C s' H' m I' hn fc q
 show wpAny _ _ (assign (.Name y py) X.env (.ref p)) _ _ s'
 refine wpAny_assign_Name (rT (v:=.ref p) I' hN hiN hx rfl (fun s'' I'' hsm=>?_) hf)
 obtain⟨a,sb,ha⟩:=hsm
 have ne:C≠a:=by
  rcases ha with ha |ha
  ·rw[ha];exact fc.2.1
  ·exact(fc.2.2.2.2.1 y a ha).symm
 exact⟨m,hn.sameBut sb ne,fun h' hsb=>⟨_,H',I''.turned (t':=s''.toks) (fun b o ne e=>(hsb.2 b ne).trans e) fc.1 fc.2.1 fc.2.2.2.1 fc.2.2.2.2.1 fc.2.2.2.2.2,q⟩⟩
end
end L2
namespace DL
open PySem PySem.Spec PyProof.Rows L2
noncomputable abbrev St:=L2.St
inductive D where
 | non |bl (b:Bool) |int (i:Int) |str (x:Str) |tup (xs:List D) |lst (xs:List D) |scr (ns:List Int) |obj (n:Nat)
mutual
noncomputable def Is(K:PySem.W.Frag)(α:List Addr)(F:Hp):D->V->Prop
 | .non,v=>v=.non
 | .bl b,v=>v=.bl b
 | .int i,v=>v=.int i
 | .str x,v=>v=.str x
 | .tup xs,v=>∃a vs,v=.ref a/\F a=some (.tup vs)/\IsL K α F xs vs
 | .lst xs,v=>∃a vs,v=.ref a/\F a=some (.lst vs)/\IsL K α F xs vs
 | .scr ns,v=>∃a,v=.ref a/\SqL K F a (ns.map V.int)
 | .obj n,v=>∃a,α[n]? = some a/\v=.ref a
noncomputable def IsL(K:PySem.W.Frag)(α:List Addr)(F:Hp):List D->List V->Prop
 | [],vs=>vs=[]
 | d::ds,vs=>∃v r,vs=v::r/\Is K α F d v/\IsL K α F ds r
end
section
variable {K:PySem.W.Frag} {α α':List Addr} {F F':Hp}
mutual
theorem Is.mono(ff:bC F F')(al:∃more,α'=α++more):∀(d:D) {v:V},Is K α F d v->Is K α' F' d v
 | .non,_,h=>by rw[Is] at h ⊢;exact h
 | .bl _,_,h=>by rw[Is] at h ⊢;exact h
 | .int _,_,h=>by rw[Is] at h ⊢;exact h
 | .str _,_,h=>by rw[Is] at h ⊢;exact h
 | .tup xs,_,h=>by
  rw[Is] at h ⊢
  obtain⟨a,vs,e,q,r⟩:=h
  exact⟨a,vs,e,ff _ _ q,IsL.mono ff al xs r⟩
 | .lst xs,_,h=>by
  rw[Is] at h ⊢
  obtain⟨a,vs,e,q,r⟩:=h
  exact⟨a,vs,e,ff _ _ q,IsL.mono ff al xs r⟩
 | .scr ns,_,h=>by
  rw[Is] at h ⊢
  obtain⟨a,e,q⟩:=h
  exact⟨a,e,ff.seq q⟩
 | .obj n,_,h=>by
  rw[Is] at h ⊢
  obtain⟨a,e,q⟩:=h
  obtain⟨more,rfl⟩:=al
  refine⟨a,?_,q⟩
  rw[List.getElem?_append_left (List.getElem?_eq_some_iff.mp e).1]
  exact e
theorem IsL.mono(ff:bC F F')(al:∃more,α'=α++more):∀(ds:List D) {vs:List V},IsL K α F ds vs->IsL K α' F' ds vs
 | [],_,h=>by rw[IsL] at h ⊢;exact h
 | d::ds,_,h=>by
  rw[IsL] at h ⊢
  obtain⟨v,r,e,h1,h2⟩:=h
  exact⟨v,r,e,Is.mono ff al d h1,IsL.mono ff al ds h2⟩
end
theorem IsL.nil:IsL K α F [] []:=by rw[IsL]
theorem IsL.cons{d:D}{v:V}{ds:List D}{vs:List V}(h:Is K α F d v)(r:IsL K α F ds vs):IsL K α F (d::ds) (v::vs):=by rw[IsL];exact⟨v,vs,rfl,h,r⟩
theorem IsL.of_nil{vs:List V}(h:IsL K α F [] vs):vs=[]:=by rw[IsL] at h;exact h
theorem IsL.of_cons{d:D}{ds:List D}{vs:List V}(h:IsL K α F (d::ds) vs):∃v r,vs=v::r/\Is K α F d v/\IsL K α F ds r:=by rw[IsL] at h;exact h
theorem IsL.length:∀{ds:List D} {vs:List V},IsL K α F ds vs->ds.length=vs.length
 | [],vs,h=>by rw[h.of_nil];rfl
 | d::ds,vs,h=>by
  obtain⟨v,r,rfl,_,t⟩:=h.of_cons
  rw[List.length_cons,List.length_cons,t.length]
theorem IsL.append:∀{ds es:List D} {vs us:List V},IsL K α F ds vs->IsL K α F es us->IsL K α F (ds++es) (vs++us)
 | [],_,_,_,h,q=>by rw[h.of_nil];exact q
 | d::ds,es,vs,us,h,q=>by
  obtain⟨v,r,rfl,h1,t⟩:=h.of_cons
  exact .cons h1 (t.append q)
theorem IsL.take:∀{ds:List D} {vs:List V} (n:Nat),IsL K α F ds vs->IsL K α F (ds.take n) (vs.take n)
 | [],_,n,h=>by rw[h.of_nil,List.take_nil,List.take_nil];exact .nil
 | d::ds,vs,0,h=>by rw[List.take_zero,List.take_zero];exact .nil
 | d::ds,vs,n+1,h=>by
  obtain⟨v,r,rfl,h1,t⟩:=h.of_cons
  exact .cons h1 (t.take n)
theorem IsL.drop:∀{ds:List D} {vs:List V} (n:Nat),IsL K α F ds vs->IsL K α F (ds.drop n) (vs.drop n)
 | [],_,n,h=>by rw[h.of_nil,List.drop_nil,List.drop_nil];exact .nil
 | d::ds,vs,0,h=>h
 | d::ds,vs,n+1,h=>by
  obtain⟨v,r,rfl,h1,t⟩:=h.of_cons
  exact t.drop n
theorem IsL.get:∀{ds:List D} {vs:List V} {i:Nat} {d:D},IsL K α F ds vs->ds[i]? = some d->∃v,vs[i]? = some v/\Is K α F d v
 | [],_,_,_,_,e=>by simp at e
 | d::ds,vs,0,x,h,e=>by
  obtain⟨v,r,rfl,h1,t⟩:=h.of_cons
  rw[List.getElem?_cons_zero] at e
  cases e
  exact⟨v,rfl,h1⟩
 | d::ds,vs,i+1,x,h,e=>by
  obtain⟨v,r,rfl,h1,t⟩:=h.of_cons
  rw[List.getElem?_cons_succ] at e
  obtain⟨u,e1,q⟩:=t.get e
  exact⟨u,by rw[List.getElem?_cons_succ];exact e1,q⟩
theorem IsL.rep{ds:List D}{vs:List V}(h:IsL K α F ds vs):∀n:Nat,IsL K α F (List.replicate n ds).flatten (List.replicate n vs).flatten
 | 0=>.nil
 | n+1=>by
  rw[List.replicate_succ,List.replicate_succ,List.flatten_cons,List.flatten_cons]
  exact h.append (h.rep n)
theorem IsL.ints:∀(ns:List Int),IsL K α F (ns.map D.int) (ns.map V.int)
 | []=>.nil
 | n::ns=>.cons (by rw[Is]) (IsL.ints ns)
end
structure E4 where
 α:List Addr
 F:Hp
 A:Addr->Prop
 H:Hp
structure Ext(e e':E4):Prop where
 fz:∀b o u,e.H b=some (.frz o u)->e'.H b=some (.frz o u)
 hk:∀b o,e.H b=some o->¬e.A b->e'.H b=some o
 dm:∀b o,e.H b=some o->∃o',e'.H b=some o'
 ff:bC e.F e'.F
 fn:∀b o,e'.F b=some o->e.F b=some o\/e.H b=none\/((∃xs,o=.tup xs)/\e.H b=some o/\¬e.A b)
 an:∀b,e'.A b->e.A b\/e.H b=none
 aa:∀b,e.A b->e'.A b
 al:∃more,e'.α=e.α++more
theorem Ext.refl(e:E4):Ext e e:=⟨fun _ _ _ h=>h,fun _ _ h _=>h,fun _ o h=>⟨o,h⟩,bC.refl _,fun _ _ h=>.inl h,fun _ h=>.inl h,fun _ h=>h,[],by simp⟩
theorem Ext.back{e e':E4}(x:Ext e e'){b:Addr}(h:e'.H b=none):e.H b=none:=by
 cases q:e.H b with
 | none=>rfl
 | some o=>obtain⟨o',z⟩:=x.dm b o q;rw[h] at z;cases z
theorem Ext.trans{a b c:E4}(x:Ext a b)(y:Ext b c):Ext a c:=by
 refine⟨fun p o u h=>y.fz p o u (x.fz p o u h),fun p o h hn=>y.hk p o (x.hk p o h hn) fun z=>?_,fun p o h=>?_,x.ff.trans y.ff,fun p o h=>?_,fun p h=>?_,fun p h=>y.aa p (x.aa p h),?_⟩
 ·rcases x.an p z with q |q
  ·exact hn q
  ·rw[q] at h;cases h
 ·obtain⟨o',h'⟩:=x.dm p o h
  exact y.dm p o' h'
 ·rcases y.fn p o h with q |q |⟨q1,q2,q3⟩
  ·exact x.fn p o q
  ·exact .inr (.inl (x.back q))
  ·have n:¬a.A p:=fun z=>q3 (x.aa p z)
   cases z:a.H p with
   | none=>exact .inr (.inl rfl)
   | some o' =>
    have z':=x.hk p o' z n
    rw[q2] at z'
    cases z'
    exact .inr (.inr ⟨q1,rfl,n⟩)
 ·rcases y.an p h with q |q
  ·exact x.an p q
  ·exact .inr (x.back q)
 ·obtain⟨m,e1⟩:=x.al
  obtain⟨n,e2⟩:=y.al
  exact⟨m++n,by rw[e2,e1,List.append_assoc]⟩
theorem Ext.keepOwn{e e':E4}(x:Ext e e'){a:Addr}{vs:List V}(h:e.H a=some (.lst vs))(hF:e.F a=none)(hA:¬e.A a):e'.H a=some (.lst vs)/\e'.F a=none/\¬e'.A a:=by
 refine⟨x.hk a _ h hA,?_,fun z=>?_⟩
 ·cases z:e'.F a with
  | none=>rfl
  | some o =>
   rcases x.fn a o z with y |y |⟨⟨xs,rfl⟩,y,_⟩
   ·rw[hF] at y;cases y
   ·rw[h] at y;cases y
   ·rw[h] at y;cases y
 ·rcases x.an a z with y |y
  ·exact hA y
  ·rw[h] at y;cases y
inductive OS where
 | mls (xs:List D) |dead |exc (c:Str) |ins (c:Str) (fs:List (Str×D)) |fzK (kvs:List (Key×D)) |dK (kvs:List (Key×D)) |dT (kvs:List (List Key×D))
 | tab (l:Str) (pos:Pos) (q:Str) |clo (l q x:Str) (m:Nat)
noncomputable def cG(K:PySem.W.Frag)(α:List Addr)(F:Hp){κ:Type}:List (κ×D)->List (κ×V)->Prop
 | [],vs=>vs=[]
 | p::r,vs=>∃v t,vs=(p.1,v)::t/\Is K α F p.2 v/\cG K α F r t
theorem cG.mono{K:PySem.W.Frag}{α α':List Addr}{F F':Hp}{κ:Type}(ff:bC F F')(al:∃more,α'=α++more):∀{ps:List (κ×D)} {vs:List (κ×V)},cG K α F ps vs->cG K α' F' ps vs
 | [],_,h=>h
 | p::r,_,⟨v,t,e,i,q⟩=>⟨v,t,e,Is.mono ff al _ i,cG.mono ff al q⟩
noncomputable abbrev Cl:=Str->Option Addr
noncomputable def isDef:Stmt->Bool
 | .FunctionDef .. => true
 | _=>false
noncomputable def Rh(K:PySem.W.Frag)(x:Str):Option Stmt:=match PySem.W.nsIn K mainGlobals x with
 | some (some (.ref f))=>(match K.lookup f with
  | some ⟨_,_,.func fd,_⟩=>(match fd.body with
   | .stmts b=>b.find? isDef
   | _=>none)
  | _=>none)
 | _=>none
noncomputable def uR(K:PySem.W.Frag)(C:Cl)(e:E4)(a:Addr):OS->Prop
 | .mls xs=>∃vs,e.H a=some (.lst vs)/\IsL K e.α e.F xs vs
 | .dead=>True
 | .exc c=>∃Ca ob u,C c=some Ca/\e.H a=some (.frz ob u)/\ob.cls=.ref Ca
 | .ins c fs=>∃Ca dx fvs,C c=some Ca/\e.H a=some (.ins Ca dx fvs)/\cG K e.α e.F fs fvs
 | .fzK kvs=>∃vs o,e.H a=some (.frz o (.dK vs))/\cG K e.α e.F kvs vs
 | .dK kvs=>∃vs,e.H a=some (.dK vs)/\cG K e.α e.F kvs vs
 | .dT kvs=>∃vs,e.H a=some (.dT vs)/\cG K e.α e.F kvs vs
 | .tab l pos q=>∃cd,PySem.W.tabIn K l=some (cd,a)/\(e.H a=some (.tbl #[])\/∃c' ob,e.H a=some (.tbl #[rawInt pos.line,rawInt pos.col,.ref c'])/\e.F c'=some (.frz ob (.own 0))/\∃vs t,ob.data=.fields vs/\vs[1]? = some (.str q t))
 | .clo l q x m=>∃st c am c' nm doc pm ctv cob ob,Rh K l=some st/\e.H a=some (.frz { cls:=.type "function",data:=.func (PySem.W.fnX nm q (bA st) (bh st) (aB st) [(x,c)] .none .none doc pm none (.ref c') ctv) } (.own 0)) /\
   e.F c=some (.frz cob (.own a))/\cob.data=.cell (some (.ref am))/\e.α[m]? = some am/\e.F c'=some (.frz ob (.own 0))/\∃vs t,ob.data=.fields vs/\vs[1]? = some (.str q t)
structure Wf(K:PySem.W.Frag)(C:Cl)(e:E4)(Ω:List OS):Prop where
 fh:bC e.F e.H
 fa:∀b,e.A b->e.F b=none
 ah:∀b,e.A b->e.H b≠none/\∀xs,e.H b≠some (.tup xs)
 ol:e.α.length=Ω.length
 nd:e.α.Nodup
 ob:∀(n:Nat) (a:Addr) (o:OS),e.α[n]? = some a->Ω[n]? = some o->e.A a/\uR K C e a o
section
variable {K:PySem.W.Frag} {C:Cl} {e e':E4} {Ω Ω':List OS}
theorem Is.ext(x:Ext e e'){d:D}{v:V}(h:Is K e.α e.F d v):Is K e'.α e'.F d v:=Is.mono x.ff x.al d h
theorem IsL.ext(x:Ext e e'){d:List D}{v:List V}(h:IsL K e.α e.F d v):IsL K e'.α e'.F d v:=IsL.mono x.ff x.al d h
noncomputable def E4.new(e:E4)(p:Addr)(o:HO):E4:=⟨e.α,upd e.F p o,e.A,upd e.H p o⟩
theorem Wf.nF(w:Wf K C e Ω){p:Addr}(hp:e.H p=none):e.F p=none:=by
 cases q:e.F p with
 | none=>rfl
 | some o=>rw[w.fh p o q] at hp;cases hp
theorem Wf.new_ext(w:Wf K C e Ω){p:Addr}{o:HO}(hp:e.H p=none):Ext e (e.new p o):=by
 refine⟨fun b o' u h=>?_,fun b u h _=>?_,fun b u h=>⟨u,?_⟩,fun b u h=>?_,fun b u h=>?_,fun b h=>.inl h,fun b h=>h,[],by simp[E4.new]⟩
 ·show upd e.H p o b=some (.frz o' u);rw[aC (aM h hp)];exact h
 ·show upd e.H p o b=some u;rw[aC (aM h hp)];exact h
 ·show upd e.H p o b=some u;rw[aC (aM h hp)];exact h
 ·show upd e.F p o b=some u;rw[aC (aM h (w.nF hp))];exact h
 ·have h:upd e.F p o b=some u:=h
  by_cases hb:b=p
  ·subst hb;exact .inr (.inl hp)
  ·rw[aC hb] at h;exact .inl h
theorem uR.keep{a:Addr}{o:OS}(h:uR K C e a o)(hH:∀u,e.H a=some u->e'.H a=some u)(ff:bC e.F e'.F)(al:∃more,e'.α=e.α++more):uR K C e' a o:=by
 cases o with
 | mls xs=>obtain⟨vs,h1,h2⟩:=h;exact⟨vs,hH _ h1,IsL.mono ff al xs h2⟩
 | dead=>trivial
 | exc c=>obtain⟨Ca,ob,u,h1,h2,h3⟩:=h;exact⟨Ca,ob,u,h1,hH _ h2,h3⟩
 | ins c fs=>obtain⟨Ca,dx,fvs,h1,h2,h3⟩:=h;exact⟨Ca,dx,fvs,h1,hH _ h2,h3.mono ff al⟩
 | fzK kvs=>obtain⟨vs,ob,h1,h2⟩:=h;exact⟨vs,ob,hH _ h1,h2.mono ff al⟩
 | dK kvs=>obtain⟨vs,h1,h2⟩:=h;exact⟨vs,hH _ h1,h2.mono ff al⟩
 | dT kvs=>obtain⟨vs,h1,h2⟩:=h;exact⟨vs,hH _ h1,h2.mono ff al⟩
 | tab l pos q =>
  obtain⟨cd,h0,h1 |⟨c',ob,h1,h2,h3⟩⟩:=h
  ·exact⟨cd,h0,.inl (hH _ h1)⟩
  ·exact⟨cd,h0,.inr ⟨c',ob,hH _ h1,ff _ _ h2,h3⟩⟩
 | clo l q x m =>
  obtain⟨st,c,am,c',nm,doc,pm,ctv,cob,ob,h0,h1,h2,h3,h4,h5,h6⟩:=h
  refine⟨st,c,am,c',nm,doc,pm,ctv,cob,ob,h0,hH _ h1,ff _ _ h2,h3,?_,ff _ _ h5,h6⟩
  obtain⟨more,z⟩:=al
  rw[z,List.getElem?_append_left (List.getElem?_eq_some_iff.mp h4).1]
  exact h4
theorem Wf.new(w:Wf K C e Ω){p:Addr}{o:HO}(hp:e.H p=none):Wf K C (e.new p o) Ω:=by
 have x:Ext e (e.new p o):=w.new_ext hp
 have ne:∀b,e.A b->b≠p:=fun b h z=>by subst z;exact(w.ah b h).1 hp
 refine⟨fun b u h=>?_,fun b h=>?_,fun b h=>?_,w.ol,w.nd,fun n a u h1 h2=>⟨(w.ob n a u h1 h2).1,(w.ob n a u h1 h2).2.keep (fun v hv=>?_) x.ff x.al⟩⟩
 ·have h:upd e.F p o b=some u:=h
  show upd e.H p o b=some u
  by_cases hb:b=p
  ·subst hb;rw[aJ] at h ⊢;exact h
  ·rw[aC hb] at h ⊢;exact w.fh b u h
 ·show upd e.F p o b=none
  rw[aC (ne b h)];exact w.fa b h
 ·show upd e.H p o b≠none/\∀xs,upd e.H p o b≠some (.tup xs)
  rw[aC (ne b h)];exact w.ah b h
 ·show upd e.H p o a=some v
  rw[aC (ne a (w.ob n a u h1 h2).1)];exact hv
end
inductive Sl where
 | und |dat (d:D) |own (xs:List D)
structure RelE(K:PySem.W.Frag)(e:E4)(σ:St)(ρ:List Sl):Prop where
 len:σ.length=ρ.length
 dat:∀(i:Nat) (d:D),ρ[i]? = some (.dat d)->∃v,σ[i]? = some (some v)/\Is K e.α e.F d v
 own:∀(i:Nat) (ds:List D),ρ[i]? = some (.own ds)->∃a vs,σ[i]? = some (some (.ref a))/\e.H a=some (.lst vs)/\IsL K e.α e.F ds vs/\e.F a=none/\¬e.A a
 sep:∀(i j:Nat) (ds es:List D) (a:Addr),ρ[i]? = some (.own ds)->ρ[j]? = some (.own es)->σ[i]? = some (some (.ref a))->σ[j]? = some (some (.ref a))->i=j
section
variable {K:PySem.W.Frag} {C:Cl} {e e' e₀:E4} {Ω Ω':List OS} {σ:St} {ρ:List Sl}
theorem RelE.ext(r:RelE K e σ ρ)(x:Ext e e'):RelE K e' σ ρ:=by
 refine⟨r.len,fun i d h=>?_,fun i ds h=>?_,r.sep⟩
 ·obtain⟨v,e1,q⟩:=r.dat i d h
  exact⟨v,e1,q.ext x⟩
 ·obtain⟨a,vs,e1,e2,q,n1,n2⟩:=r.own i ds h
  obtain⟨z1,z2,z3⟩:=x.keepOwn e2 n1 n2
  exact⟨a,vs,e1,z1,q.ext x,z2,z3⟩
theorem RelE.set(r:RelE K e σ ρ)(i:Nat){d:D}{v:V}(h:Is K e.α e.F d v):RelE K e (σ.set i (some v)) (ρ.set i (.dat d)):=by
 refine⟨by simp[r.len],fun j d' hj=>?_,fun j ds hj=>?_,fun j k ds es a hj hk h1 h2=>?_⟩
 ·by_cases e1:i=j
  ·subst e1
   have hl:i<ρ.length:=by
    have:=(List.getElem?_eq_some_iff.mp hj).1
    simpa using this
   rw[List.getElem?_set_self hl] at hj
   cases hj
   exact⟨v,List.getElem?_set_self (by rw[r.len];exact hl),h⟩
  ·rw[List.getElem?_set_ne e1] at hj ⊢
   exact r.dat j d' hj
 ·by_cases e1:i=j
  ·subst e1
   have hl:i<ρ.length:=by
    have:=(List.getElem?_eq_some_iff.mp hj).1
    simpa using this
   rw[List.getElem?_set_self hl] at hj
   cases hj
  ·rw[List.getElem?_set_ne e1] at hj ⊢
   exact r.own j ds hj
 ·have ne:∀(j:Nat) (ds:List D),(ρ.set i (.dat d))[j]? = some (.own ds)->i≠j:=fun j ds hj e1=>by
   subst e1
   have hl:i<ρ.length:=by
    have:=(List.getElem?_eq_some_iff.mp hj).1
    simpa using this
   rw[List.getElem?_set_self hl] at hj
   cases hj
  have n1:=ne j ds hj
  have n2:=ne k es hk
  rw[List.getElem?_set_ne n1] at hj h1
  rw[List.getElem?_set_ne n2] at hk h2
  exact r.sep j k ds es a hj hk h1 h2
end
noncomputable abbrev Den:=List Sl->List OS->Option (D×List OS)
noncomputable abbrev bR:=List Sl->List OS->Option (Bool×List OS)
noncomputable abbrev bx:=List Sl->List OS->Option (List D×List OS)
noncomputable def tD(K:PySem.W.Frag)(C:Cl)(g:Den):TE:=fun σ H Q=>∃e Ω ρ d Ω',e.H=H/\Wf K C e Ω/\RelE K e σ ρ/\g ρ Ω=some (d,Ω')/\∀v e',Ext e e'->Wf K C e' Ω'->Is K e'.α e'.F d v->Q v e'.H
noncomputable def tDT(K:PySem.W.Frag)(C:Cl)(g:bR):TT:=fun σ H Q=>∃e Ω ρ b Ω',e.H=H/\Wf K C e Ω/\RelE K e σ ρ/\g ρ Ω=some (b,Ω')/\∀e',Ext e e'->Wf K C e' Ω'->Q b e'.H
noncomputable def tDA(K:PySem.W.Frag)(C:Cl)(g:bx):TA:=fun σ H Q=>∃e Ω ρ ds Ω',e.H=H/\Wf K C e Ω/\RelE K e σ ρ/\g ρ Ω=some (ds,Ω')/\∀vs e',Ext e e'->Wf K C e' Ω'->IsL K e'.α e'.F ds vs->Q vs e'.H
noncomputable def PD(X:Cx)(C:Cl)(x:Expr)(g:Den):Prop:=PE X x (tD X.K C g)
noncomputable def PDT(X:Cx)(C:Cl)(x:Expr)(g:bR):Prop:=PT X x (tDT X.K C g)
noncomputable def PDW(X:Cx)(C:Cl)(x:Expr)(g:bR):Prop:=PW X x (tDT X.K C g)
noncomputable def PDA(X:Cx)(C:Cl)(xs:List Expr)(g:bx):Prop:=PA X xs (tDA X.K C g)
section
variable {X:Cx} {C:Cl} {x:Expr}
theorem aY{t t':TE}(h:PE X x t)(i:∀σ H Q,t' σ H Q->t σ H Q):PE X x t':=fun pins s σ H Q I hw=>h pins s σ H Q I (i σ H Q hw)
theorem mU{t t':TT}(h:PT X x t)(i:∀σ H Q,t' σ H Q->t σ H Q):PT X x t':=fun pins s σ H Q I hw=>h pins s σ H Q I (i σ H Q hw)
theorem Gq{t t':TT}(h:PW X x t)(i:∀σ H Q,t' σ H Q->t σ H Q):PW X x t':=fun whole pins s σ H Q I hw=>h whole pins s σ H Q I (i σ H Q hw)
theorem Gr{xs:List Expr}{t t':TA}(h:PA X xs t)(i:∀σ H Q,t' σ H Q->t σ H Q):PA X xs t':=fun pos pins s σ H Q I hw=>h pos pins s σ H Q I (i σ H Q hw)
theorem dC{st:Stmt}{t t':TS}(h:PS X st t)(i:∀D σ H,t' D σ H->t D σ H):PS X st t':=fun pins s σ H D I hw=>h pins s σ H D I (i D σ H hw)
theorem n_{st:List Stmt}{t t':TS}(h:PSs X st t)(i:∀D σ H,t' D σ H->t D σ H):PSs X st t':=fun pins s σ H D I hw=>h pins s σ H D I (i D σ H hw)
noncomputable def aj(i:Nat):Den:=fun ρ Ω=>match ρ[i]? with |some (.dat d)=>some (d,Ω) |_=>none
theorem ak{i:Nat}(h:PE X x (wY i)):PD X C x (aj i):=aY h fun σ H Q hw'=>by
 obtain⟨e,Ω,ρ,d,Ω',eH,w,r,g,k⟩:=hw'
 subst eH
 unfold aj at g
 cases q:ρ[i]? with
 | none=>rw[q] at g;cases g
 | some s =>
  rw[q] at g
  cases s with
  | dat d' =>
   cases g
   obtain⟨v,e1,i1⟩:=r.dat _ _ q
   exact⟨v,e1,k v e (Ext.refl e) w i1⟩
  | und=>cases g
  | own _=>cases g
noncomputable def gC(d:D):Den:=fun _ Ω=>some (d,Ω)
theorem Eg{v:V}{d:D}(h:PE X x (tC v))(hd:∀α F,Is X.K α F d v):PD X C x (gC d):=aY h fun σ H Q hw'=>by
 obtain⟨e,Ω,ρ,d',Ω',eH,w,r,g,k⟩:=hw'
 subst eH
 cases g
 exact k v e (Ext.refl e) w (hd _ _)
theorem aL{i:Int}{j pos}:PD X C (.Constant (.int i) j pos) (gC (.int i)):=Eg Qt fun _ _=>by rw[Is]
theorem lC{b:Bool}{j pos}:PD X C (.Constant (.bool b) j pos) (gC (.bl b)):=Eg Ss fun _ _=>by rw[Is]
theorem qm{j pos}:PD X C (.Constant .none j pos) (gC .non):=Eg Qu fun _ _=>by rw[Is]
theorem aX{z:Str}{j pos}:PD X C (.Constant (.str z) j pos) (gC (.str z)):=Eg p_ fun _ _=>by rw[Is]
end
noncomputable def OpD(X:Cx)(C:Cl)(f:Value->Value->Sem Value)(r:D->D->Option D):Prop :=
 OpR X f fun x y H Q=>∃e Ω d₁ d₂ z,e.H=H/\Wf X.K C e Ω/\Is X.K e.α e.F d₁ x/\Is X.K e.α e.F d₂ y/\r d₁ d₂=some z/\∀v e',Ext e e'->Wf X.K C e' Ω->Is X.K e'.α e'.F z v->Q v e'.H
noncomputable def gOp(r:D->D->Option D)(f g:Den):Den:=fun ρ Ω=>match f ρ Ω with
 | some (x,Ω₁)=>match g ρ Ω₁ with
  | some (y,Ω₂)=>match r x y with
   | some z=>some (z,Ω₂)
   | none=>none
  | none=>none
 | none=>none
section
variable {X:Cx} {C:Cl} {a b:Expr} {f g:Den} {r:D->D->Option D} {pos:Pos}
theorem tY{K:PySem.W.Frag}{r':R2}(hr:∀x y H Q,(∃e Ω d₁ d₂ z,e.H=H/\Wf K C e Ω/\Is K e.α e.F d₁ x/\Is K e.α e.F d₂ y/\r d₁ d₂=some z/\∀v e',Ext e e'->Wf K C e' Ω->Is K e'.α e'.F z v->Q v e'.H)->r' x y H Q)
  {σ:St} {H:Hp} {Q:VK} (h:tD K C (gOp r f g) σ H Q):tOp r' (tD K C f) (tD K C g) σ H Q:=by
 obtain⟨e,Ω,ρ,d,Ω',eH,w,rl,q,k⟩:=h
 unfold gOp at q
 cases q1:f ρ Ω with
 | none=>rw[q1] at q;cases q
 | some p1 =>
  obtain⟨x,Ω₁⟩:=p1
  rw[q1] at q
  dsimp only at q
  cases q2:g ρ Ω₁ with
  | none=>rw[q2] at q;cases q
  | some p2 =>
   obtain⟨y,Ω₂⟩:=p2
   rw[q2] at q
   dsimp only at q
   cases q3:r x y with
   | none=>rw[q3] at q;cases q
   | some z =>
    rw[q3] at q
    cases q
    refine⟨e,Ω,ρ,x,Ω₁,eH,w,rl,q1,fun v e1 x1 w1 i1=>?_⟩
    refine⟨e1,Ω₁,ρ,y,_,rfl,w1,rl.ext x1,q2,fun u e2 x2 w2 i2=>?_⟩
    exact hr v u e2.H Q ⟨e2,_,x,y,d,rfl,w2,i1.ext x2,i2,q3,fun v' e3 x3 w3 i3=>k v' e3 ((x1.trans x2).trans x3) w3 i3⟩
theorem bN{op:Operator}(ho:OpD X C (binaryOp op) r)(ha:PD X C a f)(hb:PD X C b g):PD X C (.BinOp a op b pos) (gOp r f g) :=
 aY (Sy ho ha hb) fun σ H Q h=>tY (fun _ _ _ _ h=>h) h
theorem zU{op:CmpOp}(ho:OpD X C (compareOp op) r)(ha:PD X C a f)(hb:PD X C b g)(hm:behindInMarks op b=false):PD X C (.Compare a [op] [b] pos) (gOp r f g) :=
 aY (MF ho ha hb hm) fun σ H Q h=>tY (fun _ _ _ _ h=>h) h
noncomputable def gT(g:Den):bR:=fun ρ Ω=>match g ρ Ω with
 | some (.bl b,Ω')=>some (b,Ω')
 | _=>none
theorem my{K:PySem.W.Frag}{σ:St}{H:Hp}{Q:Bool->Hp->Prop}(h:tDT K C (gT g) σ H Q):tD K C g σ H fun x H'=>∃c,x=V.bl c/\Q c H':=by
 obtain⟨e,Ω,ρ,b,Ω',eH,w,rl,q,k⟩:=h
 unfold gT at q
 cases q1:g ρ Ω with
 | none=>rw[q1] at q;cases q
 | some p1 =>
  obtain⟨x,Ω₁⟩:=p1
  rw[q1] at q
  cases x with
  | bl c =>
   cases q
   refine⟨e,Ω,ρ,_,_,eH,w,rl,q1,fun v e1 x1 w1 i1=>?_⟩
   rw[Is] at i1
   exact⟨b,i1,k e1 x1 w1⟩
  | _=>cases q
theorem bu{op:CmpOp}(ho:OpD X C (compareOp op) r)(ha:PD X C a f)(hb:PD X C b g)(hm:behindInMarks op b=false):PDT X C (.Compare a [op] [b] pos) (gT (gOp r f g)) :=
 mU (tW ho ha hb hm) fun σ H Q h=>tY (fun _ _ _ _ h=>h) (my h)
theorem eE{x:Expr}(h:PD X C x g)(he:∀whole,isTrue x X.env whole=(do let v <-whole;standAt x.pos;holding [v] (truthy v)):=by intro _;rfl):PDT X C x (gT g) :=
 mU (Qv h he) fun σ H Q h=>my h
noncomputable def dI(c:Int->Int->Bool)(f:Int->Int->Int):D->D->Option D
 | .int i,.int j=>if c i j=true then some (.int (f i j)) else none
 | _,_=>none
noncomputable def dB(f:Int->Int->Bool):D->D->Option D
 | .int i,.int j=>some (.bl (f i j))
 | _,_=>none
theorem Ri{c:Int->Int->Bool}{f:Int->Int->Int}{d₁ d₂ z:D}(h:dI c f d₁ d₂=some z):∃i j,d₁=.int i/\d₂=.int j/\c i j=true/\z=.int (f i j):=by
 unfold dI at h
 split at h
 ·split at h
  ·cases h;exact⟨_,_,rfl,rfl,‹_›,rfl⟩
  ·cases h
 ·cases h
theorem Rj{f:Int->Int->Bool}{d₁ d₂ z:D}(h:dB f d₁ d₂=some z):∃i j,d₁=.int i/\d₂=.int j/\z=.bl (f i j):=by
 unfold dB at h
 split at h
 ·cases h;exact⟨_,_,rfl,rfl,rfl⟩
 ·cases h
theorem Eh{K:PySem.W.Frag}{α:List Addr}{F:Hp}{i:Int}{v:V}(h:Is K α F (.int i) v):v=.int i:=by rw[Is] at h;exact h
theorem Lx{h:Value->Value->Sem Value}{P:Int->Int->Prop}{c:Int->Int->Bool}{k:Int->Int->Int}(ho:OpR X h (rI P fun i j=>.int (k i j)))(hc:∀i j,c i j=true->P i j):OpD X C h (dI c k):=by
 rintro pins s σ H x y v u Q I rx ry ⟨e,Ω,d₁,d₂,z,eH,w,i1,i2,q,kk⟩
 obtain⟨i,j,e1,e2,hcc,e3⟩:=Ri q
 rw[e1] at i1
 rw[e2] at i2
 refine ho pins s σ _ x y v u Q I rx ry ⟨i,j,Eh i1,Eh i2,hc i j hcc,?_⟩
 rw[<-eH]
 exact kk _ e (Ext.refl e) w (by rw[e3,Is])
theorem S_{h:Value->Value->Sem Value}{k:Int->Int->Bool}(ho:OpR X h (rI0 fun i j=>.bl (k i j))):OpD X C h (dB k):=by
 rintro pins s σ H x y v u Q I rx ry ⟨e,Ω,d₁,d₂,z,eH,w,i1,i2,q,kk⟩
 obtain⟨i,j,e1,e2,e3⟩:=Rj q
 rw[e1] at i1
 rw[e2] at i2
 refine ho pins s σ _ x y v u Q I rx ry ⟨i,j,Eh i1,Eh i2,?_⟩
 rw[<-eH]
 exact kk _ e (Ext.refl e) w (by rw[e3,Is])
end
end DL
namespace DL
open PySem PySem.Spec PyProof.Rows L2
noncomputable abbrev big:Nat:=100000
theorem iI{n:Nat}(h:n<=big):n<=sizeLine:=Nat.le_trans h (by decide)
theorem oH{n:Nat}(h:n<big):n<sizeLine:=Nat.lt_of_lt_of_le h (by decide)
open Classical in
noncomputable def grd{β:Type}(P:Prop)(x:Option β):Option β:=if P then x else none
theorem fu{β:Type}{P:Prop}{x:Option β}(h:P):grd P x=x:=if_pos h
theorem iJ{β:Type}{P:Prop}{x:Option β}{z:β}(h:grd P x=some z):P/\x=some z:=by
 by_cases q:P
 ·rw[fu q] at h;exact⟨q,h⟩
 ·have e:grd P x=none:=if_neg q
  rw[e] at h;cases h
section
variable {X:Cx} {C:Cl} {a b c x:Expr} {f g h:Den} {r:D->D->Option D} {pos:Pos}
noncomputable def fM:D->D->Option D
 | .int i,.int j=>some (.int (i+j))
 | .lst xs,.lst ys=>if xs.length+ys.length<=big then some (.lst (xs++ys)) else none
 | .str p,.str q=>if p.length+q.length<=big then some (.str (p++q)) else none
 | _,_=>none
theorem Nu{d₁ d₂ z:D}(q:fM d₁ d₂=some z):(∃i j,d₁=.int i/\d₂=.int j/\z=.int (i+j))\/(∃xs ys,d₁=.lst xs/\d₂=.lst ys/\xs.length+ys.length<=big/\z=.lst (xs++ys)) \/
  ∃xs ys,d₁=.str xs/\d₂=.str ys/\xs.length+ys.length<=big/\z=.str (xs++ys):=by
 unfold fM at q
 split at q
 ·cases q;exact .inl ⟨_,_,rfl,rfl,rfl⟩
 ·split at q
  ·cases q;exact .inr (.inl ⟨_,_,rfl,rfl,‹_›,rfl⟩)
  ·cases q
 ·split at q
  ·cases q;exact .inr (.inr ⟨_,_,rfl,rfl,‹_›,rfl⟩)
  ·cases q
 ·cases q
theorem jx:OpD X C (binaryOp .Add) fM:=by
 intro pins s σ H x y v u Q I rx ry hw
 obtain⟨e,Ω,d₁,d₂,z,eH,w,i1,i2,q,kk⟩:=hw
 subst eH
 rcases Nu q with⟨i,j,rfl,rfl,rfl⟩ |⟨xs,ys,rfl,rfl,hl,rfl⟩ |⟨i,j,rfl,rfl,hl,rfl⟩
 ·rw[Is] at i1 i2
  subst i1 i2
  exact QG pins s σ _ _ _ v u Q I rx ry ⟨i,j,rfl,rfl,kk _ e (Ext.refl e) w (by rw[Is])⟩
 ·rw[Is] at i1 i2
  obtain⟨l,vs,rfl,h1,r1⟩:=i1
  obtain⟨m,us,rfl,h2,r2⟩:=i2
  refine Q_ pins s σ _ _ _ v u Q I rx ry ⟨l,m,vs,us,rfl,rfl,w.fh _ _ h1,w.fh _ _ h2,by rw[<-r1.length,<-r2.length];exact iI hl,fun p hp=>?_⟩
  refine kk _ (e.new p _) (w.new_ext hp) (w.new hp) ?_
  rw[Is]
  exact⟨p,_,rfl,aJ,(r1.append r2).ext (w.new_ext hp)⟩
 ·rw[Is] at i1 i2
  subst i1 i2
  exact DX pins s σ _ _ _ v u Q I rx ry ⟨i,j,rfl,rfl,iI hl,kk _ e (Ext.refl e) w (by rw[Is])⟩
noncomputable def dY:D->D->Option D
 | .int i,.int j=>grd ((-(2 ^ 64)<i/\i<2 ^ 64)\/(-(2 ^ 64)<j/\j<2 ^ 64)) (some (.int (i*j)))
 | .lst xs,.int k=>grd (-(2 ^ 62)<=k/\k<2 ^ 62/\xs.length*k.toNat<=big) (some (.lst (List.replicate k.toNat xs).flatten))
 | _,_=>none
theorem Nv{d₁ d₂ z:D}(q:dY d₁ d₂=some z):(∃i j,d₁=.int i/\d₂=.int j/\((-(2 ^ 64)<i/\i<2 ^ 64)\/(-(2 ^ 64)<j/\j<2 ^ 64))/\z=.int (i*j)) \/
  ∃xs k,d₁=.lst xs/\d₂=.int k/\(-(2 ^ 62)<=k/\k<2 ^ 62/\xs.length*k.toNat<=big)/\z=.lst (List.replicate k.toNat xs).flatten:=by
 unfold dY at q
 split at q
 ·obtain⟨hl,q⟩:=iJ q;cases q;exact .inl ⟨_,_,rfl,rfl,hl,rfl⟩
 ·obtain⟨hl,q⟩:=iJ q;cases q;exact .inr ⟨_,_,rfl,rfl,hl,rfl⟩
 ·cases q
theorem oh:OpD X C (binaryOp .Mult) dY:=by
 intro pins s σ H x y v u Q I rx ry hw
 obtain⟨e,Ω,d₁,d₂,z,eH,w,i1,i2,q,kk⟩:=hw
 subst eH
 rcases Nv q with⟨i,j,rfl,rfl,hl,rfl⟩ |⟨xs,k,rfl,rfl,hl,rfl⟩
 ·rw[Is] at i1 i2
  subst i1 i2
  exact QH pins s σ _ _ _ v u Q I rx ry ⟨i,j,rfl,rfl,hl,kk _ e (Ext.refl e) w (by rw[Is])⟩
 ·rw[Is] at i1
  rw[Is] at i2
  obtain⟨l,vs,rfl,h1,r1⟩:=i1
  subst i2
  refine Ra pins s σ _ _ _ v u Q I rx ry ⟨l,k,vs,rfl,rfl,w.fh _ _ h1,by omega,by omega,by rw[<-r1.length];exact iI hl.2.2,fun p hp=>?_⟩
  refine kk _ (e.new p _) (w.new_ext hp) (w.new hp) ?_
  rw[Is]
  exact⟨p,_,rfl,aJ,(r1.rep _).ext (w.new_ext hp)⟩
noncomputable abbrev dD:D->D->Option D:=dI (fun _ j=>decide (0<j)) fun i j=>i%j
theorem fB:OpD X C (binaryOp .Mod) dD:=Lx QJ fun _ _ h=>of_decide_eq_true h
noncomputable abbrev jb:D->D->Option D:=dI (fun _ j=>decide (0<j) && decide (j<1073741824)) fun i j=>i / j
theorem kO:OpD X C (binaryOp .FloorDiv) jb:=Lx Mz fun _ _ h=>by
 rw[Bool.and_eq_true,decide_eq_true_eq,decide_eq_true_eq] at h
 exact h
noncomputable abbrev ltD:D->D->Option D:=dB fun i j=>decide (i<j)
theorem Gs:OpD X C (compareOp .Lt) ltD:=S_ SJ
mutual
noncomputable def toP:D->PyData
 | .non=>.none
 | .bl b=>.bool b
 | .int i=>.int i
 | .str x=>.str x
 | .tup xs=>.tuple (fO xs)
 | .lst xs=>.list (fO xs)
 | .scr ns=>.list (ns.map PyData.int)
 | .obj _=>.dict []
noncomputable def fO:List D->List PyData
 | []=>[]
 | d::ds=>toP d::fO ds
end
end
section
variable {X:Cx} {pins:List (Addr×Obj)} {σ:St} {H:Hp} {s:Shared} {K:PySem.W.Frag} {α:List Addr} {F:Hp}
mutual
theorem gb(I:Inv X pins σ H s)(hK:K=X.K)(ff:bC F H):∀(d:D) {v:V} {u:Value},(toP d).canLay0=true->Is K α F d v->RelV v u->∃as,Reads s.heap u (toP d) as
 | .non,v,u,_,h,r=>by
  rw[Is] at h;subst h;cases (show u=Value.none from r);rw[toP];exact⟨_,.none⟩
 | .bl b,v,u,_,h,r=>by
  rw[Is] at h;subst h;cases (show u=Value.bool b from r);rw[toP];exact⟨_,.bool b⟩
 | .int i,v,u,_,h,r=>by
  rw[Is] at h;subst h;obtain⟨t,q⟩:=(show ∃t,u=Value.int i t from r);subst q;rw[toP];exact⟨_,.int i t⟩
 | .str x,v,u,_,h,r=>by
  rw[Is] at h;subst h;obtain⟨t,q⟩:=(show ∃t,u=Value.str x t from r);subst q;rw[toP];exact⟨_,.str x t⟩
 | .tup xs,v,u,hc,h,r=>by
  rw[Is] at h
  obtain⟨a,vs,rfl,e,q⟩:=h
  cases (show u=Value.ref a from r)
  obtain⟨_,its,rv,o,e1,e2,n,e3⟩:=(show bI X.prog X.w H s.heap a (.tup vs) from I.hok a _ (ff _ _ e))
  rw[toP] at hc ⊢
  obtain⟨as,z⟩:=pI I hK ff xs (by simpa [PyData.canLay0] using hc) q rv
  exact⟨as,.tuple e1 e2 e3 (by simpa using z)⟩
 | .lst xs,v,u,hc,h,r=>by
  rw[Is] at h
  obtain⟨a,vs,rfl,e,q⟩:=h
  cases (show u=Value.ref a from r)
  obtain⟨_,its,n,rv,e1⟩:=(show bI X.prog X.w H s.heap a (.lst vs) from I.hok a _ (ff _ _ e))
  rw[toP] at hc ⊢
  obtain⟨as,z⟩:=pI I hK ff xs (by simpa [PyData.canLay0] using hc) q rv
  exact⟨_,.list e1 rfl rfl (by simpa using z)⟩
 | .scr ns,v,u,hc,h,r=>by
  rw[Is] at h
  obtain⟨a,rfl,q⟩:=h
  cases (show u=Value.ref a from r)
  subst hK
  obtain⟨its,rv,pl,_⟩:=I.list (ff.seq q)
  rw[toP]
  exact⟨_,reads_newData pl.isList (PySem.W.ke_carried (intsAre_of rv))⟩
 | .obj n,v,u,hc,h,r=>by rw[toP] at hc;simp[PyData.canLay0] at hc
theorem pI(I:Inv X pins σ H s)(hK:K=X.K)(ff:bC F H):∀(ds:List D) {vs:List V} {us:List Value},PyData.canLayAll0 (fO ds)=true->IsL K α F ds vs->Vals vs us->∃as,ReadsAll s.heap us (fO ds) as
 | [],vs,us,_,h,r=>by
  rw[h.of_nil] at r;cases r;rw[fO];exact⟨_,.nil⟩
 | d::ds,vs,us,hc,h,r=>by
  obtain⟨v,t,rfl,h1,h2⟩:=h.of_cons
  cases r with
  | cons r1 r2 =>
   rw[fO] at hc ⊢
   have hc':(toP d).canLay0=true/\PyData.canLayAll0 (fO ds)=true:=by simpa [PyData.canLayAll0] using hc
   obtain⟨as,z1⟩:=gb I hK ff d hc'.1 h1 r1
   obtain⟨bs,z2⟩:=pI I hK ff ds hc'.2 h2 r2
   exact⟨_,.cons z1 z2⟩
end
end
end DL
namespace DL
open PySem PySem.Spec PyProof.Rows L2
section
variable {X:Cx} {C:Cl} {a b c x:Expr} {f g h:Den} {r:D->D->Option D} {pos:Pos}
noncomputable def eqD(neg:Bool)(p q:D):Option D:=if SeqAt.shaped (toP p) && SeqAt.shaped (toP q) then some (.bl (if neg then !PyData.eqv (toP p) (toP q) else PyData.eqv (toP p) (toP q))) else none
theorem bL(hu:X.A.units+64<cLine):OpD X C (compareOp .Eq) (eqD false):=by
 intro pins s σ H x y v u Q I rx ry hw
 obtain⟨e,Ω,d₁,d₂,z,eH,w,i1,i2,q,kk⟩:=hw
 subst eH
 unfold eqD at q
 split at q
 ·rename_i hs
  rw[Bool.and_eq_true] at hs
  cases q
  obtain⟨as,r1⟩:=gb I rfl w.fh d₁ (SeqAt.canLay_of_shaped hs.1) i1 rx
  obtain⟨bs,r2⟩:=gb I rfl w.fh d₂ (SeqAt.canLay_of_shaped hs.2) i2 ry
  exact eq_dataH r1 r2 hs.1 hs.2 hu ⟨.bl _,e.H,I,rfl,kk _ e (Ext.refl e) w (by rw[Is];rfl)⟩
 ·cases q
theorem oJ(hu:X.A.units+64<cLine):OpD X C (compareOp .NotEq) (eqD true):=by
 intro pins s σ H x y v u Q I rx ry hw
 obtain⟨e,Ω,d₁,d₂,z,eH,w,i1,i2,q,kk⟩:=hw
 subst eH
 unfold eqD at q
 split at q
 ·rename_i hs
  rw[Bool.and_eq_true] at hs
  cases q
  obtain⟨as,r1⟩:=gb I rfl w.fh d₁ (SeqAt.canLay_of_shaped hs.1) i1 rx
  obtain⟨bs,r2⟩:=gb I rfl w.fh d₂ (SeqAt.canLay_of_shaped hs.2) i2 ry
  exact ne_dataH r1 r2 hs.1 hs.2 hu ⟨.bl _,e.H,I,rfl,kk _ e (Ext.refl e) w (by rw[Is];rfl)⟩
 ·cases q
noncomputable def isNone:D->Bool
 | .non=>true
 | _=>false
noncomputable def Js:D->Bool
 | .non=>true
 | .int _=>true
 | .tup _=>true
 | .lst _=>true
 | _=>false
noncomputable def isB(neg p:Bool):D->Option D
 | .bl q=>some (.bl (if neg then !(q==p) else q==p))
 | d=>if Js d then some (.bl neg) else none
noncomputable def isD(neg:Bool)(d:D):D->Option D
 | .non=>some (.bl (if neg then !isNone d else isNone d))
 | .bl p=>isB neg p d
 | _=>none
theorem Jt{K:PySem.W.Frag}{α:List Addr}{F:Hp}{d:D}{v:V}(h:Is K α F d v):decide (v=.non)=isNone d:=by
 cases d<;>rw[Is] at h
 ·subst h;rfl
 ·subst h;rfl
 ·subst h;rfl
 ·subst h;rfl
 ·obtain⟨a,vs,rfl,_⟩:=h;rfl
 ·obtain⟨a,vs,rfl,_⟩:=h;rfl
 ·obtain⟨a,rfl,_⟩:=h;rfl
 ·obtain⟨a,_,rfl⟩:=h;rfl
theorem Nx{K:PySem.W.Frag}{α:List Addr}{F:Hp}{d:D}{v:V}{u:Value}{p:Bool}(h:Js d=true)(i:Is K α F d v)(r:RelV v u):plainIs u (.bool p)=true/\u ≠ .bool p:=by
 cases d with
 | non=>rw[Is] at i;subst i;cases (show u=Value.none from r);exact⟨rfl,fun z=>by cases z⟩
 | int i'=>rw[Is] at i;subst i;obtain⟨t,rfl⟩:=(show ∃t,u=Value.int i' t from r);exact⟨rfl,fun z=>by cases z⟩
 | tup _=>rw[Is] at i;obtain⟨l,vs,rfl,_⟩:=i;cases (show u=Value.ref l from r);exact⟨rfl,fun z=>by cases z⟩
 | lst _=>rw[Is] at i;obtain⟨l,vs,rfl,_⟩:=i;cases (show u=Value.ref l from r);exact⟨rfl,fun z=>by cases z⟩
 | _=>cases h
theorem Ny{neg p:Bool}{d z:D}(q:isB neg p d=some z):(∃r,d=.bl r/\z=.bl (if neg then !(r==p) else r==p))\/(Js d=true/\z=.bl neg):=by
 unfold isB at q
 split at q
 ·cases q;exact .inl ⟨_,rfl,rfl⟩
 ·split at q
  ·cases q;exact .inr ⟨‹_›,rfl⟩
  ·cases q
theorem Nz{neg:Bool}{d₁ d₂ z:D}(q:isD neg d₁ d₂=some z):(d₂=.non/\z=.bl (if neg then !isNone d₁ else isNone d₁))\/∃p,d₂=.bl p/\isB neg p d₁=some z:=by
 unfold isD at q
 split at q
 ·cases q;exact .inl ⟨rfl,rfl⟩
 ·exact .inr ⟨_,rfl,q⟩
 ·cases q
theorem Gu(p r:Bool):(Value.bool p==Value.bool r)=(p==r):=by cases p<;>cases r<;>rfl
theorem Rk:OpD X C (compareOp .Is) (isD false):=by
 intro pins s σ H x y v u Q I rx ry hw
 obtain⟨e,Ω,d₁,d₂,z,eH,w,i1,i2,q,kk⟩:=hw
 subst eH
 rcases Nz q with⟨rfl,rfl⟩ |⟨p,rfl,q⟩
 ·rw[Is] at i2
  subst i2
  refine QL pins s σ _ _ _ v u Q I rx ry ⟨rfl,?_⟩
  rw[Jt i1]
  exact kk _ e (Ext.refl e) w (by rw[Is];rfl)
 ·rw[Is] at i2
  subst i2
  cases (show u=Value.bool p from ry)
  rcases Ny q with⟨r,rfl,rfl⟩ |⟨ho,rfl⟩
  ·rw[Is] at i1
   subst i1
   cases (show v=Value.bool r from rx)
   refine wpAny_is_plain rfl ?_
   rw[Gu]
   exact⟨.bl _,e.H,I,rfl,kk _ e (Ext.refl e) w (by rw[Is];rfl)⟩
  ·obtain⟨h1,h2⟩:=Nx (p:=p) ho i1 rx
   exact wpAny_is_other h1 h2 ⟨.bl _,e.H,I,rfl,kk _ e (Ext.refl e) w (by rw[Is])⟩
noncomputable def jW(p q:bR):bR:=fun ρ Ω=>match p ρ Ω with
 | some (true,Ω')=>q ρ Ω'
 | some (false,Ω')=>some (false,Ω')
 | none=>none
noncomputable def lE(p q:bR):bR:=fun ρ Ω=>match p ρ Ω with
 | some (true,Ω')=>some (true,Ω')
 | some (false,Ω')=>q ρ Ω'
 | none=>none
noncomputable def gA(p:bR):bR:=fun ρ Ω=>match p ρ Ω with
 | some (k,Ω')=>some (!k,Ω')
 | none=>none
variable {p q:bR} {rest:List Expr}
theorem Ju{K:PySem.W.Frag}{σ:St}{H:Hp}{Q:Bool->Hp->Prop}(hw:tDT K C (jW p q) σ H Q):Qw (tDT K C p) (tDT K C q) σ H Q:=by
 obtain⟨e,Ω,ρ,k,Ω',eH,w,rl,e1,kk⟩:=hw
 unfold jW at e1
 cases e2:p ρ Ω with
 | none=>rw[e2] at e1;cases e1
 | some z =>
  obtain⟨k1,Ω1⟩:=z
  rw[e2] at e1
  refine⟨e,Ω,ρ,k1,Ω1,eH,w,rl,e2,fun e' x' w'=>?_⟩
  cases k1 with
  | true =>
   rw[if_pos rfl]
   exact⟨e',Ω1,ρ,k,Ω',rfl,w',rl.ext x',e1,fun e'' x'' w''=>kk e'' (x'.trans x'') w''⟩
  | false =>
   rw[if_neg (by decide)]
   cases e1
   exact kk e' x' w'
theorem NB{K:PySem.W.Frag}{σ:St}{H:Hp}{Q:Bool->Hp->Prop}(hw:tDT K C (lE p q) σ H Q):tOr (tDT K C p) (tDT K C q) σ H Q:=by
 obtain⟨e,Ω,ρ,k,Ω',eH,w,rl,e1,kk⟩:=hw
 unfold lE at e1
 cases e2:p ρ Ω with
 | none=>rw[e2] at e1;cases e1
 | some z =>
  obtain⟨k1,Ω1⟩:=z
  rw[e2] at e1
  refine⟨e,Ω,ρ,k1,Ω1,eH,w,rl,e2,fun e' x' w'=>?_⟩
  cases k1 with
  | true =>
   rw[if_pos rfl]
   cases e1
   exact kk e' x' w'
  | false =>
   rw[if_neg (by decide)]
   exact⟨e',Ω1,ρ,k,Ω',rfl,w',rl.ext x',e1,fun e'' x'' w''=>kk e'' (x'.trans x'') w''⟩
theorem uT(ha:PDT X C a p):PDW X C (.BoolOp .And [a] pos) p:=Mv ha
theorem tZ(ha:PDT X C a p):PDW X C (.BoolOp .Or [a] pos) p:=Qx ha
theorem xm(ha:PDT X C a p)(hb:PDW X C (.BoolOp .And (b::rest) pos) q):PDW X C (.BoolOp .And (a::b::rest) pos) (jW p q):=Gq (Qy ha hb) fun _ _ _ h=>Ju h
theorem mV(ha:PDT X C a p)(hb:PDW X C (.BoolOp .Or (b::rest) pos) q):PDW X C (.BoolOp .Or (a::b::rest) pos) (lE p q):=Gq (Su ha hb) fun _ _ _ h=>NB h
theorem PDW.pt(h:PDW X C x p):PDT X C x p:=PW.pt h
theorem jy(ha:PDT X C a p):PDT X C (.UnaryOp .Not a pos) (gA p):=mU (Qz ha) fun σ H Q hw'=>by
 obtain⟨e,Ω,ρ,k,Ω',eH,w,rl,e1,kk⟩:=hw'
 unfold gA at e1
 cases e2:p ρ Ω with
 | none=>rw[e2] at e1;cases e1
 | some z =>
  obtain⟨k1,Ω1⟩:=z
  rw[e2] at e1
  cases e1
  exact⟨e,Ω,ρ,k1,_,eH,w,rl,e2,kk⟩
end
end DL
namespace DL
open PySem PySem.Spec PyProof.Rows L2
section
variable {X:Cx} {C:Cl} {a b c x:Expr} {es:List Expr} {f g h:Den} {ga:bx} {pos:Pos}
noncomputable def aA:bx:=fun _ Ω=>some ([],Ω)
noncomputable def ao(f:Den)(g:bx):bx:=fun ρ Ω=>match f ρ Ω with
 | some (d,Ω1)=>match g ρ Ω1 with
  | some (ds,Ω2)=>some (d::ds,Ω2)
  | none=>none
 | none=>none
theorem az:PDA X C [] aA:=Gr cQ fun σ H Q hw'=>by
 obtain⟨e,Ω,ρ,ds,Ω',eH,w,rl,e1,kk⟩:=hw'
 subst eH
 cases e1
 exact kk [] e (Ext.refl e) w .nil
theorem aq(ha:PD X C x f)(hr:PDA X C es ga)(hs:starEach (x::es) X.env=(false,eval x X.env)::starEach es X.env:=by rfl):PDA X C (x::es) (ao f ga) :=
 Gr (bF ha hr hs) fun σ H Q hw'=>by
  obtain⟨e,Ω,ρ,ds,Ω',eH,w,rl,e1,kk⟩:=hw'
  unfold ao at e1
  cases q1:f ρ Ω with
  | none=>rw[q1] at e1;cases e1
  | some p1 =>
   obtain⟨d,Ω1⟩:=p1
   rw[q1] at e1
   dsimp only at e1
   cases q2:ga ρ Ω1 with
   | none=>rw[q2] at e1;cases e1
   | some p2 =>
    obtain⟨ds',Ω2⟩:=p2
    rw[q2] at e1
    cases e1
    refine⟨e,Ω,ρ,d,Ω1,eH,w,rl,q1,fun v e' x' w' i'=>?_⟩
    exact⟨e',Ω1,ρ,ds',_,rfl,w',rl.ext x',q2,fun vs e'' x'' w'' i''=>kk _ e'' (x'.trans x'') w'' (.cons (i'.ext x'') i'')⟩
noncomputable def bB(g:bx):Den:=fun ρ Ω=>match g ρ Ω with
 | some (ds,Ω')=>if ds.length<=big then some (.tup ds,Ω') else none
 | none=>none
noncomputable def bV(g:bx):Den:=fun ρ Ω=>match g ρ Ω with
 | some (ds,Ω')=>if ds.length<=big then some (.lst ds,Ω') else none
 | none=>none
theorem bM{x1}(ha:PDA X C es ga):PD X C (.Tuple es x1 pos) (bB ga):=aY (zM ha) fun σ H Q hw'=>by
 obtain⟨e,Ω,ρ,d,Ω',eH,w,rl,e1,kk⟩:=hw'
 unfold bB at e1
 cases q1:ga ρ Ω with
 | none=>rw[q1] at e1;cases e1
 | some p1 =>
  obtain⟨ds,Ω1⟩:=p1
  rw[q1] at e1
  dsimp only at e1
  split at e1
  ·rename_i hl
   cases e1
   refine⟨e,Ω,ρ,ds,_,eH,w,rl,q1,fun vs e' x' w' i'=>⟨by rw[<-i'.length];exact iI hl,fun p hp=>?_⟩⟩
   refine kk _ (e'.new p (.tup vs)) (x'.trans (w'.new_ext hp)) (w'.new hp) ?_
   rw[Is]
   exact⟨p,vs,rfl,aJ,i'.ext (w'.new_ext hp)⟩
  ·cases e1
theorem bZ(ha:PDA X C es ga):PD X C (.List es pos) (bV ga):=aY (vJ ha) fun σ H Q hw'=>by
 obtain⟨e,Ω,ρ,d,Ω',eH,w,rl,e1,kk⟩:=hw'
 unfold bV at e1
 cases q1:ga ρ Ω with
 | none=>rw[q1] at e1;cases e1
 | some p1 =>
  obtain⟨ds,Ω1⟩:=p1
  rw[q1] at e1
  dsimp only at e1
  split at e1
  ·rename_i hl
   cases e1
   refine⟨e,Ω,ρ,ds,_,eH,w,rl,q1,fun vs e' x' w' i'=>⟨by rw[<-i'.length];exact iI hl,fun p hp=>?_⟩⟩
   refine kk _ (e'.new p (.lst vs)) (x'.trans (w'.new_ext hp)) (w'.new hp) ?_
   rw[Is]
   exact⟨p,vs,rfl,aJ,i'.ext (w'.new_ext hp)⟩
  ·cases e1
noncomputable def ixD:D->D->Option D
 | .lst xs,.int i=>atI xs i
 | .tup xs,.int i=>atI xs i
 | .scr ns,.int i=>(atI ns i).map D.int
 | .str z,.int i=>if z.length<=big then(atI z.cps.toList i).map fun c=>D.str ⟨#[c]⟩ else none
 | _,_=>none
theorem zV{K:PySem.W.Frag}{α:List Addr}{F:Hp}{ds:List D}{vs:List V}{i:Int}{d:D}(r:IsL K α F ds vs)(h:atI ds i=some d):∃v,atI vs i=some v/\Is K α F d v:=by
 unfold atI at h ⊢
 rw[<-r.length]
 cases q:ixN ds.length i with
 | none=>rw[q] at h;cases h
 | some j =>
  rw[q] at h
  exact r.get h
theorem Jv{K:PySem.W.Frag}:∀x y H Q,(∃e Ω d₁ d₂ z,e.H=H/\Wf K C e Ω/\Is K e.α e.F d₁ x/\Is K e.α e.F d₂ y/\ixD d₁ d₂=some z/\∀v e',Ext e e'->Wf K C e' Ω->Is K e'.α e'.F z v->Q v e'.H)->rIx K x y H Q:=by
 rintro x y H Q ⟨e,Ω,d₁,d₂,z,eH,w,i1,i2,q,kk⟩
 subst eH
 unfold ixD at q
 cases d₁<;>cases d₂<;>first |cases q |skip
 ·rename_i zz i
  dsimp only at q
  simp only[Is] at i1 i2
  subst i1 i2
  split at q
  ·rename_i hl
   cases e2:atI zz.cps.toList i with
   | none=>rw[e2] at q;cases q
   | some c =>
    rw[e2] at q
    cases q
    exact .inr (.inr ⟨zz,i,c,rfl,rfl,iI hl,e2,kk _ e (Ext.refl e) w (by rw[Is])⟩)
  ·cases q
 ·rename_i xs i
  simp only[Is] at i1 i2
  obtain⟨p,vs,rfl,h1,r1⟩:=i1
  subst i2
  obtain⟨v,e1,i3⟩:=zV r1 q
  exact .inr (.inl ⟨p,vs,i,v,rfl,rfl,SqT.of (w.fh _ _ h1),e1,kk v e (Ext.refl e) w i3⟩)
 ·rename_i xs i
  simp only[Is] at i1 i2
  obtain⟨p,vs,rfl,h1,r1⟩:=i1
  subst i2
  obtain⟨v,e1,i3⟩:=zV r1 q
  exact .inl ⟨p,vs,i,v,rfl,rfl,SqL.of (w.fh _ _ h1),e1,kk v e (Ext.refl e) w i3⟩
 ·rename_i ns i
  simp only[Is] at i1 i2
  obtain⟨p,rfl,h1⟩:=i1
  subst i2
  dsimp only at q
  cases e2:atI ns i with
  | none=>rw[e2] at q;cases q
  | some n =>
   rw[e2] at q
   cases q
   refine .inl ⟨p,ns.map V.int,i,.int n,rfl,rfl,w.fh.seq h1,?_,kk _ e (Ext.refl e) w (by rw[Is])⟩
   unfold atI at e2 ⊢
   rw[List.length_map]
   cases e3:ixN ns.length i with
   | none=>rw[e3] at e2;cases e2
   | some j =>
    rw[e3] at e2
    show(ns.map V.int)[j]? = _
    rw[List.getElem?_map,show ns[j]? = some n from e2]
    rfl
theorem di(ha:PD X C a f)(hb:PD X C b g)(hs:xg b:=by intro _ _;rfl):PD X C (.Subscript a b pos) (gOp ixD f g) :=
 aY (Lr QW ha hb hs) fun σ H Q hw=>tY Jv hw
noncomputable abbrev uU:=List Sl->List OS->Option (Option Int×List OS)
noncomputable def t_:uU:=fun _ Ω=>some (none,Ω)
noncomputable def vP(g:Den):uU:=fun ρ Ω=>match g ρ Ω with
 | some (.int i,Ω')=>some (some i,Ω')
 | _=>none
noncomputable def tDO(K:PySem.W.Frag)(C:Cl)(g:uU):TO:=fun σ H Q=>∃e Ω ρ o Ω',e.H=H/\Wf K C e Ω/\RelE K e σ ρ/\g ρ Ω=some (o,Ω')/\∀e',Ext e e'->Wf K C e' Ω'->Q o e'.H
noncomputable def PDO(X:Cx)(C:Cl)(e:Option Expr)(g:uU):Prop:=PO X e (tDO X.K C g)
theorem Gv{o:Option Expr}{t t':TO}(h:PO X o t)(i:∀σ H Q,t' σ H Q->t σ H Q):PO X o t':=fun pins s σ H Q I hw=>h pins s σ H Q I (i σ H Q hw)
theorem Jw:PDO X C none t_:=Gv M_ fun σ H Q hw'=>by
 obtain⟨e,Ω,ρ,o,Ω',eH,w,rl,e1,kk⟩:=hw'
 subst eH
 cases e1
 exact kk e (Ext.refl e) w
theorem Jx(h:PD X C x g):PDO X C (some x) (vP g):=Gv (Nb h) fun σ H Q hw'=>by
 obtain⟨e,Ω,ρ,o,Ω',eH,w,rl,e1,kk⟩:=hw'
 unfold vP at e1
 cases q1:g ρ Ω with
 | none=>rw[q1] at e1;cases e1
 | some p1 =>
  obtain⟨d,Ω1⟩:=p1
  rw[q1] at e1
  cases d with
  | int i =>
   cases e1
   refine⟨e,Ω,ρ,_,_,eH,w,rl,q1,fun v e' x' w' i'=>?_⟩
   rw[Is] at i'
   exact⟨i,i',kk e' x' w'⟩
  | _=>cases e1
noncomputable def su{β:Type}(xs:List β)(lo hi:Option Int):List β:=(xs.drop (HT.sIx xs.length 0 lo)).take (HT.sIx xs.length xs.length hi-HT.sIx xs.length 0 lo)
noncomputable def slD:D->Option Int->Option Int->Option D
 | .lst xs,lo,hi=>some (.lst (su xs lo hi))
 | .scr ns,lo,hi=>some (.lst ((su ns lo hi).map D.int))
 | _,_,_=>none
noncomputable def gSl(f:Den)(lo hi:uU):Den:=fun ρ Ω=>match f ρ Ω with
 | some (d,Ω1)=>match lo ρ Ω1 with
  | some (l,Ω2)=>match hi ρ Ω2 with
   | some (u,Ω3)=>match slD d l u with
    | some z=>some (z,Ω3)
    | none=>none
   | none=>none
  | none=>none
 | none=>none
theorem Tc{lo hi:Option Expr}{gl gh:uU}{p2:Pos}(ha:PD X C a f)(hl:PDO X C lo gl)(hh:PDO X C hi gh):PD X C (.Subscript a (.Slice lo hi none p2) pos) (gSl f gl gh) :=
 aY (Jh Ng ha hl hh) fun σ H Q hw'=>by
  obtain⟨e,Ω,ρ,d,Ω',eH,w,rl,e1,kk⟩:=hw'
  unfold gSl at e1
  cases q1:f ρ Ω with
  | none=>rw[q1] at e1;cases e1
  | some p1 =>
   obtain⟨d1,Ω1⟩:=p1
   rw[q1] at e1
   dsimp only at e1
   cases q2:gl ρ Ω1 with
   | none=>rw[q2] at e1;cases e1
   | some p2 =>
    obtain⟨l,Ω2⟩:=p2
    rw[q2] at e1
    dsimp only at e1
    cases q3:gh ρ Ω2 with
    | none=>rw[q3] at e1;cases e1
    | some p3 =>
     obtain⟨u,Ω3⟩:=p3
     rw[q3] at e1
     dsimp only at e1
     cases q4:slD d1 l u with
     | none=>rw[q4] at e1;cases e1
     | some z =>
      rw[q4] at e1
      cases e1
      refine⟨e,Ω,ρ,d1,Ω1,eH,w,rl,q1,fun v e' x' w' i'=>?_⟩
      refine⟨e',Ω1,ρ,l,Ω2,rfl,w',rl.ext x',q2,fun e2 x2 w2=>?_⟩
      refine⟨e2,Ω2,ρ,u,_,rfl,w2,(rl.ext x').ext x2,q3,fun e3 x3 w3=>?_⟩
      have i3:=i'.ext (x2.trans x3)
      unfold slD at q4
      cases d1 with
      | lst xs =>
       cases q4
       rw[Is] at i3
       obtain⟨p,vs,rfl,h1,r1⟩:=i3
       refine⟨p,vs,rfl,SqL.of (w3.fh _ _ h1),fun p' hp=>?_⟩
       refine kk _ (e3.new p' _) (((x'.trans x2).trans x3).trans (w3.new_ext hp)) (w3.new hp) ?_
       rw[Is]
       refine⟨p',_,rfl,aJ,?_⟩
       unfold su wZ
       rw[<-r1.length]
       exact((r1.drop _).take _).ext (w3.new_ext hp)
      | scr ns =>
       cases q4
       rw[Is] at i3
       obtain⟨p,rfl,h1⟩:=i3
       refine⟨p,_,rfl,w3.fh.seq h1,fun p' hp=>?_⟩
       refine kk _ (e3.new p' _) (((x'.trans x2).trans x3).trans (w3.new_ext hp)) (w3.new hp) ?_
       rw[Is]
       refine⟨p',_,rfl,aJ,?_⟩
       unfold su wZ
       rw[List.length_map,List.map_take,List.map_drop]
       exact(((IsL.ints ns).drop _).take _)
      | _=>cases q4
noncomputable def CallD(X:Cx)(C:Cl)(f:Value)(r:List D->Option D):Prop :=
 fL X f fun xs H Q=>∃e Ω ds z,e.H=H/\Wf X.K C e Ω/\IsL X.K e.α e.F ds xs/\r ds=some z/\∀v e',Ext e e'->Wf X.K C e' Ω->Is X.K e'.α e'.F z v->Q v e'.H
noncomputable def gCB(r:List D->Option D)(g:bx):Den:=fun ρ Ω=>match g ρ Ω with
 | some (ds,Ω1)=>match r ds with
  | some z=>some (z,Ω1)
  | none=>none
 | none=>none
theorem CQ{K:PySem.W.Frag}{r:List D->Option D}{σ:St}{H:Hp}{Q:VK}(hw:tD K C (gCB r ga) σ H Q) :
  tCB (fun xs H Q=>∃e Ω ds z,e.H=H/\Wf K C e Ω/\IsL K e.α e.F ds xs/\r ds=some z/\∀v e',Ext e e'->Wf K C e' Ω->Is K e'.α e'.F z v->Q v e'.H) (tDA K C ga) σ H Q:=by
 obtain⟨e,Ω,ρ,d,Ω',eH,w,rl,e1,kk⟩:=hw
 unfold gCB at e1
 cases q1:ga ρ Ω with
 | none=>rw[q1] at e1;cases e1
 | some p1 =>
  obtain⟨ds,Ω1⟩:=p1
  rw[q1] at e1
  dsimp only at e1
  cases q2:r ds with
  | none=>rw[q2] at e1;cases e1
  | some z =>
   rw[q2] at e1
   cases e1
   exact⟨e,Ω,ρ,ds,_,eH,w,rl,q1,fun vs e' x' w' i'=>⟨e',_,ds,_,rfl,w',i',q2,fun v e'' x'' w''=>kk v e'' (x'.trans x'') w''⟩⟩
theorem cH{id:String}{n:Str}{p:Pos}{r:List D->Option D}(hc:CallD X C (.builtin id) r)(hg:Gl X n)(hm:X.mg n=none)(hv:bootBuiltins n=some (.builtin id))(ha:PDA X C (x::es) ga)(hn:n ≠ "__name__":=by decide)(hdb:(n==("__debug__":Str))=false:=by decide)
  (he:starEach (x::es) X.env=(false,eval x X.env)::starEach es X.env:=by rfl) (hpl:(backTo pos (starEach es X.env)).any (·.1)=false:=by rfl):PD X C (.Call (.Name n p) (x::es) [] pos) (gCB r ga) :=
 aY (fZ hc hg hm hv ha hn hdb he hpl) fun _ _ _ hw=>CQ hw
theorem sy{T:String}{n:Str}{p:Pos}{r:List D->Option D}(hc:CallD X C (.type T) r)(hg:Gl X n)(hm:X.mg n=none)(hv:bootBuiltins n=some (.type T))(ha:PDA X C (x::es) ga)(hn:n ≠ "__name__":=by decide)(hdb:(n==("__debug__":Str))=false:=by decide)
  (he:starEach (x::es) X.env=(false,eval x X.env)::starEach es X.env:=by rfl) (hpl:(backTo pos (starEach es X.env)).any (·.1)=false:=by rfl):PD X C (.Call (.Name n p) (x::es) [] pos) (gCB r ga) :=
 aY (rZ hc hg hm hv ha hn hdb he hpl) fun _ _ _ hw=>CQ hw
theorem gH{K:PySem.W.Frag}{α:List Addr}{F:Hp}{d:D}{vs:List V}(h:IsL K α F [d] vs):∃v,vs=[v]/\Is K α F d v:=by
 obtain⟨v,r,rfl,i,t⟩:=h.of_cons
 rw[t.of_nil]
 exact⟨v,rfl,i⟩
theorem CT{K:PySem.W.Frag}{α:List Addr}{F:Hp}{d d':D}{vs:List V}(h:IsL K α F [d,d'] vs):∃v u,vs=[v,u]/\Is K α F d v/\Is K α F d' u:=by
 obtain⟨v,r,rfl,i,t⟩:=h.of_cons
 obtain⟨u,rfl,i2⟩:=gH t
 exact⟨v,u,rfl,i,i2⟩
noncomputable def pU:List D->Option D
 | [.lst xs]=>some (.int xs.length)
 | [.tup xs]=>some (.int xs.length)
 | [.scr ns]=>some (.int ns.length)
 | [.str z]=>if z.length<=big then some (.int z.length) else none
 | _=>none
theorem kW:CallD X C (.builtin "len") pU:=by
 intro pins s σ H xs us Q I r hw
 obtain⟨e,Ω,ds,z,eH,w,i,q,kk⟩:=hw
 subst eH
 match ds,q with
 | [.lst ys],q =>
  obtain⟨v,rfl,iv⟩:=gH i
  rw[Is] at iv
  obtain⟨p,vs,rfl,h1,r1⟩:=iv
  cases q
  exact lz pins s σ _ _ us Q I r ⟨p,vs,rfl,.inl (SqL.of (w.fh _ _ h1)),kk _ e (Ext.refl e) w (by rw[Is,r1.length])⟩
 | [.tup ys],q =>
  obtain⟨v,rfl,iv⟩:=gH i
  rw[Is] at iv
  obtain⟨p,vs,rfl,h1,r1⟩:=iv
  cases q
  exact lz pins s σ _ _ us Q I r ⟨p,vs,rfl,.inr (SqT.of (w.fh _ _ h1)),kk _ e (Ext.refl e) w (by rw[Is,r1.length])⟩
 | [.scr ns],q =>
  obtain⟨v,rfl,iv⟩:=gH i
  rw[Is] at iv
  obtain⟨p,rfl,h1⟩:=iv
  cases q
  exact lz pins s σ _ _ us Q I r ⟨p,_,rfl,.inl (w.fh.seq h1),kk _ e (Ext.refl e) w (by rw[Is,List.length_map])⟩
 | [.str zz],q =>
  obtain⟨v,rfl,iv⟩:=gH i
  rw[Is] at iv
  subst iv
  have q:(if zz.length<=big then some (D.int zz.length) else none)=some z:=q
  split at q
  ·rename_i hl
   cases q
   exact zP pins s σ _ _ us Q I r ⟨zz,rfl,iI hl,kk _ e (Ext.refl e) w (by rw[Is])⟩
  ·cases q
noncomputable def jz:List D->Option D
 | [.int i,.int j]=>some (.int (if j<i then j else i))
 | _=>none
theorem mW(hc:X.calm=true):CallD X C (.builtin "min") jz:=by
 intro pins s σ H xs us Q I r hw
 obtain⟨e,Ω,ds,z,eH,w,i,q,kk⟩:=hw
 subst eH
 obtain⟨k,j,rfl,rfl⟩:∃k j,ds=[.int k,.int j]/\z=.int (if j<k then j else k):=by
  unfold jz at q
  split at q
  ·cases q;exact⟨_,_,rfl,rfl⟩
  ·cases q
 ·obtain⟨v,u,rfl,i1,i2⟩:=CT i
  rw[Is] at i1 i2
  subst i1 i2
  exact Gb hc pins s σ _ _ us Q I r ⟨k,j,rfl,kk _ e (Ext.refl e) w (by rw[Is])⟩
noncomputable def lF:List D->Option D
 | [.int i,.int j]=>some (.int (if j>i then j else i))
 | _=>none
theorem pJ(hc:X.calm=true):CallD X C (.builtin "max") lF:=by
 intro pins s σ H xs us Q I r hw
 obtain⟨e,Ω,ds,z,eH,w,i,q,kk⟩:=hw
 subst eH
 obtain⟨k,j,rfl,rfl⟩:∃k j,ds=[.int k,.int j]/\z=.int (if j>k then j else k):=by
  unfold lF at q
  split at q
  ·cases q;exact⟨_,_,rfl,rfl⟩
  ·cases q
 ·obtain⟨v,u,rfl,i1,i2⟩:=CT i
  rw[Is] at i1 i2
  subst i1 i2
  exact Ga hc pins s σ _ _ us Q I r ⟨k,j,rfl,kk _ e (Ext.refl e) w (by rw[Is])⟩
noncomputable def Ly:List D->Option D
 | [.int i]=>some (.int i)
 | [.bl k]=>some (.int (if k then 1 else 0))
 | _=>none
theorem Gw:CallD X C (.type "int") Ly:=by
 intro pins s σ H xs us Q I r hw
 obtain⟨e,Ω,ds,z,eH,w,i,q,kk⟩:=hw
 subst eH
 match ds,q with
 | [.int k],q =>
  obtain⟨v,rfl,iv⟩:=gH i
  rw[Is] at iv
  subst iv
  cases q
  exact yp pins s σ _ _ us Q I r (.inl ⟨k,rfl,kk _ e (Ext.refl e) w (by rw[Is])⟩)
 | [.bl k],q =>
  obtain⟨v,rfl,iv⟩:=gH i
  rw[Is] at iv
  subst iv
  cases q
  exact yp pins s σ _ _ us Q I r (.inr ⟨k,rfl,kk _ e (Ext.refl e) w (by rw[Is])⟩)
noncomputable def oK:List D->Option D
 | [.lst xs]=>some (.lst xs)
 | [.tup xs]=>some (.lst xs)
 | [.scr ns]=>some (.lst (ns.map D.int))
 | _=>none
theorem vQ:CallD X C (.type "list") oK:=by
 intro pins s σ H xs us Q I r hw
 obtain⟨e,Ω,ds,z,eH,w,i,q,kk⟩:=hw
 subst eH
 match ds,q with
 | [.lst ys],q =>
  obtain⟨v,rfl,iv⟩:=gH i
  rw[Is] at iv
  obtain⟨p,vs,rfl,h1,r1⟩:=iv
  cases q
  refine lA pins s σ _ _ us Q I r ⟨p,vs,rfl,.inl (SqL.of (w.fh _ _ h1)),fun l hl=>kk _ (e.new l _) (w.new_ext hl) (w.new hl) ?_⟩
  rw[Is]
  exact⟨l,vs,rfl,aJ,r1.ext (w.new_ext hl)⟩
 | [.tup ys],q =>
  obtain⟨v,rfl,iv⟩:=gH i
  rw[Is] at iv
  obtain⟨p,vs,rfl,h1,r1⟩:=iv
  cases q
  refine lA pins s σ _ _ us Q I r ⟨p,vs,rfl,.inr (SqT.of (w.fh _ _ h1)),fun l hl=>kk _ (e.new l _) (w.new_ext hl) (w.new hl) ?_⟩
  rw[Is]
  exact⟨l,vs,rfl,aJ,r1.ext (w.new_ext hl)⟩
 | [.scr ns],q =>
  obtain⟨v,rfl,iv⟩:=gH i
  rw[Is] at iv
  obtain⟨p,rfl,h1⟩:=iv
  cases q
  refine lA pins s σ _ _ us Q I r ⟨p,_,rfl,.inl (w.fh.seq h1),fun l hl=>kk _ (e.new l _) (w.new_ext hl) (w.new hl) ?_⟩
  rw[Is]
  exact⟨l,_,rfl,aJ,IsL.ints ns⟩
noncomputable def tyD:D->Option String
 | .non=>some "NoneType"
 | .bl _=>some "bool"
 | .int _=>some "int"
 | .str _=>some "str"
 | .tup _=>some "tuple"
 | .lst _=>some "list"
 | _=>none
noncomputable def jf(T:String)(d:D):Option D:=match tyD d with
 | some t=>some (.bl (decide (t=T) || (decide (t = "bool") && decide (T = "int"))))
 | none=>none
noncomputable def gUn(r:D->Option D)(g:Den):Den:=fun ρ Ω=>match g ρ Ω with
 | some (d,Ω1)=>match r d with
  | some z=>some (z,Ω1)
  | none=>none
 | none=>none
theorem NK{K:PySem.W.Frag}{α:List Addr}{F H:Hp}(ff:bC F H){d:D}{v:V}{t:String}(i:Is K α F d v)(h:tyD d=some t):TyOf K H v (.type t):=by
 cases d<;>rw[Is] at i<;>(try cases h)
 ·subst i;exact .non
 ·subst i;exact .bl _
 ·subst i;exact .int _
 ·subst i;exact .str _
 ·obtain⟨a,vs,rfl,e,_⟩:=i;exact .tup (ff _ _ e)
 ·obtain⟨a,vs,rfl,e,_⟩:=i;exact .lst (ff _ _ e)
theorem kY{T:String}{n:Str}{p:Pos}{y:Expr}(ha:PD X C x g)(hy:PE X y (tC (.ty T)))(hg:Gl X n)(hm:X.mg n=none)(hv:bootBuiltins n=some (.builtin "isinstance"))
  (hk:∀t∈["NoneType","bool","int","str","tuple","list"],PySem.W.kitOne X.K (.type t) (.type T)=some (decide (t=T) || (decide (t = "bool") && decide (T = "int"))))
  (hn:n ≠ "__name__":=by decide) (hdb:(n==("__debug__":Str))=false:=by decide)
  (he:starEach [x,y] X.env=(false,eval x X.env)::starEach [y] X.env:=by rfl) (he2:starEach [y] X.env=(false,eval y X.env)::starEach [] X.env:=by rfl) (hpl:(backTo pos (starEach [y] X.env)).any (·.1)=false:=by rfl) :
  PD X C (.Call (.Name n p) [x,y] [] pos) (gUn (jf T) g):=by
 have hc:fL X (.builtin "isinstance") (fun xs H Q=>∃v t k,xs=[v,.ty T]/\TyOf X.K H v (.type t)/\PySem.W.kitOne X.K (.type t) (.type T)=some k/\Q (.bl k) H):=by
  intro pins s σ H xs us Q I r hw
  obtain⟨v,t,k,rfl,ty,e,q⟩:=hw
  obtain⟨u,w',rfl,r1,r2⟩:=vals2 r
  cases (show w'=Value.type T from r2)
  exact yq I r1 ty e fun tk=>⟨.bl k,H,I.tok tk,rfl,q⟩
 refine aY (fZ hc hg hm hv (bF ha (bF hy cQ he2) he) hn hdb he hpl) fun σ H Q hw'=>?_
 obtain⟨e,Ω,ρ,d,Ω',eH,w,rl,e1,kk⟩:=hw'
 unfold gUn at e1
 cases q1:g ρ Ω with
 | none=>rw[q1] at e1;cases e1
 | some p1 =>
  obtain⟨d1,Ω1⟩:=p1
  rw[q1] at e1
  dsimp only at e1
  unfold jf at e1
  cases q2:tyD d1 with
  | none=>rw[q2] at e1;cases e1
  | some t =>
   rw[q2] at e1
   cases e1
   refine⟨e,Ω,ρ,d1,_,eH,w,rl,q1,fun v e' x' w' i'=>?_⟩
   refine⟨v,t,_,rfl,NK w'.fh i' q2,hk t ?_,kk _ e' x' w' (by rw[Is])⟩
   cases d1<;>cases q2<;>simp
end
end DL
namespace DL
open PySem PySem.Spec PyProof.Rows L2
inductive Out where
 | nx (ρ:List Sl) (Ω:List OS) |rt (d:D) (Ω:List OS) |bk (ρ:List Sl) (Ω:List OS) |ct (ρ:List Sl) (Ω:List OS)
noncomputable abbrev aQ:=List Sl->List OS->Option Out
structure RelS(K:PySem.W.Frag)(C:Cl)(e₀ e:E4)(Ω:List OS)(σ:St)(ρ:List Sl):Prop where
 wf:Wf K C e Ω
 rel:RelE K e σ ρ
 ext:Ext e₀ e
 fresh:∀(i:Nat) (ds:List D) (a:Addr),ρ[i]? = some (.own ds)->σ[i]? = some (some (.ref a))->e₀.H a=none
noncomputable def Td(K:PySem.W.Frag)(C:Cl)(e₀:E4)(Dn:Ends):Out->Prop
 | .nx ρ Ω=>∀e σ,RelS K C e₀ e Ω σ ρ->Dn.nx σ e.H
 | .bk ρ Ω=>∀e σ,RelS K C e₀ e Ω σ ρ->Dn.bk σ e.H
 | .ct ρ Ω=>∀e σ,RelS K C e₀ e Ω σ ρ->Dn.ct σ e.H
 | .rt d Ω=>∀e v,Ext e₀ e->Wf K C e Ω->Is K e.α e.F d v->Dn.rt v e.H
noncomputable def tDS(K:PySem.W.Frag)(C:Cl)(e₀:E4)(g:aQ):TS:=fun Dn σ H=>∃e Ω ρ o,e.H=H/\RelS K C e₀ e Ω σ ρ/\g ρ Ω=some o/\Td K C e₀ Dn o
noncomputable def PDS(X:Cx)(C:Cl)(st:Stmt)(g:aQ):Prop:=∀e₀,PS X st (tDS X.K C e₀ g)
noncomputable def PDB(X:Cx)(C:Cl)(st:List Stmt)(g:aQ):Prop:=∀e₀,PSs X st (tDS X.K C e₀ g)
section
variable {K:PySem.W.Frag} {C:Cl} {e₀ e e':E4} {Ω Ω':List OS} {σ:St} {ρ:List Sl}
theorem RelS.to(r:RelS K C e₀ e Ω σ ρ)(x:Ext e e')(w:Wf K C e' Ω'):RelS K C e₀ e' Ω' σ ρ:=⟨w,r.rel.ext x,r.ext.trans x,r.fresh⟩
theorem jA{i j:Nat}{d:D}{ds:List D}(h:(ρ.set i (.dat d))[j]? = some (.own ds)):i≠j:=fun e1=>by
 subst e1
 have hl:i<ρ.length:=by
  have:=(List.getElem?_eq_some_iff.mp h).1
  simpa using this
 rw[List.getElem?_set_self hl] at h
 cases h
theorem RelS.set(r:RelS K C e₀ e Ω σ ρ)(i:Nat){d:D}{v:V}(h:Is K e.α e.F d v):RelS K C e₀ e Ω (σ.set i (some v)) (ρ.set i (.dat d)) :=
 ⟨r.wf,r.rel.set i h,r.ext,fun j ds a h1 h2=>by
  have n:=jA h1
  rw[List.getElem?_set_ne n] at h1 h2
  exact r.fresh j ds a h1 h2⟩
end
section
variable {X:Cx} {C:Cl} {a b c x:Expr} {f g:Den} {p:bR} {st:Stmt} {rest sts sts':List Stmt} {s t:aQ} {pos:Pos}
noncomputable def aP:aQ:=fun ρ Ω=>some (.nx ρ Ω)
noncomputable def aH(s t:aQ):aQ:=fun ρ Ω=>match s ρ Ω with
 | some (.nx ρ' Ω')=>t ρ' Ω'
 | r=>r
theorem aU:PDB X C [] aP:=fun e₀=>n_ Mw fun Dn σ H hw'=>by
 obtain⟨e,Ω,ρ,o,eH,r,q,k⟩:=hw'
 subst eH
 cases q
 exact k e σ r
theorem aD(h1:PDS X C st s)(h2:PDB X C rest t):PDB X C (st::rest) (aH s t):=fun e₀=>n_ (uO (h1 e₀) (h2 e₀)) fun Dn σ H hw'=>by
 obtain⟨e,Ω,ρ,o,eH,r,q,k⟩:=hw'
 unfold aH at q
 cases q1:s ρ Ω with
 | none=>rw[q1] at q;cases q
 | some o1 =>
  rw[q1] at q
  refine⟨e,Ω,ρ,o1,eH,r,q1,?_⟩
  cases o1 with
  | nx ρ' Ω'=>exact fun e' σ' r'=>⟨e',Ω',ρ',o,rfl,r',q,k⟩
  | rt d Ω'=>cases q;exact k
  | bk ρ' Ω'=>cases q;exact k
  | ct ρ' Ω'=>cases q;exact k
theorem aG(h1:PDS X C st s):PDB X C [st] s:=fun e₀=>Cy (h1 e₀)
noncomputable def sE(γ:List Sl->Option (List Sl))(s:aQ):aQ:=fun ρ Ω=>match γ ρ with
 | some ρ'=>s ρ' Ω
 | none=>none
noncomputable def Lz(γ:List Sl->Option (List Sl)):Prop:=∀(K:PySem.W.Frag) (C:Cl) (e₀ e:E4) (Ω:List OS) (σ:St) (ρ ρ':List Sl),γ ρ=some ρ'->RelS K C e₀ e Ω σ ρ->∃e',e'.H=e.H/\RelS K C e₀ e' Ω σ ρ'
theorem yE{γ:List Sl->Option (List Sl)}(hγ:Lz γ)(h:PDB X C sts s):PDB X C sts (sE γ s):=fun e₀=>n_ (h e₀) fun Dn σ H hw'=>by
 obtain⟨e,Ω,ρ,o,eH,r,q,k⟩:=hw'
 unfold sE at q
 cases q1:γ ρ with
 | none=>rw[q1] at q;cases q
 | some ρ' =>
  rw[q1] at q
  obtain⟨e',he,r'⟩:=hγ _ _ _ _ _ _ _ _ q1 r
  exact⟨e',Ω,ρ',o,he.trans eH,r',q,k⟩
noncomputable def frz(i:Nat):List Sl->Option (List Sl):=fun ρ=>match ρ[i]? with
 | some (.own ds)=>some (ρ.set i (.dat (.lst ds)))
 | _=>some ρ
theorem yF(i:Nat):Lz (frz i):=by
 intro K C e₀ e Ω σ ρ ρ' h r
 unfold frz at h
 cases q:ρ[i]? with
 | none=>rw[q] at h;cases h;exact⟨e,rfl,r⟩
 | some sl =>
  rw[q] at h
  cases sl with
  | und=>cases h;exact⟨e,rfl,r⟩
  | dat d=>cases h;exact⟨e,rfl,r⟩
  | own ds =>
   cases h
   obtain⟨a,vs,e1,e2,i1,n1,n2⟩:=r.rel.own i ds q
   have h0:=r.fresh i ds a q e1
   have ff:bC e.F (upd e.F a (.lst vs)):=fun b o hb=>by rw[aC (aM hb n1)];exact hb
   have fh:bC (upd e.F a (.lst vs)) e.H:=fun b o hb=>by
    by_cases hba:b=a
    ·subst hba;rw[aJ] at hb;cases hb;exact e2
    ·rw[aC hba] at hb;exact r.wf.fh b o hb
   have fn:∀b o,(upd e.F a (.lst vs)) b=some o->e.F b=some o\/b=a:=fun b o hb=>by
    by_cases hba:b=a
    ·exact .inr hba
    ·rw[aC hba] at hb;exact .inl hb
   refine⟨⟨e.α,upd e.F a (.lst vs),e.A,e.H⟩,rfl,⟨fh,fun b hb=>?_,r.wf.ah,r.wf.ol,r.wf.nd,fun n b o h1 h2=>⟨(r.wf.ob n b o h1 h2).1,(r.wf.ob n b o h1 h2).2.keep (fun u hu=>hu) ff ⟨[],by simp⟩⟩⟩,⟨by simp[r.rel.len],fun j d hj=>?_,fun j es hj=>?_,fun j k ds' es b hj hk hj' hk'=>?_⟩,⟨r.ext.fz,r.ext.hk,r.ext.dm,r.ext.ff.trans ff,fun b o hb=>?_,r.ext.an,r.ext.aa,r.ext.al⟩,fun j es b hj hj'=>?_⟩
   ·show upd e.F a _ b=none
    rw[aC (fun z=>n2 (by rw[<-z];exact hb))]
    exact r.wf.fa b hb
   ·by_cases e3:i=j
    ·subst e3
     have hl:i<ρ.length:=(List.getElem?_eq_some_iff.mp q).1
     rw[List.getElem?_set_self hl] at hj
     cases hj
     refine⟨.ref a,e1,?_⟩
     rw[Is]
     exact⟨a,vs,rfl,aJ,IsL.mono ff ⟨[],by simp⟩ ds i1⟩
    ·rw[List.getElem?_set_ne e3] at hj
     obtain⟨v,z1,z2⟩:=r.rel.dat j d hj
     exact⟨v,z1,Is.mono ff ⟨[],by simp⟩ d z2⟩
   ·have n:=jA hj
    rw[List.getElem?_set_ne n] at hj
    obtain⟨a',vs',z1,z2,z3,z4,z5⟩:=r.rel.own j es hj
    have na:a'≠a:=fun z=>n (r.rel.sep i j ds es a q hj e1 (by rw[<-z];exact z1))
    exact⟨a',vs',z1,z2,IsL.mono ff ⟨[],by simp⟩ es z3,by show upd e.F a _ a'=none;rw[aC na];exact z4,z5⟩
   ·have n:=jA hj
    have n':=jA hk
    rw[List.getElem?_set_ne n] at hj
    rw[List.getElem?_set_ne n'] at hk
    exact r.rel.sep j k ds' es b hj hk hj' hk'
   ·rcases fn b o hb with z |z
    ·exact r.ext.fn b o z
    ·subst z;exact .inr (.inl h0)
   ·have n:=jA hj
    rw[List.getElem?_set_ne n] at hj
    exact r.fresh j es b hj hj'
noncomputable def bK(i:Nat)(g:Den):aQ:=fun ρ Ω=>match g ρ Ω with
 | some (d,Ω')=>some (.nx (ρ.set i (.dat d)) Ω')
 | none=>none
theorem zW{K:PySem.W.Frag}{e₀:E4}{i:Nat}{Dn:Ends}{σ:St}{H:Hp}(hw:tDS K C e₀ (bK i g) Dn σ H):DQ (tD K C g) (vH i) Dn σ H:=by
 obtain⟨e,Ω,ρ,o,eH,r,q,k⟩:=hw
 unfold bK at q
 cases q1:g ρ Ω with
 | none=>rw[q1] at q;cases q
 | some p1 =>
  obtain⟨d,Ω'⟩:=p1
  rw[q1] at q
  cases q
  exact⟨e,Ω,ρ,d,Ω',eH,r.wf,r.rel,q1,fun v e' x' w' i'=>k e' _ ((r.to x' w').set i i')⟩
theorem bQ{i:Nat}{n:Str}{pos':Pos}(hN:X.N.Nodup)(hi:X.N[i]? = some n)(hx:Loc X.env.scope n)(he:PD X C x g)(hs:swapsWith x (some (.Name n pos')) pos.line X.env=pure false:=by rfl)(hf:X.fn n=true\/X.env.scope.names.lookup n=some .local:=by first |exact .inl rfl |exact .inr rfl |assumption) :
  PDS X C (.Assign [.Name n pos'] x pos) (bK i g):=fun e₀=>dC (FQ hN hi hx he hs hf) fun Dn σ H h=>zW h
noncomputable def bw(g:Den):aQ:=fun ρ Ω=>match g ρ Ω with
 | some (d,Ω')=>some (.rt d Ω')
 | none=>none
theorem aN(he:PD X C x g):PDS X C (.Return (some x) pos) (bw g):=fun e₀=>dC (FN he) fun Dn σ H hw'=>by
 obtain⟨e,Ω,ρ,o,eH,r,q,k⟩:=hw'
 unfold bw at q
 cases q1:g ρ Ω with
 | none=>rw[q1] at q;cases q
 | some p1 =>
  obtain⟨d,Ω'⟩:=p1
  rw[q1] at q
  cases q
  exact⟨e,Ω,ρ,d,Ω',eH,r.wf,r.rel,q1,fun v e' x' w' i'=>k e' v (r.ext.trans x') w' i'⟩
noncomputable def sIf(p:bR)(s t:aQ):aQ:=fun ρ Ω=>match p ρ Ω with
 | some (true,Ω')=>s ρ Ω'
 | some (false,Ω')=>t ρ Ω'
 | none=>none
theorem bj(hc:PDT X C c p)(ha:PDB X C sts s)(hb:PDB X C sts' t):PDS X C (.If c sts sts' pos) (sIf p s t):=fun e₀=>dC (Li hc (ha e₀) (hb e₀)) fun Dn σ H hw'=>by
 obtain⟨e,Ω,ρ,o,eH,r,q,k⟩:=hw'
 unfold sIf at q
 cases q1:p ρ Ω with
 | none=>rw[q1] at q;cases q
 | some p1 =>
  obtain⟨d,Ω'⟩:=p1
  rw[q1] at q
  refine⟨e,Ω,ρ,d,Ω',eH,r.wf,r.rel,q1,fun e' x' w'=>?_⟩
  cases d with
  | true=>rw[if_pos rfl];exact⟨e',Ω',ρ,o,rfl,r.to x' w',q,k⟩
  | false=>rw[if_neg (by decide)];exact⟨e',Ω',ρ,o,rfl,r.to x' w',q,k⟩
noncomputable def cC(g:Den):aQ:=fun ρ Ω=>match g ρ Ω with
 | some (_,Ω')=>some (.nx ρ Ω')
 | none=>none
theorem cR(he:PD X C x g)(hs:swapsWith x none pos.line X.env=pure false:=by rfl):PDS X C (.Expr x pos) (cC g):=fun e₀=>dC (tQ he hs) fun Dn σ H hw'=>by
 obtain⟨e,Ω,ρ,o,eH,r,q,k⟩:=hw'
 unfold cC at q
 cases q1:g ρ Ω with
 | none=>rw[q1] at q;cases q
 | some p1 =>
  obtain⟨d,Ω'⟩:=p1
  rw[q1] at q
  cases q
  exact⟨e,Ω,ρ,d,Ω',eH,r.wf,r.rel,q1,fun v e' x' w' i'=>k e' σ (r.to x' w')⟩
noncomputable def lG:aQ:=fun _ _=>none
theorem jl:PDS X C st lG:=fun e₀=>dC Iw fun Dn σ H hw'=>by obtain⟨e,Ω,ρ,o,eH,r,q,k⟩:=hw';cases q
noncomputable def xq(i:Nat)(g:bx):aQ:=fun ρ Ω=>match g ρ Ω with
 | some (ds,Ω')=>if ds.length<=big then some (.nx (ρ.set i (.own ds)) Ω') else none
 | none=>none
theorem xr{i:Nat}{n:Str}{pos' lp:Pos}{es:List Expr}{ga:bx}(hN:X.N.Nodup)(hi:X.N[i]? = some n)(hx:Loc X.env.scope n)(he:PDA X C es ga)(hs:swapsWith (.List es lp) (some (.Name n pos')) pos.line X.env=pure false:=by rfl)(hf:X.fn n=true\/X.env.scope.names.lookup n=some .local:=by first |exact .inl rfl |exact .inr rfl |assumption) :
  PDS X C (.Assign [.Name n pos'] (.List es lp) pos) (xq i ga):=fun e₀=>dC (FQ hN hi hx (vJ he) hs hf) fun Dn σ H hw'=>by
 obtain⟨e,Ω,ρ,o,eH,r,q,k⟩:=hw'
 unfold xq at q
 cases q1:ga ρ Ω with
 | none=>rw[q1] at q;cases q
 | some p1 =>
  obtain⟨ds,Ω'⟩:=p1
  rw[q1] at q
  dsimp only at q
  split at q
  ·rename_i hl
   cases q
   refine⟨e,Ω,ρ,ds,Ω',eH,r.wf,r.rel,q1,fun vs e' x' w' i'=>⟨by rw[<-i'.length];exact iI hl,fun a ha=>?_⟩⟩
   have r':=r.to x' w'
   have hne:∀b u,e'.H b=some u->b≠a:=fun b u hb=>aM hb ha
   have hF:e'.F a=none:=w'.nF ha
   have hA:¬e'.A a:=fun z=>(w'.ah a z).1 ha
   have own1:∀(j:Nat) (es:List D),(ρ.set i (.own ds))[j]? = some (.own es)->(j=i/\es=ds/\i<ρ.length)\/(j≠i/\ρ[j]? = some (.own es)):=fun j es hj=>by
    by_cases e1:i=j
    ·subst e1
     have hl:i<ρ.length:=by
      have:=(List.getElem?_eq_some_iff.mp hj).1
      simpa using this
     rw[List.getElem?_set_self hl] at hj
     cases hj
     exact .inl ⟨rfl,rfl,hl⟩
    ·rw[List.getElem?_set_ne e1] at hj
     exact .inr ⟨fun z=>e1 z.symm,hj⟩
   refine k ⟨e'.α,e'.F,e'.A,upd e'.H a (.lst vs)⟩ _ ⟨⟨fun b u hb=>?_,w'.fa,fun b hb=>?_,w'.ol,w'.nd,fun n b u h1 h2=>⟨(w'.ob n b u h1 h2).1,(w'.ob n b u h1 h2).2.keep (fun z hz=>?_) (bC.refl _) ⟨[],by simp⟩⟩⟩,⟨by simp[r'.rel.len],fun j d hj=>?_,fun j es hj=>?_,fun j m es fs b hj hm h1 h2=>?_⟩,⟨fun b o' u hb=>by show upd e'.H a _ b=some (.frz o' u);rw[aC (hne b _ (r'.ext.fz b o' u hb))];exact r'.ext.fz b o' u hb,fun b u hb hn=>?_,fun b u hb=>?_,r'.ext.ff,r'.ext.fn,r'.ext.an,r'.ext.aa,r'.ext.al⟩,fun j es b hj h1=>?_⟩
   ·show upd e'.H a _ b=some u
    rw[aC (hne b u (w'.fh b u hb))];exact w'.fh b u hb
   ·show upd e'.H a _ b≠none/\∀xs,upd e'.H a _ b≠some (.tup xs)
    rw[aC (fun z=>hA (by rw[<-z];exact hb))];exact w'.ah b hb
   ·show upd e'.H a _ b=some z
    rw[aC (hne b z hz)];exact hz
   ·have n:i≠j:=fun e1=>by
     subst e1
     have hl:i<ρ.length:=by
      have:=(List.getElem?_eq_some_iff.mp hj).1
      simpa using this
     rw[List.getElem?_set_self hl] at hj
     cases hj
    rw[List.getElem?_set_ne n] at hj ⊢
    exact r'.rel.dat j d hj
   ·rcases own1 j es hj with⟨rfl,rfl,hq⟩ |⟨n,hj'⟩
    ·exact⟨a,vs,List.getElem?_set_self (by rw[r'.rel.len];exact hq),aJ,i',hF,hA⟩
    ·obtain⟨b,us,z1,z2,z3,z4,z5⟩:=r'.rel.own j es hj'
     exact⟨b,us,by rw[List.getElem?_set_ne n.symm];exact z1,by show upd e'.H a _ b=_;rw[aC (hne b _ z2)];exact z2,z3,z4,z5⟩
   ·rcases own1 j es hj with⟨rfl,rfl,hq⟩ |⟨n,hj'⟩
    ·rcases own1 m fs hm with⟨rfl,_,_⟩ |⟨n',hm'⟩
     ·rfl
     ·rw[List.getElem?_set_self (by rw[r'.rel.len];exact hq)] at h1
      rw[List.getElem?_set_ne n'.symm] at h2
      obtain⟨b',us,z1,z2,_⟩:=r'.rel.own m fs hm'
      rw[h2] at z1
      cases h1
      cases z1
      exact absurd rfl (hne _ _ z2)
    ·rcases own1 m fs hm with⟨rfl,_,hq⟩ |⟨n',hm'⟩
     ·rw[List.getElem?_set_self (by rw[r'.rel.len];exact hq)] at h2
      rw[List.getElem?_set_ne n.symm] at h1
      obtain⟨b',us,z1,z2,_⟩:=r'.rel.own j es hj'
      rw[h1] at z1
      cases h2
      cases z1
      exact absurd rfl (hne _ _ z2)
     ·rw[List.getElem?_set_ne n.symm] at h1
      rw[List.getElem?_set_ne n'.symm] at h2
      exact r'.rel.sep j m es fs b hj' hm' h1 h2
   ·show upd e'.H a _ b=some u
    have z:=r'.ext.hk b u hb hn
    rw[aC (hne b u z)];exact z
   ·obtain⟨u',z⟩:=r'.ext.dm b u hb
    exact⟨u',by show upd e'.H a _ b=some u';rw[aC (hne b u' z)];exact z⟩
   ·rcases own1 j es hj with⟨rfl,rfl,hq⟩ |⟨n,hj'⟩
    ·rw[List.getElem?_set_self (by rw[r'.rel.len];exact hq)] at h1
     cases h1
     exact r'.ext.back ha
    ·rw[List.getElem?_set_ne n.symm] at h1
     exact r'.fresh j es b hj' h1
  ·cases q
noncomputable def pW(i:Nat)(g:Den):aQ:=fun ρ Ω=>match g ρ Ω with
 | some (d,Ω')=>match ρ[i]? with
  | some (.own ds)=>if ds.length<big then some (.nx (ρ.set i (.own (ds++[d]))) Ω') else none
  | _=>none
 | none=>none
theorem Jy{K:PySem.W.Frag}{e₀:E4}{i:Nat}{Dn:Ends}{σ:St}{H:Hp}(hw:tDS K C e₀ (pW i g) Dn σ H) :
  Lh (tBM K "list" CK (wY i) (zF (tD K C g) zL)) Dn σ H:=by
 obtain⟨e,Ω,ρ,o,eH,r,q,k⟩:=hw
 subst eH
 unfold pW at q
 cases q1:g ρ Ω with
 | none=>rw[q1] at q;cases q
 | some p1 =>
  obtain⟨d,Ω'⟩:=p1
  rw[q1] at q
  dsimp only at q
  cases q2:ρ[i]? with
  | none=>rw[q2] at q;cases q
  | some sl =>
   rw[q2] at q
   cases sl with
   | own ds =>
    dsimp only at q
    split at q
    ·rename_i hl
     cases q
     obtain⟨a,vs,e1,e2,i1,n1,n2⟩:=r.rel.own i ds q2
     refine⟨.ref a,e1,.inl ⟨rfl,_,SqL.of e2⟩,?_⟩
     refine⟨e,Ω,ρ,d,Ω',rfl,r.wf,r.rel,q1,fun v e' x' w' i'=>?_⟩
     have r':=r.to x' w'
     obtain⟨a',vs',e1',e2',i1',n1',n2'⟩:=r'.rel.own i ds q2
     rw[e1] at e1'
     cases e1'
     refine⟨a,vs',v,rfl,rfl,e2',by rw[<-i1'.length];exact oH hl,?_⟩
     have hil:i<ρ.length:=(List.getElem?_eq_some_iff.mp q2).1
     have neH:∀(j:Nat) (es:List D) (b:Addr),j≠i->ρ[j]? = some (.own es)->σ[j]? = some (some (.ref b))->b≠a:=fun j es b n hj h1 z=>by
      subst z
      exact n (r'.rel.sep j i es ds b hj q2 h1 e1)
     have own1:∀(j:Nat) (es:List D),(ρ.set i (.own (ds++[d])))[j]? = some (.own es)->(j=i/\es=ds++[d])\/(j≠i/\ρ[j]? = some (.own es)):=fun j es hj=>by
      by_cases e3:i=j
      ·subst e3
       rw[List.getElem?_set_self hil] at hj
       cases hj
       exact .inl ⟨rfl,rfl⟩
      ·rw[List.getElem?_set_ne e3] at hj
       exact .inr ⟨fun z=>e3 z.symm,hj⟩
     refine k ⟨e'.α,e'.F,e'.A,upd e'.H a (.lst (vs'++[v]))⟩ σ ⟨⟨fun b u hb=>?_,w'.fa,fun b hb=>?_,w'.ol,w'.nd,fun n b u h1 h2=>⟨(w'.ob n b u h1 h2).1,(w'.ob n b u h1 h2).2.keep (fun z hz=>?_) (bC.refl _) ⟨[],by simp⟩⟩⟩,⟨by simp[r'.rel.len],fun j d' hj=>?_,fun j es hj=>?_,fun j m es fs b hj hm h1 h2=>?_⟩,⟨fun b o' u hb=>by have q:=r'.ext.fz b o' u hb;show upd e'.H a _ b=some (.frz o' u);rw[aC (fun z=>by rw[z,e2'] at q;cases q)];exact q,fun b u hb hn=>?_,fun b u hb=>?_,r'.ext.ff,r'.ext.fn,r'.ext.an,r'.ext.aa,r'.ext.al⟩,fun j es b hj h1=>?_⟩
     ·show upd e'.H a _ b=some u
      rw[aC (fun z=>by subst z;rw[n1'] at hb;cases hb)]
      exact w'.fh b u hb
     ·show upd e'.H a _ b≠none/\∀xs,upd e'.H a _ b≠some (.tup xs)
      rw[aC (fun z=>n2' (by rw[<-z];exact hb))]
      exact w'.ah b hb
     ·show upd e'.H a _ b=some z
      rw[aC (fun y=>n2' (by rw[<-y];exact(w'.ob n b u h1 h2).1))]
      exact hz
     ·have n:i≠j:=fun e3=>by
       subst e3
       rw[List.getElem?_set_self hil] at hj
       cases hj
      rw[List.getElem?_set_ne n] at hj
      exact r'.rel.dat j d' hj
     ·rcases own1 j es hj with⟨rfl,rfl⟩ |⟨n,hj'⟩
      ·exact⟨a,_,e1,aJ,i1'.append (.cons i' .nil),n1',n2'⟩
      ·obtain⟨b,us,z1,z2,z3,z4,z5⟩:=r'.rel.own j es hj'
       exact⟨b,us,z1,by show upd e'.H a _ b=_;rw[aC (neH j es b n hj' z1)];exact z2,z3,z4,z5⟩
     ·rcases own1 j es hj with⟨rfl,_⟩ |⟨n,hj'⟩
      ·rcases own1 m fs hm with⟨rfl,_⟩ |⟨n',hm'⟩
       ·rfl
       ·exact r'.rel.sep _ m ds fs b q2 hm' h1 h2
      ·rcases own1 m fs hm with⟨rfl,_⟩ |⟨n',hm'⟩
       ·exact r'.rel.sep j _ es ds b hj' q2 h1 h2
       ·exact r'.rel.sep j m es fs b hj' hm' h1 h2
     ·show upd e'.H a _ b=some u
      have h0:=r'.fresh i ds a q2 e1
      rw[aC (aM hb h0)]
      exact r'.ext.hk b u hb hn
     ·have h0:=r'.fresh i ds a q2 e1
      obtain⟨u',z⟩:=r'.ext.dm b u hb
      exact⟨u',by show upd e'.H a _ b=some u';rw[aC (aM hb h0)];exact z⟩
     ·rcases own1 j es hj with⟨rfl,_⟩ |⟨n,hj'⟩
      ·exact r'.fresh _ ds b q2 h1
      ·exact r'.fresh j es b hj' h1
    ·cases q
   | und=>cases q
   | dat _=>cases q
end
end DL
namespace DL
open PySem PySem.Spec PyProof.Rows L2
open Classical in
noncomputable def hid(P:Addr->Prop)(H:Hp):Hp:=fun b=>if P b then none else H b
theorem CV{P:Addr->Prop}{H:Hp}{b:Addr}(h:P b):hid P H b=none:=if_pos h
theorem uc{P:Addr->Prop}{H:Hp}{b:Addr}(h:¬P b):hid P H b=H b:=if_neg h
theorem qT{P:Addr->Prop}{H:Hp}{b:Addr}{o:HO}(h:hid P H b=some o):H b=some o:=by
 by_cases q:P b
 ·rw[CV q] at h;cases h
 ·rw[uc q] at h;exact h
section
variable {K:PySem.W.Frag} {C:Cl} {e₀ e e':E4} {Ω Ω':List OS} {σ:St} {ρ:List Sl}
theorem RelS.mark(r:RelS K C e₀ e Ω σ ρ):∃e₁:E4,e₁.F=e.F/\e₁.α=e.α/\RelS K C e₁ e Ω σ ρ/\(∀e',Ext e₁ e'->Ext e₀ e')/\(∀b,e₁.H b=none->e₀.H b=none)/\∀b o u,e.H b=some (.frz o u)->e₁.H b=some (.frz o u):=by
 have ho:∀b,(∃(i:Nat) (ds:List D),ρ[i]? = some (Sl.own ds)/\σ[i]? = some (some (V.ref b)))->e₀.H b=none:=fun b ⟨i,ds,h1,h2⟩=>r.fresh i ds b h1 h2
 generalize hP:(fun b:Addr=>∃(i:Nat) (ds:List D),ρ[i]? = some (Sl.own ds)/\σ[i]? = some (some (V.ref b)))=P
 have ho':∀b,P b->e₀.H b=none:=fun b h=>ho b (by rw[<-hP] at h;exact h)
 have hno:∀b,hid P e.H b=none->e₀.H b=none:=fun b h=>by
  by_cases q:P b
  ·exact ho' b q
  ·rw[uc q] at h;exact r.ext.back h
 have hs:∀b o,e₀.H b=some o->hid P e.H b=e.H b:=fun b o h=>uc (fun q=>by rw[ho' b q] at h;cases h)
 refine⟨⟨e.α,e.F,e.A,hid P e.H⟩,rfl,rfl,⟨r.wf,r.rel,⟨fun b o u h=>qT h,fun b o h _=>qT h,fun b o h=>⟨o,qT h⟩,bC.refl _,fun b o h=>.inl h,fun b h=>.inl h,fun b h=>h,[],by simp⟩,fun i ds a h1 h2=>?_⟩,fun e' x=>⟨fun b o u h=>x.fz b o u ((hs b _ h).trans (r.ext.fz b o u h)),fun b o h hn=>?_,fun b o h=>?_,r.ext.ff.trans x.ff,fun b o h=>?_,fun b h=>?_,fun b h=>x.aa b (r.ext.aa b h),?_⟩,hno,fun b o u h=>(uc (fun q=>?_)).trans h⟩
 ·exact CV (by rw[<-hP];exact⟨i,ds,h1,h2⟩)
 ·have z:=r.ext.hk b o h hn
  refine x.hk b o ((hs b o h).trans z) fun hA=>?_
  rcases r.ext.an b hA with q |q
  ·exact hn q
  ·rw[q] at h;cases h
 ·obtain⟨o',z⟩:=r.ext.dm b o h
  exact x.dm b o' ((hs b o h).trans z)
 ·rcases x.fn b o h with q |q |⟨q1,q2,q3⟩
  ·exact r.ext.fn b o q
  ·exact .inr (.inl (hno b q))
  ·have n:¬e₀.A b:=fun z=>q3 (r.ext.aa b z)
   cases z:e₀.H b with
   | none=>exact .inr (.inl rfl)
   | some o' =>
    have z':=r.ext.hk b o' z n
    rw[qT q2] at z'
    cases z'
    exact .inr (.inr ⟨q1,rfl,n⟩)
 ·rcases x.an b h with q |q
  ·exact r.ext.an b q
  ·exact .inr (hno b q)
 ·obtain⟨m,e1⟩:=r.ext.al
  obtain⟨n,e2⟩:=x.al
  exact⟨m++n,by rw[e2];show e.α++n=_;rw[e1,List.append_assoc]⟩
 ·rw[<-hP] at q
  obtain⟨i,ds,h1,h2⟩:=q
  obtain⟨a',vs,e1,e2,_⟩:=r.rel.own i ds h1
  rw[h2] at e1
  cases e1
  rw[h] at e2
  cases e2
end
noncomputable abbrev dH:=D->List Sl->Option (List Sl)
noncomputable def tDG(K:PySem.W.Frag)(C:Cl)(β:dH):TG:=fun v σ H Q=>∃e Ω ρ d ρ',e.H=H/\Wf K C e Ω/\RelE K e σ ρ/\Is K e.α e.F d v/\β d ρ=some ρ' /\
 ∀σ',RelE K e σ' ρ'->(∀(j:Nat) (ds:List D),ρ'[j]? = some (.own ds)->ρ[j]? = some (.own ds)/\σ'[j]? = σ[j]?)->Q σ' e.H
noncomputable def PDG(X:Cx)(C:Cl)(tg:Expr)(β:dH):Prop:=PG X tg (tDG X.K C β)
theorem Gx{X:Cx}{tg:Expr}{t t':TG}(h:PG X tg t)(i:∀v σ H Q,t' v σ H Q->t v σ H Q):PG X tg t':=fun pins s σ H v u Q I r hw=>h pins s σ H v u Q I r (i v σ H Q hw)
theorem CW{X:Cx}{ts:List Expr}{t t':TGs}(h:PGs X ts t)(i:∀v σ H Q,t' v σ H Q->t v σ H Q):PGs X ts t':=fun pins s σ H v u Q I r hw=>h pins s σ H v u Q I r (i v σ H Q hw)
noncomputable def bO(i:Nat):dH:=fun d ρ=>some (ρ.set i (.dat d))
theorem CZ{ρ:List Sl}{σ:St}{i:Nat}{d:D}{v:V}(j:Nat)(ds:List D)(h:(ρ.set i (.dat d))[j]? = some (.own ds)):ρ[j]? = some (.own ds)/\(σ.set i (some v))[j]? = σ[j]?:=by
 have n:=jA h
 rw[List.getElem?_set_ne n] at h
 exact⟨h,List.getElem?_set_ne n⟩
section
variable {X:Cx} {C:Cl} {pos:Pos}
theorem dJ{i:Nat}{x:Str}(hN:X.N.Nodup)(hi:X.N[i]? = some x)(hx:Loc X.env.scope x)(hf:X.fn x=true\/X.env.scope.names.lookup x=some .local:=by first |exact .inl rfl |exact .inr rfl |assumption):PDG X C (.Name x pos) (bO i) :=
 Gx (Cz hN hi hx hf) fun v σ H Q hw'=>by
  obtain⟨e,Ω,ρ,d,ρ',eH,w,r,is,b,k⟩:=hw'
  subst eH
  cases b
  exact k _ (r.set i is) CZ
noncomputable def vR:List Nat->List D->List Sl->Option (List Sl)
 | [],[],ρ=>some ρ
 | i::is,d::ds,ρ=>vR is ds (ρ.set i (.dat d))
 | _,_,_=>none
noncomputable def Ux(K:PySem.W.Frag)(C:Cl)(is:List Nat):TGs:=fun vs σ H Q=>∃e Ω ρ ds ρ',e.H=H/\Wf K C e Ω/\RelE K e σ ρ/\IsL K e.α e.F ds vs/\vR is ds ρ=some ρ' /\
 ∀σ',RelE K e σ' ρ'->(∀(j:Nat) (ds:List D),ρ'[j]? = some (.own ds)->ρ[j]? = some (.own ds)/\σ'[j]? = σ[j]?)->Q σ' e.H
noncomputable def Ei(X:Cx)(C:Cl)(ts:List Expr)(is:List Nat):Prop:=PGs X ts (Ux X.K C is)
theorem uV:Ei X C [] []:=CW Mx fun vs σ H Q hw'=>by
 obtain⟨e,Ω,ρ,ds,ρ',eH,w,r,is,b,k⟩:=hw'
 subst eH
 cases ds with
 | nil=>cases b;exact⟨is.of_nil,k _ r fun _ _ h=>⟨h,rfl⟩⟩
 | cons=>cases b
theorem kZ{i:Nat}{is:List Nat}{x:Str}{ts:List Expr}{px:Pos}(hN:X.N.Nodup)(hi:X.N[i]? = some x)(hx:Loc X.env.scope x)(h2:Ei X C ts is)(hf:X.fn x=true\/X.env.scope.names.lookup x=some .local:=by first |exact .inl rfl |exact .inr rfl |assumption)
  (hs:(assignEach (.Name x px::ts) X.env).map (·.2)=assign (.Name x px) X.env::(assignEach ts X.env).map (·.2):=by rfl):Ei X C (.Name x px::ts) (i::is):=by
 refine CW (Iz (Cz hN hi hx hf) h2 hs) fun vs σ H Q hw'=>?_
 obtain⟨e,Ω,ρ,ds,ρ',eH,w,r,il,b,k⟩:=hw'
 subst eH
 cases ds with
 | nil=>cases b
 | cons d ds =>
  obtain⟨v,vr,rfl,i1,i2⟩:=il.of_cons
  refine⟨v,vr,rfl,?_⟩
  refine⟨e,Ω,_,ds,ρ',rfl,w,r.set i i1,i2,b,fun σ' r' o'=>k σ' r' fun j es hj=>?_⟩
  obtain⟨z1,z2⟩:=o' j es hj
  obtain⟨y1,y2⟩:=CZ (σ:=σ) (v:=v) j es z1
  exact⟨y1,z2.trans y2⟩
noncomputable def lH(is:List Nat):dH:=fun d ρ=>match d with
 | .tup ds=>vR is ds ρ
 | _=>none
theorem vU:∀{is:List Nat} {ds:List D} {ρ ρ':List Sl},vR is ds ρ=some ρ'->ds.length=is.length
 | [],[],_,_,_=>rfl
 | i::is,d::ds,ρ,ρ',h=>by
  rw[List.length_cons,List.length_cons,vU (is:=is) (ds:=ds) h]
 | [],_::_,_,_,h=>by cases h
 | _::_,[],_,_,h=>by cases h
theorem xu{es:List Expr}{k:Nat}{is:List Nat}(hc:X.calm=true)(h:Ei X C es is)
  (hn:(assignEach es X.env).length=is.length:=by rfl) (hst:(assignEach es X.env).findIdx? (·.1)=none:=by rfl):PDG X C (.Tuple es k pos) (lH is):=by
 refine Gx (QB hc h hn hst) fun v σ H Q hw'=>?_
 obtain⟨e,Ω,ρ,d,ρ',eH,w,r,il,b,k⟩:=hw'
 subst eH
 unfold lH at b
 cases d with
 | tup ds =>
  rw[Is] at il
  obtain⟨a,vs,rfl,e1,i1⟩:=il
  exact⟨a,vs,rfl,SqT.of (w.fh _ _ e1),by rw[<-i1.length];exact vU b,e,Ω,ρ,ds,ρ',rfl,w,r,i1,b,k⟩
 | _=>cases b
theorem RelS.by{K:PySem.W.Frag}{e₀ e:E4}{Ω:List OS}{σ σ':St}{ρ ρ':List Sl}(r:RelS K C e₀ e Ω σ ρ)(r':RelE K e σ' ρ')(o:∀(j:Nat) (ds:List D),ρ'[j]? = some (.own ds)->ρ[j]? = some (.own ds)/\σ'[j]? = σ[j]?):RelS K C e₀ e Ω σ' ρ' :=
 ⟨r.wf,r',r.ext,fun i ds a h1 h2=>by
  obtain⟨z1,z2⟩:=o i ds h1
  rw[z2] at h2
  exact r.fresh i ds a z1 h2⟩
end
noncomputable def Walk(K:PySem.W.Frag)(e:E4)(J:It)(ds:List D):Prop:=∀(i:Nat) (e2:E4),bC e.F e2.F->(∃more,e2.α=e.α++more)->bC e2.F e2.H ->
 (i=ds.length->J.stop i e2.H)/\∀d,ds[i]? = some d->J.go i e2.H/\∀x H',J.yld i e2.H x H'->∃e3:E4,e3.H=H'/\Is K e3.α e3.F d x/\∀(C:Cl) (Ω:List OS),Wf K C e2 Ω->Ext e2 e3/\Wf K C e3 Ω
theorem Walk.still{K:PySem.W.Frag}{e:E4}{J:It}{ds:List D} (h:∀(i:Nat) (e2:E4),bC e.F e2.F->(∃more,e2.α=e.α++more)->bC e2.F e2.H ->
  (i=ds.length->J.stop i e2.H)/\∀d,ds[i]? = some d->J.go i e2.H/\∀x H',J.yld i e2.H x H'->H'=e2.H/\Is K e2.α e2.F d x):Walk K e J ds:=fun i e2 h1 h2 h3=>by
 obtain⟨a,b⟩:=h i e2 h1 h2 h3
 refine⟨a,fun d hd=>⟨(b d hd).1,fun x H' hy=>?_⟩⟩
 obtain⟨z,q⟩:=(b d hd).2 x H' hy
 exact⟨e2,z.symm,q,fun C Ω w=>⟨Ext.refl _,w⟩⟩
noncomputable def tDI(K:PySem.W.Frag)(C:Cl)(γ:bx):TI:=fun σ H R=>∃e Ω ρ ds Ω',e.H=H/\Wf K C e Ω/\RelE K e σ ρ/\γ ρ Ω=some (ds,Ω')/\∀e' J,Ext e e'->Wf K C e' Ω'->Walk K e' J ds->R J e'.H
noncomputable def PDI(X:Cx)(C:Cl)(tg iter:Expr)(γ:bx):Prop:=PI X tg iter (tDI X.K C γ)
theorem zX{X:Cx}{tg iter:Expr}{t t':TI}(h:PI X tg iter t)(i:∀σ H R,t' σ H R->t σ H R):PI X tg iter t':=fun pins s σ H R I hw=>h pins s σ H R I (i σ H R hw)
section
variable {X:Cx} {C:Cl} {tg iter:Expr} {g:Den} {ga:bx} {pos p:Pos}
noncomputable def Jz:D->Option (List D)
 | .lst xs=>some xs
 | .scr ns=>some (ns.map D.int)
 | _=>none
noncomputable def iK(g:Den):bx:=fun ρ Ω=>match g ρ Ω with
 | some (d,Ω')=>match Jz d with
  | some ds=>some (ds,Ω')
  | none=>none
 | none=>none
theorem yG{K:PySem.W.Frag}{e:E4}{a:Addr}{vs:List V}{ds:List D}(h:SqL K e.F a vs)(r:IsL K e.α e.F ds vs):Walk K e (Itl K a) ds:=by
 refine Walk.still ?_
 intro i e2 ff al fh
 have h2:SqL K e2.H a vs:=fh.seq (ff.seq h)
 refine⟨fun z=>⟨vs,h2,by rw[<-r.length];exact Nat.le_of_eq z.symm⟩,fun d hd=>?_⟩
 obtain⟨v,hv,iv⟩:=(IsL.mono ff al ds r).get hd
 exact⟨⟨vs,v,h2,hv⟩,fun x H' ⟨z1,z2⟩=>⟨z1,by
  have:=z2 vs h2
  rw[hv] at this
  cases this
  exact iv⟩⟩
theorem kj(h:PD X C iter g):PDI X C tg iter (iK g):=zX (tU h) fun σ H R hw'=>by
 obtain⟨e,Ω,ρ,ds,Ω',eH,w,rl,q,k⟩:=hw'
 unfold iK at q
 cases q1:g ρ Ω with
 | none=>rw[q1] at q;cases q
 | some p1 =>
  obtain⟨d,Ω1⟩:=p1
  rw[q1] at q
  dsimp only at q
  refine⟨e,Ω,ρ,d,Ω1,eH,w,rl,q1,fun v e' x' w' i'=>?_⟩
  cases d with
  | lst xs =>
   cases q
   rw[Is] at i'
   obtain⟨a,vs,rfl,h1,r1⟩:=i'
   exact⟨a,rfl,⟨vs,SqL.of (w'.fh _ _ h1)⟩,k e' _ x' w' (yG (SqL.of h1) r1)⟩
  | scr ns =>
   cases q
   rw[Is] at i'
   obtain⟨a,rfl,h1⟩:=i'
   exact⟨a,rfl,⟨_,w'.fh.seq h1⟩,k e' _ x' w' (yG h1 (IsL.ints ns))⟩
  | _=>cases q
theorem Te{K:PySem.W.Frag}{H H':Hp}{a:Addr}{xs:List V}(e:bC H H')(h:SqT K H a xs):SqT K H' a xs:=by
 rcases h with (h |⟨o,h⟩) |h
 ·exact .inl (.inl (e _ _ h))
 ·exact .inl (.inr ⟨o,e _ _ h⟩)
 ·exact .inr h
noncomputable def upD(lo:Int)(n:Nat):List D:=(List.range n).map fun(k:Nat)=>D.int (lo+(k:Int))
theorem Ej{K:PySem.W.Frag}{e:E4}{lo:Int}{n:Nat}:Walk K e (Itr lo n) (upD lo n):=by
 refine Walk.still ?_
 intro i e2 _ _ _
 refine⟨fun z=>Nat.le_of_eq (by rw[z];simp[upD]),fun d hd=>?_⟩
 have hi:i<n:=by
  have:=(List.getElem?_eq_some_iff.mp hd).1
  simpa [upD] using this
 refine⟨hi,fun x H' ⟨z1,z2⟩=>⟨z1,?_⟩⟩
 have:d=D.int (lo+(i:Int)):=by
  simp[upD,hi] at hd
  exact hd.symm
 subst this z2
 rw[Is]
noncomputable def oM:List D->Option (List D)
 | [.int j]=>grd (-(2 ^ 62)<=j/\j<2 ^ 62) (some (upD 0 j.toNat))
 | _=>none
noncomputable def mz(r:List D->Option (List D))(g:bx):bx:=fun ρ Ω=>match g ρ Ω with
 | some (ds,Ω')=>match r ds with
  | some es=>some (es,Ω')
  | none=>none
 | none=>none
theorem vV{a:Expr}(hg:Gl X "range")(hm:X.mg "range" = none)(ha:PDA X C [a] ga)(hs:starEach [a] X.env=[(false,eval a X.env)]:=by rfl):PDI X C tg (.Call (.Name "range" p) [a] [] pos) (mz oM ga) :=
 zX (FW hg hm ha hs) fun σ H R hw'=>by
  obtain⟨e,Ω,ρ,ds,Ω',eH,w,rl,q,k⟩:=hw'
  unfold mz at q
  cases q1:ga ρ Ω with
  | none=>rw[q1] at q;cases q
  | some p1 =>
   obtain⟨es,Ω1⟩:=p1
   rw[q1] at q
   dsimp only at q
   refine⟨e,Ω,ρ,es,Ω1,eH,w,rl,q1,fun v e' x' w' i'=>?_⟩
   match es,q,i' with
   | [.int j],q,i' =>
    obtain⟨v,rfl,iv⟩:=gH i'
    rw[Is] at iv
    subst iv
    have ez:oM [D.int j]=grd (-(2 ^ 62)<=j/\j<2 ^ 62) (some (upD 0 j.toNat)):=rfl
    rw[ez] at q
    by_cases hb:(-(2 ^ 62)<=j/\j<2 ^ 62)
    ·rw[fu hb] at q
     cases q
     exact⟨j,rfl,hb.1,hb.2,k e' _ x' w' Ej⟩
    ·have en:grd (-(2 ^ 62)<=j/\j<2 ^ 62) (some (upD 0 j.toNat))=none:=if_neg hb
     rw[en] at q
     cases q
end
noncomputable def jm(β:dH)(s:aQ):List D->aQ
 | [],ρ,Ω=>some (.nx ρ Ω)
 | d::ds,ρ,Ω=>match β d ρ with
  | some ρ1=>match s ρ1 Ω with
   | some (.nx ρ' Ω')=>jm β s ds ρ' Ω'
   | some (.ct ρ' Ω')=>jm β s ds ρ' Ω'
   | some (.bk ρ' Ω')=>some (.nx ρ' Ω')
   | some (.rt z Ω')=>some (.rt z Ω')
   | none=>none
  | none=>none
noncomputable def pX(γ:bx)(β:dH)(s:aQ):aQ:=fun ρ Ω=>match γ ρ Ω with
 | some (ds,Ω')=>jm β s ds ρ Ω'
 | none=>none
section
variable {X:Cx} {C:Cl} {tg iter c:Expr} {γ:bx} {β:dH} {s:aQ} {body:List Stmt} {pos:Pos} {p:bR}
theorem zY{sts:List Stmt}(h:PDB X C sts s):PSs X sts (fun Dn σ H=>∃e₁,tDS X.K C e₁ s Dn σ H):=fun pins sh σ H Dn I ⟨e₁,hw⟩=>h e₁ pins sh σ H Dn I hw
theorem ud(hp:PassesOwn (model X.prog X.w) X.A X.env X.xe)(hc:X.calm=true)(hi:PDI X C tg iter γ)(hg:PDG X C tg β)(hb:PDB X C body s)
  (hs:∀x,foldedSetIterable iter X.env x=pure x:=by intro _;rfl):PDS X C (.For tg iter body [] pos) (pX γ β s):=by
 refine fun e₀=>dC (F_ hp hc hi hg (zY hb) hs) fun Dn σ H hw'=>?_
 obtain⟨e,Ω,ρ,o,eH,r,q,k⟩:=hw'
 unfold pX at q
 cases q1:γ ρ Ω with
 | none=>rw[q1] at q;cases q
 | some p1 =>
  obtain⟨ds,Ω'⟩:=p1
  rw[q1] at q
  dsimp only at q
  refine⟨e,Ω,ρ,ds,Ω',eH,r.wf,r.rel,q1,fun e' J x' w' wk=>?_⟩
  refine⟨fun i m σ H=>m=ds.length-i/\i<=ds.length/\∃e2 Ω2 ρ2,e2.H=H/\RelS X.K C e₀ e2 Ω2 σ ρ2/\bC e'.F e2.F/\(∃more,e2.α=e'.α++more)/\jm β s (ds.drop i) ρ2 Ω2=some o,⟨ds.length,by simp,Nat.zero_le _,e',Ω',ρ,rfl,r.to x' w',bC.refl _,⟨[],by simp⟩,by simpa using q⟩,?_⟩
  rintro i m σ2 H2 ⟨rfl,hil,e2,Ω2,ρ2,rfl,r2,ff,al,q2⟩
  obtain⟨stop,go⟩:=wk i e2 ff al r2.wf.fh
  by_cases hlt:i<ds.length
  ·have hd:ds[i]? = some ds[i]:=List.getElem?_eq_getElem hlt
   obtain⟨g1,y1⟩:=go _ hd
   have edrop:ds.drop i=ds[i]::ds.drop (i+1):=List.drop_eq_getElem_cons hlt
   rw[edrop] at q2
   refine .inr ⟨g1,fun σ' H'=>∃e3 Ω3 ρ3,e3.H=H'/\RelS X.K C e₀ e3 Ω3 σ' ρ3/\bC e'.F e3.F/\(∃more,e3.α=e'.α++more)/\jm β s (ds.drop (i+1)) ρ3 Ω3=some o,fun σ' H' hN=>⟨ds.length-(i+1),by omega,rfl,hlt,hN⟩,fun x H' hy=>?_⟩
   obtain⟨e2',rfl,ix,up⟩:=y1 x H' hy
   obtain⟨x2',w2'⟩:=up C Ω2 r2.wf
   replace r2:=r2.to x2' w2'
   replace ff:=ff.trans x2'.ff
   replace al:∃more,e2'.α=e'.α++more:=by
    obtain⟨m1,z1⟩:=al
    obtain⟨m2,z2⟩:=x2'.al
    exact⟨m1++m2,by rw[z2,z1,List.append_assoc]⟩
   clear y1 g1 stop go
   revert r2 ff al ix
   generalize e2'=e2
   intro ix r2 ff al
   unfold jm at q2
   cases q3:β ds[i] ρ2 with
   | none=>rw[q3] at q2;cases q2
   | some ρ3 =>
    rw[q3] at q2
    dsimp only at q2
    refine⟨e2,Ω2,ρ2,_,ρ3,rfl,r2.wf,r2.rel,ix,q3,fun σ3 r3 o3=>?_⟩
    have r3':=r2.by r3 o3
    obtain⟨e₁,hF,hα,r4,toE,toN,_⟩:=r3'.mark
    cases q4:s ρ3 Ω2 with
    | none=>rw[q4] at q2;cases q2
    | some o4 =>
     rw[q4] at q2
     refine⟨e₁,e2,Ω2,ρ3,o4,rfl,r4,q4,?_⟩
     have back:∀{e5:E4} {Ω5:List OS} {σ5:St} {ρ5:List Sl},RelS X.K C e₁ e5 Ω5 σ5 ρ5->RelS X.K C e₀ e5 Ω5 σ5 ρ5/\bC e'.F e5.F/\∃more,e5.α=e'.α++more:=fun {e5 Ω5 σ5 ρ5} r5=>by
      refine⟨⟨r5.wf,r5.rel,toE _ r5.ext,fun i ds a h1 h2=>toN _ (r5.fresh i ds a h1 h2)⟩,ff.trans (hF ▸ r5.ext.ff),?_⟩
      obtain⟨m1,z1⟩:=al
      obtain⟨m2,z2⟩:=r5.ext.al
      exact⟨m1++m2,by rw[z2,hα,z1,List.append_assoc]⟩
     cases o4 with
     | nx ρ5 Ω5=>exact fun e5 σ5 r5=>⟨e5,Ω5,ρ5,rfl,(back r5).1,(back r5).2.1,(back r5).2.2,q2⟩
     | ct ρ5 Ω5=>exact fun e5 σ5 r5=>⟨e5,Ω5,ρ5,rfl,(back r5).1,(back r5).2.1,(back r5).2.2,q2⟩
     | bk ρ5 Ω5=>cases q2;exact fun e5 σ5 r5=>k e5 σ5 (back r5).1
     | rt z Ω5=>cases q2;exact fun e5 v5 x5 w5 i5=>k e5 v5 (toE _ x5) w5 i5
  ·have ei:i=ds.length:=by omega
   subst ei
   rw[List.drop_length] at q2
   cases q2
   exact .inl ⟨stop rfl,k e2 σ2 r2⟩
noncomputable def gf(p:bR)(s:aQ):Nat->aQ
 | 0,_,_=>none
 | n+1,ρ,Ω=>match p ρ Ω with
  | some (true,Ω1)=>match s ρ Ω1 with
   | some (.nx ρ' Ω')=>gf p s n ρ' Ω'
   | some (.ct ρ' Ω')=>gf p s n ρ' Ω'
   | some (.bk ρ' Ω')=>some (.nx ρ' Ω')
   | some (.rt z Ω')=>some (.rt z Ω')
   | none=>none
  | some (false,Ω1)=>some (.nx ρ Ω1)
  | none=>none
theorem Gy(fuel:Nat)(hp:PassesOwn (model X.prog X.w) X.A X.env X.xe)(hc:PDT X C c p)(hb:PDB X C body s):PDS X C (.While c body [] pos) (gf p s fuel):=by
 refine fun e₀=>dC (IK hp hc (zY hb)) fun Dn σ H hw'=>?_
 obtain⟨e,Ω,ρ,o,eH,r,q,k⟩:=hw'
 refine⟨fun m σ H=>∃e2 Ω2 ρ2,e2.H=H/\RelS X.K C e₀ e2 Ω2 σ ρ2/\gf p s m ρ2 Ω2=some o,⟨fuel,e,Ω,ρ,eH,r,q⟩,?_⟩
 rintro m σ2 H2 ⟨e2,Ω2,ρ2,rfl,r2,q2⟩
 cases m with
 | zero=>cases q2
 | succ m =>
  unfold gf at q2
  cases q3:p ρ2 Ω2 with
  | none=>rw[q3] at q2;cases q2
  | some p3 =>
   obtain⟨b,Ω3⟩:=p3
   rw[q3] at q2
   refine⟨e2,Ω2,ρ2,b,Ω3,rfl,r2.wf,r2.rel,q3,fun e3 x3 w3=>?_⟩
   have r3:=r2.to x3 w3
   cases b with
   | false =>
    refine Jq ?_
    cases q2
    exact k e3 σ2 r3
   | true =>
    refine Jr ?_
    dsimp only at q2
    refine⟨fun σ' H'=>∃e5 Ω5 ρ5,e5.H=H'/\RelS X.K C e₀ e5 Ω5 σ' ρ5/\gf p s m ρ5 Ω5=some o,fun σ' H' hN=>⟨m,Nat.lt_succ_self m,hN⟩,e₀,?_⟩
    cases q4:s ρ2 Ω3 with
    | none=>rw[q4] at q2;cases q2
    | some o4 =>
     rw[q4] at q2
     refine⟨e3,Ω3,ρ2,o4,rfl,r3,q4,?_⟩
     cases o4 with
     | nx ρ5 Ω5=>exact fun e5 σ5 r5=>⟨e5,Ω5,ρ5,rfl,r5,q2⟩
     | ct ρ5 Ω5=>exact fun e5 σ5 r5=>⟨e5,Ω5,ρ5,rfl,r5,q2⟩
     | bk ρ5 Ω5=>cases q2;exact fun e5 σ5 r5=>k e5 σ5 r5
     | rt z Ω5=>cases q2;exact k
end
end DL
namespace DL
open PySem PySem.Spec PyProof.Rows L2
noncomputable abbrev bG:=List D->List OS->Option (D×List OS)
noncomputable def spD(K:PySem.W.Frag)(C:Cl)(f:bG):Sp:=fun vs H Q _=>∃e Ω ds d Ω',e.H=H/\Wf K C e Ω/\IsL K e.α e.F ds vs/\f ds Ω=some (d,Ω')/\∀v e',Ext e e'->Wf K C e' Ω'->Is K e'.α e'.F d v->Q v e'.H
noncomputable def cz(n m:Nat)(s:aQ):bG:=fun ds Ω=>if ds.length=n then match s (ds.map Sl.dat++List.replicate (m-n) Sl.und) Ω with
  | some (.rt d Ω')=>some (d,Ω')
  | some (.nx _ Ω')=>some (.non,Ω')
  | _=>none
 else none
theorem pL{K:PySem.W.Frag}{C:Cl}{e:E4}{Ω:List OS}{N:List Str}{ds:List D}{vs:List V}(w:Wf K C e Ω)(i:IsL K e.α e.F ds vs):RelS K C e e Ω (L2.start N vs) (ds.map Sl.dat++List.replicate (N.length-ds.length) Sl.und):=by
 have noown:∀(j:Nat) (es:List D),(ds.map Sl.dat++List.replicate (N.length-ds.length) Sl.und)[j]? ≠ some (.own es):=fun j es h=>by
  by_cases hj:j<ds.length
  ·rw[List.getElem?_append_left (by simpa using hj),List.getElem?_map] at h
   cases q:ds[j]? with
   | none=>rw[q] at h;cases h
   | some d=>rw[q] at h;cases h
  ·rw[List.getElem?_append_right (by simpa using hj),List.getElem?_replicate] at h
   split at h<;>cases h
 refine⟨w,⟨?_,fun j d h=>?_,fun j es h=>absurd h (noown j es),fun j k es fs a h=>absurd h (noown j es)⟩,Ext.refl e,fun j es a h=>absurd h (noown j es)⟩
 ·unfold L2.start
  simp[i.length]
 ·by_cases hj:j<ds.length
  ·rw[List.getElem?_append_left (by simpa using hj),List.getElem?_map] at h
   cases q:ds[j]? with
   | none=>rw[q] at h;cases h
   | some d' =>
    rw[q] at h
    cases h
    obtain⟨v,hv,iv⟩:=i.get q
    refine⟨v,?_,iv⟩
    unfold L2.start
    rw[List.getElem?_append_left (by simpa [<-i.length] using hj),List.getElem?_map,hv]
    rfl
  ·rw[List.getElem?_append_right (by simpa using hj),List.getElem?_replicate] at h
   split at h<;>cases h
theorem Rm{P:Program}{w:World}{K:PySem.W.Frag}{mg:Str->Option Value}{base:Heap}{C:Cl}{x qual:Str}{st:Stmt}{f:Addr}{fd:FuncData}{N ps:List Str}{k n m:Nat}{s:aQ}(F:Fun K x qual st f fd)(S:FnScope N ps (aB st))(hn:ps.length=n)(hm:N.length=m)
  (hbody:∀(cdv:Value) (A:Around) (outer:List Env) (sh:Shared) (H:Hp) (E:XK),Room k (A.deeper (envOfC qual (aB st) sh.heap.objs.size f cdv)) ->
   PDB (bJ CX0 P w K mg base N qual (aB st) f cdv A outer sh H E).nox C (bh st) s):FnOk P w K mg base CX0 (k+1) f fd ps (spD K C (cz n m s)):=by
 refine F.ok S (fun vs H Q E h=>?_) (fun cdv A outer sh H vs Q E hr h=>?_)
 ·obtain⟨e,Ω,ds,d,Ω',_,_,i,q,_⟩:=h
  unfold cz at q
  by_cases hl:ds.length=n
  ·rw[<-i.length,hl,hn]
  ·rw[if_neg hl] at q;cases q
 ·obtain⟨e,Ω,ds,d,Ω',eH,wf,i,q,kk⟩:=h
  unfold cz at q
  by_cases hl:ds.length=n
  ·rw[if_pos hl] at q
   cases q1:s (ds.map Sl.dat++List.replicate (m-n) Sl.und) Ω with
   | none=>rw[q1] at q;cases q
   | some o =>
    rw[q1] at q
    refine⟨_,hbody cdv A outer sh H E hr e,e,Ω,_,o,eH,pL wf i,by rw[hl,hm];exact q1,?_⟩
    cases o with
    | rt d' Ω2=>cases q;exact fun e' v x' w' i'=>kk v e' x' w' i'
    | nx ρ' Ω2=>cases q;exact fun e' σ' r'=>kk .non e' r'.ext r'.wf (by rw[Is])
    | bk ρ' Ω2=>cases q
    | ct ρ' Ω2=>cases q
  ·rw[if_neg hl] at q;cases q
noncomputable def aW(f:bG)(g:bx):Den:=fun ρ Ω=>match g ρ Ω with
 | some (ds,Ω1)=>f ds Ω1
 | none=>none
section
variable {X:Cx} {C:Cl} {k:Nat} {f:Addr} {fd:FuncData} {ps:List Str} {F:bG} {n:Str} {p pos:Pos} {x:Expr} {es:List Expr} {ga:bx}
theorem Gz{K:PySem.W.Frag}{σ:St}{H:Hp}{Q:VK}{E:XK}(hw:tD K C (aW F ga) σ H Q):Ln (spD K C F) [] E (tDA K C ga) σ H Q:=by
 obtain⟨e,Ω,ρ,d,Ω',eH,w,rl,q,kk⟩:=hw
 unfold aW at q
 cases q1:ga ρ Ω with
 | none=>rw[q1] at q;cases q
 | some p1 =>
  obtain⟨ds,Ω1⟩:=p1
  rw[q1] at q
  refine⟨e,Ω,ρ,ds,Ω1,eH,w,rl,q1,fun vs e' x' w' i'=>?_⟩
  show spD K C F (vs++[]) e'.H Q E
  rw[List.append_nil]
  exact⟨e',Ω1,ds,d,Ω',rfl,w',i',q,fun v e'' x'' w'' i''=>kk v e'' (x'.trans x'') w'' i''⟩
theorem NP(G:FnOk X.prog X.w X.K X.mg X.base CX0 k f fd ps (spD X.K C F))(hr:Room k X.A)(hg:Gl X n)(hm:X.mg n=some (.ref f))(hk:PySem.W.keepIn X.K (.ref f)=true)(hb:Binds X.K fd ps [])
  (ha:PDA X C (x::es) ga) (hdb:(n==("__debug__":Str))=false:=by decide) (he:starEach (x::es) X.env=(false,eval x X.env)::starEach es X.env:=by rfl) (hpl:(backTo pos (starEach es X.env)).any (·.1)=false:=by rfl) :
  PD X C (.Call (.Name n p) (x::es) [] pos) (aW F ga) :=
 aY (MN G hr hg hm hk hb .nil Ef ha hdb he hpl) fun _ _ _ hw=>Gz hw
end
noncomputable def sG(X:Cx)(C:Cl)(ifs:List Expr)(p:bR):Prop:=PTs X ifs (tDT X.K C p)
noncomputable def cO:bR:=fun _ Ω=>some (true,Ω)
theorem gm{X:Cx}{C:Cl}:sG X C [] cO:=fun pins s σ H Q I hw'=>by
 obtain⟨e,Ω,ρ,b,Ω',eH,w,rl,q,k⟩:=hw'
 subst eH
 cases q
 exact Np pins s σ _ Q I (k e (Ext.refl e) w)
theorem JB{X:Cx}{C:Cl}{c:Expr}{p:bR}(h:PDT X C c p):sG X C [c] p:=Nq h
noncomputable def gB(β:dH)(p:bR)(g:Den):List D->List Sl->List OS->Option (List D×List OS)
 | [],_,Ω=>some ([],Ω)
 | d::ds,ρ,Ω=>match β d ρ with
  | some ρ1=>match p ρ1 Ω with
   | some (true,Ω1)=>match g ρ1 Ω1 with
    | some (y,Ω2)=>match gB β p g ds ρ1 Ω2 with
     | some (ys,Ω3)=>some (y::ys,Ω3)
     | none=>none
    | none=>none
   | some (false,Ω1)=>gB β p g ds ρ1 Ω1
   | none=>none
  | none=>none
noncomputable def cI(μ:List (Option Nat))(ρ:List Sl):List Sl:=μ.map fun o=>match o with
 | none=>Sl.und
 | some j=>match ρ[j]? with
  | some (.dat d)=>.dat d
  | _=>.und
noncomputable def gD(μ:List (Option Nat))(γ:bx)(β:dH)(p:bR)(g:Den):Den:=fun ρ Ω=>match γ ρ Ω with
 | some (ds,Ω1)=>if ds.length<=big then match gB β p g ds (cI μ ρ) Ω1 with
   | some (ys,Ω2)=>some (.lst ys,Ω2)
   | none=>none
  else none
 | none=>none
section
variable {K:PySem.W.Frag} {C:Cl} {e:E4} {σ:St} {ρ:List Sl} {μ:List (Option Nat)}
theorem GC{j:Nat}{d:D}(h:(cI μ ρ)[j]? = some (.dat d)):∃i,μ[j]? = some (some i)/\ρ[i]? = some (.dat d):=by
 unfold cI at h
 rw[List.getElem?_map] at h
 cases q:μ[j]? with
 | none=>rw[q] at h;cases h
 | some o =>
  rw[q] at h
  cases o with
  | none=>cases h
  | some i =>
   cases q2:ρ[i]? with
   | none=>simp[q2] at h
   | some sl =>
    cases sl with
    | dat d'=>simp[q2] at h;subst h;exact⟨i,rfl,q2⟩
    | und=>simp[q2] at h
    | own _=>simp[q2] at h
theorem k_{j:Nat}{ds:List D}:(cI μ ρ)[j]? ≠ some (.own ds):=fun h=>by
 unfold cI at h
 rw[List.getElem?_map] at h
 cases q:μ[j]? with
 | none=>rw[q] at h;cases h
 | some o =>
  rw[q] at h
  cases o with
  | none=>cases h
  | some i =>
   cases q2:ρ[i]? with
   | none=>simp[q2] at h
   | some sl=>cases sl<;>simp[q2] at h
theorem yH(r:RelE K e σ ρ):RelE K e (inner μ σ) (cI μ ρ):=by
 refine⟨by simp[inner,cI],fun j d h=>?_,fun j ds h=>absurd h k_,fun j k ds es a h=>absurd h k_⟩
 obtain⟨i,h1,h2⟩:=GC h
 obtain⟨v,e1,iv⟩:=r.dat i d h2
 refine⟨v,?_,iv⟩
 unfold inner
 rw[List.getElem?_map,h1]
 show some ((σ[i]?).join)=_
 rw[e1]
 rfl
end
section
variable {K:PySem.W.Frag} {C:Cl} {γ:bx} {β:dH} {p:bR} {g:Den} {μ:List (Option Nat)}
structure CI(K:PySem.W.Frag)(C:Cl)(β:dH)(p:bR)(g:Den)(ds:List D)(a:Addr)(ysAll:List D)(Ωf:List OS)(e':E4)(i:Nat)(σ':St)(e2:E4)(Ω2:List OS)(ρ2:List Sl)(vs:List V)(ys0 ys1:List D):Prop where
 w:Wf K C e2 Ω2
 r:RelE K e2 σ' ρ2
 no:∀(j:Nat) (es:List D),ρ2[j]? ≠ some (.own es)
 ha:e2.H a=some (.lst vs)
 hF:e2.F a=none
 hA:¬e2.A a
 iy:IsL K e2.α e2.F ys0 vs
 x:Ext e' e2
 q:gB β p g (ds.drop i) ρ2 Ω2=some (ys1,Ωf)
 ey:ys0++ys1=ysAll
 hy:ys0.length<=i
noncomputable def Rn(K:PySem.W.Frag)(C:Cl)(β:dH)(p:bR)(g:Den)(ds:List D)(a:Addr)(ysAll:List D)(Ωf:List OS)(e':E4)(i:Nat)(σ':St)(H':Hp):Prop :=
 ∃e2 Ω2 ρ2 vs ys0 ys1,e2.H=H'/\CI K C β p g ds a ysAll Ωf e' i σ' e2 Ω2 ρ2 vs ys0 ys1
theorem JC{σ:St}{H:Hp}{Q:VK}{e:E4}{Ω Ω1 Ωf:List OS}{ρ:List Sl}{ds ysAll:List D}(eH:e.H=H)(w:Wf K C e Ω)(rl:RelE K e σ ρ)(q1:γ ρ Ω=some (ds,Ω1))(hbig:ds.length<=big)(q2:gB β p g ds (cI μ ρ) Ω1=some (ysAll,Ωf))
  (fin:∀a vs e2,Ext e e2->Wf K C e2 Ωf->e2.H a=some (.lst vs)->e2.F a=none->¬e2.A a->e.H a=none->IsL K e2.α e2.F ysAll vs->Q (.ref a) e2.H):vO μ (tDI K C γ) (tDG K C β) (tDT K C p) (tD K C g) σ H Q:=by
 refine⟨e,Ω,ρ,ds,Ω1,eH,w,rl,q1,fun e' J x' w' wk a ha=>?_⟩
 refine⟨fun i m σ' H'=>m=ds.length-i/\i<=ds.length/\Rn K C β p g ds a ysAll Ωf e' i σ' H',⟨ds.length,by simp,Nat.zero_le _,⟨e'.α,e'.F,e'.A,upd e'.H a (.lst [])⟩,Ω1,cI μ ρ,[],[],ysAll,rfl,⟨?_,?_,fun j es=>k_,aJ,w'.nF ha,fun z=>(w'.ah a z).1 ha,.nil,?_,by simpa using q2,rfl,Nat.zero_le _⟩⟩,?_⟩
 ·refine⟨fun b u hb=>?_,w'.fa,fun b hb=>?_,w'.ol,w'.nd,fun n b u h1 h2=>⟨(w'.ob n b u h1 h2).1,(w'.ob n b u h1 h2).2.keep (fun z hz=>?_) (bC.refl _) ⟨[],by simp⟩⟩⟩
  ·show upd e'.H a _ b=some u
   rw[aC (aM (w'.fh b u hb) ha)];exact w'.fh b u hb
  ·show upd e'.H a _ b≠none/\∀xs,upd e'.H a _ b≠some (.tup xs)
   rw[aC (fun z=>(w'.ah b hb).1 (by rw[z];exact ha))];exact w'.ah b hb
  ·show upd e'.H a _ b=some z
   rw[aC (aM hz ha)];exact hz
 ·have r1:=yH (μ:=μ) (rl.ext x')
  exact⟨r1.len,r1.dat,fun j es h=>absurd h k_,r1.sep⟩
 ·refine⟨fun b o' u hb=>by show upd e'.H a _ b=some (.frz o' u);rw[aC (aM hb ha)];exact hb,fun b u hb _=>?_,fun b u hb=>⟨u,?_⟩,bC.refl _,fun b u hb=>.inl hb,fun b hb=>.inl hb,fun b hb=>hb,[],by simp⟩
  ·show upd e'.H a _ b=some u
   rw[aC (aM hb ha)];exact hb
  ·show upd e'.H a _ b=some u
   rw[aC (aM hb ha)];exact hb
 ·rintro i m σ2 H2 ⟨rfl,hil,e2,Ω2,ρ2,vs,ys0,ys1,rfl,⟨w2,r2,no2,ha2,hF2,hA2,iy,x2,q3,ey,hy⟩⟩
  obtain⟨stop,go⟩:=wk i e2 x2.ff x2.al w2.fh
  by_cases hlt:i<ds.length
  ·have hd:ds[i]? = some ds[i]:=List.getElem?_eq_getElem hlt
   obtain⟨g1,y1⟩:=go _ hd
   have edrop:ds.drop i=ds[i]::ds.drop (i+1):=List.drop_eq_getElem_cons hlt
   rw[edrop] at q3
   refine .inr ⟨g1,fun σ' H'=>i+1<=ds.length/\Rn K C β p g ds a ysAll Ωf e' (i+1) σ' H',fun σ' H' hN=>⟨ds.length-(i+1),by omega,rfl,hN⟩,fun x H' hyl=>?_⟩
   obtain⟨e2',rfl,ix,up⟩:=y1 x H' hyl
   obtain⟨xx,ww⟩:=up C Ω2 w2
   obtain⟨hh',hf',ha'⟩:=xx.keepOwn ha2 hF2 hA2
   replace r2:=r2.ext xx
   replace iy:=iy.ext xx
   replace x2:=x2.trans xx
   clear y1 g1 stop go w2 ha2 hF2 hA2
   revert r2 iy x2 ww hh' hf' ha' ix
   generalize e2'=e2
   intro ix w2 ha2 hF2 hA2 r2 iy x2
   unfold gB at q3
   cases q4:β ds[i] ρ2 with
   | none=>rw[q4] at q3;cases q3
   | some ρ3 =>
    rw[q4] at q3
    dsimp only at q3
    refine⟨e2,Ω2,ρ2,_,ρ3,rfl,w2,r2,ix,q4,fun σ3 r3 o3=>?_⟩
    have no3:∀(j:Nat) (es:List D),ρ3[j]? ≠ some (.own es):=fun j es h=>no2 j es (o3 j es h).1
    cases q5:p ρ3 Ω2 with
    | none=>rw[q5] at q3;cases q3
    | some p5 =>
     obtain⟨b,Ω3⟩:=p5
     rw[q5] at q3
     refine⟨e2,Ω2,ρ3,b,Ω3,rfl,w2,r3,q5,fun e3 x3 w3=>?_⟩
     cases b with
     | false =>
      refine Jq ?_
      obtain⟨z1,z2,z3⟩:=x3.keepOwn ha2 hF2 hA2
      exact⟨hlt,e3,Ω3,ρ3,vs,ys0,ys1,rfl,⟨w3,r3.ext x3,no3,z1,z2,z3,iy.ext x3,x2.trans x3,q3,ey,Nat.le_succ_of_le hy⟩⟩
     | true =>
      refine Jr ?_
      dsimp only at q3
      cases q6:g ρ3 Ω3 with
      | none=>rw[q6] at q3;cases q3
      | some p6 =>
       obtain⟨y,Ω4⟩:=p6
       rw[q6] at q3
       dsimp only at q3
       cases q7:gB β p g (ds.drop (i+1)) ρ3 Ω4 with
       | none=>rw[q7] at q3;cases q3
       | some p7 =>
        obtain⟨ys2,Ω5⟩:=p7
        rw[q7] at q3
        cases q3
        refine⟨e3,Ω3,ρ3,y,Ω4,rfl,w3,r3.ext x3,q6,fun v e4 x4 w4 i4=>?_⟩
        obtain⟨z1,z2,z3⟩:=(x3.trans x4).keepOwn ha2 hF2 hA2
        have x24:=x3.trans x4
        refine⟨vs,z1,by rw[<-iy.length];exact oH (by omega),hlt,⟨e4.α,e4.F,e4.A,upd e4.H a (.lst (vs++[v]))⟩,Ω4,ρ3,_,ys0++[y],ys2,rfl,⟨⟨fun b u hb=>?_,w4.fa,fun b hb=>?_,w4.ol,w4.nd,fun n b u h1 h2=>⟨(w4.ob n b u h1 h2).1,(w4.ob n b u h1 h2).2.keep (fun z hz=>?_) (bC.refl _) ⟨[],by simp⟩⟩⟩,
         ⟨((r3.ext x3).ext x4).len,((r3.ext x3).ext x4).dat,fun j es h=>absurd h (no3 j es),((r3.ext x3).ext x4).sep⟩,no3,aJ,z2,z3,(iy.ext x24).append (.cons i4 .nil),⟨fun b o' u hb=>by show upd e4.H a _ b=some (.frz o' u);rw[aC (aM hb ha)];exact(x2.trans x24).fz b o' u hb,fun b u hb hn=>?_,fun b u hb=>?_,(x2.trans x24).ff,(x2.trans x24).fn,(x2.trans x24).an,(x2.trans x24).aa,(x2.trans x24).al⟩,q7,by rw[<-ey];simp,by simp;omega⟩⟩
        ·show upd e4.H a _ b=some u
         rw[aC (fun z=>by subst z;rw[z2] at hb;cases hb)];exact w4.fh b u hb
        ·show upd e4.H a _ b≠none/\∀xs,upd e4.H a _ b≠some (.tup xs)
         rw[aC (fun z=>z3 (by rw[<-z];exact hb))];exact w4.ah b hb
        ·show upd e4.H a _ b=some z
         rw[aC (fun y=>z3 (by rw[<-y];exact(w4.ob n b u h1 h2).1))];exact hz
        ·show upd e4.H a _ b=some u
         rw[aC (aM hb ha)];exact(x2.trans x24).hk b u hb hn
        ·obtain⟨u',z⟩:=(x2.trans x24).dm b u hb
         exact⟨u',by show upd e4.H a _ b=some u';rw[aC (aM hb ha)];exact z⟩
  ·have ei:i=ds.length:=by omega
   subst ei
   rw[List.drop_length] at q3
   cases q3
   rw[List.append_nil] at ey
   subst ey
   refine .inl ⟨stop rfl,?_⟩
   exact fin a vs e2 (x'.trans x2) w2 ha2 hF2 hA2 (x'.back ha) iy
theorem yI{σ:St}{H:Hp}{Q:VK}(hw:tD K C (gD μ γ β p g) σ H Q):vO μ (tDI K C γ) (tDG K C β) (tDT K C p) (tD K C g) σ H Q:=by
 obtain⟨e,Ω,ρ,d,Ωf,eH,w,rl,q,kk⟩:=hw
 unfold gD at q
 cases q1:γ ρ Ω with
 | none=>rw[q1] at q;cases q
 | some p1 =>
  obtain⟨ds,Ω1⟩:=p1
  rw[q1] at q
  dsimp only at q
  split at q
  ·rename_i hbig
   cases q2:gB β p g ds (cI μ ρ) Ω1 with
   | none=>rw[q2] at q;cases q
   | some p2 =>
    obtain⟨ysAll,Ω2⟩:=p2
    rw[q2] at q
    cases q
    refine JC eH w rl q1 hbig q2 fun a vs e2 x2 w2 ha2 hF2 hA2 ha iy=>?_
    have ff:bC e2.F (upd e2.F a (.lst vs)):=fun b o hb=>by rw[aC (aM hb hF2)];exact hb
    refine kk (.ref a) ⟨e2.α,upd e2.F a (.lst vs),e2.A,e2.H⟩ ⟨x2.fz,x2.hk,x2.dm,x2.ff.trans ff,fun b u hb=>?_,x2.an,x2.aa,x2.al⟩ ⟨fun b u hb=>?_,fun b hb=>?_,w2.ah,w2.ol,w2.nd,fun n b u h1 h2=>⟨(w2.ob n b u h1 h2).1,(w2.ob n b u h1 h2).2.keep (fun z hz=>hz) ff ⟨[],by simp⟩⟩⟩ ?_
    ·have hb:upd e2.F a (.lst vs) b=some u:=hb
     by_cases hba:b=a
     ·subst hba;exact .inr (.inl ha)
     ·rw[aC hba] at hb;exact x2.fn b u hb
    ·have hb:upd e2.F a (.lst vs) b=some u:=hb
     by_cases hba:b=a
     ·subst hba;rw[aJ] at hb;cases hb;exact ha2
     ·rw[aC hba] at hb;exact w2.fh b u hb
    ·show upd e2.F a _ b=none
     rw[aC (fun z=>hA2 (by rw[<-z];exact hb))];exact w2.fa b hb
    ·rw[Is]
     exact⟨a,vs,rfl,aJ,IsL.mono ff ⟨[],by simp⟩ _ iy⟩
  ·cases q
end
section
variable {X:Cx} {C:Cl} {tg iter elt:Expr} {ifs:List Expr} {scope:Scope} {pos:Pos} {N:List Str} {μ:List (Option Nat)} {γ:bx} {β:dH} {p:bR} {g:Den}
theorem NQ(hc:X.calm=true)(hcell:∀y∈scope.names,y.2 ≠ .cell)(hkind:scope.kind=.function)(hnames:∀y∈scope.names,y.2=.local->scope.names.lookup y.1=some .local)
  (hfree:∀y∈scope.names,y.2=.free->X.env.kindOf y.1=some .cell\/X.env.kindOf y.1=some .free)
  (hhas:∀x,((relabel scope X.env).names.lookup x=some .cell\/(relabel scope X.env).names.lookup x=some .free)->(x,NameKind.free)∈scope.names)
  (hμ:nH X.N X.env.scope N (relabel scope X.env) μ=true) (hi:PDI X C tg iter γ)
  (hg:∀fp A s H,PDG (bD X N scope (clos X.env.cells scope.names []) A fp s H) C tg β) (ht:∀fp A s H,sG (bD X N scope (clos X.env.cells scope.names []) A fp s H) C ifs p) (he:∀fp A s H,PD (bD X N scope (clos X.env.cells scope.names []) A fp s H) C elt g)
  (hs:∀x,foldedSetIterable iter X.env x=pure x:=by intro _;rfl):PD X C (.ListComp elt [⟨tg,iter,ifs,0⟩] scope pos) (gD μ γ β p g) :=
 aY (xj (g:=tDG X.K C β) (tt:=tDT X.K C p) (te:=tD X.K C g) hc hcell hkind hnames hfree hhas hμ hi hg ht he hs) fun _ _ _ hw=>yI hw
theorem JD{i:Nat}{y:Str}{py spos:Pos}(hN:X.N.Nodup)(hiN:X.N[i]? = some y)(hx:Loc X.env.scope y)(hc:X.calm=true)(hcell:∀y∈scope.names,y.2 ≠ .cell)(hkind:scope.kind=.function)(hnames:∀y∈scope.names,y.2=.local->scope.names.lookup y.1=some .local)
  (hfree:∀y∈scope.names,y.2=.free->X.env.kindOf y.1=some .cell\/X.env.kindOf y.1=some .free)
  (hhas:∀x,((relabel scope X.env).names.lookup x=some .cell\/(relabel scope X.env).names.lookup x=some .free)->(x,NameKind.free)∈scope.names)
  (hμ:nH X.N X.env.scope N (relabel scope X.env) μ=true) (hi:PDI X C tg iter γ)
  (hg:∀fp A s H,PDG (bD X N scope (clos X.env.cells scope.names []) A fp s H) C tg β) (ht:∀fp A s H,sG (bD X N scope (clos X.env.cells scope.names []) A fp s H) C ifs p) (he:∀fp A s H,PD (bD X N scope (clos X.env.cells scope.names []) A fp s H) C elt g)
  (hsw:swapsWith (.ListComp elt [⟨tg,iter,ifs,0⟩] scope pos) (some (.Name y py)) spos.line X.env=pure true:=by rfl)
  (hf:X.fn y=true\/X.env.scope.names.lookup y=some .local:=by first |exact .inl rfl |exact .inr rfl |assumption)
  (hs:∀x,foldedSetIterable iter X.env x=pure x:=by intro _;rfl):PDS X C (.Assign [.Name y py] (.ListComp elt [⟨tg,iter,ifs,0⟩] scope pos) spos) (bK i (gD μ γ β p g)):=fun e₀ =>
 dC (Nr (g:=tDG X.K C β) (tt:=tDT X.K C p) (te:=tD X.K C g) hN hiN hx hc hcell hkind hnames hfree hhas hμ hi hg ht he hsw hf hs) fun Dn σ H hw=>by
  obtain⟨e,Ω,ρ,o,eH,r,q,k⟩:=hw
  have h2:DQ (tD X.K C (gD μ γ β p g)) (vH i) Dn σ H:=zW ⟨e,Ω,ρ,o,eH,r,q,k⟩
  exact yI h2
end
end DL
namespace DL
open PySem PySem.Spec PyProof.Rows L2
structure Fn(P:Program)(w:World)(K:PySem.W.Frag)(mg:Str->Option Value)(base:Heap)(C:Cl)(k:Nat)(n:Str)(F:bG):Prop where
 ex:∃f fd ps,mg n=some (.ref f)/\PySem.W.keepIn K (.ref f)=true/\Binds K fd ps []/\FnOk P w K mg base CX0 k f fd ps (spD K C F)
structure TF(K:PySem.W.Frag)(mg:Str->Option Value)(n:Str)(st:Stmt):Prop where
 ex:∃f fd,mg n=some (.ref f)/\Fun K n n st f fd
theorem nJ{P:Program}{w:World}{K:PySem.W.Frag}{mg:Str->Option Value}{base:Heap}{C:Cl}{x:Str}{st:Stmt}{N ps:List Str}{k n m:Nat}{s:aQ}(T:TF K mg x st)(S:FnScope N ps (aB st))(hn:ps.length=n)(hm:N.length=m)
  (hb:∀(kV doc pm:Value) (an:Option Addr) (cdv ct:Value) (us:List Value),us.length=ps.length->bindArgs (PySem.W.fnOf x x (bA st) (bh st) (aB st) .none kV doc pm an cdv ct) ⟨us,[]⟩=pure (ps.zip us))
  (hbody:∀(f:Addr) (cdv:Value) (A:Around) (outer:List Env) (sh:Shared) (H:Hp) (E:XK),Room k (A.deeper (envOfC x (aB st) sh.heap.objs.size f cdv)) ->
   PDB (bJ CX0 P w K mg base N x (aB st) f cdv A outer sh H E).nox C (bh st) s):Fn P w K mg base C (k+1) x (cz n m s):=by
 obtain⟨f,fd,hm',F⟩:=T.ex
 exact⟨f,fd,ps,hm',F.kp,F.binds hb,Rm F S hn hm (hbody f)⟩
section
variable {X:Cx} {C:Cl} {k:Nat} {F:bG} {n:Str} {p pos:Pos} {x:Expr} {es:List Expr} {ga:bx}
theorem bz(G:Fn X.prog X.w X.K X.mg X.base C k n F)(hr:Room k X.A)(hg:Gl X n)
  (ha:PDA X C (x::es) ga) (hdb:(n==("__debug__":Str))=false:=by decide) (he:starEach (x::es) X.env=(false,eval x X.env)::starEach es X.env:=by rfl) (hpl:(backTo pos (starEach es X.env)).any (·.1)=false:=by rfl) :
  PD X C (.Call (.Name n p) (x::es) [] pos) (aW F ga):=by
 obtain⟨f,fd,ps,hm,hk,hb,ok⟩:=G.ex
 exact NP ok hr hg hm hk hb ha hdb he hpl
end
noncomputable def oO(scope osc:Scope):Scope :=
 { scope with names:=scope.names.map fun(n,k)=>if(k == .free && osc.kind == .function && osc.names.lookup n==some .cell) then(n,.cell) else(n,k) }
noncomputable def GD(oN:List Str)(osc:Scope)(N:List Str)(scope:Scope)(μ:List (Option Nat)):Bool :=
 scope.names.all (fun y=>decide (y.2 ≠ .cell)) && decide (scope.kind=.function) && scope.names.all (fun y=>!decide (y.2=.local) || decide (scope.names.lookup y.1=some .local)) &&
  scope.names.all (fun y=>!decide (y.2=.free) || decide (osc.names.lookup y.1=some .cell)) &&
  (oO scope osc).names.all (fun y=>!(decide (y.2=.cell) || decide (y.2=.free)) || decide ((y.1,NameKind.free)∈scope.names)) && nH oN osc N (oO scope osc) μ
structure CompOk(X:Cx)(N:List Str)(scope:Scope)(μ:List (Option Nat)):Prop where
 cell:∀y∈scope.names,y.2 ≠ .cell
 kind:scope.kind=.function
 names:∀y∈scope.names,y.2=.local->scope.names.lookup y.1=some .local
 free:∀y∈scope.names,y.2=.free->X.env.kindOf y.1=some .cell\/X.env.kindOf y.1=some .free
 has:∀x,((relabel scope X.env).names.lookup x=some .cell\/(relabel scope X.env).names.lookup x=some .free)->(x,NameKind.free)∈scope.names
 mu:nH X.N X.env.scope N (relabel scope X.env) μ=true
theorem dU{X:Cx}{oN:List Str}{osc:Scope}{N:List Str}{scope:Scope}{μ:List (Option Nat)}(hN:X.N=oN)(hs:X.env.scope=osc)(h:GD oN osc N scope μ=true):CompOk X N scope μ:=by
 subst hN hs
 unfold GD at h
 simp only[Bool.and_eq_true] at h
 obtain⟨⟨⟨⟨⟨h1,h2⟩,h3⟩,h4⟩,h5⟩,h6⟩:=h
 refine⟨fun y hy=>of_decide_eq_true (List.all_eq_true.mp h1 y hy),of_decide_eq_true h2,fun y hy e=>?_,fun y hy e=>.inl ?_,fun x hx=>?_,h6⟩
 ·have:=List.all_eq_true.mp h3 y hy
  simp only[Bool.or_eq_true,Bool.not_eq_true',decide_eq_false_iff_not,decide_eq_true_eq] at this
  exact this.resolve_left fun z=>z e
 ·have:=List.all_eq_true.mp h4 y hy
  simp only[Bool.or_eq_true,Bool.not_eq_true',decide_eq_false_iff_not,decide_eq_true_eq] at this
  exact this.resolve_left fun z=>z e
 ·have hx:(oO scope X.env.scope).names.lookup x=some .cell\/(oO scope X.env.scope).names.lookup x=some .free:=hx
  have q:∀k:NameKind,(k=.cell\/k=.free)->(oO scope X.env.scope).names.lookup x=some k->(x,NameKind.free)∈scope.names:=fun k hk hl=>by
   have:=List.all_eq_true.mp h5 (x,k) (PySem.mem_of_lookup hl)
   simp only[Bool.or_eq_true,Bool.not_eq_true',Bool.or_eq_false_iff,decide_eq_false_iff_not,decide_eq_true_eq] at this
   rcases this with⟨a,b⟩ |c
   ·exact(hk.elim a b).elim
   ·exact c
  rcases hx with hx |hx
  ·exact q _ (.inl rfl) hx
  ·exact q _ (.inr rfl) hx
section
variable {X:Cx} {C:Cl} {tg iter elt:Expr} {ifs:List Expr} {scope:Scope} {pos:Pos} {N:List Str} {μ:List (Option Nat)} {γ:bx} {β:dH} {p:bR} {g:Den}
theorem oR(hc:X.calm=true)(ok:CompOk X N scope μ)(hi:PDI X C tg iter γ)
  (hg:∀fp A s H,PDG (bD X N scope (clos X.env.cells scope.names []) A fp s H) C tg β) (ht:∀fp A s H,sG (bD X N scope (clos X.env.cells scope.names []) A fp s H) C ifs p) (he:∀fp A s H,PD (bD X N scope (clos X.env.cells scope.names []) A fp s H) C elt g)
  (hs:∀x,foldedSetIterable iter X.env x=pure x:=by intro _;rfl):PD X C (.ListComp elt [⟨tg,iter,ifs,0⟩] scope pos) (gD μ γ β p g) :=
 NQ hc ok.cell ok.kind ok.names ok.free ok.has ok.mu hi hg ht he hs
theorem GF{i:Nat}{y:Str}{py spos:Pos}(hN:X.N.Nodup)(hiN:X.N[i]? = some y)(hx:Loc X.env.scope y)(hc:X.calm=true)(ok:CompOk X N scope μ)(hi:PDI X C tg iter γ)
  (hg:∀fp A s H,PDG (bD X N scope (clos X.env.cells scope.names []) A fp s H) C tg β) (ht:∀fp A s H,sG (bD X N scope (clos X.env.cells scope.names []) A fp s H) C ifs p) (he:∀fp A s H,PD (bD X N scope (clos X.env.cells scope.names []) A fp s H) C elt g)
  (hsw:swapsWith (.ListComp elt [⟨tg,iter,ifs,0⟩] scope pos) (some (.Name y py)) spos.line X.env=pure true:=by rfl)
  (hf:X.fn y=true\/X.env.scope.names.lookup y=some .local:=by first |exact .inl rfl |exact .inr rfl |assumption)
  (hs:∀x,foldedSetIterable iter X.env x=pure x:=by intro _;rfl):PDS X C (.Assign [.Name y py] (.ListComp elt [⟨tg,iter,ifs,0⟩] scope pos) spos) (bK i (gD μ γ β p g)) :=
 JD hN hiN hx hc ok.cell ok.kind ok.names ok.free ok.has ok.mu hi hg ht he hsw hf hs
end
section
variable {X:Cx} {C:Cl} {x b:Expr} {g:Den} {pos:Pos}
theorem xF{i:Nat}{n:Str}{p ap cp:Pos}(hv:PE X (.Name n p) (wY i))(he:PD X C x g)
  (hbase:attributeBase (.Name n p) "append" X.env (eval (.Name n p) X.env)=eval (.Name n p) X.env:=by rfl)
  (hline:(ap.endLine==cp.line)=true:=by rfl) (hs1:starEach [x] X.env=(false,eval x X.env)::starEach [] X.env:=by rfl)
  (hfew:((backTo cp (starEach [x] X.env)).all (fun x=>!x.1) && (backToKw cp (keywordEach [] X.env)).all (fun x=>x.1.isSome)
   && decide ([x].length+([]:List Keyword).length+(if([]:List Keyword).isEmpty then 0 else 1)<30))=true:=by rfl)
  (hpl:(backTo cp (starEach [] X.env)).any (·.1)=false:=by rfl)
  (hs:swapsWith (.Call (.Attribute (.Name n p) "append" ap) [x] [] cp) none pos.line X.env=pure false:=by rfl) :
  PDS X C (.Expr (.Call (.Attribute (.Name n p) "append" ap) [x] [] cp) pos) (pW i g):=fun e₀ =>
 dC (tQ (vK PySem.F.plainAttrs_list PySem.F.slot_list_append PySem.F.type_list_append sr hv (bF he cQ hs1) hbase hfew hline hs1 hpl) hs) fun Dn σ H hw=>Jy hw
end
noncomputable abbrev C0:Cl:=fun _=>none
end DL
namespace DL
open PySem
section
variable (ρ:List Sl) (Ω:List OS)
@[simp] theorem oU(i:Nat):aj i ρ Ω=match ρ[i]? with |some (.dat d)=>some (d,Ω) |_=>none:=(rfl)
@[simp] theorem Wh(d:D):gC d ρ Ω=some (d,Ω):=(rfl)
@[simp] theorem vW(r:D->D->Option D)(f g:Den):gOp r f g ρ Ω=match f ρ Ω with
 | some (x,Ω₁)=>(match g ρ Ω₁ with
  | some (y,Ω₂)=>(match r x y with
   | some z=>some (z,Ω₂)
   | none=>none)
  | none=>none)
 | none=>none:=(rfl)
@[simp] theorem Ek(g:Den):gT g ρ Ω=match g ρ Ω with |some (.bl b,Ω')=>some (b,Ω') |_=>none:=(rfl)
@[simp] theorem C_(p q:bR):jW p q ρ Ω=match p ρ Ω with |some (true,Ω')=>q ρ Ω' |some (false,Ω')=>some (false,Ω') |none=>none:=(rfl)
@[simp] theorem Vu(p q:bR):lE p q ρ Ω=match p ρ Ω with |some (true,Ω')=>some (true,Ω') |some (false,Ω')=>q ρ Ω' |none=>none:=(rfl)
@[simp] theorem NT(p:bR):gA p ρ Ω=match p ρ Ω with |some (k,Ω')=>some (!k,Ω') |none=>none:=(rfl)
@[simp] theorem GJ:aA ρ Ω=some ([],Ω):=(rfl)
@[simp] theorem jB(f:Den)(g:bx):ao f g ρ Ω=match f ρ Ω with
 | some (d,Ω1)=>(match g ρ Ω1 with |some (ds,Ω2)=>some (d::ds,Ω2) |none=>none)
 | none=>none:=(rfl)
@[simp] theorem GK(g:bx):bB g ρ Ω=match g ρ Ω with |some (ds,Ω')=>(if ds.length<=100000 then some (.tup ds,Ω') else none) |none=>none:=(rfl)
@[simp] theorem GP(g:bx):bV g ρ Ω=match g ρ Ω with |some (ds,Ω')=>(if ds.length<=100000 then some (.lst ds,Ω') else none) |none=>none:=(rfl)
@[simp] theorem TV:t_ ρ Ω=some (none,Ω):=(rfl)
@[simp] theorem Vd(g:Den):vP g ρ Ω=match g ρ Ω with |some (.int i,Ω')=>some (some i,Ω') |_=>none:=(rfl)
@[simp] theorem Tf(f:Den)(lo hi:uU):gSl f lo hi ρ Ω=match f ρ Ω with
 | some (d,Ω1)=>(match lo ρ Ω1 with
  | some (l,Ω2)=>(match hi ρ Ω2 with
   | some (u,Ω3)=>(match slD d l u with |some z=>some (z,Ω3) |none=>none)
   | none=>none)
  | none=>none)
 | none=>none:=(rfl)
@[simp] theorem LC(r:List D->Option D)(g:bx):gCB r g ρ Ω=match g ρ Ω with |some (ds,Ω1)=>(match r ds with |some z=>some (z,Ω1) |none=>none) |none=>none:=(rfl)
@[simp] theorem VM(r:D->Option D)(g:Den):gUn r g ρ Ω=match g ρ Ω with |some (d,Ω1)=>(match r d with |some z=>some (z,Ω1) |none=>none) |none=>none:=(rfl)
@[simp] theorem ue(f:bG)(g:bx):aW f g ρ Ω=match g ρ Ω with |some (ds,Ω1)=>f ds Ω1 |none=>none:=(rfl)
@[simp] theorem Ro(g:Den):iK g ρ Ω=match g ρ Ω with |some (d,Ω')=>(match Jz d with |some ds=>some (ds,Ω') |none=>none) |none=>none:=(rfl)
@[simp] theorem Rp(r:List D->Option (List D))(g:bx):mz r g ρ Ω=match g ρ Ω with |some (ds,Ω')=>(match r ds with |some es=>some (es,Ω') |none=>none) |none=>none:=(rfl)
@[simp] theorem qp(μ:List (Option Nat))(γ:bx)(β:dH)(p:bR)(g:Den):gD μ γ β p g ρ Ω=match γ ρ Ω with
 | some (ds,Ω1)=>(if ds.length<=100000 then(match gB β p g ds (cI μ ρ) Ω1 with |some (ys,Ω2)=>some (.lst ys,Ω2) |none=>none) else none)
 | none=>none:=(rfl)
@[simp] theorem Ve:cO ρ Ω=some (true,Ω):=(rfl)
@[simp] theorem Vf:aP ρ Ω=some (.nx ρ Ω):=(rfl)
@[simp] theorem xG(s t:aQ):aH s t ρ Ω=match s ρ Ω with |some (.nx ρ' Ω')=>t ρ' Ω' |r=>r:=(rfl)
@[simp] theorem JF(γ:List Sl->Option (List Sl))(s:aQ):sE γ s ρ Ω=match γ ρ with |some ρ'=>s ρ' Ω |none=>none:=(rfl)
@[simp] theorem vX(i:Nat)(g:Den):bK i g ρ Ω=match g ρ Ω with |some (d,Ω')=>some (.nx (ρ.set i (.dat d)) Ω') |none=>none:=(rfl)
@[simp] theorem jU(g:Den):bw g ρ Ω=match g ρ Ω with |some (d,Ω')=>some (.rt d Ω') |none=>none:=(rfl)
@[simp] theorem zZ(p:bR)(s t:aQ):sIf p s t ρ Ω=match p ρ Ω with |some (true,Ω')=>s ρ Ω' |some (false,Ω')=>t ρ Ω' |none=>none:=(rfl)
@[simp] theorem Vv(i:Nat)(g:bx):xq i g ρ Ω=match g ρ Ω with |some (ds,Ω')=>(if ds.length<=100000 then some (.nx (ρ.set i (.own ds)) Ω') else none) |none=>none:=(rfl)
@[simp] theorem Rq(i:Nat)(g:Den):pW i g ρ Ω=match g ρ Ω with
 | some (d,Ω')=>(match ρ[i]? with |some (.own ds)=>(if ds.length<100000 then some (.nx (ρ.set i (.own (ds++[d]))) Ω') else none) |_=>none)
 | none=>none:=(rfl)
@[simp] theorem vY(γ:bx)(β:dH)(s:aQ):pX γ β s ρ Ω=match γ ρ Ω with |some (ds,Ω')=>jm β s ds ρ Ω' |none=>none:=(rfl)
@[simp] theorem Uy(i:Nat)(d:D):bO i d ρ=some (ρ.set i (.dat d)):=(rfl)
@[simp] theorem Vg(β:dH)(s:aQ):jm β s [] ρ Ω=some (.nx ρ Ω):=(rfl)
theorem km(β:dH)(s:aQ)(d:D)(ds:List D):jm β s (d::ds) ρ Ω=match β d ρ with
  | some ρ1=>(match s ρ1 Ω with
   | some (.nx ρ' Ω')=>jm β s ds ρ' Ω'
   | some (.ct ρ' Ω')=>jm β s ds ρ' Ω'
   | some (.bk ρ' Ω')=>some (.nx ρ' Ω')
   | some (.rt z Ω')=>some (.rt z Ω')
   | none=>none)
  | none=>none:=(rfl)
theorem pM(β:dH)(p:bR)(g:Den)(d:D)(ds:List D):gB β p g (d::ds) ρ Ω=match β d ρ with
  | some ρ1=>(match p ρ1 Ω with
   | some (true,Ω1)=>(match g ρ1 Ω1 with
    | some (y,Ω2)=>(match gB β p g ds ρ1 Ω2 with
     | some (ys,Ω3)=>some (y::ys,Ω3)
     | none=>none)
    | none=>none)
   | some (false,Ω1)=>gB β p g ds ρ1 Ω1
   | none=>none)
  | none=>none:=(rfl)
theorem z_(n m:Nat)(s:aQ)(ds:List D):cz n m s ds Ω=if ds.length=n then(match s (ds.map Sl.dat++List.replicate (m-n) Sl.und) Ω with
  | some (.rt d Ω')=>some (d,Ω')
  | some (.nx _ Ω')=>some (.non,Ω')
  | _=>none)
 else none:=(rfl)
@[simp] theorem VN(c:Int->Int->Bool)(f:Int->Int->Int)(i j:Int):dI c f (.int i) (.int j)=if c i j=true then some (.int (f i j)) else none:=(rfl)
@[simp] theorem VP(f:Int->Int->Bool)(i j:Int):dB f (.int i) (.int j)=some (.bl (f i j)):=(rfl)
@[simp] theorem add_int(i j:Int):fM (.int i) (.int j)=some (.int (i+j)):=(rfl)
@[simp] theorem Vw(xs:List D)(i:Int):ixD (.lst xs) (.int i)=L2.atI xs i:=(rfl)
@[simp] theorem Gh(xs:List D)(i:Int):ixD (.tup xs) (.int i)=L2.atI xs i:=(rfl)
@[simp] theorem Vx(ns:List Int)(i:Int):ixD (.scr ns) (.int i)=(L2.atI ns i).map D.int:=(rfl)
@[simp] theorem Vy(xs:List D)(lo hi:Option Int):slD (.lst xs) lo hi=some (.lst (su xs lo hi)):=(rfl)
@[simp] theorem Vh(xs:List D):pU [.lst xs]=some (.int xs.length):=(rfl)
@[simp] theorem Vi(ns:List Int):pU [.scr ns]=some (.int ns.length):=(rfl)
@[simp] theorem VR(i j:Int):lF [.int i,.int j]=some (.int (if j>i then j else i)):=(rfl)
@[simp] theorem VV(i j:Int):jz [.int i,.int j]=some (.int (if j<i then j else i)):=(rfl)
@[simp] theorem Vj(xs:List D):Jz (.lst xs)=some xs:=(rfl)
theorem LK{j:Int}(h0:-1000000<=j)(h:j<=1000000):oM [.int j]=some (upD 0 j.toNat):=fu (by omega)
theorem vZ{i j:Int}(h:(-1000000000000000000<i/\i<1000000000000000000)\/(-1000000000000000000<j/\j<1000000000000000000)):dY (.int i) (.int j)=some (.int (i*j)):=fu (by omega)
end
theorem bc{n m:Nat}{s:aQ}{ds:List D}{Ω Ω':List OS}{d:D}(hl:ds.length=n)(h:s (ds.map Sl.dat++List.replicate (m-n) Sl.und) Ω=some (.rt d Ω')):cz n m s ds Ω=some (d,Ω'):=by
 rw[z_,if_pos hl,h]
theorem aK{s t:aQ}{ρ ρ':List Sl}{Ω Ω':List OS}(h:s ρ Ω=some (.nx ρ' Ω')):aH s t ρ Ω=t ρ' Ω':=by rw[xG,h]
theorem dZ{s t:aQ}{ρ:List Sl}{Ω Ω':List OS}{d:D}(h:s ρ Ω=some (.rt d Ω')):aH s t ρ Ω=some (.rt d Ω'):=by rw[xG,h]
theorem mC{β:Type}(xs:List β)(i:Nat)(h:i<xs.length):L2.atI xs (i:Int)=some xs[i]:=L2.CG (List.getElem?_eq_getElem h)
theorem Rr{β:Type}{xs:List β}{i:Int}(h0:0<=i)(h:i.toNat<xs.length):L2.atI xs i=some xs[i.toNat]:=by
 have e:i=(i.toNat:Int):=by omega
 have q:=mC xs i.toNat h
 rw[<-e] at q
 exact q
theorem JG{β:Type}(xs:List β)(k:Nat):su xs (some (k:Int)) none=xs.drop k:=by
 unfold su
 rw[HT.Jg,HT.MP]
 rcases Nat.le_total k xs.length with h |h
 ·rw[Nat.min_eq_left h,List.take_of_length_le (by simp)]
 ·rw[Nat.min_eq_right h,List.drop_length,List.drop_eq_nil_of_le h];simp
theorem Aa{β:Type}(f:β->D)(g:β->PyData)(h:∀x,toP (f x)=g x):∀xs:List β,fO (xs.map f)=xs.map g
 | []=>by rw[List.map_nil,List.map_nil,fO]
 | x::xs=>by rw[List.map_cons,List.map_cons,fO,h,Aa f g h xs]
theorem uW(ns:List Int):toP (.lst (ns.map D.int))=.list (ns.map PyData.int):=by
 rw[toP,Aa D.int PyData.int (fun _=>by rw[toP])]
theorem v_(i:Int):SeqAt.shaped (toP (.int i))=true:=by rw[toP];rfl
theorem pN(b:Bool):SeqAt.shaped (toP (.bl b))=true:=by rw[toP];rfl
theorem shaped_ints(ns:List Int):SeqAt.shaped (toP (.lst (ns.map D.int)))=true:=by rw[uW];exact PySem.W.ke_shaped_ints ns
@[simp] theorem Tg(neg:Bool)(i j:Int):eqD neg (.int i) (.int j)=some (.bl (if neg then !decide (i=j) else decide (i=j))):=by
 unfold eqD
 rw[v_,v_]
 have e:PyData.eqv (toP (.int i)) (toP (.int j))=decide (i=j):=by
  rw[toP,toP,PyData.eqv]
  by_cases h:i=j<;>simp[h]
 rw[e]
 rfl
@[simp] theorem JH(neg:Bool)(i j:Bool):eqD neg (.bl i) (.bl j)=some (.bl (if neg then !decide (i=j) else decide (i=j))):=by
 unfold eqD
 rw[pN,pN]
 have e:PyData.eqv (toP (.bl i)) (toP (.bl j))=decide (i=j):=by
  rw[toP,toP]
  cases i<;>cases j<;>rfl
 rw[e]
 rfl
theorem xH(neg:Bool)(ns ms:List Int):eqD neg (.lst (ns.map D.int)) (.lst (ms.map D.int))=some (.bl (if neg then !decide (ns=ms) else decide (ns=ms))):=by
 unfold eqD
 rw[shaped_ints,shaped_ints]
 have e:PyData.eqv (toP (.lst (ns.map D.int))) (toP (.lst (ms.map D.int)))=decide (ns=ms):=by
  rw[uW,uW,PyData.eqv,PySem.W.ked_eqvAll]
 rw[e]
 rfl
end DL
namespace DL
open PySem PySem.Spec PyProof.Rows L2
theorem yJ(p:bR)(s:aQ)(n:Nat)(ρ:List Sl)(Ω:List OS):gf p s (n+1) ρ Ω=match p ρ Ω with
  | some (true,Ω1)=>(match s ρ Ω1 with
   | some (.nx ρ' Ω')=>gf p s n ρ' Ω'
   | some (.ct ρ' Ω')=>gf p s n ρ' Ω'
   | some (.bk ρ' Ω')=>some (.nx ρ' Ω')
   | some (.rt z Ω')=>some (.rt z Ω')
   | none=>none)
  | some (false,Ω1)=>some (.nx ρ Ω1)
  | none=>none:=(rfl)
end DL
namespace DL
open PySem PySem.Spec PyProof.Rows L2
noncomputable def OIs(K:PySem.W.Frag)(α:List Addr)(F:Hp):Option D->Option V->Prop
 | none,none=>True
 | some d,some v=>Is K α F d v
 | _,_=>False
section
variable {κ:Type} [DecidableEq κ]
noncomputable def eF(kvs:List (κ×D))(k:κ):Option D:=(kvs.find? fun kv=>decide (kv.1=k)).map (·.2)
noncomputable def putD(kvs:List (κ×D))(k:κ)(v:D):List (κ×D) :=
 if(kvs.any fun kv=>decide (kv.1=k))=true then kvs.map (fun kv=>if kv.1=k then(kv.1,v) else kv) else kvs++[(k,v)]
noncomputable def jC(kvs:List (κ×D))(k:κ):List (κ×D):=kvs.filter fun kv=>decide (kv.1≠k)
variable {K:PySem.W.Frag} {α:List Addr} {F:Hp}
theorem cG.len:∀{ps:List (κ×D)} {vs:List (κ×V)},cG K α F ps vs->ps.length=vs.length
 | [],_,h=>by rw[show _=[] from h];rfl
 | p::r,_,⟨v,t,e,_,q⟩=>by rw[e,List.length_cons,List.length_cons,q.len]
theorem cG.keys:∀{ps:List (κ×D)} {vs:List (κ×V)},cG K α F ps vs->ps.map (·.1)=vs.map (·.1)
 | [],_,h=>by rw[show _=[] from h];rfl
 | p::r,_,⟨v,t,e,_,q⟩=>by rw[e,List.map_cons,List.map_cons,q.keys]
theorem cG.val(k:κ):∀{ps:List (κ×D)} {vs:List (κ×V)},cG K α F ps vs->OIs K α F (eF ps k) (du vs k)
 | [],_,h=>by rw[show _=[] from h];exact trivial
 | p::r,_,⟨v,t,e,i,q⟩=>by
  subst e
  by_cases h:p.1=k
  ·have e1:eF (p::r) k=some p.2:=by simp[eF,List.find?_cons,h]
   rw[e1,qM h];exact i
  ·have e1:eF (p::r) k=eF r k:=by simp[eF,List.find?_cons,h]
   rw[e1,qN h];exact q.val k
theorem cG.repl(k:κ){d:D}{y:V}(iy:Is K α F d y):∀{ps:List (κ×D)} {vs:List (κ×V)},cG K α F ps vs->cG K α F (ps.map fun kv=>if kv.1=k then(kv.1,d) else kv) (vs.map fun kv=>if kv.1=k then(kv.1,y) else kv)
 | [],_,h=>by rw[show _=[] from h];exact rfl
 | p::r,_,⟨v,t,e,i,q⟩=>by
  subst e
  rw[List.map_cons,List.map_cons]
  by_cases h:p.1=k
  ·rw[if_pos h,if_pos h];exact⟨y,_,rfl,iy,q.repl k iy⟩
  ·rw[if_neg h,if_neg h];exact⟨v,_,rfl,i,q.repl k iy⟩
theorem cG.snoc(k:κ){d:D}{y:V}(iy:Is K α F d y):∀{ps:List (κ×D)} {vs:List (κ×V)},cG K α F ps vs->cG K α F (ps++[(k,d)]) (vs++[(k,y)])
 | [],_,h=>by rw[show _=[] from h];exact⟨y,[],rfl,iy,rfl⟩
 | p::r,_,⟨v,t,e,i,q⟩=>by
  subst e
  exact⟨v,_,rfl,i,q.snoc k iy⟩
theorem cG.any(k:κ):∀{ps:List (κ×D)} {vs:List (κ×V)},cG K α F ps vs->(ps.any fun kv=>decide (kv.1=k))=vs.any fun kv=>decide (kv.1=k)
 | [],_,h=>by rw[show _=[] from h];rfl
 | p::r,_,⟨v,t,e,i,q⟩=>by
  subst e
  rw[List.any_cons,List.any_cons,q.any k]
theorem cG.put{ps:List (κ×D)}{vs:List (κ×V)}(h:cG K α F ps vs)(k:κ){d:D}{y:V}(iy:Is K α F d y):cG K α F (putD ps k d) (putK vs k y):=by
 unfold putD putK
 rw[h.any k]
 split
 ·exact h.repl k iy
 ·exact h.snoc k iy
theorem cG.drop(k:κ):∀{ps:List (κ×D)} {vs:List (κ×V)},cG K α F ps vs->cG K α F (jC ps k) (fj vs k)
 | [],_,h=>by rw[show _=[] from h];exact rfl
 | p::r,_,⟨v,t,e,i,q⟩=>by
  subst e
  unfold jC fj
  by_cases h:p.1=k
  ·rw[List.filter_cons_of_neg (by simp[h]),List.filter_cons_of_neg (by simp[h])];exact q.drop k
  ·rw[List.filter_cons_of_pos (by simp[h]),List.filter_cons_of_pos (by simp[h])];exact⟨v,_,rfl,i,q.drop k⟩
end
section
variable {K:PySem.W.Frag} {α:List Addr} {F:Hp}
theorem cG.look(f:Str):∀{ps:List (Str×D)} {vs:List (Str×V)},cG K α F ps vs->OIs K α F (ps.lookup f) (vs.lookup f)
 | [],_,h=>by rw[show _=[] from h];exact trivial
 | (g,d)::r,_,⟨v,t,e,i,q⟩=>by
  subst e
  by_cases h:(f==g)=true
  ·rw[List.lookup_cons,List.lookup_cons,h];exact i
  ·have h':(f==g)=false:=by cases z:(f==g) with |true=>exact absurd z h |false=>rfl
   rw[List.lookup_cons,List.lookup_cons,h'];exact q.look f
noncomputable def qU(f:Str)(v:D):List (Str×D)->List (Str×D)
 | []=>[(f,v)]
 | (g,x)::r=>if g=f then(g,v)::r else(g,x)::qU f v r
theorem cG.gG(f:Str){d:D}{y:V}(iy:Is K α F d y):∀{ps:List (Str×D)} {vs:List (Str×V)},cG K α F ps vs->cG K α F (qU f d ps) (L2.gG f y vs)
 | [],_,h=>by rw[show _=[] from h];exact⟨y,[],rfl,iy,rfl⟩
 | (g,x)::r,_,⟨v,t,e,i,q⟩=>by
  subst e
  unfold qU L2.gG
  by_cases h:g=f
  ·rw[if_pos h,if_pos h];exact⟨y,t,rfl,iy,q⟩
  ·rw[if_neg h,if_neg h];exact⟨v,_,rfl,i,q.gG f iy⟩
end
noncomputable def E4.obj(e:E4)(p:Addr)(H':Hp):E4:=⟨e.α++[p],e.F,fun b=>e.A b\/b=p,H'⟩
noncomputable def E4.at(e:E4)(a:Addr)(o:HO):E4:=⟨e.α,e.F,e.A,upd e.H a o⟩
section
variable {K:PySem.W.Frag} {C:Cl} {e:E4} {Ω:List OS}
theorem Wf.objA(w:Wf K C e Ω){n:Nat}{a:Addr}(h:e.α[n]? = some a):e.A a/\∃o,Ω[n]? = some o:=by
 have hl:n<Ω.length:=by rw[<-w.ol];exact(List.getElem?_eq_some_iff.mp h).1
 exact⟨(w.ob n a _ h (List.getElem?_eq_getElem hl)).1,_,List.getElem?_eq_getElem hl⟩
theorem Wf.obj(w:Wf K C e Ω){p:Addr}{H':Hp}{o:OS}(hp:e.H p=none)(hk:∀b u,e.H b=some u->H' b=some u)(hn:H' p≠none/\∀xs,H' p≠some (.tup xs))(ho:uR K C (e.obj p H') p o) :
  Wf K C (e.obj p H') (Ω++[o])/\Ext e (e.obj p H'):=by
 have nA:¬e.A p:=fun z=>(w.ah p z).1 hp
 have npα:p∉e.α:=fun z=>by
  obtain⟨n,h⟩:=List.getElem?_of_mem z
  exact nA (w.objA h).1
 refine⟨⟨fun b u h=>hk b u (w.fh b u h),fun b h=>?_,fun b h=>?_,?_,?_,fun n b u h1 h2=>?_⟩,⟨fun b o' u h=>hk b _ h,fun b u h _=>hk b u h,fun b u h=>⟨u,hk b u h⟩,bC.refl _,fun b u h=>.inl h,fun b h=>?_,fun b h=>.inl h,[p],rfl⟩⟩
 ·rcases h with h |rfl
  ·exact w.fa b h
  ·exact w.nF hp
 ·rcases h with h |rfl
  ·obtain⟨h1,h2⟩:=w.ah b h
   cases q:e.H b with
   | none=>exact absurd q h1
   | some u =>
    show H' b≠none/\∀xs,H' b≠some (.tup xs)
    rw[hk b u q,<-q]
    exact⟨h1,h2⟩
  ·exact hn
 ·show(e.α++[p]).length=(Ω++[o]).length
  rw[List.length_append,List.length_append,w.ol];rfl
 ·show(e.α++[p]).Nodup
  rw[List.nodup_append]
  refine⟨w.nd,by simp,fun x hx y hy=>?_⟩
  simp only[List.mem_singleton] at hy
  subst hy
  exact fun z=>npα (z ▸ hx)
 ·have h1:(e.α++[p])[n]? = some b:=h1
  by_cases hl:n<e.α.length
  ·rw[List.getElem?_append_left hl] at h1
   rw[List.getElem?_append_left (by rw[<-w.ol];exact hl)] at h2
   exact⟨.inl (w.ob n b u h1 h2).1,(w.ob n b u h1 h2).2.keep (fun v hv=>hk b v hv) (bC.refl _) ⟨[p],rfl⟩⟩
  ·have en:n=e.α.length:=by
    have:=(List.getElem?_eq_some_iff.mp h1).1
    rw[List.length_append] at this
    simp at this
    omega
   subst en
   rw[List.getElem?_append_right (Nat.le_refl _),Nat.sub_self] at h1
   rw[w.ol,List.getElem?_append_right (Nat.le_refl _),Nat.sub_self] at h2
   cases h1
   cases h2
   exact⟨.inr rfl,ho⟩
 ·rcases h with h |rfl
  ·exact .inl h
  ·exact .inr hp
theorem Wf.atW(w:Wf K C e Ω){n:Nat}{a:Addr}{o':OS}{ho:HO}(hα:e.α[n]? = some a)(hn:∀xs,ho ≠ .tup xs)(h':uR K C (e.at a ho) a o'):Wf K C (e.at a ho) (Ω.set n o'):=by
 have hA:=(w.objA hα).1
 have hF:=w.fa a hA
 have neF:∀b u,e.F b=some u->b≠a:=fun b u h z=>by subst z;rw[hF] at h;cases h
 refine⟨fun b u h=>?_,w.fa,fun b h=>?_,by simp[E4.at,w.ol],w.nd,fun m b u h1 h2=>?_⟩
 ·show upd e.H a ho b=some u
  rw[aC (neF b u h)];exact w.fh b u h
 ·show upd e.H a ho b≠none/\∀xs,upd e.H a ho b≠some (.tup xs)
  by_cases z:b=a
  ·subst z;rw[aJ];exact⟨by simp,fun xs q=>hn xs (Option.some.inj q)⟩
  ·rw[aC z];exact w.ah b h
 ·by_cases z:m=n
  ·subst z
   have h1:e.α[m]? = some b:=h1
   rw[hα] at h1
   cases h1
   have hl:m<Ω.length:=by rw[<-w.ol];exact(List.getElem?_eq_some_iff.mp hα).1
   rw[List.getElem?_set_self hl] at h2
   cases h2
   exact⟨hA,h'⟩
  ·rw[List.getElem?_set_ne (fun q=>z q.symm)] at h2
   have nb:b≠a:=fun q=>by
    subst q
    exact z ((List.getElem?_inj (List.getElem?_eq_some_iff.mp h1).1 w.nd).mp (h1.trans hα.symm))
   refine⟨(w.ob m b u h1 h2).1,(w.ob m b u h1 h2).2.keep (fun v hv=>?_) (bC.refl _) ⟨[],by simp[E4.at]⟩⟩
   show upd e.H a ho b=some v
   rw[aC nb];exact hv
theorem Wf.at(w:Wf K C e Ω){n:Nat}{a:Addr}{o':OS}{ho:HO}(hα:e.α[n]? = some a)(hn:∀xs,ho ≠ .tup xs)(h':uR K C (e.at a ho) a o')(hz:∀o u,e.H a≠some (.frz o u)) :
  Wf K C (e.at a ho) (Ω.set n o')/\Ext e (e.at a ho):=by
 have hA:=(w.objA hα).1
 refine⟨w.atW hα hn h',⟨fun b o' u h=>?_,fun b u h hn=>?_,fun b u h=>?_,bC.refl _,fun b u h=>.inl h,fun b h=>.inl h,fun b h=>h,[],by simp[E4.at]⟩⟩
 ·show upd e.H a ho b=some (.frz o' u)
  rw[aC (fun z=>hz o' u (by rw[<-z];exact h))];exact h
 ·show upd e.H a ho b=some u
  rw[aC (fun z=>hn (by rw[z];exact hA))];exact h
 ·by_cases z:b=a
  ·subst z;exact⟨ho,aJ⟩
  ·exact⟨u,by show upd e.H a ho b=some u;rw[aC z];exact h⟩
end
noncomputable def oW:D->Option Key
 | .int i=>some (.inl i)
 | .str x=>some (.inr x)
 | _=>none
noncomputable def uf:List D->Option (List Key)
 | []=>some []
 | d::ds=>match oW d with
  | some k=>(match uf ds with |some ks=>some (k::ks) |none=>none)
  | none=>none
noncomputable def jD:D->Option (List Key)
 | .tup xs=>uf xs
 | _=>none
noncomputable def ofK:Key->D
 | .inl i=>.int i
 | .inr x=>.str x
section
variable {K:PySem.W.Frag} {α:List Addr} {F:Hp}
theorem sH{d:D}{k:Key}{v:V}(h:oW d=some k)(i:Is K α F d v):v=kV k:=by
 cases d<;>first |cases h |skip
 ·rw[Is] at i;exact i
 ·rw[Is] at i;exact i
theorem Dc:∀{ds:List D} {ks:List Key} {vs:List V},uf ds=some ks->IsL K α F ds vs->vs=ks.map kV
 | [],ks,vs,h,i=>by cases h;rw[i.of_nil];rfl
 | d::ds,ks,vs,h,i=>by
  obtain⟨v,r,rfl,i1,i2⟩:=i.of_cons
  unfold uf at h
  cases q:oW d with
  | none=>rw[q] at h;cases h
  | some k =>
   rw[q] at h
   dsimp only at h
   cases q2:uf ds with
   | none=>rw[q2] at h;cases h
   | some ks' =>
    rw[q2] at h
    cases h
    rw[List.map_cons,sH q i1,Dc q2 i2]
theorem qt{d:D}{ks:List Key}{v:V}(h:jD d=some ks)(i:Is K α F d v):∃b,v=.ref b/\F b=some (.tup (ks.map kV)):=by
 cases d<;>first |cases h |skip
 rw[Is] at i
 obtain⟨a,vs,rfl,e,q⟩:=i
 rw[Dc h q] at e
 exact⟨a,rfl,e⟩
theorem GQ(k:Key):Is K α F (ofK k) (kV k):=by
 cases k with
 | inl i=>show Is K α F (.int i) (.int i);rw[Is]
 | inr x=>show Is K α F (.str x) (.str x);rw[Is]
theorem Dd:∀ks:List Key,IsL K α F (ks.map ofK) (ks.map kV)
 | []=>.nil
 | k::ks=>.cons (GQ k) (Dd ks)
end
noncomputable def jE:OS->D->Option (Option D)
 | .fzK kvs,d=>(match oW d with |some k=>some (eF kvs k) |none=>none)
 | .dK kvs,d=>(match oW d with |some k=>some (eF kvs k) |none=>none)
 | .dT kvs,d=>(match jD d with |some k=>some (eF kvs k) |none=>none)
 | _,_=>none
noncomputable def qW:OS->D->D->Option OS
 | .dK kvs,d,v=>(match oW d with |some k=>if kvs.length<100000 then some (.dK (putD kvs k v)) else none |none=>none)
 | .dT kvs,d,v=>(match jD d with |some k=>if kvs.length<100000 then some (.dT (putD kvs k v)) else none |none=>none)
 | _,_,_=>none
noncomputable def nR:OS->Bool
 | .fzK _=>true
 | .dK _=>true
 | .dT _=>true
 | _=>false
section
variable {K:PySem.W.Frag} {C:Cl} {e:E4} {Ω:List OS}
theorem xJ(w:Wf K C e Ω){n:Nat}{a:Addr}{o:OS}{d:D}{r:Option D}{y:V}(hα:e.α[n]? = some a)(hΩ:Ω[n]? = some o)(hl:jE o d=some r)(i:Is K e.α e.F d y) :
  ∃r',jk e.H a y r'/\OIs K e.α e.F r r':=by
 have ob:=(w.ob n a o hα hΩ).2
 unfold jE at hl
 cases o with
 | fzK kvs =>
  obtain⟨vs,ob',h1,h2⟩:=ob
  dsimp only at hl
  cases q:oW d with
  | none=>rw[q] at hl;cases hl
  | some k =>
   rw[q] at hl
   cases hl
   rw[sH q i]
   exact⟨_,.inl ⟨vs,k,.inr ⟨_,h1⟩,rfl,rfl⟩,h2.val k⟩
 | dK kvs =>
  obtain⟨vs,h1,h2⟩:=ob
  dsimp only at hl
  cases q:oW d with
  | none=>rw[q] at hl;cases hl
  | some k =>
   rw[q] at hl
   cases hl
   rw[sH q i]
   exact⟨_,jk.k h1,h2.val k⟩
 | dT kvs =>
  obtain⟨vs,h1,h2⟩:=ob
  dsimp only at hl
  cases q:jD d with
  | none=>rw[q] at hl;cases hl
  | some k =>
   rw[q] at hl
   cases hl
   obtain⟨b,rfl,hb⟩:=qt q i
   exact⟨_,jk.t h1 (w.fh _ _ hb),h2.val k⟩
 | _=>cases hl
theorem Ab(w:Wf K C e Ω){n:Nat}{a:Addr}{o:OS}(hα:e.α[n]? = some a)(hΩ:Ω[n]? = some o)(h:nR o=true):IsD e.H a:=by
 have ob:=(w.ob n a o hα hΩ).2
 cases o with
 | fzK kvs=>obtain⟨vs,ob',h1,_⟩:=ob;exact .inl ⟨vs,.inr ⟨_,h1⟩⟩
 | dK kvs=>obtain⟨vs,h1,_⟩:=ob;exact .inl ⟨vs,.inl h1⟩
 | dT kvs=>obtain⟨vs,h1,_⟩:=ob;exact .inr ⟨vs,.inl h1⟩
 | _=>cases h
theorem NZ(w:Wf K C e Ω){n:Nat}{a:Addr}{o o':OS}{d x:D}{y v:V}(hα:e.α[n]? = some a)(hΩ:Ω[n]? = some o)(hp:qW o d x=some o')(i:Is K e.α e.F d y)(ix:Is K e.α e.F x v) :
  ∃H',qR e.H a y v H'/\∃e',e'.H=H'/\Wf K C e' (Ω.set n o')/\Ext e e':=by
 have ob:=(w.ob n a o hα hΩ).2
 unfold qW at hp
 cases o with
 | dK kvs =>
  obtain⟨vs,h1,h2⟩:=ob
  dsimp only at hp
  cases q:oW d with
  | none=>rw[q] at hp;cases hp
  | some k =>
   rw[q] at hp
   dsimp only at hp
   split at hp
   ·rename_i hl
    cases hp
    rw[sH q i]
    refine⟨_,qR.k h1 (by rw[<-h2.len];exact oH hl),e.at a _,rfl,w.at hα (fun xs z=>nomatch z) ⟨_,aJ,h2.put k ix⟩ fun o u z=>by rw[h1] at z;cases z⟩
   ·cases hp
 | dT kvs =>
  obtain⟨vs,h1,h2⟩:=ob
  dsimp only at hp
  cases q:jD d with
  | none=>rw[q] at hp;cases hp
  | some k =>
   rw[q] at hp
   dsimp only at hp
   split at hp
   ·rename_i hl
    cases hp
    obtain⟨b,rfl,hb⟩:=qt q i
    refine⟨_,qR.t h1 (w.fh _ _ hb) (by rw[<-h2.len];exact oH hl),e.at a _,rfl,w.at hα (fun xs z=>nomatch z) ⟨_,aJ,h2.put k ix⟩ fun o u z=>by rw[h1] at z;cases z⟩
   ·cases hp
 | _=>cases hp
end
noncomputable def ug:Den:=fun _ Ω=>some (.obj Ω.length,Ω++[.dT []])
noncomputable def eQ(go gi:Den):Den:=fun ρ Ω=>match go ρ Ω with
 | some (.obj n,Ω1)=>(match gi ρ Ω1 with
  | some (k,Ω2)=>(match Ω2[n]? with
   | some o=>(match jE o k with |some (some d)=>some (d,Ω2) |_=>none)
   | none=>none)
  | none=>none)
 | _=>none
noncomputable def jc(neg:Bool)(gk go:Den):Den:=fun ρ Ω=>match gk ρ Ω with
 | some (k,Ω1)=>(match go ρ Ω1 with
  | some (.obj n,Ω2)=>(match Ω2[n]? with
   | some o=>(match jE o k with |some r=>some (.bl (if neg then !r.isSome else r.isSome),Ω2) |none=>none)
   | none=>none)
  | _=>none)
 | none=>none
noncomputable def oX(go gk gx:Den):Den:=fun ρ Ω=>match go ρ Ω with
 | some (.obj n,Ω1)=>(match Ω1[n]? with
  | some o=>if nR o=true then(match gk ρ Ω1 with
   | some (k,Ω2)=>(match gx ρ Ω2 with
    | some (x,Ω3)=>(match Ω3[n]? with
     | some o2=>(match jE o2 k with |some r=>some (r.getD x,Ω3) |none=>none)
     | none=>none)
    | none=>none)
   | none=>none) else none
  | none=>none)
 | _=>none
noncomputable def jV(go gi gv:Den):aQ:=fun ρ Ω=>match gv ρ Ω with
 | some (v,Ω1)=>(match go ρ Ω1 with
  | some (.obj n,Ω2)=>(match gi ρ Ω2 with
   | some (k,Ω3)=>(match Ω3[n]? with
    | some o=>(match qW o k v with |some o'=>some (.nx ρ (Ω3.set n o')) |none=>none)
    | none=>none)
   | none=>none)
  | _=>none)
 | none=>none
section
variable {X:Cx} {C:Cl} {a b c x y:Expr} {f g h:Den} {pos pos' ap cp:Pos}
theorem uh:PD X C (.Dict [] [] pos) ug:=aY Jm fun σ H Q hw'=>by
 obtain⟨e,Ω,ρ,d,Ω',eH,w,rl,q,kk⟩:=hw'
 subst eH
 cases q
 intro p hp
 obtain⟨w',x'⟩:=w.obj (H':=upd e.H p (.dT [])) (o:=.dT []) hp (fun b u hb=>by rw[aC (aM hb hp)];exact hb) (by rw[aJ];exact⟨by simp,fun xs z=>nomatch z⟩) ⟨[],aJ,rfl⟩
 refine kk _ (e.obj p _) x' w' ?_
 rw[Is]
 exact⟨p,by show(e.α++[p])[Ω.length]? = some p;rw[<-w.ol];simp,rfl⟩
theorem OIs.some_of{K:PySem.W.Frag}{α:List Addr}{F:Hp}{d:D}{r:Option V}(h:OIs K α F (some d) r):∃v,r=some v/\Is K α F d v:=by
 cases r with
 | none=>exact h.elim
 | some v=>exact⟨v,rfl,h⟩
theorem OIs.isSome{K:PySem.W.Frag}{α:List Addr}{F:Hp}{d:Option D}{r:Option V}(h:OIs K α F d r):r.isSome=d.isSome:=by
 cases r<;>cases d<;>first |rfl |exact h.elim
theorem OIs.getD{K:PySem.W.Frag}{α:List Addr}{F:Hp}{d:Option D}{r:Option V}{x:D}{v:V}(h:OIs K α F d r)(i:Is K α F x v):Is K α F (d.getD x) (r.getD v):=by
 cases r<;>cases d<;>first |exact h.elim |exact i |exact h
theorem iY(hu:X.A.units+1<cLine)(ho:PD X C a f)(hi:PD X C b g)(hs:Jk b):PD X C (.Subscript a b pos) (eQ f g):=aY (Nk hu ho hi hs) fun σ H Q hw'=>by
 obtain⟨e,Ω,ρ,d,Ω',eH,w,rl,q,kk⟩:=hw'
 unfold eQ at q
 cases q1:f ρ Ω with
 | none=>rw[q1] at q;cases q
 | some p1 =>
  obtain⟨d1,Ω1⟩:=p1
  rw[q1] at q
  cases d1 with
  | obj n =>
   dsimp only at q
   cases q2:g ρ Ω1 with
   | none=>rw[q2] at q;cases q
   | some p2 =>
    obtain⟨k,Ω2⟩:=p2
    rw[q2] at q
    dsimp only at q
    cases q3:Ω2[n]? with
    | none=>rw[q3] at q;cases q
    | some o =>
     rw[q3] at q
     dsimp only at q
     cases q4:jE o k with
     | none=>rw[q4] at q;cases q
     | some r =>
      rw[q4] at q
      cases r with
      | none=>cases q
      | some d' =>
       cases q
       refine⟨e,Ω,ρ,_,Ω1,eH,w,rl,q1,fun v e1 x1 w1 i1=>?_⟩
       refine⟨e1,Ω1,ρ,k,_,rfl,w1,rl.ext x1,q2,fun u e2 x2 w2 i2=>?_⟩
       have i3:=i1.ext x2
       rw[Is] at i3
       obtain⟨p,hα,rfl⟩:=i3
       obtain⟨r',g1,o1⟩:=xJ w2 hα q3 q4 i2
       obtain⟨v',rfl,iv⟩:=o1.some_of
       exact⟨p,v',rfl,g1,kk v' e2 (x1.trans x2) w2 iv⟩
  | _=>cases q
theorem Ac{K:PySem.W.Frag}{neg:Bool}{σ:St}{H:Hp}{Q:VK}(h:tD K C (jc neg f g) σ H Q) :
  tD K C f σ H fun y H1=>tD K C g σ H1 fun x H2=>∃a o,x=.ref a/\jk H2 a y o/\Q (.bl (if neg then !o.isSome else o.isSome)) H2:=by
 obtain⟨e,Ω,ρ,d,Ω',eH,w,rl,q,kk⟩:=h
 unfold jc at q
 cases q1:f ρ Ω with
 | none=>rw[q1] at q;cases q
 | some p1 =>
  obtain⟨k,Ω1⟩:=p1
  rw[q1] at q
  dsimp only at q
  cases q2:g ρ Ω1 with
  | none=>rw[q2] at q;cases q
  | some p2 =>
   obtain⟨d2,Ω2⟩:=p2
   rw[q2] at q
   cases d2 with
   | obj n =>
    dsimp only at q
    cases q3:Ω2[n]? with
    | none=>rw[q3] at q;cases q
    | some o =>
     rw[q3] at q
     dsimp only at q
     cases q4:jE o k with
     | none=>rw[q4] at q;cases q
     | some r =>
      rw[q4] at q
      cases q
      refine⟨e,Ω,ρ,k,Ω1,eH,w,rl,q1,fun v e1 x1 w1 i1=>?_⟩
      refine⟨e1,Ω1,ρ,_,_,rfl,w1,rl.ext x1,q2,fun u e2 x2 w2 i2=>?_⟩
      rw[Is] at i2
      obtain⟨p,hα,rfl⟩:=i2
      obtain⟨r',g1,o1⟩:=xJ w2 hα q3 q4 (i1.ext x2)
      refine⟨p,r',rfl,g1,?_⟩
      rw[o1.isSome]
      exact kk _ e2 (x1.trans x2) w2 (by rw[Is])
   | _=>cases q
theorem um(hu:X.A.units+1<cLine)(hk:PD X C a f)(ho:PD X C b g)(h1:behindInMarks .In b=false:=by rfl):PDT X C (.Compare a [.In] [b] pos) (gT (jc false f g)) :=
 mU (FJ (Rb hu hk ho) h1) fun σ H Q h=>Ac (my h)
theorem lJ(hu:X.A.units+1<cLine)(hk:PD X C a f)(ho:PD X C b g)(h1:behindInMarks .NotIn b=false:=by rfl):PDT X C (.Compare a [.NotIn] [b] pos) (gT (jc true f g)) :=
 mU (FJ (Gm hu hk ho) h1) fun σ H Q h=>Ac (my h)
theorem Ad(hu:X.A.units+1<cLine)(ho:PD X C a f)(hi:PD X C b g)(hx:PD X C c h)(m:M2 X a "get" ap b c cp):PD X C (.Call (.Attribute a "get" ap) [b,c] [] cp) (oX f g h):=aY (Jo hu ho hi hx m) fun σ H Q hw'=>by
 obtain⟨e,Ω,ρ,d,Ω',eH,w,rl,q,kk⟩:=hw'
 unfold oX at q
 cases q1:f ρ Ω with
 | none=>rw[q1] at q;cases q
 | some p1 =>
  obtain⟨d1,Ω1⟩:=p1
  rw[q1] at q
  cases d1 with
  | obj n =>
   dsimp only at q
   cases q0:Ω1[n]? with
   | none=>rw[q0] at q;cases q
   | some o0 =>
    rw[q0] at q
    dsimp only at q
    by_cases hd:nR o0=true
    ·rw[if_pos hd] at q
     cases q2:g ρ Ω1 with
     | none=>rw[q2] at q;cases q
     | some p2 =>
      obtain⟨k,Ω2⟩:=p2
      rw[q2] at q
      dsimp only at q
      cases q5:h ρ Ω2 with
      | none=>rw[q5] at q;cases q
      | some p5 =>
       obtain⟨xd,Ω3⟩:=p5
       rw[q5] at q
       dsimp only at q
       cases q3:Ω3[n]? with
       | none=>rw[q3] at q;cases q
       | some o =>
        rw[q3] at q
        dsimp only at q
        cases q4:jE o k with
        | none=>rw[q4] at q;cases q
        | some r =>
         rw[q4] at q
         cases q
         refine⟨e,Ω,ρ,_,Ω1,eH,w,rl,q1,fun v e1 x1 w1 i1=>?_⟩
         rw[Is] at i1
         obtain⟨p,hα,rfl⟩:=i1
         refine⟨p,rfl,Ab w1 hα q0 hd,?_⟩
         refine⟨e1,Ω1,ρ,k,_,rfl,w1,rl.ext x1,q2,fun u e2 x2 w2 i2=>?_⟩
         refine⟨e2,Ω2,ρ,xd,_,rfl,w2,(rl.ext x1).ext x2,q5,fun u3 e3 x3 w3 i3'=>?_⟩
         have hα2:e3.α[n]? = some p:=by
          have i3:Is X.K e3.α e3.F (.obj n) (.ref p):=Is.ext (x2.trans x3) (by rw[Is];exact⟨p,hα,rfl⟩)
          rw[Is] at i3
          obtain⟨p',z,zz⟩:=i3
          cases zz
          exact z
         obtain⟨r',g1,o1⟩:=xJ w3 hα2 q3 q4 (i2.ext x3)
         exact⟨r',g1,kk _ e3 ((x1.trans x2).trans x3) w3 (o1.getD i3')⟩
    ·rw[if_neg hd] at q;cases q
  | _=>cases q
theorem qX(hu:X.A.units+1<cLine)(ho:PD X C a f)(hi:PD X C b g)(hv:PD X C x h)(hs:swapsWith x (some (.Subscript a b pos')) pos.line X.env=pure false:=by rfl) :
  PDS X C (.Assign [.Subscript a b pos'] x pos) (jV f g h):=fun e₀=>dC (Nm hu ho hi hv hs) fun Dn σ H hw'=>by
 obtain⟨e,Ω,ρ,o,eH,r,q,k⟩:=hw'
 unfold jV at q
 cases q1:h ρ Ω with
 | none=>rw[q1] at q;cases q
 | some p1 =>
  obtain⟨v,Ω1⟩:=p1
  rw[q1] at q
  dsimp only at q
  cases q2:f ρ Ω1 with
  | none=>rw[q2] at q;cases q
  | some p2 =>
   obtain⟨d2,Ω2⟩:=p2
   rw[q2] at q
   cases d2 with
   | obj n =>
    dsimp only at q
    cases q3:g ρ Ω2 with
    | none=>rw[q3] at q;cases q
    | some p3 =>
     obtain⟨kd,Ω3⟩:=p3
     rw[q3] at q
     dsimp only at q
     cases q4:Ω3[n]? with
     | none=>rw[q4] at q;cases q
     | some ob =>
      rw[q4] at q
      dsimp only at q
      cases q5:qW ob kd v with
      | none=>rw[q5] at q;cases q
      | some ob' =>
       rw[q5] at q
       cases q
       refine⟨e,Ω,ρ,v,Ω1,eH,r.wf,r.rel,q1,fun uv e1 x1 w1 i1=>?_⟩
       refine⟨e1,Ω1,ρ,_,Ω2,rfl,w1,r.rel.ext x1,q2,fun uo e2 x2 w2 i2=>?_⟩
       refine⟨e2,Ω2,ρ,kd,Ω3,rfl,w2,(r.rel.ext x1).ext x2,q3,fun uk e3 x3 w3 i3=>?_⟩
       have i2':=i2.ext x3
       rw[Is] at i2'
       obtain⟨p,hα,rfl⟩:=i2'
       obtain⟨H',hp,e4,rfl,w4,x4⟩:=NZ w3 hα q4 q5 i3 (i1.ext (x2.trans x3))
       exact⟨p,e4.H,rfl,hp,k e4 σ (r.to (((x1.trans x2).trans x3).trans x4) w4)⟩
   | _=>cases q
end
end DL
namespace DR
open PySem PyProof.Rows
open Sem (wp)
noncomputable def lK(h:Heap)(a:Addr)(es:Array DictEntry)(ep:Nat):Prop:=∃o,h.get? a=some o/\o.ExactDict/\o.data=.dict es ep
theorem lK.ty{s:Shared}{a:Addr}{es:Array DictEntry}{ep:Nat}(r:lK s.heap a es ep):s.TypeIs (.ref a) "dict":=let⟨o,h1,h2,_⟩:=r;⟨o,h1,h2.1⟩
theorem lK.to{h h':Heap}{a:Addr}{es:Array DictEntry}{ep:Nat}(r:lK h a es ep)(k:∀o,h.get? a=some o->h'.get? a=some o):lK h' a es ep:=let⟨o,h1,h2⟩:=r;⟨o,k o h1,h2⟩
theorem lK.lt{h:Heap}{a:Addr}{es:Array DictEntry}{ep:Nat}(r:lK h a es ep):a<h.objs.size:=let⟨_,h1,_⟩:=r;Heap.lt_size h1
section
variable {prog:Program} {w:World} {A:Around} {E:Value->Shared->Prop} {s:Shared} {d it:Addr} {es:Array DictEntry} {ep i:Nat}
theorem JK{Q:Value->Shared->Prop}(hd:(d==sysModules)=false)(hm:lK s.heap d es ep)
  (hq:Q (.ref s.heap.objs.size) { s with heap:=s.heap.push { cls:=.type "dict_keyiterator",data:=.fields #[.ref d,.int 0 0,.int es.size 0,.int ep 0] } }):wpAny (model prog w) A (pyIter (.ref d)) Q E s:=by
 obtain⟨o,ho,hc,hx⟩:=id hm
 have ty:=hm.ty
 refine wpAny_pyIter_slot ty F.slot_dict_iter (wpAny_call_entry F.slot_dict_iter ty F.entry_dict_iter ?_ (F.args_dict_iter_1 _))
 unfold Builtin.«dict.__iter__»;refine wpAny_bind ?_
 unfold Builtin.Dict.dictSlotNone;refine wpAny_bind (wpAny_notOrdered_dict ty ?_)
 show wpAny _ _ (pure (Value.ref d)) _ _ s;refine wpAny_pure ?_
 show wpAny _ _ (Builtin.Dict.showsAll d>>=_) _ _ s;unfold Builtin.Dict.showsAll
 rw[if_neg (by rw[hd];exact Bool.false_ne_true)];refine wpAny_bind (wpAny_pure ?_)
 refine wpAny_bind (wpAny_dictEntries ho hx ?_);refine wpAny_bind (wpAny_dictEpoch ho hx ?_)
 refine wpAny_bind (wpAny_newObj_type (wpAny_pure ⟨_,rfl,"dict_keyiterator",_,⟨_,Heap.get?_push_size _ rfl,rfl⟩,F.slot_dict_keyiterator_next.lookup,?_⟩));simpa [rawInt] using hq
theorem JL{Q:Option Value->Shared->Prop}(hit:s.heap.IsKeyIter it d i es.size ep)(hm:lK s.heap d es ep)(hl:i<es.size)
  (hq:∀h',h'.IsKeyIter it d (i+1) es.size ep->Heap.SameBut it s.heap h'->Q (some es[i].key) { s with heap:=h' }):wpAny (model prog w) A (pyNext (.ref it)) Q E s:=by
 obtain⟨o,ho,hc,hd⟩:=id hit
 obtain⟨od,hod,hcd,hdd⟩:=id hm
 unfold pyNext
 refine wpAny_bind (wpAny_attempt (wpAny_callSpecial?_slot (name:=Str.ofString "__next__") hit.typeIs F.slot_dict_keyiterator_next (wpAny_call_entry F.slot_dict_keyiterator_next hit.typeIs F.entry_dict_keyiterator_next ?_ (F.args_dict_keyiterator_next_1 _))))
 refine wpAny_bind (wpAny_pure ?_);refine wpAny_bind ?_;refine wpAny_bind ?_
 first |exact(wpAny_bind (wpAny_typeNameOfWhole_keyiter hit.typeIs (wpAny_pure (by fail)))) |(first |refine wpAny_bind (wpAny_typeNameOfWhole_keyiter hit.typeIs (wpAny_pure ?_)) |refine wpAny_bind (wpAny_typeNameOf_keyiter hit.typeIs (wpAny_pure ?_)))
 refine wpAny_bind (wpAny_fieldsOf ho hd ?_);have own0:Builtin.Dict_items.ownsTuple "dict_keyiterator" = false:=by decide
 simp only[own0,Bool.false_eq_true,if_false];show wpAny _ _ (if(Value.ref d==Value.none)=true then _ else _) _ _ s
 rw[if_neg (show ¬((Value.ref d==Value.none)=true) from Bool.false_ne_true)];refine wpAny_bind (wpAny_pure ?_)
 refine wpAny_bind (wpAny_dictEntries hod hdd ?_);rw[if_neg (by simp)]
 refine wpAny_bind (wpAny_pure ?_);refine wpAny_bind (wpAny_dictEpoch hod hdd ?_)
 rw[if_neg (by simp)];refine wpAny_pure ?_
 simp only[show ¬((i:Int)<0) from by omega,if_false,Int.toNat_natCast,Array.getElem?_eq_getElem hl];refine wpAny_bind ?_
 first |refine wpAny_bind (wpAny_typeNameOfWhole_keyiter hit.typeIs (wpAny_pure ?_)) |skip
 first |refine wpAny_bind (wpAny_typeNameOf_keyiter hit.typeIs (wpAny_pure ?_)) |skip
 refine wpAny_bind (wpAny_isOneOf_keyiter hit.typeIs ?_);show wpAny _ _ (setField (.ref it) 1 (rawInt ((i:Int)+1))>>=_) _ _ s
 refine wpAny_bind (wpAny_setField ho hd (by simp) ?_)
 have it2:(s.heap.update it (Obj.mapFields (·.setIfInBounds 1 (rawInt ((i:Int)+1))))).IsKeyIter it d (i+1) es.size ep :=
  ⟨_,Heap.get?_update_self _ ho (Obj.isFreed_of_fields (Obj.data_mapFields hd _)),(Obj.cls_mapFields ..).trans hc,by rw[Obj.data_mapFields hd];simp[rawInt]⟩
 refine wpAny_bind (wpAny_holding ?_);refine wpAny_bind (wpAny_isOneOf_keyiter (s:={ s with heap:=s.heap.update it (Obj.mapFields (·.setIfInBounds 1 (rawInt ((i:Int)+1)))) }) it2.typeIs ?_)
 show wpAny _ _ (pure es[i].key) _ _ _;exact wpAny_pure (wpAny_pure ⟨_,rfl,wpAny_pure (hq _ it2 (Heap.SameBut.update ..))⟩)
theorem N_{Q:Option Value->Shared->Prop}(hh:A.handled=none)(hit:s.heap.IsKeyIter it d i es.size ep)(hm:lK s.heap d es ep)(hl:es.size<=i)
  (hq:∀h',Heap.ExtBut it s.heap h'->Q none { s with heap:=h' }):wpAny (model prog w) A (pyNext (.ref it)) Q E s:=by
 obtain⟨o,ho,hc,hd⟩:=id hit
 obtain⟨od,hod,hcd,hdd⟩:=id hm
 unfold pyNext
 refine wpAny_bind (wpAny_attempt (wpAny_callSpecial?_slot (name:=Str.ofString "__next__") hit.typeIs F.slot_dict_keyiterator_next (wpAny_call_entry F.slot_dict_keyiterator_next hit.typeIs F.entry_dict_keyiterator_next ?_ (F.args_dict_keyiterator_next_1 _))))
 refine wpAny_bind (wpAny_pure ?_);refine wpAny_bind ?_;refine wpAny_bind ?_
 first |exact(wpAny_bind (wpAny_typeNameOfWhole_keyiter hit.typeIs (wpAny_pure (by fail)))) |(first |refine wpAny_bind (wpAny_typeNameOfWhole_keyiter hit.typeIs (wpAny_pure ?_)) |refine wpAny_bind (wpAny_typeNameOf_keyiter hit.typeIs (wpAny_pure ?_)))
 refine wpAny_bind (wpAny_fieldsOf ho hd ?_);have own0:Builtin.Dict_items.ownsTuple "dict_keyiterator" = false:=by decide
 simp only[own0,Bool.false_eq_true,if_false];show wpAny _ _ (if(Value.ref d==Value.none)=true then _ else _) _ _ s
 rw[if_neg (show ¬((Value.ref d==Value.none)=true) from Bool.false_ne_true)];refine wpAny_bind (wpAny_pure ?_)
 refine wpAny_bind (wpAny_dictEntries hod hdd ?_);rw[if_neg (by simp)]
 refine wpAny_bind (wpAny_pure ?_);refine wpAny_bind (wpAny_dictEpoch hod hdd ?_)
 rw[if_neg (by simp)];refine wpAny_pure ?_
 simp only[show ¬((i:Int)<0) from by omega,if_false,Int.toNat_natCast,Array.getElem?_eq_none hl];refine wpAny_bind ?_
 first |refine wpAny_bind (wpAny_typeNameOfWhole_keyiter hit.typeIs (wpAny_pure ?_)) |skip
 first |refine wpAny_bind (wpAny_typeNameOf_keyiter hit.typeIs (wpAny_pure ?_)) |skip
 show wpAny _ _ (setField (.ref it) 0 .none>>=_) _ _ s;refine wpAny_bind (wpAny_setField ho hd (by simp) ?_)
 show wpAny _ _ (newExc (.type "StopIteration") []>>=_) _ _ _;refine wpAny_bind ?_
 simp only[newExc,newTuple];refine wpAny_bind (wpAny_newObj_type ?_ (by size_fits))
 refine wpAny_bind (m:=firstArgMember _ _) (wpAny_of_eq (a:=Value.none) (by first |rfl |(simp only[firstArgMember];rfl)) ?_);refine wpAny_newObj_type ?_ (by size_fits)
 simp only[raiseNew];refine wpAny_bind (wpAny_handled ?_)
 rw[show A.in1.handled=none from hh];refine wpAny_bind (wpAny_pure (wpAny_throw ?_))
 refine wpAny_bind (wpAny_isInstance (T:="StopIteration") (b:=true) ⟨_,Heap.get?_push_size _ rfl,rfl⟩ isSubtype_stop ?_);exact wpAny_pure (hq _ (((Heap.SameBut.update ..).extBut.push _).push _))
theorem JM(hh:A.handled=none)(I:Addr)(hne:d≠I):Walks prog w A I [I,d] [I] es.size (fun i v=>(es[i]?).map (·.key)=some v) (fun i h=>h.IsKeyIter I d i es.size ep/\lK h d es ep) where
 sub:=fun b hb=>by simp at hb;simp[hb]
 frame:=fun _ _ _ st hk=>⟨st.1.at (hk I (by simp)),st.2.to (hk d (by simp))⟩
 item:=fun i s Q E hi st hQ=>JL st.1 st.2 hi fun h' it' hs'=>hQ _ h' s.toks (by simp[hi]) ⟨it',st.2.to fun o e=>hs'.extBut d o hne e⟩ fun b o hb e=>hs'.extBut b o (fun z=>hb (by simp[z])) e
 done:=fun s Q E st hQ=>N_ hh st.1 st.2 (Nat.le_refl _) fun h' he'=>hQ h' s.toks fun b o hb e=>he' b o (fun z=>hb (by simp[z])) e
 self:=fun _ _ _ _ st hQ=>wpAny_pyIter_keyiter st.1 hQ
theorem De(lo:(d==sysModules)=false):PySem.W.KdlSrc prog w "dict" d d es.size (fun i v=>(es[i]?).map (·.key)=some v) (fun h=>lK h d es ep) where
 type:=fun s hm=>lK.ty hm
 there:=fun _ hm=>⟨hm.lt,hm.lt⟩
 keep:=fun _ _ hm hk=>hm.to fun o e=>hk d (.inl rfl) o e
 notList:=by decide
 notTuple:=by decide
 hint:=fun _ _ s _ hm hq=>PySem.W.kdl_hint_dict (lK.ty hm) hq
 iter:=fun _ s hh hm=>⟨_,_,(fun _ _ hq=>JK lo hm hq),JM hh _ (Nat.ne_of_lt hm.lt),⟨⟨_,Heap.get?_push_size _ rfl,rfl,rfl⟩,hm.to fun o e=>Heap.get?_push_of_some _ e⟩⟩
end
section
variable {κ:Type} [DecidableEq κ]
noncomputable def qY(xs:List (κ×Addr×Value))(k:κ):List (κ×Addr×Value):=xs.filter fun x=>decide (x.1≠k)
theorem Oa:∀{xs:List (κ×Addr×Value)} {k:κ},k∉xs.map (·.1)->qY xs k=xs:=fun {xs k} h=>by
 unfold qY
 rw[List.filter_eq_self]
 intro x hx
 exact decide_eq_true fun e=>h (List.mem_map.mpr ⟨x,hx,e⟩)
theorem wg:∀{xs:List (κ×Addr×Value)} {k:κ} {j:Nat} {p:Addr×Value},(xs.map (·.1)).Nodup->xs[j]? = some (k,p)->qY xs k=xs.eraseIdx j
 | [],_,_,_,_,h=>by simp at h
 | x::r,k,0,p,hn,h=>by
  rw[List.getElem?_cons_zero] at h
  cases h
  rw[List.map_cons,List.nodup_cons] at hn
  rw[List.eraseIdx_cons_zero]
  show List.filter _ _=_
  rw[List.filter_cons_of_neg (by simp)]
  exact Oa hn.1
 | x::r,k,j+1,p,hn,h=>by
  rw[List.getElem?_cons_succ] at h
  rw[List.map_cons,List.nodup_cons] at hn
  have ne:¬x.1=k:=fun e=>hn.1 (e ▸ List.mem_map.mpr ⟨(k,p),List.mem_of_getElem? h,rfl⟩)
  rw[List.eraseIdx_cons_succ,<-wg hn.2 h]
  show List.filter _ _=_
  rw[List.filter_cons_of_pos (by simp[ne])]
  rfl
theorem yK{α β:Type}(f:α->β):∀(l:List α) (j:Nat),(l.eraseIdx j).map f=(l.map f).eraseIdx j
 | [],_=>rfl
 | _::_,0=>rfl
 | x::l,j+1=>by rw[List.eraseIdx_cons_succ,List.map_cons,List.map_cons,List.eraseIdx_cons_succ,yK f l j]
variable {prog:Program} {w:World} {knd:HeapKind prog w κ} {A:Around} {E:Value->Shared->Prop} {s:Shared}
theorem Ae{d a:Addr}{xs:List (κ×Addr×Value)}{k:κ}{p:Addr×Value}{Q:Option DictEntry->Shared->Prop}(hu:knd.room A)(hkey:knd.is s.heap k a)(hm:s.heap.DictOfH knd d xs)(hp:atKey xs k=some p)
  (hsome:∀e h',e.val=p.2->h'.DictOfH knd d (qY xs k)->Heap.SameBut d s.heap h'->Q (some e) { s with heap:=h',toks:=s.toks+knd.draws k }) (hsz:xs.length<=sizeLine) :
  wpAny (model prog w) A (Builtin.Dict.takeOut d (.ref a)) Q E s:=by
 obtain⟨o,es,ep,ho,hc,hd,he,his,hn⟩:=hm
 unfold Builtin.Dict.takeOut
 try with_reducible refine wpAny_holding ?_
 refine wpAny_bind (knd.pyHash hu hkey (wpAny_bind (wpAny_dictFind_heap (s:={ s with toks:=s.toks+knd.draws k }) hu hkey ho hd he his hn (fun hno=>?_) (fun j p' hj=>?_))))
 ·rw[atKey_none_of_get hno] at hp;cases hp
 ·rw[atKey_of_get hn hj] at hp
  cases hp
  refine wpAny_bind (wpAny_dictEntries (s:={ s with toks:=s.toks+knd.draws k }) ho hd ?_)
  rw[entry_at he j,hj]
  refine wpAny_bind (wpAny_updateDictKeys (hz:=by have e:=size_of_entries he;omega) (s:={ s with toks:=s.toks+knd.draws k }) ho hd (wpAny_pure (hsome _ _ rfl ⟨_,_,ep+1,Heap.get?_update_self _ ho (Obj.isFreed_of_dict (Obj.data_mapDictKeys hd _)),hc.mapDictKeys _,Obj.data_mapDictKeys hd _,?_,?_,?_⟩ (Heap.SameBut.update ..))))
  ·rw[wg hn hj,yK,<-he]
   obtain⟨l⟩:=es
   simp
  ·intro x hx
   exact knd.keeps (his x (List.mem_filter.mp hx).1) ho hd (Heap.SameBut.update ..)
  ·exact hn.sublist (List.filter_sublist.map _)
theorem JN{d a:Addr}{xs:List (κ×Addr×Value)}{k:κ}{p:Addr×Value}{R:Result->Shared->Prop}(hu:knd.room A.in1)(hkey:knd.is s.heap k a)(hm:s.heap.DictOfH knd d xs)(hp:atKey xs k=some p)(hsz:xs.length<=sizeLine)
  (h:∀h',h'.DictOfH knd d (qY xs k)->Heap.SameBut d s.heap h'->R (.ok (.ret p.2)) { s with heap:=h',toks:=s.toks+knd.draws k }) :
  wpAny (model prog w) A.in1 (Builtin.«dict.pop» ⟨[.ref d,.ref a],[]⟩) (fun fin s'=>match fin with |.done f=>R (.ok f) s' |.again c'=>c'.quiet=true/\codeAny (model prog w) A c' R s') (fun e s'=>R (.error e) s') s:=by
 obtain⟨o,es,ep,ho,hc,hd,he,his,hn⟩:=id hm
 have ne:es.isEmpty=false:=by
  rw[Array.isEmpty_eq_false_iff]
  intro z
  rw[z] at he
  have e2:xs=[]:=by
   cases xs with
   | nil=>rfl
   | cons x r=>simp at he
  rw[e2] at hp
  cases hp
 unfold Builtin.«dict.pop»;refine wpAny_bind ?_
 unfold Builtin.Dict.keyAndDefault;refine wpAny_bind (wpAny_notOrdered_dict hm.typeIs ?_)
 show wpAny _ _ (pure (d,Value.ref a,none)) _ _ s;refine wpAny_pure ?_
 dsimp only;rw[if_neg (show ¬((keyPart (Value.ref a)).isSome=true) from by simp[keyPart])]
 refine wpAny_bind (wpAny_dictEntries ho hd ?_);refine wpAny_bind (wpAny_pure ?_)
 rw[ne];simp only[Bool.false_eq_true,if_false]
 refine wpAny_bind (Ae hu hkey hm hp (fun e h' hv hm' hs'=>?_) hsz)
 simp only[Option.isNone_some,Bool.false_eq_true,if_false];refine wpAny_bind (wpAny_letGo (wpAny_pure ?_))
 show R (.ok (.ret e.val)) _
 rw[hv];exact h h' hm' hs'
theorem Uz(d a:Addr):MeetsIn prog w (Builtin.«dict.pop» ⟨[.ref d,.ref a],[]⟩) (fun A R s=>knd.room A.in1/\∃k xs p,knd.is s.heap k a/\s.heap.DictOfH knd d xs/\atKey xs k=some p/\xs.length<=sizeLine /\
  ∀h',h'.DictOfH knd d (qY xs k)->Heap.SameBut d s.heap h'->R (.ok (.ret p.2)) { s with heap:=h',toks:=s.toks+knd.draws k }) :=
 fun A R s hw'=>by obtain⟨hu,k,xs,p,h1,h2,h3,h4,h⟩:=hw';exact JN hu h1 h2 h3 h4 h
end
end DR
namespace L2
open PySem PySem.Spec PyProof.Rows
theorem KT.out{H:Hp}{kvs:List (List Key×V)}{xs:List (List Key×Addr×Value)}(r:KT H kvs xs)(k:List Key):KT H (fj kvs k) (DR.qY xs k):=by
 induction r with
 | nil=>exact .nil
 | @cons p q ps qs h t ih =>
  unfold fj DR.qY
  by_cases e:p.1=k
  ·rw[List.filter_cons_of_neg (by simp[e]),List.filter_cons_of_neg (by simp[<-h.1,e])];exact ih
  ·rw[List.filter_cons_of_pos (by simp[e]),List.filter_cons_of_pos (by simp[<-h.1,e])];exact .cons h ih
section
variable {X:Cx} {pins:List (Addr×Obj)} {σ:St} {H:Hp} {s:Shared} {a b:Addr} {A:Around} {E:Value->Shared->Prop}
theorem Rt{kvs:List (List Key×V)}{k:List Key}{v:V}{Q:Value->Shared->Prop}(hu:A.units+1<cLine)(I:Inv X pins σ H s)(e:H a=some (.dT kvs))(eb:H b=some (.tup (k.map kV)))(l:du kvs k=some v)
  (h:∀w' s',Inv X pins σ (upd H a (.dT (fj kvs k))) s'->RelV v w'->Q w' s'):wpAny (model X.prog X.w) A (call (.builtin "dict.pop") [.ref a,.ref b]) Q E s:=by
 obtain⟨z,hd,xs,rel,dd⟩:=zG I.hok e
 obtain⟨w',hw,rw'⟩:=gY.some_of (v:=v) (o:=(atKey xs k).map (·.2)) (by rw[<-l];exact rel.val k)
 obtain⟨p,hp,hp2⟩:=Option.map_eq_some_iff.mp hw
 have hz:xs.length<=sizeLine:=by rw[<-Paired.length rel];exact z
 have hl:(fj kvs k).length<=sizeLine:=Nat.le_trans (uP kvs k) z
 refine call_meetsIn PySem.F.slot_dict_pop dd.typeIs PySem.F.entry_dict_pop (PySem.F.args_dict_pop_2 _ _) (DR.Uz (knd:=tupleKind (cD X.prog X.w)) a b) ⟨tupleKind_room_in1 hu,k,xs,p,lB I.hok eb,dd,hp,hz,fun h' dd' hs=>?_⟩
 obtain⟨q,es,ep,hq,h2,h3,h4,_,h5⟩:=dd'
 show Q p.2 _
 rw[hp2]
 refine h w' _ (nZ I (by rw[e];exact True.intro) hs ⟨q,hq⟩ ⟨hl,hd,_,(rel.out k).keeps fun c ys ec=>?_,q,es,ep,hq,h2,h3,h4,h5⟩) rw'
 rw[aC (zE ec e (fun z=>nomatch z))]
 exact ec
theorem Oc{kvs:List (List Key×V)}{Q:Value->Shared->Prop}(hh:A.handled=none)(I:Inv X pins σ H s)(e:H a=some (.dT kvs))
  (h:∀(bs:List Addr) (p:Addr) s',H p=none->Paired (fun(x:List Key×V) (b:Addr)=>H b=some (.tup (x.1.map kV))) kvs bs->Inv X pins σ (upd H p (.lst (bs.map V.ref))) s'->Q (.ref p) s') :
  wpAny (model X.prog X.w) A (call (.type "list") [.ref a]) Q E s:=by
 obtain⟨z,hd,xs,rel,o,es,ep,h1,h2,h3,h4,h5⟩:=(show bI X.prog X.w H s.heap a (.dT kvs) from I.hok a _ e)
 have en:es.size=kvs.length:=by rw[<-Array.length_toList,h4,List.length_map,Paired.length rel]
 refine PySem.W.kdl_call (DR.De (es:=es) (ep:=ep) hd) hh ⟨o,h1,h2,h3⟩ (by rw[en];exact z) fun h' tk acc' c' hk hS hacc=>?_
 have ea:acc'.toList=(xs.map fun x=>Value.ref x.2.1):=by
  apply List.ext_getElem?
  intro i
  rw[List.getElem?_map,Array.getElem?_toList]
  by_cases hi:i<acc'.size
  ·have q:(es[i]?).map (·.key)=some acc'[i]:=hacc.2 i acc'[i] (Array.getElem?_eq_getElem hi)
   rw[entry_at h4 i] at q
   rw[Array.getElem?_eq_getElem hi,<-q]
   cases xs[i]? <;> rfl
  ·have hx:xs.length<=i:=by rw[<-Paired.length rel,<-en,<-hacc.1];omega
   rw[Array.getElem?_eq_none (by omega),List.getElem?_eq_none hx];rfl
 have pr:∀{l:List (List Key×V)} {m:List (List Key×Addr×Value)},KT H l m->Paired (fun(x:List Key×V) (b:Addr)=>H b=some (.tup (x.1.map kV))) l (m.map (·.2.1)):=by
  intro l m q
  induction q with
  | nil=>exact .nil
  | cons h t ih=>exact .cons h.2.1 ih
 have vr:∀l:List (List Key×Addr×Value),Vals ((l.map (·.2.1)).map V.ref) (l.map fun x=>Value.ref x.2.1):=by
  intro l
  induction l with
  | nil=>exact .nil
  | cons x r ih=>exact .cons rfl ih
 refine h (xs.map (·.2.1)) s.heap.objs.size _ (I.hok.fresh (Nat.le_refl _)) (pr rel) (I.laid hk (Nat.le_refl _) ⟨?_,(xs.map fun x=>Value.ref x.2.1),c',vr xs,?_⟩)
 ·rw[List.length_map,List.length_map,<-Paired.length rel];exact z
 ·rw[hS,<-ea]
theorem Od{kvs:List (Key×V)}{Q:Value->Shared->Prop}(hh:A.handled=none)(I:Inv X pins σ H s)(e:H a=some (.dK kvs))
  (h:∀(p:Addr) s',H p=none->Inv X pins σ (upd H p (.lst (kvs.map fun x=>kV x.1))) s'->Q (.ref p) s') :
  wpAny (model X.prog X.w) A (call (.type "list") [.ref a]) Q E s:=by
 obtain⟨z,hd,vs,rel,dd⟩:=Ed I.hok e
 obtain⟨ep,da⟩:=dd.dictAt
 refine PySem.W.kdl_call (PySem.W.kdl_dict (knd:=cD X.prog X.w) (kvs:=vs) (ep:=ep) hd) hh da (by rw[<-rel.length];exact z) fun h' tk acc' c' hk hS hacc=>?_
 have va:∀(l:List (Key×V)) (us:List Value),us.length=l.length->(∀(i:Nat) (u:Value),us[i]? = some u->∃(k:Key) (x:Unit),(l[i]?).map (fun(y:Key×V)=>y.1)=some k/\(cD X.prog X.w).is k u=true/\x=())->Vals (l.map fun x=>kV x.1) us:=by
  intro l
  induction l with
  | nil=>intro us hl _;cases us with
   | nil=>exact .nil
   | cons u r=>simp at hl
  | cons p r ih =>
   intro us hl hx
   cases us with
   | nil=>simp at hl
   | cons u t =>
    obtain⟨k,_,h1,h2,_⟩:=hx 0 u rfl
    simp at h1
    subst h1
    refine .cons ?_ (ih t (by simpa using hl) fun i u hi=>?_)
    ·rcases dF h2 with⟨i,t,e1,e2⟩ |⟨x,t,e1,e2⟩
     ·show RelV (kV p.1) u;rw[e1];exact⟨t,e2⟩
     ·show RelV (kV p.1) u;rw[e1];exact⟨t,e2⟩
    ·obtain⟨k,x,z1,z2⟩:=hx (i+1) u (by simpa using hi)
     exact⟨k,x,by simpa using z1,z2⟩
 have hk2:=rel.keys
 refine h s.heap.objs.size _ (I.hok.fresh (Nat.le_refl _)) (I.laid hk (Nat.le_refl _) ⟨by rw[List.length_map];exact z,acc'.toList,c',va kvs _ ?_ fun i u hi=>?_,?_⟩)
 ·rw[Array.length_toList,hacc.1,rel.length]
 ·rw[Array.getElem?_toList] at hi
  obtain⟨k,x,z1,z2⟩:=hacc.2 i u hi
  refine⟨k,(),?_,z2,rfl⟩
  have q:(kvs.map (·.1))[i]? = (vs.map (·.1))[i]?:=by rw[hk2]
  rw[List.getElem?_map,List.getElem?_map,z1] at q
  exact q
 ·rw[hS]
end
noncomputable def UG(td ty:TE):TE:=fun σ H Q=>td σ H fun x H1=>∃a,x=.ref a/\IsD H1 a/\ty σ H1 fun y H2=>(∃kvs k v,H2 a=some (.dK kvs)/\y=kV k/\du kvs k=some v/\Q v (upd H2 a (.dK (fj kvs k)))) \/
 ∃kvs k b v,H2 a=some (.dT kvs)/\y=.ref b/\H2 b=some (.tup (k.map kV))/\du kvs k=some v/\Q v (upd H2 a (.dT (fj kvs k)))
section
variable {X:Cx} {o e:Expr} {apos cpos:Pos} {td ty:TE}
theorem Ru(hu:X.A.units+1<cLine)(ho:PE X o td)(he:PE X e ty)(m:M1 X o "pop" apos e cpos):PE X (.Call (.Attribute o "pop" apos) [e] [] cpos) (UG td ty):=by
 intro pins s σ H Q I h
 refine wpAny_Call_method m.base m.few m.line PySem.F.plainAttrs_dict PySem.F.slot_dict_pop PySem.F.type_dict_pop (thn (ho pins s σ H _ I h) fun u s1 hw'=>?_)
 obtain⟨x,H1,I1,rx,a,ex,d,q1⟩:=hw'
 subst ex;obtain rfl:u=Value.ref a:=rx
 obtain⟨t1,t2,_⟩:=vL I1 d
 refine⟨t1,t2,?_⟩;rw[m.trees]
 refine Calls.callWith_builtin rfl (Calls.evalArgs_plain (Calls.spliced_cons (thn (he pins s1 σ H1 _ I1 q1) fun iv s2 ⟨y,H2,I2,ry,q2⟩=>Calls.spliced_nil ?_)))
 rcases q2 with⟨kvs,k,v,ea,ey,l,q2⟩ |⟨kvs,k,b,v,ea,ey,eb,l,q2⟩
 ·subst ey;exact SQ I2 ea ry l (.inl rfl) fun w' s3 I3 rw'=>⟨v,_,I3,rw',q2⟩
 ·subst ey;obtain rfl:iv=Value.ref b:=ry;exact Rt hu I2 ea eb l fun w' s3 I3 rw'=>⟨v,_,I3,rw',q2⟩
theorem El(hh:X.A.handled=none):fL X (.type "list") (fun xs H Q=>∃a,xs=[V.ref a]/\((∃kvs,H a=some (.dK kvs)/\∀p,H p=none->Q (.ref p) (upd H p (.lst (kvs.map fun x=>kV x.1)))) \/
  ∃kvs,H a=some (.dT kvs)/\∀(bs:List Addr) p,H p=none->Paired (fun(x:List Key×V) (b:Addr)=>H b=some (.tup (x.1.map kV))) kvs bs->Q (.ref p) (upd H p (.lst (bs.map V.ref))))):=by
 intro pins s σ H xs us Q I r h
 obtain⟨a,rfl,h⟩:=h
 obtain⟨u,rfl,ru⟩:=vals1 r
 cases ru
 rcases h with⟨kvs,ha,q⟩ |⟨kvs,ha,q⟩
 ·exact Od hh I ha fun p s' hp I'=>⟨.ref p,_,I',rfl,q p hp⟩
 ·exact Oc hh I ha fun bs p s' hp pr I'=>⟨.ref p,_,I',rfl,q bs p hp pr⟩
end
end L2
namespace DL
open PySem PySem.Spec PyProof.Rows L2
noncomputable def nT:OS->D->Option (D×OS)
 | .dK kvs,d=>(match oW d with |some k=>(match eF kvs k with |some v=>some (v,.dK (jC kvs k)) |none=>none) |none=>none)
 | .dT kvs,d=>(match jD d with |some k=>(match eF kvs k with |some v=>some (v,.dT (jC kvs k)) |none=>none) |none=>none)
 | _,_=>none
noncomputable def jg(go gk:Den):Den:=fun ρ Ω=>match go ρ Ω with
 | some (.obj n,Ω1)=>(match Ω1[n]? with
  | some o=>if nR o=true then(match gk ρ Ω1 with
   | some (k,Ω2)=>(match Ω2[n]? with
    | some o2=>(match nT o2 k with |some (v,o3)=>some (v,Ω2.set n o3) |none=>none)
    | none=>none)
   | none=>none) else none
  | none=>none)
 | _=>none
noncomputable def Em:OS->Option (List D)
 | .dK kvs=>some (kvs.map fun x=>ofK x.1)
 | .dT kvs=>some (kvs.map fun x=>.tup (x.1.map ofK))
 | _=>none
noncomputable def qu(go:Den):Den:=fun ρ Ω=>match go ρ Ω with
 | some (.obj n,Ω1)=>(match Ω1[n]? with
  | some o=>(match Em o with |some ks=>some (.lst ks,Ω1) |none=>none)
  | none=>none)
 | _=>none
section
variable {K:PySem.W.Frag} {C:Cl} {e:E4} {Ω:List OS}
theorem Wf.tups(w:Wf K C e Ω):∃e1:E4,e1.H=e.H/\e1.α=e.α/\Ext e e1/\Wf K C e1 Ω/\∀b xs,e.H b=some (.tup xs)->e1.F b=some (.tup xs):=by
 let F':Hp:=fun b=>match e.H b with
  | some (.tup xs)=>some (.tup xs)
  | _=>e.F b
 have ft:∀b xs,e.H b=some (.tup xs)->F' b=some (.tup xs):=fun b xs h=>by show(match e.H b with |some (.tup xs)=>some (HO.tup xs) |_=>e.F b)=_;rw[h]
 have fo:∀b,(∀xs,e.H b≠some (.tup xs))->F' b=e.F b:=fun b h=>by
  show(match e.H b with |some (.tup xs)=>some (HO.tup xs) |_=>e.F b)=_
  cases q:e.H b with
  | none=>rfl
  | some o=>cases o<;>first |rfl |exact absurd q (h _)
 have ff:bC e.F F':=fun b o h=>by
  by_cases q:∃xs,e.H b=some (.tup xs)
  ·obtain⟨xs,q⟩:=q
   rw[ft b xs q,<-q];exact w.fh b o h
  ·rw[fo b fun xs z=>q ⟨xs,z⟩];exact h
 have fh:bC F' e.H:=fun b o h=>by
  by_cases q:∃xs,e.H b=some (.tup xs)
  ·obtain⟨xs,q⟩:=q
   rw[ft b xs q] at h;rw[q];exact h
  ·rw[fo b fun xs z=>q ⟨xs,z⟩] at h;exact w.fh b o h
 refine⟨⟨e.α,F',e.A,e.H⟩,rfl,rfl,⟨fun _ _ _ h=>h,fun _ _ h _=>h,fun _ o h=>⟨o,h⟩,ff,fun b o h=>?_,fun _ h=>.inl h,fun _ h=>h,[],by simp⟩,⟨fh,fun b h=>?_,w.ah,w.ol,w.nd,fun n a o h1 h2=>⟨(w.ob n a o h1 h2).1,(w.ob n a o h1 h2).2.keep (fun _ z=>z) ff ⟨[],by simp⟩⟩⟩,ft⟩
 ·have h:F' b=some o:=h
  by_cases q:∃xs,e.H b=some (.tup xs)
  ·obtain⟨xs,q⟩:=q
   rw[ft b xs q] at h
   cases h
   exact .inr (.inr ⟨⟨xs,rfl⟩,q,fun z=>(w.ah b z).2 xs q⟩)
  ·rw[fo b fun xs z=>q ⟨xs,z⟩] at h;exact .inl h
 ·show F' b=none
  rw[fo b (w.ah b h).2];exact w.fa b h
theorem Oe(w:Wf K C e Ω){n:Nat}{a:Addr}{o o':OS}{d x:D}{y:V}{Q:VK}(hα:e.α[n]? = some a)(hΩ:Ω[n]? = some o)(hp:nT o d=some (x,o'))(i:Is K e.α e.F d y)
  (k:∀v e',Ext e e'->Wf K C e' (Ω.set n o')->Is K e'.α e'.F x v->Q v e'.H) :
  (∃kvs k v,e.H a=some (.dK kvs)/\y=kV k/\du kvs k=some v/\Q v (upd e.H a (.dK (fj kvs k)))) \/
  ∃kvs k b v,e.H a=some (.dT kvs)/\y=.ref b/\e.H b=some (.tup (k.map kV))/\du kvs k=some v/\Q v (upd e.H a (.dT (fj kvs k))):=by
 have ob:=(w.ob n a o hα hΩ).2
 unfold nT at hp
 cases o with
 | dK kvs =>
  obtain⟨vs,h1,h2⟩:=ob
  dsimp only at hp
  cases q:oW d with
  | none=>rw[q] at hp;cases hp
  | some kk =>
   rw[q] at hp
   dsimp only at hp
   cases q2:eF kvs kk with
   | none=>rw[q2] at hp;cases hp
   | some v0 =>
    rw[q2] at hp
    cases hp
    have ov:=h2.val kk
    rw[q2] at ov
    obtain⟨v,e1,iv⟩:=ov.some_of
    obtain⟨w',x'⟩:=w.at (o':=.dK (jC kvs kk)) (ho:=.dK (fj vs kk)) hα (fun xs z=>nomatch z) ⟨_,aJ,h2.drop kk⟩ fun o u z=>by rw[h1] at z;cases z
    exact .inl ⟨vs,kk,v,h1,sH q i,e1,k v (e.at a _) x' w' iv⟩
 | dT kvs =>
  obtain⟨vs,h1,h2⟩:=ob
  dsimp only at hp
  cases q:jD d with
  | none=>rw[q] at hp;cases hp
  | some kk =>
   rw[q] at hp
   dsimp only at hp
   cases q2:eF kvs kk with
   | none=>rw[q2] at hp;cases hp
   | some v0 =>
    rw[q2] at hp
    cases hp
    have ov:=h2.val kk
    rw[q2] at ov
    obtain⟨v,e1,iv⟩:=ov.some_of
    obtain⟨b,rfl,hb⟩:=qt q i
    obtain⟨w',x'⟩:=w.at (o':=.dT (jC kvs kk)) (ho:=.dT (fj vs kk)) hα (fun xs z=>nomatch z) ⟨_,aJ,h2.drop kk⟩ fun o u z=>by rw[h1] at z;cases z
    exact .inr ⟨vs,kk,b,v,h1,rfl,w.fh _ _ hb,e1,k v (e.at a _) x' w' iv⟩
 | _=>cases hp
end
theorem ou{K:PySem.W.Frag}{e e':E4}{n:Nat}{p:Addr}(x:Ext e e')(h:e.α[n]? = some p):e'.α[n]? = some p:=by
 obtain⟨more,z⟩:=x.al
 rw[z,List.getElem?_append_left (List.getElem?_eq_some_iff.mp h).1];exact h
section
variable {X:Cx} {C:Cl} {a b x:Expr} {f g h:Den} {ga:bx} {pos pos' ap cp:Pos}
theorem qw(hu:X.A.units+1<cLine)(ho:PD X C a f)(hi:PD X C b g)(m:M1 X a "pop" ap b cp):PD X C (.Call (.Attribute a "pop" ap) [b] [] cp) (jg f g):=aY (Ru hu ho hi m) fun σ H Q hw'=>by
 obtain⟨e,Ω,ρ,d,Ω',eH,w,rl,q,kk⟩:=hw'
 unfold jg at q
 cases q1:f ρ Ω with
 | none=>rw[q1] at q;cases q
 | some p1 =>
  obtain⟨d1,Ω1⟩:=p1
  rw[q1] at q
  cases d1 with
  | obj n =>
   dsimp only at q
   cases q0:Ω1[n]? with
   | none=>rw[q0] at q;cases q
   | some o0 =>
    rw[q0] at q
    dsimp only at q
    by_cases hd:nR o0=true
    ·rw[if_pos hd] at q
     cases q2:g ρ Ω1 with
     | none=>rw[q2] at q;cases q
     | some p2 =>
      obtain⟨k,Ω2⟩:=p2
      rw[q2] at q
      dsimp only at q
      cases q3:Ω2[n]? with
      | none=>rw[q3] at q;cases q
      | some o =>
       rw[q3] at q
       dsimp only at q
       cases q4:nT o k with
       | none=>rw[q4] at q;cases q
       | some r =>
        obtain⟨v0,o3⟩:=r
        rw[q4] at q
        cases q
        refine⟨e,Ω,ρ,_,Ω1,eH,w,rl,q1,fun v e1 x1 w1 i1=>?_⟩
        rw[Is] at i1
        obtain⟨p,hα,rfl⟩:=i1
        refine⟨p,rfl,Ab w1 hα q0 hd,?_⟩
        refine⟨e1,Ω1,ρ,k,_,rfl,w1,rl.ext x1,q2,fun u e2 x2 w2 i2=>?_⟩
        exact Oe w2 (ou (K:=X.K) x2 hα) q3 q4 i2 fun v e' x' w' iv=>kk v e' ((x1.trans x2).trans x') w' iv
    ·rw[if_neg hd] at q;cases q
  | _=>cases q
theorem qZ{K:PySem.W.Frag}{α:List Addr}{F H:Hp}(hF:∀b xs,H b=some (.tup xs)->F b=some (.tup xs)):∀{kvs:List (List Key×D)} {vs:List (List Key×V)} {bs:List Addr},kvs.map (·.1)=vs.map (·.1) ->
  Paired (fun(x:List Key×V) (b:Addr)=>H b=some (.tup (x.1.map kV))) vs bs->IsL K α F (kvs.map fun x=>.tup (x.1.map ofK)) (bs.map V.ref)
 | [],vs,bs,e,h=>by
  cases h with
  | nil=>exact .nil
  | cons h q=>simp at e
 | p::r,vs,bs,e,h=>by
  cases h with
  | nil=>simp at e
  | cons h q =>
   rw[List.map_cons,List.map_cons] at e
   injection e with e1 e2
   refine .cons ?_ (qZ hF e2 q)
   rw[Is,e1]
   exact⟨_,_,rfl,hF _ _ h,Dd _⟩
theorem Af{K:PySem.W.Frag}{α:List Addr}{F:Hp}:∀{kvs:List (Key×D)} {vs:List (Key×V)},kvs.map (·.1)=vs.map (·.1)->IsL K α F (kvs.map fun x=>ofK x.1) (vs.map fun x=>kV x.1)
 | [],vs,e=>by
  cases vs with
  | nil=>exact .nil
  | cons v t=>simp at e
 | p::r,vs,e=>by
  cases vs with
  | nil=>simp at e
  | cons v t =>
   rw[List.map_cons,List.map_cons] at e
   injection e with e1 e2
   refine .cons ?_ (Af e2)
   show Is K α F (ofK p.1) (kV v.1)
   rw[e1];exact GQ v.1
theorem JP{n:Str}{p:Pos}(hh:X.A.handled=none)(hg:Gl X n)(hm:X.mg n=none)(hv:bootBuiltins n=some (.type "list"))(ho:PD X C a f)(hn:n ≠ "__name__":=by decide)(hdb:(n==("__debug__":Str))=false:=by decide)
  (he:starEach [a] X.env=(false,eval a X.env)::starEach [] X.env:=by rfl) (hpl:(backTo pos (starEach [] X.env)).any (·.1)=false:=by rfl):PD X C (.Call (.Name n p) [a] [] pos) (qu f) :=
 aY (rZ (El hh) hg hm hv (bF ho cQ he) hn hdb he hpl) fun σ H Q hw'=>by
  obtain⟨e,Ω,ρ,d,Ω',eH,w,rl,q,kk⟩:=hw'
  unfold qu at q
  cases q1:f ρ Ω with
  | none=>rw[q1] at q;cases q
  | some p1 =>
   obtain⟨d1,Ω1⟩:=p1
   rw[q1] at q
   cases d1 with
   | obj n =>
    dsimp only at q
    cases q0:Ω1[n]? with
    | none=>rw[q0] at q;cases q
    | some o0 =>
     rw[q0] at q
     refine⟨e,Ω,ρ,_,Ω1,eH,w,rl,q1,fun v e1 x1 w1 i1=>?_⟩
     rw[Is] at i1
     obtain⟨p,hα,rfl⟩:=i1
     have ob:=(w1.ob n p _ hα q0).2
     cases o0 with
     | dK kvs =>
      cases q
      obtain⟨vs,h1,h2⟩:=ob
      refine⟨p,rfl,.inl ⟨vs,h1,fun p' hp=>kk _ (e1.new p' _) (x1.trans (w1.new_ext hp)) (w1.new hp) ?_⟩⟩
      rw[Is]
      exact⟨p',_,rfl,aJ,Af h2.keys⟩
     | dT kvs =>
      cases q
      obtain⟨vs,h1,h2⟩:=ob
      refine⟨p,rfl,.inr ⟨vs,h1,fun bs p' hp pr=>?_⟩⟩
      obtain⟨e2,eH2,eα2,x2,w2,ft⟩:=w1.tups
      have hp2:e2.H p'=none:=by rw[eH2];exact hp
      have z:=kk (.ref p') (e2.new p' (.lst (bs.map V.ref))) ((x1.trans x2).trans (w2.new_ext hp2)) (w2.new hp2) (by
       rw[Is]
       refine⟨p',_,rfl,aJ,qZ (H:=e1.H) (fun b xs hb=>?_) h2.keys pr⟩
       show upd e2.F p' _ b=_
       rw[aC (fun z=>by subst z;rw[hp] at hb;cases hb)]
       exact ft b xs hb)
      have eq:(e2.new p' (.lst (bs.map V.ref))).H=upd e1.H p' (.lst (bs.map V.ref)):=by show upd e2.H p' _=_;rw[eH2]
      rw[<-eq];exact z
     | _=>cases q
   | _=>cases q
structure ClD(K:PySem.W.Frag)(C:Cl)(c:Str):Prop where
 ex:∃Ca,C c=some Ca/\Cls K Ca
noncomputable def NoA(K:PySem.W.Frag)(C:Cl)(c f:Str):Prop:=∀Ca,C c=some Ca->mR K Ca f
noncomputable def fG(c fl:Str)(g:Den):Den:=fun ρ Ω=>match g ρ Ω with
 | some (.obj n,Ω1)=>(match Ω1[n]? with
  | some (.ins c' fs)=>if c'=c then(match fs.lookup fl with |some d=>some (d,Ω1) |none=>none) else none
  | _=>none)
 | _=>none
noncomputable def wj(c fl:Str)(go gv:Den):aQ:=fun ρ Ω=>match gv ρ Ω with
 | some (v,Ω1)=>(match go ρ Ω1 with
  | some (.obj n,Ω2)=>(match Ω2[n]? with
   | some (.ins c' fs)=>if c'=c/\fs.length<1000 then some (.nx ρ (Ω2.set n (.ins c (qU fl v fs)))) else none
   | _=>none)
  | _=>none)
 | none=>none
theorem d_{c fl:Str}(T:ClD X.K C c)(hn:NoA X.K C c fl)(h:PD X C a f)(hb:attributeBase a fl X.env (eval a X.env)=eval a X.env:=by rfl):PD X C (.Attribute a fl pos) (fG c fl f):=aY (QM h hb) fun σ H Q hw'=>by
 obtain⟨e,Ω,ρ,d,Ω',eH,w,rl,q,kk⟩:=hw'
 obtain⟨Ca,hC,cl⟩:=T.ex
 unfold fG at q
 cases q1:f ρ Ω with
 | none=>rw[q1] at q;cases q
 | some p1 =>
  obtain⟨d1,Ω1⟩:=p1
  rw[q1] at q
  cases d1 with
  | obj n =>
   dsimp only at q
   cases q0:Ω1[n]? with
   | none=>rw[q0] at q;cases q
   | some o0 =>
    rw[q0] at q
    refine⟨e,Ω,ρ,_,Ω1,eH,w,rl,q1,fun v e1 x1 w1 i1=>?_⟩
    rw[Is] at i1
    obtain⟨p,hα,rfl⟩:=i1
    have ob:=(w1.ob n p _ hα q0).2
    cases o0 with
    | ins c' fs =>
     dsimp only at q
     by_cases ec:c'=c
     ·rw[if_pos ec] at q
      subst ec
      cases q2:fs.lookup fl with
      | none=>rw[q2] at q;cases q
      | some v0 =>
       rw[q2] at q
       cases q
       obtain⟨Cb,dx,fvs,h1,h2,h3⟩:=ob
       rw[hC] at h1
       cases h1
       have ov:=h3.look fl
       rw[q2] at ov
       obtain⟨v',e2,iv⟩:=ov.some_of
       exact⟨p,Ca,dx,fvs,v',rfl,h2,cl,hn Ca hC,e2,kk _ e1 x1 w1 iv⟩
     ·rw[if_neg ec] at q;cases q
    | _=>cases q
  | _=>cases q
theorem Df{c fl:Str}(T:ClD X.K C c)(hn:NoA X.K C c fl)(ho:PD X C a f)(hv:PD X C x g)(hs:swapsWith x (some (.Attribute a fl pos')) pos.line X.env=pure false:=by rfl) :
  PDS X C (.Assign [.Attribute a fl pos'] x pos) (wj c fl f g):=fun e₀=>dC (QQ ho hv hs) fun Dn σ H hw'=>by
 obtain⟨e,Ω,ρ,o,eH,r,q,k⟩:=hw'
 obtain⟨Ca,hC,cl⟩:=T.ex
 unfold wj at q
 cases q1:g ρ Ω with
 | none=>rw[q1] at q;cases q
 | some p1 =>
  obtain⟨v,Ω1⟩:=p1
  rw[q1] at q
  dsimp only at q
  cases q2:f ρ Ω1 with
  | none=>rw[q2] at q;cases q
  | some p2 =>
   obtain⟨d2,Ω2⟩:=p2
   rw[q2] at q
   cases d2 with
   | obj n =>
    dsimp only at q
    cases q0:Ω2[n]? with
    | none=>rw[q0] at q;cases q
    | some o0 =>
     rw[q0] at q
     refine⟨e,Ω,ρ,v,Ω1,eH,r.wf,r.rel,q1,fun uv e1 x1 w1 i1=>?_⟩
     refine⟨e1,Ω1,ρ,_,Ω2,rfl,w1,r.rel.ext x1,q2,fun uo e2 x2 w2 i2=>?_⟩
     rw[Is] at i2
     obtain⟨p,hα,rfl⟩:=i2
     have ob:=(w2.ob n p _ hα q0).2
     cases o0 with
     | ins c' fs =>
      dsimp only at q
      by_cases ec:c'=c/\fs.length<1000
      ·rw[if_pos ec] at q
       obtain⟨rfl,hl⟩:=ec
       cases q
       obtain⟨Cb,dx,fvs,h1,h2,h3⟩:=ob
       rw[hC] at h1
       cases h1
       obtain⟨w',x'⟩:=w2.at (o':=.ins c' (qU fl v fs)) (ho:=.ins Ca dx (gG fl uv fvs)) hα (fun xs z=>nomatch z) ⟨Ca,dx,_,hC,aJ,h3.gG fl (i1.ext x2)⟩ fun o u z=>by rw[h2] at z;cases z
       exact⟨p,Ca,dx,fvs,rfl,h2,cl,hn Ca hC,by rw[<-h3.len];exact hl,k (e2.at p _) σ (r.to ((x1.trans x2).trans x') w')⟩
      ·rw[if_neg ec] at q;cases q
     | _=>cases q
   | _=>cases q
structure Mt(P:Program)(w:World)(K:PySem.W.Frag)(mg:Str->Option Value)(base:Heap)(C:Cl)(k:Nat)(c m:Str)(F:bG)(dfl:List D):Prop where
 ex:∃Ca f fd ps ds dvs,C c=some Ca/\Cls K Ca/\Meth K Ca m f/\Binds K fd ps ds/\Vals dvs ds/\(∀α H,IsL K α H dfl dvs)/\FnOk P w K mg base CX0 k f fd ps (spD K C F)
noncomputable def bT(c m:Str)(F:bG)(dfl:List D)(go:Den)(ga:bx):Den:=fun ρ Ω=>match go ρ Ω with
 | some (.obj n,Ω1)=>(match Ω1[n]? with
  | some (.ins c' fs)=>if c'=c then(match fs.lookup m with
   | none=>(match ga ρ Ω1 with |some (ds,Ω2)=>F (.obj n::(ds++dfl)) Ω2 |none=>none)
   | some _=>none) else none
  | _=>none)
 | _=>none
theorem yL{K:PySem.W.Frag}{c m:Str}{F:bG}{dfl:List D}{dvs:List V}{Ca:Addr}(hC:C c=some Ca)(hd:∀α H,IsL K α H dfl dvs){σ:St}{H:Hp}{Q:VK}{E:XK}(hw:tD K C (bT c m F dfl f ga) σ H Q) :
  Lp Ca m (spD K C F) dvs E (tD K C f) (tDA K C ga) σ H Q:=by
 obtain⟨e,Ω,ρ,d,Ω',eH,w,rl,q,kk⟩:=hw
 unfold bT at q
 cases q1:f ρ Ω with
 | none=>rw[q1] at q;cases q
 | some p1 =>
  obtain⟨d1,Ω1⟩:=p1
  rw[q1] at q
  cases d1 with
  | obj n =>
   dsimp only at q
   cases q0:Ω1[n]? with
   | none=>rw[q0] at q;cases q
   | some o0 =>
    rw[q0] at q
    refine⟨e,Ω,ρ,_,Ω1,eH,w,rl,q1,fun v e1 x1 w1 i1=>?_⟩
    rw[Is] at i1
    obtain⟨p,hα,rfl⟩:=i1
    have ob:=(w1.ob n p _ hα q0).2
    cases o0 with
    | ins c' fs =>
     dsimp only at q
     by_cases ec:c'=c
     ·rw[if_pos ec] at q
      subst ec
      cases q2:fs.lookup m with
      | some v0=>rw[q2] at q;cases q
      | none =>
       rw[q2] at q
       dsimp only at q
       cases q3:ga ρ Ω1 with
       | none=>rw[q3] at q;cases q
       | some p3 =>
        obtain⟨ds,Ω2⟩:=p3
        rw[q3] at q
        obtain⟨Cb,dx,fvs,h1,h2,h3⟩:=ob
        rw[hC] at h1
        cases h1
        have ov:=h3.look m
        rw[q2] at ov
        have e2:fvs.lookup m=none:=by
         cases z:fvs.lookup m with
         | none=>rfl
         | some v=>rw[z] at ov;exact ov.elim
        refine⟨p,dx,fvs,rfl,h2,e2,e1,Ω1,ρ,ds,Ω2,rfl,w1,rl.ext x1,q3,fun vs e3 x3 w3 i3=>?_⟩
        exact⟨e3,Ω2,_,d,Ω',rfl,w3,.cons (by rw[Is];exact⟨p,ou (K:=K) x3 hα,rfl⟩) (i3.append (hd _ _)),q,fun v' e4 x4 w4 i4=>kk v' e4 ((x1.trans x3).trans x4) w4 i4⟩
     ·rw[if_neg ec] at q;cases q
    | _=>cases q
  | _=>cases q
theorem Ag{k:Nat}{c m:Str}{F:bG}{dfl:List D}{pl:Sem Bool}(G:Mt X.prog X.w X.K X.mg X.base C k c m F dfl)(hr:Room k X.A)(ho:PD X C a f)
  (ht:eval (.Call (.Attribute a m ap) [] [] cp) X.env=(do
   let ov <-eval a X.env
   standAt ap.atName
   let (f,first) <-holding [ov] (getMethod ov m pl)
   callWith cp f first (backTo cp (starEach [] X.env)) (backToKw cp (keywordEach [] X.env))):=by rfl) :
  PD X C (.Call (.Attribute a m ap) [] [] cp) (bT c m F dfl f aA):=by
 obtain⟨Ca,fa,fd,ps,ds,dvs,hC,cl,me,hb,hd,hdd,ok⟩:=G.ex
 exact aY (Jd ho cl me ok hr hb hd Ef ht) fun σ H Q hw=>by
  have z:=yL (ga:=aA) (E:=E0) hC hdd hw
  obtain⟨e,Ω,ρ,d,Ω',eH,w,rl,q,kk⟩:=z
  refine⟨e,Ω,ρ,d,Ω',eH,w,rl,q,fun v e1 x1 w1 i1=>?_⟩
  obtain⟨a',dx,fs,e2,e3,e4,z⟩:=kk v e1 x1 w1 i1
  refine⟨a',dx,fs,e2,e3,e4,?_⟩
  obtain⟨e5,Ω5,ρ5,ds5,Ω6,eH5,w5,rl5,q5,kk5⟩:=z
  cases q5
  have:=kk5 [] e5 (Ext.refl _) w5 .nil
  rw[eH5] at this
  exact this
structure MkD(P:Program)(w:World)(K:PySem.W.Frag)(mg:Str->Option Value)(base:Heap)(C:Cl)(k:Nat)(c:Str)(F:bG)(dfl:List D):Prop where
 ex:∃Ca f fd ps ds dvs,C c=some Ca/\mg c=some (.ref Ca)/\Mk K Ca f/\Binds K fd ps ds/\Vals dvs ds/\(∀α H,IsL K α H dfl dvs)/\FnOk P w K mg base CX0 k f fd ps (spD K C F)
noncomputable def wu(c:Str)(F:bG)(dfl:List D)(ga:bx):Den:=fun ρ Ω=>match ga ρ Ω with
 | some (ds,Ω1)=>(match F (.obj Ω1.length::(ds++dfl)) (Ω1++[.ins c []]) with
  | some (.non,Ω2)=>some (.obj Ω1.length,Ω2)
  | _=>none)
 | none=>none
theorem GR{K:PySem.W.Frag}{c:Str}{F:bG}{dfl:List D}{dvs:List V}{Ca:Addr}(hC:C c=some Ca)(hd:∀α H,IsL K α H dfl dvs){σ:St}{H:Hp}{Q:VK}{E:XK}(hw:tD K C (wu c F dfl ga) σ H Q) :
  Lq Ca (spD K C F) dvs E (tDA K C ga) σ H Q:=by
 obtain⟨e,Ω,ρ,d,Ω',eH,w,rl,q,kk⟩:=hw
 unfold wu at q
 cases q1:ga ρ Ω with
 | none=>rw[q1] at q;cases q
 | some p1 =>
  obtain⟨ds,Ω1⟩:=p1
  rw[q1] at q
  dsimp only at q
  cases q2:F (.obj Ω1.length::(ds++dfl)) (Ω1++[.ins c []]) with
  | none=>rw[q2] at q;cases q
  | some p2 =>
   obtain⟨d2,Ω2⟩:=p2
   rw[q2] at q
   cases d2 with
   | non =>
    cases q
    refine⟨e,Ω,ρ,ds,Ω1,eH,w,rl,q1,fun vs e1 x1 w1 i1 p dx hp hdx hne=>?_⟩
    obtain⟨w2,x2⟩:=w1.obj (H':=upd (upd e1.H dx (.own p)) p (.ins Ca dx [])) (o:=.ins c []) hp (fun b u hb=>by rw[aC (aM hb hp),aC (aM hb hdx)];exact hb)
     (by rw[aJ];exact⟨by simp,fun xs z=>nomatch z⟩) ⟨Ca,dx,[],hC,aJ,rfl⟩
    have ip:(e1.obj p (upd (upd e1.H dx (.own p)) p (.ins Ca dx []))).α[Ω1.length]? = some p:=by show(e1.α++[p])[Ω1.length]? = some p;rw[<-w1.ol];simp
    refine⟨e1.obj p (upd (upd e1.H dx (.own p)) p (.ins Ca dx [])),Ω1++[.ins c []],_,.non,_,rfl,w2,.cons (by rw[Is];exact⟨p,ip,rfl⟩) ((i1.ext x2).append (hd _ _)),q2,fun v' e4 x4 w4 i4=>?_⟩
    rw[Is] at i4
    exact⟨i4,kk _ e4 ((x1.trans x2).trans x4) w4 (by rw[Is];exact⟨p,ou (K:=K) x4 ip,rfl⟩)⟩
   | _=>cases q
theorem JQ{k:Nat}{c:Str}{F:bG}{dfl:List D}{p:Pos}(G:MkD X.prog X.w X.K X.mg X.base C k c F dfl)(hr:Room (k+1) X.A)(hg:Gl X c)
  (hdb:(c==("__debug__":Str))=false:=by decide):PD X C (.Call (.Name c p) [] [] cp) (wu c F dfl aA):=by
 obtain⟨Ca,fa,fd,ps,ds,dvs,hC,hm,mk,hb,hd,hdd,ok⟩:=G.ex
 exact aY (Jf mk ok hr hg hm hb hd Ef hdb) fun σ H Q hw=>by
  have z:=GR (ga:=aA) (E:=E0) hC hdd hw
  obtain⟨e,Ω,ρ,ds5,Ω',eH,w,rl,q,kk⟩:=z
  cases q
  have:=kk [] e (Ext.refl _) w .nil
  rw[eH] at this
  exact this
end
theorem Og{K:PySem.W.Frag}{C:Cl}{F:bG}{H:Hp}{a:Addr}{ns:List Int}{E:XK}(hS:SqL K H a (ns.map V.int))(h:∃Ω,F [.scr ns] []=some (.bl true,Ω)):spD K C F [.ref a] H (fun v _=>v=.bl true) E:=by
 obtain⟨Ω,h⟩:=h
 refine⟨⟨[],H,fun _=>False,H⟩,[],[.scr ns],.bl true,Ω,rfl,⟨bC.refl _,fun _ h=>h.elim,fun _ h=>h.elim,rfl,List.nodup_nil,fun n a o h=>by simp at h⟩,?_,h,fun v e' _ _ i=>?_⟩
 ·exact .cons (by rw[Is];exact⟨a,rfl,hS⟩) .nil
 ·rw[Is] at i;exact i
end DL
namespace DL
open PySem PySem.Spec PyProof.Rows L2
structure FunV(K:PySem.W.Frag)(x qual:Str)(st:Stmt)(dV:Value)(f:Addr)(fd:FuncData):Prop where
 ex:∃(oc:Value) (od:Option Addr) (kV doc pm:Value) (an:Option Addr) (cdv ct:Value) (osl:Array (Option Value)),
  fd=PySem.W.fnOf x qual (bA st) (bh st) (aB st) dV kV doc pm an cdv ct/\K.lookup f=some ⟨oc,od,.func fd,osl⟩/\PySem.W.codeIn K cdv qual=true
theorem h_{K:PySem.W.Frag}{x qual:Str}{st:Stmt}{dV:Value}{f:Addr}{oc:Value}{od an:Option Addr}{osl:Array (Option Value)}{kV doc pm cdv ct:Value}
  (l:K.lookup f=some ⟨oc,od,.func (PySem.W.fnOf x qual (bA st) (bh st) (aB st) dV kV doc pm an cdv ct),osl⟩) (c:PySem.W.codeIn K cdv qual=true) :
  FunV K x qual st dV f (PySem.W.fnOf x qual (bA st) (bh st) (aB st) dV kV doc pm an cdv ct):=⟨oc,od,kV,doc,pm,an,cdv,ct,osl,rfl,l,c⟩
theorem En{P:Program}{w:World}{K:PySem.W.Frag}{mg:Str->Option Value}{base:Heap}{C:Cl}{x qual:Str}{st:Stmt}{dV:Value}{f:Addr}{fd:FuncData}{N ps:List Str}{k n m:Nat}{s:aQ}(F:FunV K x qual st dV f fd)(S:FnScope N ps (aB st))(hn:ps.length=n)(hm:N.length=m)
  (hbody:∀(cdv:Value) (A:Around) (outer:List Env) (sh:Shared) (H:Hp) (E:XK),Room k (A.deeper (envOfC qual (aB st) sh.heap.objs.size f cdv)) ->
   PDB (bJ CX0 P w K mg base N qual (aB st) f cdv A outer sh H E).nox C (bh st) s):FnOk P w K mg base CX0 (k+1) f fd ps (spD K C (cz n m s)):=by
 obtain⟨oc,od,kV,doc,pm,an,cdv,ct,osl,rfl,lk,hcd⟩:=F.ex
 refine Ec lk hcd S (fun vs H Q E h=>?_) fun A outer sh H vs Q E hr h=>?_
 ·obtain⟨e,Ω,ds,d,Ω',_,_,i,q,_⟩:=h
  unfold cz at q
  by_cases hl:ds.length=n
  ·rw[<-i.length,hl,hn]
  ·rw[if_neg hl] at q;cases q
 ·obtain⟨e,Ω,ds,d,Ω',eH,wf,i,q,kk⟩:=h
  unfold cz at q
  by_cases hl:ds.length=n
  ·rw[if_pos hl] at q
   cases q1:s (ds.map Sl.dat++List.replicate (m-n) Sl.und) Ω with
   | none=>rw[q1] at q;cases q
   | some o =>
    rw[q1] at q
    refine⟨_,(hbody cdv A outer sh H E hr e).nox,e,Ω,_,o,eH,pL wf i,by rw[hl,hm];exact q1,?_⟩
    cases o with
    | rt d' Ω2=>cases q;exact fun e' v x' w' i'=>kk v e' x' w' i'
    | nx ρ' Ω2=>cases q;exact fun e' σ' r'=>kk .non e' r'.ext r'.wf (by rw[Is])
    | bk ρ' Ω2=>cases q
    | ct ρ' Ω2=>cases q
  ·rw[if_neg hl] at q;cases q
theorem jn{K:PySem.W.Frag}{fd:FuncData}{ps:List Str}(h:∀us:List Value,us.length=ps.length->bindArgs fd ⟨us,[]⟩=pure (ps.zip us)):Binds K fd ps []:=.all h
noncomputable def spC(K:PySem.W.Frag)(F:bG):Sp:=fun vs H Q E=>∀C:Cl,spD K C F vs H Q E
theorem Oh{K:PySem.W.Frag}{F:bG}{H:Hp}{a:Addr}{ns:List Int}{E:XK}(hS:SqL K H a (ns.map V.int))(h:∃Ω,F [.scr ns] []=some (.bl true,Ω)):spC K F [.ref a] H (fun v _=>v=.bl true) E:=fun C=>Og hS h
noncomputable def au(C:Cl)(c:Str)(a:Addr):Cl:=fun x=>if x=c then some a else C x
theorem lM{C:Cl}{c:Str}{a:Addr}:au C c a c=some a:=if_pos rfl
theorem GX{K:PySem.W.Frag}{C:Cl}{c f:Str}{a:Addr}(h:C c=some a)(n:mR K a f):NoA K C c f:=fun Ca e=>by rw[h] at e;cases e;exact n
section
variable (ρ:List Sl) (Ω:List OS)
@[simp] theorem Vk:ug ρ Ω=some (.obj Ω.length,Ω++[.dT []]):=(rfl)
@[simp] theorem Vl(go gi:Den):eQ go gi ρ Ω=match go ρ Ω with
 | some (.obj n,Ω1)=>(match gi ρ Ω1 with
  | some (k,Ω2)=>(match Ω2[n]? with
   | some o=>(match jE o k with |some (some d)=>some (d,Ω2) |_=>none)
   | none=>none)
  | none=>none)
 | _=>none:=(rfl)
@[simp] theorem Vz(neg:Bool)(gk go:Den):jc neg gk go ρ Ω=match gk ρ Ω with
 | some (k,Ω1)=>(match go ρ Ω1 with
  | some (.obj n,Ω2)=>(match Ω2[n]? with
   | some o=>(match jE o k with |some r=>some (.bl (if neg then !r.isSome else r.isSome),Ω2) |none=>none)
   | none=>none)
  | _=>none)
 | none=>none:=(rfl)
@[simp] theorem UJ(go gk gx:Den):oX go gk gx ρ Ω=match go ρ Ω with
 | some (.obj n,Ω1)=>(match Ω1[n]? with
  | some o=>(if nR o=true then(match gk ρ Ω1 with
   | some (k,Ω2)=>(match gx ρ Ω2 with
    | some (x,Ω3)=>(match Ω3[n]? with
     | some o2=>(match jE o2 k with |some r=>some (r.getD x,Ω3) |none=>none)
     | none=>none)
    | none=>none)
   | none=>none) else none)
  | none=>none)
 | _=>none:=(rfl)
@[simp] theorem Dg(go gi gv:Den):jV go gi gv ρ Ω=match gv ρ Ω with
 | some (v,Ω1)=>(match go ρ Ω1 with
  | some (.obj n,Ω2)=>(match gi ρ Ω2 with
   | some (k,Ω3)=>(match Ω3[n]? with
    | some o=>(match qW o k v with |some o'=>some (.nx ρ (Ω3.set n o')) |none=>none)
    | none=>none)
   | none=>none)
  | _=>none)
 | none=>none:=(rfl)
@[simp] theorem Vm(go gk:Den):jg go gk ρ Ω=match go ρ Ω with
 | some (.obj n,Ω1)=>(match Ω1[n]? with
  | some o=>(if nR o=true then(match gk ρ Ω1 with
   | some (k,Ω2)=>(match Ω2[n]? with
    | some o2=>(match nT o2 k with |some (v,o3)=>some (v,Ω2.set n o3) |none=>none)
    | none=>none)
   | none=>none) else none)
  | none=>none)
 | _=>none:=(rfl)
@[simp] theorem UL(go:Den):qu go ρ Ω=match go ρ Ω with
 | some (.obj n,Ω1)=>(match Ω1[n]? with
  | some o=>(match Em o with |some ks=>some (.lst ks,Ω1) |none=>none)
  | none=>none)
 | _=>none:=(rfl)
@[simp] theorem VB(c fl:Str)(g:Den):fG c fl g ρ Ω=match g ρ Ω with
 | some (.obj n,Ω1)=>(match Ω1[n]? with
  | some (.ins c' fs)=>(if c'=c then(match fs.lookup fl with |some d=>some (d,Ω1) |none=>none) else none)
  | _=>none)
 | _=>none:=(rfl)
@[simp] theorem Vn(c fl:Str)(go gv:Den):wj c fl go gv ρ Ω=match gv ρ Ω with
 | some (v,Ω1)=>(match go ρ Ω1 with
  | some (.obj n,Ω2)=>(match Ω2[n]? with
   | some (.ins c' fs)=>(if c'=c/\fs.length<1000 then some (.nx ρ (Ω2.set n (.ins c (qU fl v fs)))) else none)
   | _=>none)
  | _=>none)
 | none=>none:=(rfl)
@[simp] theorem Vo(c m:Str)(F:bG)(dfl:List D)(go:Den)(ga:bx):bT c m F dfl go ga ρ Ω=match go ρ Ω with
 | some (.obj n,Ω1)=>(match Ω1[n]? with
  | some (.ins c' fs)=>(if c'=c then(match fs.lookup m with
   | none=>(match ga ρ Ω1 with |some (ds,Ω2)=>F (.obj n::(ds++dfl)) Ω2 |none=>none)
   | some _=>none) else none)
  | _=>none)
 | _=>none:=(rfl)
@[simp] theorem Vp(c:Str)(F:bG)(dfl:List D)(ga:bx):wu c F dfl ga ρ Ω=match ga ρ Ω with
 | some (ds,Ω1)=>(match F (.obj Ω1.length::(ds++dfl)) (Ω1++[.ins c []]) with
  | some (.non,Ω2)=>some (.obj Ω1.length,Ω2)
  | _=>none)
 | none=>none:=(rfl)
@[simp] theorem VD(i j:Int):uf [.int i,.int j]=some [.inl i,.inl j]:=(rfl)
@[simp] theorem qx(g:Den):cC g ρ Ω=match g ρ Ω with |some (_,Ω')=>some (.nx ρ Ω') |none=>none:=(rfl)
end
end DL
namespace KS
open PySem PySem.W PyProof.Rows
noncomputable def kw{α:Type}(N:Nat)(lt:Nat->Nat->Bool):KasT α->(α->Prop)->Prop
 | .ret a,Q=>Q a
 | .ask i j k,Q=>i<N/\j<N/\kw N lt (k (lt i j)) Q
theorem oA{α β:Type}{N:Nat}{lt:Nat->Nat->Bool}{f:α->KasT β}{Q:β->Prop}:∀t:KasT α,kw N lt t (fun a=>kw N lt (f a) Q)->kw N lt (t.bind f) Q
 | .ret _,h=>h
 | .ask i j k,⟨h1,h2,h3⟩=>⟨h1,h2,oA (k (lt i j)) h3⟩
theorem GZ{α:Type}{N:Nat}{lt:Nat->Nat->Bool}{cmp:Nat->Nat->(Bool->Shared->Prop)->Shared->Prop}{Q:α->Prop}{Q':α->Shared->Prop}{s:Shared}
  (hc:∀i j (C:Bool->Shared->Prop),i<N->j<N->C (lt i j) s->cmp i j C s) (hq:∀a,Q a->Q' a s):∀t:KasT α,kw N lt t Q->t.kasWp cmp Q' s
 | .ret a,h=>hq a h
 | .ask i j k,⟨h1,h2,h3⟩=>hc i j _ h1 h2 (GZ hc hq (k (lt i j)) h3)
noncomputable abbrev rk(r:Nat->Nat)(p:Array Nat)(m:Nat):Nat:=r (p.getD m 0)
structure Pm(N:Nat)(p:Array Nat):Prop where
 perm:p.Perm (List.range N).toArray
 pos:0<N
theorem Pm.size{N:Nat}{p:Array Nat}(h:Pm N p):p.size=N:=by rw[h.perm.size_eq];simp
theorem Pm.lt{N:Nat}{p:Array Nat}(h:Pm N p)(m:Nat):p.getD m 0<N:=by
 by_cases hm:m<p.size
 ·have e:p.getD m 0=p[m]:=by simp[Array.getD,hm]
  rw[e]
  have:p[m]∈(List.range N).toArray:=h.perm.mem_iff.mp (Array.getElem_mem hm)
  simpa using this
 ·have e:p.getD m 0=0:=by simp[Array.getD,hm]
  rw[e];exact h.pos
theorem mD{p:Array Nat}(m:Nat):p.getD m 0=(p[m]?).getD 0:=by simp[Array.getD_eq_getD_getElem?]
theorem sI(r:Nat->Nat){p:Array Nat}{i j:Nat}(hj:j<=p.size)(k:Nat):rk r (kas_rev p i j) k=if i<=k/\k<j then rk r p (i+j-1-k) else rk r p k:=by
 have e:=getElem?_mirror_all (i:=i) hj k
 unfold rk kas_rev
 rw[mD,mD,mD,e]
 split<;>rfl
theorem yM(r:Nat->Nat){p:Array Nat}{src d:Nat}(hs:src<p.size)(hd:d<=src)(k:Nat) :
  rk r (bubble p src d) k=if k=src-d then rk r p src else if src-d<k/\k<=src then rk r p (k-1) else rk r p k:=by
 have e:=getElem?_bubble hs d hd k
 unfold rk
 rw[mD,mD,mD,mD,e]
 split
 ·rfl
 ·split<;>rfl
noncomputable def Up(r:Nat->Nat)(p:Array Nat)(n:Nat):Prop:=∀i j,i<=j->j<n->rk r p i<=rk r p j
noncomputable def Dn(r:Nat->Nat)(p:Array Nat)(n:Nat):Prop:=∀i j,i<=j->j<n->rk r p j<=rk r p i
section
variable {N:Nat} {r:Nat->Nat}
noncomputable abbrev ltR(r:Nat->Nat)(i j:Nat):Bool:=decide (r i<r j)
theorem Pm.rev{p:Array Nat}(h:Pm N p)(i j:Nat):Pm N (kas_rev p i j):=⟨(mirror_perm p i j _).trans h.perm,h.pos⟩
theorem Pm.bub{p:Array Nat}(h:Pm N p)(i j:Nat):Pm N (bubble p i j):=⟨(bubble_perm p i j).trans h.perm,h.pos⟩
theorem Oi{p:Array Nat}{n:Nat}(h:Up r p n)(h1:1<=n)(hl:rk r p (n-1)<=rk r p n):Up r p (n+1):=fun i j hij hj=>by
 by_cases hjn:j<n
 ·exact h i j hij hjn
 ·have:j=n:=by omega
  subst this
  by_cases hi:i=j
  ·subst hi;exact Nat.le_refl _
  ·exact Nat.le_trans (h i (j-1) (by omega) (by omega)) hl
theorem qy{p:Array Nat}{n:Nat}(h:Dn r p n)(h1:1<=n)(hl:rk r p n<=rk r p (n-1)):Dn r p (n+1):=fun i j hij hj=>by
 by_cases hjn:j<n
 ·exact h i j hij hjn
 ·have:j=n:=by omega
  subst this
  by_cases hi:i=j
  ·subst hi;exact Nat.le_refl _
  ·exact Nat.le_trans hl (h i (j-1) (by omega) (by omega))
theorem asc{p:Array Nat}{Q:Nat->Prop}(hB:Pm N p):∀(f n:Nat),1<=n->n+f<=N->Up r p n->(∀m,n<=m->m<=n+f->Up r p m->(m=n+f\/rk r p m<rk r p (m-1))->Q m)->kw N (ltR r) (kas_asc p f n) Q
 | 0,n,h1,hn,hs,h=>h n (Nat.le_refl _) (Nat.le_refl _) hs (.inl rfl)
 | f+1,n,h1,hn,hs,h=>by
  refine⟨hB.lt n,hB.lt (n-1),?_⟩
  by_cases hc:rk r p n<rk r p (n-1)
  ·have e:ltR r (p.getD n 0) (p.getD (n-1) 0)=true:=decide_eq_true hc
   rw[e];dsimp only;rw[if_pos rfl]
   exact h n (Nat.le_refl _) (by omega) hs (.inr hc)
  ·have e:ltR r (p.getD n 0) (p.getD (n-1) 0)=false:=decide_eq_false hc
   rw[e];dsimp only;rw[if_neg (by decide)]
   exact asc hB f (n+1) (by omega) (by omega) (Oi hs h1 (by omega)) fun m a b c d=>h m (by omega) (by omega) c (d.elim (fun d=>.inl (by omega)) .inr)
theorem pY{p:Array Nat}{i j:Nat}(hj:j<=p.size)(he:∀k,i<=k->k<j->rk r p k=rk r p (j-1))(k:Nat):rk r (kas_rev p i j) k=rk r p k:=by
 rw[sI r hj]
 split
 ·rw[he _ (by omega) (by omega),he k (by omega) (by omega)]
 ·rfl
theorem desc{Q:Array Nat×Nat×Nat->Prop}{hi:Nat}:∀(f:Nat) (p:Array Nat) (n q:Nat),Pm N p->1<=n->n+f=hi->hi<=N->Dn r p n->q+1<=n->(∀i,n-(q+1)<=i->i<n->rk r p i=rk r p (n-1)) ->
  (∀p' m q',Pm N p'->1<=m->m<=hi->Dn r p' m->q'+1<=m->(∀i,m-(q'+1)<=i->i<m->rk r p' i=rk r p' (m-1))->Q (p',m,q'))->kw N (ltR r) (kas_desc f p n q) Q
 | 0,p,n,q,hB,h1,hn,hN,hs,hq,he,h=>h p n q hB h1 (by omega) hs hq he
 | f+1,p,n,q,hB,h1,hn,hN,hs,hq,he,h=>by
  have hsz:=hB.size
  refine⟨hB.lt n,hB.lt (n-1),?_⟩
  by_cases hc:rk r p n<rk r p (n-1)
  ·have e:ltR r (p.getD n 0) (p.getD (n-1) 0)=true:=decide_eq_true hc
   rw[e];dsimp only;rw[if_pos rfl]
   by_cases hq0:q>0
   ·rw[if_pos hq0]
    have same:=pY (r:=r) (p:=p) (i:=n-(q+1)) (j:=n) (by omega) he
    refine desc f _ (n+1) 0 (hB.rev _ _) (by omega) (by omega) hN ?_ (by omega) (fun i a b=>by congr 1;congr 1;omega) h
    refine qy (fun i j a b=>?_) h1 ?_
    ·rw[same,same];exact hs i j a b
    ·rw[same,same];omega
   ·rw[if_neg hq0]
    exact desc f p (n+1) 0 hB (by omega) (by omega) hN (qy hs h1 (by omega)) (by omega) (fun i a b=>by congr 1;congr 1;omega) h
  ·have e:ltR r (p.getD n 0) (p.getD (n-1) 0)=false:=decide_eq_false hc
   rw[e];dsimp only;rw[if_neg (by decide)]
   refine⟨hB.lt (n-1),hB.lt n,?_⟩
   by_cases hd:rk r p (n-1)<rk r p n
   ·have e:ltR r (p.getD (n-1) 0) (p.getD n 0)=true:=decide_eq_true hd
    rw[e];dsimp only;rw[if_pos rfl]
    exact h p n q hB h1 (by omega) hs hq he
   ·have e:ltR r (p.getD (n-1) 0) (p.getD n 0)=false:=decide_eq_false hd
    rw[e];dsimp only;rw[if_neg (by decide)]
    refine desc f p (n+1) (q+1) hB (by omega) (by omega) hN (qy hs h1 (by omega)) (by omega) (fun i a b=>?_) h
    show rk r p i=rk r p n
    by_cases hi:i=n
    ·rw[hi]
    ·rw[he i (by omega) (by omega)];omega
theorem tail3{p:Array Nat}{Q:Nat×Array Nat->Prop}{n nrem:Nat}(hB:Pm N p)(h1:1<=n)(hn:n<=nrem)(hN:nrem<=N)(hs:Dn r p n)
  (h:∀m p',Pm N p'->1<=m->m<=nrem->Up r p' m->Q (m,p')):kw N (ltR r) (kas_tail3 n nrem p) Q:=by
 have hsz:=hB.size
 unfold kas_tail3
 refine oA _ (asc (hB.rev 0 n) _ n h1 (by omega) (fun i j a b=>?_) fun m a b c _=>h m _ (hB.rev 0 n) (by omega) (by omega) c)
 rw[sI r (by omega),sI r (by omega),if_pos (by omega),if_pos (by omega)]
 exact hs _ _ (by omega) (by omega)
theorem descPart{p:Array Nat}{Q:Nat×Array Nat->Prop}{n nrem:Nat}(hB:Pm N p)(hn:n+1<=nrem)(hN:nrem<=N)(hs:Dn r p (n+1))
  (h:∀m p',Pm N p'->1<=m->m<=nrem->Up r p' m->Q (m,p')):kw N (ltR r) (kas_descPart n nrem p) Q:=by
 unfold kas_descPart
 refine oA _ (desc (hi:=nrem) _ p (n+1) 0 hB (by omega) (by omega) hN hs (by omega) (fun i a b=>by congr 1;congr 1;omega) fun p' m q' hB' m1 m2 hs' hq' he'=>?_)
 dsimp only
 have hsz:=hB'.size
 by_cases hq0:q'>0
 ·rw[if_pos hq0]
  have same:=pY (r:=r) (p:=p') (i:=m-(q'+1)) (j:=m) (by omega) he'
  exact tail3 (hB'.rev _ _) m1 m2 hN (fun i j a b=>by rw[same,same];exact hs' i j a b) h
 ·rw[if_neg hq0]
  exact tail3 hB' m1 m2 hN hs' h
theorem count{p:Array Nat}{Q:Nat×Array Nat->Prop}{nrem:Nat}(hB:Pm N p)(h1:1<=nrem)(hN:nrem<=N)
  (h:∀m p',Pm N p'->1<=m->m<=nrem->Up r p' m->Q (m,p')):kw N (ltR r) (kas_count nrem p) Q:=by
 have hsz:=hB.size
 unfold kas_count
 refine oA _ (asc hB _ 1 (Nat.le_refl _) (by omega) (fun i j a b=>by have:i=j:=(by omega);subst this;exact Nat.le_refl _) fun n n1 n2 hs hor=>?_)
 by_cases hnn:n=nrem
 ·rw[if_pos (by simpa using hnn)]
  exact h n p hB n1 (by omega) hs
 ·rw[if_neg (by simpa using hnn)]
  have hlt:rk r p n<rk r p (n-1):=hor.resolve_left (by omega)
  by_cases hg:n>1
  ·rw[if_pos hg]
   refine⟨hB.lt 0,hB.lt (n-1),?_⟩
   by_cases hc:rk r p 0<rk r p (n-1)
   ·have e:ltR r (p.getD 0 0) (p.getD (n-1) 0)=true:=decide_eq_true hc
    rw[e];dsimp only;rw[if_pos rfl]
    exact h n p hB n1 (by omega) hs
   ·have e:ltR r (p.getD 0 0) (p.getD (n-1) 0)=false:=decide_eq_false hc
    rw[e];dsimp only;rw[if_neg (by decide)]
    have all:∀k,0<=k->k<n->rk r p k=rk r p (n-1):=fun k _ hk=>by
     have a1:=hs 0 k (by omega) hk
     have a2:=hs k (n-1) (by omega) (by omega)
     omega
    have same:=pY (r:=r) (p:=p) (i:=0) (j:=n) (by omega) all
    refine descPart (hB.rev _ _) (by omega) hN (qy (fun i j a b=>?_) n1 ?_) h
    ·rw[same,same,all i (by omega) (by omega),all j (by omega) b];exact Nat.le_refl _
    ·rw[same,same];omega
  ·rw[if_neg hg]
   have:n=1:=by omega
   subst this
   exact descPart hB (by omega) hN (qy (fun i j a b=>by have:i=j:=(by omega);subst this;exact Nat.le_refl _) (Nat.le_refl _) (by omega)) h
theorem place{p:Array Nat}{Q:Nat->Prop}{k:Nat}(hB:Pm N p)(hs:Up r p k):∀(f l q:Nat),l<=q->q<=k->q-l<=f->(∀i,i<l->rk r p i<=rk r p k)->(∀i,q<=i->i<k->rk r p k<rk r p i) ->
  (∀m,m<=k->(∀i,i<m->rk r p i<=rk r p k)->(∀i,m<=i->i<k->rk r p k<rk r p i)->Q m)->kw N (ltR r) (kas_place p k f l q) Q
 | 0,l,q,a,b,c,lo,hi,h=>h l (by omega) lo (fun i x y=>hi i (by omega) y)
 | f+1,l,q,a,b,c,lo,hi,h=>by
  unfold kas_place
  by_cases hge:l ≥ q
  ·rw[if_pos hge]
   exact h l (by omega) lo (fun i x y=>hi i (by omega) y)
  ·rw[if_neg hge]
   refine⟨hB.lt k,hB.lt _,?_⟩
   by_cases hc:rk r p k<rk r p ((l+q) / 2)
   ·have e:ltR r (p.getD k 0) (p.getD ((l+q) / 2) 0)=true:=decide_eq_true hc
    rw[e];dsimp only;rw[if_pos rfl]
    exact place hB hs f l ((l+q) / 2) (by omega) (by omega) (by omega) lo (fun i x y=>Nat.lt_of_lt_of_le hc (hs _ _ x y)) h
   ·have e:ltR r (p.getD k 0) (p.getD ((l+q) / 2) 0)=false:=decide_eq_false hc
    rw[e];dsimp only;rw[if_neg (by decide)]
    exact place hB hs f ((l+q) / 2+1) q (by omega) (by omega) (by omega) (fun i x=>Nat.le_trans (hs i ((l+q) / 2) (by omega) (by omega)) (by omega)) hi h
theorem ins{p:Array Nat}{k l:Nat}(hB:Pm N p)(hk:k<N)(hl:l<=k)(hs:Up r p k)(lo:∀i,i<l->rk r p i<=rk r p k)(hi:∀i,l<=i->i<k->rk r p k<rk r p i):Up r (bubble p k (k-l)) (k+1):=fun i j a b=>by
 have hsz:=hB.size
 rw[yM r (by omega) (by omega),yM r (by omega) (by omega),show k-(k-l)=l by omega]
 by_cases c1:i=l
 ·rw[if_pos c1]
  by_cases d1:j=l
  ·rw[if_pos d1];exact Nat.le_refl _
  ·rw[if_neg d1,if_pos (by omega)]
   exact Nat.le_of_lt (hi (j-1) (by omega) (by omega))
 ·rw[if_neg c1]
  by_cases c2:l<i/\i<=k
  ·rw[if_pos c2,if_neg (by omega),if_pos (by omega)]
   exact hs _ _ (by omega) (by omega)
  ·rw[if_neg c2]
   by_cases d1:j=l
   ·rw[if_pos d1];exact lo i (by omega)
   ·rw[if_neg d1]
    by_cases d2:l<j/\j<=k
    ·rw[if_pos d2];exact hs _ _ (by omega) (by omega)
    ·rw[if_neg d2];exact hs _ _ (by omega) (by omega)
theorem bin{Q:Array Nat->Prop}:∀(f:Nat) (p:Array Nat) (k:Nat),Pm N p->k+f=N->1<=k->Up r p k->(∀p',Pm N p'->Up r p' N->Q p')->kw N (ltR r) (kas_bin f p k) Q
 | 0,p,k,hB,hf,h1,hs,h=>h p hB (by rw[<-hf];exact hs)
 | f+1,p,k,hB,hf,h1,hs,h=>by
  unfold kas_bin
  exact oA _ (place hB hs k 0 k (by omega) (Nat.le_refl _) (by omega) (fun i x=>by omega) (fun i x y=>by omega) fun m hm lo hi =>
   bin f _ (k+1) (hB.bub _ _) (by omega) (by omega) (ins hB (by omega) hm hs lo hi) h)
theorem sort{Q:Array Nat->Prop}(h2:2<=N)(h:∀p,Pm N p->Up r p N->Q p):kw N (ltR r) (kas_sort N) Q:=by
 unfold kas_sort
 have hB:Pm N (List.toArray (List.range N)):=⟨Array.Perm.refl _,by omega⟩
 refine oA _ (count hB (by omega) (Nat.le_refl _) fun m p' hB' m1 m2 hs=>?_)
 dsimp only
 by_cases hm:m<N
 ·rw[if_pos hm]
  rw[show max m 1=m by omega]
  exact bin _ p' m hB' (by omega) m1 hs h
 ·rw[if_neg hm]
  exact h p' hB' (by have:m=N:=(by omega);subst this;exact hs)
end
section
variable {β:Type} (lt:β->β->Bool)
noncomputable def rank(ks:List β)(x:β):Nat:=(ks.filter fun y=>lt y x).length
theorem Oj(ir:∀a,lt a a=false)(tr:∀a b c,lt a b=true->lt b c=true->lt a c=true){ks:List β}{x y:β}(hx:x∈ks)(h:lt x y=true):rank lt ks x<rank lt ks y:=by
 unfold rank
 have sub:∀l:List β,(l.filter fun z=>lt z x).length<=(l.filter fun z=>lt z y).length/\(x∈l->(l.filter fun z=>lt z x).length<(l.filter fun z=>lt z y).length):=by
  intro l
  induction l with
  | nil=>exact⟨Nat.le_refl _,fun h=>nomatch h⟩
  | cons a l ih =>
   by_cases ha:lt a x=true
   ·rw[List.filter_cons_of_pos (p:=fun z=>lt z x) ha,List.filter_cons_of_pos (p:=fun z=>lt z y) (tr _ _ _ ha h)]
    refine⟨Nat.succ_le_succ ih.1,fun hm=>?_⟩
    rcases List.mem_cons.mp hm with rfl |hm
    ·rw[ir] at ha;cases ha
    ·exact Nat.succ_lt_succ (ih.2 hm)
   ·rw[List.filter_cons_of_neg (p:=fun z=>lt z x) ha]
    by_cases hy:lt a y=true
    ·rw[List.filter_cons_of_pos (p:=fun z=>lt z y) hy]
     exact⟨Nat.le_succ_of_le ih.1,fun _=>Nat.lt_succ_of_le ih.1⟩
    ·rw[List.filter_cons_of_neg (p:=fun z=>lt z y) hy]
     refine⟨ih.1,fun hm=>?_⟩
     rcases List.mem_cons.mp hm with rfl |hm
     ·exact absurd h hy
     ·exact ih.2 hm
 exact(sub ks).2 hx
theorem Ol(nt:∀a b c,lt a c=true->lt a b=true\/lt b c=true){ks:List β}{x y:β}(h:lt y x=false):rank lt ks x<=rank lt ks y:=by
 unfold rank
 induction ks with
 | nil=>exact Nat.le_refl _
 | cons a l ih =>
  by_cases ha:lt a x=true
  ·have:lt a y=true:=by
    rcases nt a y x ha with z |z
    ·exact z
    ·rw[h] at z;cases z
   rw[List.filter_cons_of_pos (p:=fun z=>lt z x) ha,List.filter_cons_of_pos (p:=fun z=>lt z y) this];exact Nat.succ_le_succ ih
  ·rw[List.filter_cons_of_neg (p:=fun z=>lt z x) ha]
   by_cases hy:lt a y=true
   ·rw[List.filter_cons_of_pos (p:=fun z=>lt z y) hy];exact Nat.le_succ_of_le ih
   ·rw[List.filter_cons_of_neg (p:=fun z=>lt z y) hy];exact ih
end
end KS
namespace KS
open PySem PySem.W PySem.Calls PyProof.Rows
section
variable {prog:Program} {w:World} {A:Around} {E:Value->Shared->Prop} {s:Shared} {a kS:Addr} {vs ks:List Value} {κ:SortKind}
noncomputable def Kept(s:Shared)(h':Heap)(bs:List Addr):Prop:=∀b o,b∉bs->s.heap.get? b=some o->h'.get? b=some o
end
end KS
namespace L2
open PySem PySem.Spec PyProof.Rows KS PySem.W
theorem Dh{prog:Program}{w:World}{A:Around}{s:Shared}{b fin:Bool}{Q:Bool->Shared->Prop}:∀{xs ys:List Value} {ns ms:List Int} (i:Nat),IntsAre xs ns->IntsAre ys ms->fin=decide (xs.length<ys.length)->Q (HT.lexLt ns ms) s->KatLex prog w A b fin Q (xs.zip ys) i s
 | _,_,_,_,i,.nil,.nil,hf,h=>by subst hf;exact h
 | _,_,_,_,i,.nil,.cons m u h2,hf,h=>by subst hf;exact h
 | _,_,_,_,i,.cons n t h1,.nil,hf,h=>by subst hf;exact h
 | _,_,_,_,i,.cons n t h1,.cons m u h2,hf,h=>by
  rw[List.zip_cons_cons]
  refine kat_cons (wpAny_eqBool_int ?_)
  rw[HT.iH] at h
  by_cases e:n=m
  ·subst e
   rw[beq_self_eq_true]
   rw[if_pos rfl] at h
   exact kat_yes (Dh (i+1) h1 h2 (by rw[hf];simp) h)
  ·have e':(n==m)=false:=by simpa using e
   rw[e']
   rw[if_neg e] at h
   refine kat_no ?_
   cases z:(b && i==0) with
   | true=>exact oneLt_int h
   | false=>exact kat_one _ _ (lt_int (show PySem.W.BoolBack Q (.bool (decide (n<m))) s from h))
theorem getD_get{β:Type}{l:List β}{i:Nat}{d:β}(h:i<l.length):l.getD i d=l[i]:=by rw[List.getD_eq_getElem?_getD,List.getElem?_eq_getElem h];rfl
theorem Inv.adopt{X:Cx}{pins:List (Addr×Obj)}{σ:St}{H:Hp}{s:Shared}{h':Heap}{kS D:Addr}{its:List Value}{xs:List V}{c:Nat}(I:Inv X pins σ H s)(fk:mq X pins H kS)(fd:mq X pins H D)(k:Kept s h' [kS,D])
  (hD:h'.get? D=some (seqObj "list" (List.toArray its) c)) (hv:Vals xs its) (hz:xs.length<=sizeLine):Inv X pins σ (upd H D (.lst xs)) { s with heap:=h' }:=by
 obtain⟨k0,k1,k2,k3,k4,k5⟩:=fk
 obtain⟨d0,d1,d2,d3,d4,d5⟩:=fd
 have nk:∀b u,H b=some u->b≠kS:=fun b u e z=>by rw[z,k0] at e;cases e
 have nD:∀b u,H b=some u->b≠D:=fun b u e z=>by rw[z,d0] at e;cases e
 have kp:∀b o,b∉[kS,D]->s.heap.get? b=some o->h'.get? b=some o:=k
 refine I.step (g':=s.gens) (d':=s.drawn) (t':=s.toks) (ch:=[kS,D]) (fun b hb=>?_) (fun b o _ _ hc e _=>kp b o hc e) (fun b o _ _ hc e _=>⟨o.slots,kp b o hc e⟩) (fun b o hc e n=>?_) (fun b o hc e=>⟨o,kp b o hc e⟩)
  (fun b ys e=>by rw[aC (nD b _ e)];exact e) (fun b o u e=>by rw[aC (nD b _ e)];exact e) (fun b ps e=>⟨#[],by rw[aC (nD b _ e),e];simp⟩) (fun m hm=>?_) (fun b u e=>?_) I.bare
 ·rw[List.mem_cons,List.mem_singleton] at hb
  rcases hb with rfl |rfl
  ·exact⟨k3,k1,k4,k5⟩
  ·exact⟨d3,d1,d4,d5⟩
 ·rw[aC (fun z=>hc (by simp[z]))];exact n
 ·obtain⟨o,es,ep,ho,r⟩:=hm
  exact⟨o,es,ep,kp _ o (by simp[Ne.symm k1,Ne.symm d1]) ho,r⟩
 ·by_cases z:b=D
  ·subst z
   rw[aJ] at e
   cases e
   exact⟨hz,its,c,hv,hD⟩
  ·rw[aC z] at e
   refine(I.hok b u e).stay (fun c v hc q=>kp c v ?_ q) (fun c q=>by rw[aC (nD c _ q)];exact q) fun c ys q=>by rw[aC (nD c _ q)];exact q
   rw[List.mem_cons,List.mem_singleton,not_or]
   rcases hc with z |z
   ·rw[z];exact⟨nk b u e,nD b u e⟩
   ·exact⟨nk c _ z,nD c _ z⟩
noncomputable def KeysAre(H:Hp)(vks:List V)(nss:List (List Int)):Prop:=Paired (fun(v:V) (ns:List Int)=>∃b,v=.ref b/\H b=some (.tup (ns.map V.int))/\ns≠[]) vks nss
section
variable {X:Cx} {k:Nat} {f:Addr} {fd:FuncData} {ps:List Str} {sp:Sp} {pins:List (Addr×Obj)} {σ:St} {H:Hp} {s:Shared}
theorem Paired.get{α β:Type}{R:α->β->Prop}:∀{xs:List α} {ys:List β} {i:Nat} {x:α},Paired R xs ys->xs[i]? = some x->∃y,ys[i]? = some y/\R x y
 | _,_,0,_,.cons r _,e=>by cases e;exact⟨_,rfl,r⟩
 | _,_,i+1,x,.cons _ t,e=>by
  obtain⟨y,h1,h2⟩:=Paired.get (i:=i) (x:=x) t e
  exact⟨y,h1,h2⟩
 | _,_,_,_,.nil,e=>by simp at e
theorem oY:∀a,HT.lexLt a a=false
 | []=>rfl
 | x::a=>by rw[HT.iH,if_pos rfl];exact oY a
theorem pZ:∀a b c,HT.lexLt a b=true->HT.lexLt b c=true->HT.lexLt a c=true
 | [],[],_,h,_=>by cases h
 | [],_::_,[],_,h=>by cases h
 | [],_::_,_::_,_,_=>rfl
 | _::_,[],_,h,_=>by cases h
 | x::a,y::b,[],_,h=>by cases h
 | x::a,y::b,z::c,h1,h2=>by
  rw[HT.iH] at h1 h2 ⊢
  split at h1
  ·rename_i e
   subst e
   split at h2
   ·rename_i e
    subst e
    rw[if_pos rfl];exact pZ a b c h1 h2
   ·rename_i ne
    rw[if_neg ne];exact h2
  ·rename_i ne
   split at h2
   ·rename_i e
    subst e
    rw[if_neg ne];exact h1
   ·have h1:=of_decide_eq_true h1
    have h2:=of_decide_eq_true h2
    rw[if_neg (by omega)];exact decide_eq_true (by omega)
theorem sJ:∀a b c,HT.lexLt a c=true->HT.lexLt a b=true\/HT.lexLt b c=true
 | [],[],_,h=>.inr h
 | [],_::_,_,h=>.inl rfl
 | x::a,[],[],h=>by cases h
 | x::a,[],_::_,h=>.inr rfl
 | x::a,y::b,[],h=>by cases h
 | x::a,y::b,z::c,h=>by
  rw[HT.iH] at h
  rw[HT.iH,HT.iH]
  by_cases e1:x=y
  ·subst e1
   rw[if_pos rfl]
   by_cases e2:x=z
   ·subst e2
    rw[if_pos rfl] at h ⊢
    exact sJ a b c h
   ·rw[if_neg e2] at h ⊢
    exact .inr h
  ·rw[if_neg e1]
   by_cases e2:y=z
   ·subst e2
    rw[if_neg e1] at h
    exact .inl h
   ·rw[if_neg e2]
    by_cases e3:x=z
    ·subst e3
     rcases Int.lt_trichotomy x y with q |q |q
     ·exact .inl (decide_eq_true q)
     ·exact absurd q e1
     ·exact .inr (decide_eq_true q)
    ·rw[if_neg e3] at h
     have h:=of_decide_eq_true h
     by_cases q:x<y
     ·exact .inl (decide_eq_true q)
     ·exact .inr (decide_eq_true (by omega))
theorem uX:∀a b,HT.lexLt a b=false->HT.lexLt b a=false->a=b
 | [],[],_,_=>rfl
 | [],_::_,h,_=>by cases h
 | _::_,[],_,h=>by cases h
 | x::a,y::b,h1,h2=>by
  rw[HT.iH] at h1 h2
  by_cases e:x=y
  ·subst e
   rw[if_pos rfl] at h1 h2
   rw[uX a b h1 h2]
  ·rw[if_neg e] at h1
   rw[if_neg (fun z=>e z.symm)] at h2
   have h1:=of_decide_eq_false h1
   have h2:=of_decide_eq_false h2
   omega
noncomputable def rankOf(nss:List (List Int))(i:Nat):Nat:=rank HT.lexLt nss (nss.getD i [])
theorem Ah{nss:List (List Int)}{i j:Nat}(hi:i<nss.length)(hj:j<nss.length):ltR (rankOf nss) i j=HT.lexLt nss[i] nss[j]:=by
 have ei:nss.getD i []=nss[i]:=by simp[hi]
 have ej:nss.getD j []=nss[j]:=by simp[hj]
 unfold ltR rankOf
 rw[ei,ej]
 cases h:HT.lexLt nss[i] nss[j] with
 | true=>exact decide_eq_true (Oj HT.lexLt oY pZ (List.getElem_mem hi) h)
 | false=>exact decide_eq_false (Nat.not_lt.mpr (Ol HT.lexLt sJ h))
noncomputable def qz(nss:List (List Int))(xs out:List V):Prop:=∃p:List Nat,p.Perm (List.range xs.length)/\out=p.map (fun i=>xs.getD i .non)/\∀i j,i<=j->j<p.length->HT.lexLt (nss.getD (p.getD j 0) []) (nss.getD (p.getD i 0) [])=false
theorem yN{xs:List V}{its:List Value}(r:Vals xs its):∀p:List Nat,(∀i∈p,i<xs.length)->Vals (p.map fun i=>xs.getD i .non) (p.map fun i=>its.getD i Value.none)
 | [],_=>.nil
 | i::p,h=>by
  refine .cons ?_ (yN r p fun j hj=>h j (List.mem_cons_of_mem _ hj))
  have hi:=h i List.mem_cons_self
  obtain⟨u,e1,e2⟩:=r.get (List.getElem?_eq_getElem hi)
  have e3:xs.getD i V.non=xs[i]:=by simp[hi]
  have e4:its.getD i Value.none=u:=by rw[List.getD_eq_getElem?_getD,e1];rfl
  show RelV (xs.getD i V.non) (its.getD i Value.none)
  rw[e3,e4];exact e2
end
end L2
namespace DL
open PySem
mutual
noncomputable def pl:D->Bool
 | .non=>true
 | .int _=>true
 | .str x=>(PyData.str x).canLay0
 | .tup xs=>plL xs
 | .lst xs=>plL xs
 | _=>false
noncomputable def plL:List D->Bool
 | []=>true
 | d::ds=>pl d && plL ds
end
mutual
noncomputable def dep:D->Nat
 | .tup xs=>dM xs+1
 | .lst xs=>dM xs+1
 | _=>0
noncomputable def dM:List D->Nat
 | []=>0
 | d::ds=>max (dep d) (dM ds)
end
mutual
theorem G_:∀d:D,pl d=true->(toP d).canLay0=true
 | .non,_=>by rw[toP];rfl
 | .int _,_=>by rw[toP];rfl
 | .str x,h=>by rw[pl] at h;rw[toP];exact h
 | .tup xs,h=>by rw[pl] at h;rw[toP,PyData.canLay0];exact xK xs h
 | .lst xs,h=>by rw[pl] at h;rw[toP,PyData.canLay0];exact xK xs h
 | .bl _,h=>by simp[pl] at h
 | .scr _,h=>by simp[pl] at h
 | .obj _,h=>by simp[pl] at h
theorem xK:∀ds:List D,plL ds=true->PyData.canLayAll0 (fO ds)=true
 | [],_=>by rw[fO];rfl
 | d::ds,h=>by
  rw[plL,Bool.and_eq_true] at h
  rw[fO,PyData.canLayAll0,Bool.and_eq_true]
  exact⟨G_ d h.1,xK ds h.2⟩
end
mutual
theorem Ha:∀d:D,pl d=true->(toP d).depth=dep d
 | .non,_=>by rw[toP,dep];rfl;all_goals (intro _ z;cases z)
 | .int _,_=>by rw[toP,dep];rfl;all_goals (intro _ z;cases z)
 | .str x,h=>by rw[toP,dep];rfl;all_goals (intro _ z;cases z)
 | .tup xs,h=>by rw[pl] at h;rw[toP,dep,PyData.depth,xM xs h]
 | .lst xs,h=>by rw[pl] at h;rw[toP,dep,PyData.depth,xM xs h]
 | .bl _,h=>by simp[pl] at h
 | .scr _,h=>by simp[pl] at h
 | .obj _,h=>by simp[pl] at h
theorem xM:∀ds:List D,plL ds=true->PyData.depthAll (fO ds)=dM ds
 | [],_=>by rw[fO,dM];rfl
 | d::ds,h=>by
  rw[plL,Bool.and_eq_true] at h
  rw[fO,dM,PyData.depthAll,Ha d h.1,xM ds h.2]
end
theorem sO{d:D}(h:pl d=true)(hd:dep d<=64):SeqAt.shaped (toP d)=true:=by
 unfold SeqAt.shaped
 rw[G_ d h,Ha d h]
 simp[hd]
mutual
theorem Ai:∀(p q:D),pl p=true->pl q=true->(PyData.eqv (toP p) (toP q)=true↔p=q)
 | .non,q,_,hq=>by cases q<;>simp[toP,PyData.eqv,pl] at hq ⊢
 | .int i,q,_,hq=>by cases q<;>simp[toP,PyData.eqv,pl] at hq ⊢
 | .str x,q,_,hq=>by cases q<;>simp[toP,PyData.eqv,pl] at hq ⊢
 | .tup xs,q,hp,hq=>by
  cases q with
  | tup ys =>
   rw[pl] at hp hq
   rw[toP,toP,PyData.eqv,xN xs ys hp hq]
   exact⟨fun h=>by rw[h],fun h=>by injection h⟩
  | _=>simp[toP,PyData.eqv,pl] at hq ⊢
 | .lst xs,q,hp,hq=>by
  cases q with
  | lst ys =>
   rw[pl] at hp hq
   rw[toP,toP,PyData.eqv,xN xs ys hp hq]
   exact⟨fun h=>by rw[h],fun h=>by injection h⟩
  | _=>simp[toP,PyData.eqv,pl] at hq ⊢
 | .bl _,_,h,_=>by simp[pl] at h
 | .scr _,_,h,_=>by simp[pl] at h
 | .obj _,_,h,_=>by simp[pl] at h
theorem xN:∀(ps qs:List D),plL ps=true->plL qs=true->(PyData.eqvAll (fO ps) (fO qs)=true↔ps=qs)
 | [],[],_,_=>by simp[fO,PyData.eqvAll]
 | [],_::_,_,_=>by simp[fO,PyData.eqvAll]
 | _::_,[],_,_=>by simp[fO,PyData.eqvAll]
 | p::ps,q::qs,hp,hq=>by
  rw[plL,Bool.and_eq_true] at hp hq
  rw[fO,fO,PyData.eqvAll,Bool.and_eq_true,Ai p q hp.1 hq.1,xN ps qs hp.2 hq.2]
  exact⟨fun h=>by rw[h.1,h.2],fun h=>by injection h with a b;exact⟨a,b⟩⟩
end
theorem jF(neg:Bool){p:D}(h:pl p=true)(hd:dep p<=64):eqD neg p p=some (.bl (!neg)):=by
 unfold eqD
 rw[sO h hd,(Ai p p h h).mpr rfl]
 cases neg<;>rfl
theorem Aj(neg:Bool){p q:D}(hp:pl p=true)(hq:pl q=true)(dp:dep p<=64)(dq:dep q<=64)(n:p≠q):eqD neg p q=some (.bl neg):=by
 unfold eqD
 have e:PyData.eqv (toP p) (toP q)=false:=by
  cases z:PyData.eqv (toP p) (toP q) with
  | false=>rfl
  | true=>exact absurd ((Ai p q hp hq).mp z) n
 rw[sO hp dp,sO hq dq,e]
 cases neg<;>rfl
end DL
namespace KS
open PySem PySem.W PySem.Calls PyProof.Rows
section
variable {prog:Program} {w:World} {A:Around} {E:Value->Shared->Prop} {s:Shared} {a:Addr} {vs:List Value}
theorem JR(vs:List Value):((List.toArray (List.range vs.length)).toList.map fun i=>vs.getD i Value.none)=vs:=by
 rw[List.toList_toArray]
 apply List.ext_getElem?
 intro i
 rw[List.getElem?_map]
 by_cases hi:i<vs.length
 ·simp[hi]
 ·simp[List.getElem?_eq_none (Nat.le_of_not_lt hi),List.getElem?_eq_none (show(List.range vs.length).length<=i by simp;omega)]
noncomputable def JS(prog:Program)(w:World)(A:Around)(vs:List Value)(a:Addr)(s:Shared)(P:Shared->Prop):Prop:=∃(κ:SortKind) (r:Nat->Nat),(2<=vs.length->∀(Q:SortKind->Shared->Prop) (E:Value->Shared->Prop),Q κ s->wpAny (model prog w) A (keyKind' vs.toArray) Q E s) /\
 (2<=vs.length->∀(i j:Nat) (C:Bool->Shared->Prop),i<vs.length->j<vs.length->C (ltR r i j) s->kas_ask prog w A κ vs i j C s) /\
 ∀(p:Array Nat) h' c,p.Perm (List.range vs.length).toArray->Up r p vs.length->Kept s h' [a]->h'.get? a=some (seqObj "list" (List.toArray (p.toList.map fun i=>vs.getD i Value.none)) c)->P { s with heap:=h' }
theorem Eo{n:Nat}{P:PySem.Fin->Shared->Prop}(ho:s.heap.get? a=some (seqObj "list" vs.toArray n))(h64:vs.length<64)
  (h:∀e1 h',(∀b o,b≠a->s.heap.get? b=some o->h'.get? b=some o)->h'.get? a=some (seqObj "list" #[] e1)->JS prog w A vs a { s with heap:=h' } fun s3=>P (.done (.ret .none)) s3) :
  wpAny (model prog w) A (Builtin.«list.sort» ⟨[.ref a],[]⟩) P E s:=by
 have s1:=Heap.SameBut.update s.heap a (Obj.mapSeq fun _=>(#[]:Array Value))
 obtain⟨e1,ho1⟩:∃e1,(s.heap.update a (Obj.mapSeq fun _=>(#[]:Array Value))).get? a=some (seqObj "list" #[] e1):=⟨_,get?_update_seq ho fun _=>#[]⟩
 obtain⟨κ,r,hkind,hcmp,fin⟩:=h e1 (((s.heap.update a (Obj.mapSeq fun _=>(#[]:Array Value))).push (seqObj "tuple" vs.toArray 0)).push (seqObj "list" #[] 0))
  (fun b o hb q=>Heap.get?_push_of_some _ (Heap.get?_push_of_some _ ((s1.2 b hb).trans q))) (Heap.get?_push_of_some _ (Heap.get?_push_of_some _ ho1))
 have na:(((s.heap.update a (Obj.mapSeq fun _=>(#[]:Array Value))).push (seqObj "tuple" vs.toArray 0)).push (seqObj "list" #[] 0)).get? a=some (seqObj "list" #[] e1):=Heap.get?_push_of_some _ (Heap.get?_push_of_some _ ho1)
 rw[list_sort_plain];refine wpAny_bind (listItems_at ho rfl ?_)
 refine wpAny_bind (listUpdate_at ho rfl ?_ (by rw[List.size_toArray,sizeLine_eq];omega) (Nat.zero_le _));refine wpAny_bind (seqEpoch_at ho1 rfl ?_)
 refine wpAny_bind (wpAny_newTuple ?_ (by show vs.length<=_;rw[sizeLine_eq];omega));refine wpAny_bind (wpAny_newList ?_ (Nat.zero_le _));refine wpAny_holding ?_
 show wpAny (model prog w) A _ P E { s with heap:=((s.heap.update a (Obj.mapSeq fun _=>(#[]:Array Value))).push (seqObj "tuple" vs.toArray 0)).push (seqObj "list" #[] 0) }
 generalize ((s.heap.update a (Obj.mapSeq fun _=>(#[]:Array Value))).push (seqObj "tuple" vs.toArray 0)).push (seqObj "list" #[] 0)=hh at *
 try dsimp only
 by_cases hn:vs.length<2
 ·have hn2:vs.toArray.size<2:=by rw[List.size_toArray];exact hn
  rw[if_pos hn2,if_pos hn2];refine wpAny_bind (wpAny_pure ?_)
  rw[StateT.run_pure];refine wpAny_bind (wpAny_pure ?_)
  try dsimp only
  have s2:=Heap.SameBut.update hh a (Obj.mapSeq fun _=>List.toArray vs)
  obtain⟨c2,hc2⟩:∃c2,(hh.update a (Obj.mapSeq fun _=>List.toArray vs)).get? a=some (seqObj "list" (List.toArray vs) c2):=⟨_,get?_update_seq na fun _=>List.toArray vs⟩
  have hout:∀κ:SortKind,(arrOf (SortSt.mk' κ (vs.toArray.zip vs.toArray) #[] 7 none)).map (·.2)=List.toArray vs:=fun κ=>by
   show((vs.toArray.zip vs.toArray).map (·.2))=List.toArray vs
   apply Array.toList_inj.mp
   rw[Array.toList_map,ksk_zip];exact List.map_snd_zip (Nat.le_refl _)
  have hf:∀κ:SortKind,failedOf (SortSt.mk' κ (vs.toArray.zip vs.toArray) #[] 7 none)=none:=fun _=>rfl
  rw[hout];refine wpAny_bind (seqEpoch_at na rfl ?_)
  refine wpAny_bind (listUpdate_at na rfl ?_ (Nat.zero_le _) (by rw[List.size_toArray,sizeLine_eq];omega))
  simp only[bne_self_eq_false,Bool.false_eq_true,if_false]
  exact wpAny_pure (fin (List.toArray (List.range vs.length)) _ c2 (Array.Perm.refl _) (fun i j x y=>by have:i=j:=(by omega);subst this;exact Nat.le_refl _) (fun b o hb q=>(s2.2 b (by simpa using hb)).trans q) (by rw[JR];exact hc2))
 ·have h2:2<=vs.length:=by omega
  have hn2:¬vs.toArray.size<2:=by rw[List.size_toArray];omega
  rw[if_neg hn2,if_neg hn2];refine wpAny_bind (hkind h2 _ _ ?_)
  have run:=GZ (s:={ s with heap:=hh }) (Q':=fun p s'=>s'={ s with heap:=hh }/\Pm vs.length p/\Up r p vs.length) (hcmp h2) (fun p hp=>⟨rfl,hp⟩) _ (sort (N:=vs.length) (r:=r) (Q:=fun p=>Pm vs.length p/\Up r p vs.length) h2 fun p h1 h2=>⟨h1,h2⟩)
  refine wpAny_bind (wpAny_mono (kat_run (Q:=fun st' s'=>∃p:Array Nat,arrOf st'=p.map (kas_item (vs.toArray.zip vs.toArray))/\failedOf st'=none/\s'={ s with heap:=hh }/\Pm vs.length p/\Up r p vs.length) rfl h2 h64 (fun p' st' s' a1 a2 a3 a4=>⟨p',a2,a3,a4⟩) run) ?_ fun _ _ e=>e)
  rintro⟨⟨⟩,st'⟩ s' ⟨p,har,hf,rfl,hp,hu⟩
  try dsimp only
  have hout:=kat_snds rfl har
  have hsz:(List.toArray (p.toList.map fun i=>vs.getD i Value.none)).size=vs.length:=by rw[List.size_toArray,List.length_map,Array.length_toList,hp.size]
  rw[hout]
  have s2:=Heap.SameBut.update hh a (Obj.mapSeq fun _=>List.toArray (p.toList.map fun i=>vs.getD i Value.none))
  obtain⟨c2,hc2⟩:∃c2,(hh.update a (Obj.mapSeq fun _=>List.toArray (p.toList.map fun i=>vs.getD i Value.none))).get? a=some (seqObj "list" (List.toArray (p.toList.map fun i=>vs.getD i Value.none)) c2):=⟨_,get?_update_seq na fun _=>_⟩
  refine wpAny_bind (seqEpoch_at na rfl ?_)
  refine wpAny_bind (listUpdate_at na rfl ?_ (Nat.zero_le _) (Nat.le_trans (Nat.le_of_eq hsz) (by rw[sizeLine_eq];omega)))
  rw[hf];simp only[bne_self_eq_false,Bool.false_eq_true,if_false]
  exact wpAny_pure (fin p _ c2 hp.perm hu (fun b o hb q=>(s2.2 b (by simpa using hb)).trans q) hc2)
end
end KS
namespace DL
open PySem PySem.Spec PyProof.Rows L2
noncomputable def leK(a b:List Int×D):Bool:=!HT.lexLt b.1 a.1
noncomputable def srt(nss:List (List Int))(ds:List D):List D:=((nss.zip ds).mergeSort leK).map (·.2)
noncomputable def wy(nss:List (List Int))(ds:List D):Prop:=∀a∈nss.zip ds,∀b∈nss.zip ds,a.1=b.1->a=b
theorem sS(a b c:List Int×D)(h1:leK a b=true)(h2:leK b c=true):leK a c=true:=by
 unfold leK at *
 cases h:HT.lexLt c.1 a.1 with
 | false=>rfl
 | true =>
  rcases sJ c.1 b.1 a.1 h with q |q
  ·rw[q] at h2;cases h2
  ·rw[q] at h1;cases h1
theorem sU(a b:List Int×D):(leK a b || leK b a)=true:=by
 unfold leK
 cases h:HT.lexLt b.1 a.1 with
 | false=>rfl
 | true =>
  cases h2:HT.lexLt a.1 b.1 with
  | false=>rfl
  | true =>
   have:=pZ a.1 b.1 a.1 h2 h
   rw[oY] at this
   cases this
theorem xO{β:Type}(l:List β)(d:β):(List.range l.length).map (fun i=>l.getD i d)=l:=by
 apply List.ext_getElem?
 intro i
 rw[List.getElem?_map]
 by_cases hi:i<l.length
 ·simp[hi]
 ·simp[List.getElem?_eq_none (Nat.le_of_not_lt hi),List.getElem?_eq_none (show(List.range l.length).length<=i by simp;omega)]
theorem q_{nss:List (List Int)}{ds:List D}{p:List Nat}(hl:nss.length=ds.length)(ok:wy nss ds)(hp:p.Perm (List.range ds.length))(hu:∀i j,i<=j->j<p.length->HT.lexLt (nss.getD (p.getD j 0) []) (nss.getD (p.getD i 0) [])=false) :
  p.map (fun i=>ds.getD i .non)=srt nss ds:=by
 have hz:(nss.zip ds).length=ds.length:=by simp[hl]
 have hlt:∀i∈p,i<ds.length:=fun i hi=>by simpa using hp.mem_iff.mp hi
 have eZ:∀i,i<ds.length->(nss.zip ds).getD i ([],.non)=(nss.getD i [],ds.getD i .non):=fun i hi=>by
  have h1:i<nss.length:=by omega
  have h2:i<(nss.zip ds).length:=by omega
  rw[getD_get h1,getD_get hi,getD_get h2,List.getElem_zip]
 have e1:p.map (fun i=>ds.getD i .non)=(p.map fun i=>(nss.zip ds).getD i ([],.non)).map (·.2):=by
  rw[List.map_map]
  apply List.map_congr_left
  intro i hi
  show _=((nss.zip ds).getD i ([],.non)).2
  rw[eZ i (hlt i hi)]
 rw[e1]
 unfold srt
 congr 1
 have pm:(p.map fun i=>(nss.zip ds).getD i ([],.non)).Perm (nss.zip ds):=by
  have:=hp.map fun i=>(nss.zip ds).getD i ([],.non)
  rw[<-hz,xO] at this
  exact this
 refine List.Perm.eq_of_pairwise (le:=fun a b=>leK a b=true) ?_ ?_ (List.pairwise_mergeSort sS sU _) (pm.trans (List.mergeSort_perm _ _).symm)
 ·intro a b ha hb h1 h2
  refine ok a (pm.mem_iff.mp ha) b ((List.mergeSort_perm _ _).mem_iff.mp hb) ?_
  unfold leK at h1 h2
  exact uX a.1 b.1 (by simpa using h2) (by simpa using h1)
 ·rw[List.pairwise_iff_getElem]
  intro i j hi hj hij
  rw[List.length_map] at hi hj
  have hu':=hu i j (by omega) hj
  rw[getD_get hi,getD_get hj] at hu'
  rw[List.getElem_map,List.getElem_map,eZ _ (hlt _ (List.getElem_mem hi)),eZ _ (hlt _ (List.getElem_mem hj))]
  unfold leK
  dsimp only
  rw[hu'];rfl
noncomputable def wz(nss:List (List Int))(ds:List D):Option D:=grd (ds.length<64/\nss.length=ds.length/\wy nss ds) (some (.lst (srt nss ds)))
theorem rm{K:PySem.W.Frag}{α:List Addr}{F:Hp}{ds:List D}{vs:List V}(h:IsL K α F ds vs):∀p:List Nat,(∀i∈p,i<ds.length)->IsL K α F (p.map fun i=>ds.getD i .non) (p.map fun i=>vs.getD i .non)
 | [],_=>.nil
 | i::p,hp=>by
  refine .cons ?_ (rm h p fun j hj=>hp j (List.mem_cons_of_mem _ hj))
  have hi:=hp i List.mem_cons_self
  obtain⟨v,e1,e2⟩:=h.get (List.getElem?_eq_getElem hi)
  show Is K α F (ds.getD i .non) (vs.getD i .non)
  rw[getD_get hi,List.getD_eq_getElem?_getD,e1]
  exact e2
section
variable {X:Cx} {C:Cl} {n:Str} {p pos kpos npos:Pos} {a:Expr} {g:Den} {k:Nat}
theorem JT{pins:List (Addr×Obj)}{σ:St}{H:Hp}{s:Shared}{l:Addr}{xs:List V}(I:Inv X pins σ H s)(h:H l=some (.lst xs)):∃vs,Vals xs vs/\∀(A:Around) (E:Value->Shared->Prop) (Q':List Value->Shared->Prop),(∀h1,KS.Kept s h1 []->Q' vs { s with heap:=h1 })->wpAny (model X.prog X.w) A (collect (.ref l)) Q' E s:=by
 obtain⟨its,r,⟨o,m,e1,e2,_,e3⟩,hz⟩:=I.list (SqL.of h)
 refine⟨its,r,fun A E Q' hq=>wpAny_collect_seq l (.inl rfl) e1 e2 e3 (fun h' kp=>?_) ?_⟩
 ·have:=hq h' fun b o _ q=>kp b o q
  simpa using this
 ·rw[List.size_toArray,<-r.length];exact hz
noncomputable def wA:List D->Option (List Int)
 | []=>some []
 | .int i::r=>match wA r with
  | some ns=>some (i::ns)
  | none=>none
 | _=>none
noncomputable def Ep:D->Option (List Int)
 | .tup ds=>match wA ds with
  | some (n::ns)=>some (n::ns)
  | _=>none
 | _=>none
theorem yO:∀{ds:List D} {ns:List Int},wA ds=some ns->ds=ns.map D.int
 | [],ns,h=>by cases h;rfl
 | .int i::r,ns,h=>by
  unfold wA at h
  cases q:wA r with
  | none=>rw[q] at h;cases h
  | some ms=>rw[q] at h;cases h;rw[yO q];rfl
 | .non::_,_,h=>nomatch h
 | .bl _::_,_,h=>nomatch h
 | .str _::_,_,h=>nomatch h
 | .tup _::_,_,h=>nomatch h
 | .lst _::_,_,h=>nomatch h
 | .scr _::_,_,h=>nomatch h
 | .obj _::_,_,h=>nomatch h
theorem Om{d:D}{ns:List Int}(h:Ep d=some ns):d=.tup (ns.map D.int)/\ns≠[]:=by
 unfold Ep at h
 split at h
 ·split at h
  ·rename_i e
   cases h
   exact⟨by rw[yO e],by simp⟩
  ·cases h
 ·cases h
theorem Ak{K:PySem.W.Frag}{α:List Addr}{F:Hp}:∀{ns:List Int} {vs:List V},IsL K α F (ns.map D.int) vs->vs=ns.map V.int
 | [],_,h=>h.of_nil
 | n::ns,_,h=>by
  obtain⟨v,r,rfl,h1,t⟩:=h.of_cons
  rw[Is] at h1
  rw[Ak t,h1];rfl
end
end DL
namespace DL
open PySem PySem.Spec PyProof.Rows L2
noncomputable def tDL(K:PySem.W.Frag)(C:Cl)(g:bx):TE:=fun σ H Q=>∃e Ω ρ ds Ω',e.H=H/\Wf K C e Ω/\RelE K e σ ρ/\g ρ Ω=some (ds,Ω') /\
 ∀a vs e',Ext e e'->Wf K C e' Ω'->(∀e'' Ω'',Ext e' e''->Wf K C e'' Ω''->e''.H a=some (.lst vs))->IsL K e'.α e'.F ds vs->Q (.ref a) e'.H
noncomputable def PDL(X:Cx)(C:Cl)(x:Expr)(g:bx):Prop:=PE X x (tDL X.K C g)
noncomputable def gO(i:Nat):bx:=fun ρ Ω=>match ρ[i]? with
 | some (.own ds)=>some (ds,Ω)
 | _=>none
noncomputable def gLs(g:Den):bx:=fun ρ Ω=>match g ρ Ω with
 | some (.lst ds,Ω')=>some (ds,Ω')
 | _=>none
noncomputable def Am(gl:bx)(g:Den):Den:=fun ρ Ω=>match gl ρ Ω with
 | some (ds,Ω1)=>match g ρ Ω1 with
  | some (.int i,Ω2)=>match atI ds i with
   | some d=>some (d,Ω2)
   | none=>none
  | _=>none
 | none=>none
noncomputable def wB(gl:bx):Den:=fun ρ Ω=>match gl ρ Ω with
 | some (ds,Ω1)=>some (.int ds.length,Ω1)
 | none=>none
noncomputable def rn:List D->Option (List (List Int))
 | []=>some []
 | d::ds=>match Ep d with
  | some ns=>match rn ds with
   | some nss=>some (ns::nss)
   | none=>none
  | none=>none
theorem yP{K:PySem.W.Frag}{α:List Addr}{F H:Hp}(ff:bC F H):∀{ds:List D} {nss:List (List Int)} {vs:List V},rn ds=some nss->IsL K α F ds vs->KeysAre H vs nss
 | [],nss,vs,h,i=>by cases h;rw[i.of_nil];exact .nil
 | d::ds,nss,vs,h,i=>by
  obtain⟨v,r,rfl,i1,t⟩:=i.of_cons
  unfold rn at h
  cases q1:Ep d with
  | none=>rw[q1] at h;cases h
  | some ns =>
   rw[q1] at h
   dsimp only at h
   cases q2:rn ds with
   | none=>rw[q2] at h;cases h
   | some mss =>
    rw[q2] at h
    cases h
    refine .cons ?_ (yP ff q2 t)
    obtain⟨rfl,ne⟩:=Om q1
    rw[Is] at i1
    obtain⟨b,us,rfl,hb,ib⟩:=i1
    rw[Ak ib] at hb
    exact⟨b,rfl,ff _ _ hb,ne⟩
section
variable {X:Cx} {C:Cl} {x a b:Expr} {f g:Den} {gl:bx} {n:Str} {p pos:Pos}
theorem Di{i:Nat}(hv:PE X (.Name n p) (wY i)):PDL X C (.Name n p) (gO i):=aY hv fun σ H Q hw'=>by
 obtain⟨e,Ω,ρ,ds,Ω',eH,w,rl,q,kk⟩:=hw'
 unfold gO at q
 split at q
 ·rename_i h
  cases q
  obtain⟨a,vs,e1,e2,il,n1,n2⟩:=rl.own _ _ h
  exact⟨.ref a,e1,by rw[<-eH];exact kk a vs e (Ext.refl e) w (fun e'' _ x' _=>x'.hk a _ e2 n2) il⟩
 ·cases q
theorem Th(ha:PDL X C a gl)(hb:PD X C b g)(hs:xg b:=by intro _ _;rfl):PD X C (.Subscript a b pos) (Am gl g):=aY (Lr CJ ha hb hs) fun σ H Q hw'=>by
 obtain⟨e,Ω,ρ,d,Ω',eH,w,rl,q,kk⟩:=hw'
 unfold Am at q
 cases q1:gl ρ Ω with
 | none=>rw[q1] at q;cases q
 | some p1 =>
  obtain⟨ds,Ω1⟩:=p1
  rw[q1] at q
  dsimp only at q
  cases q2:g ρ Ω1 with
  | none=>rw[q2] at q;cases q
  | some p2 =>
   obtain⟨d2,Ω2⟩:=p2
   rw[q2] at q
   cases d2 with
   | int i =>
    dsimp only at q
    cases q3:atI ds i with
    | none=>rw[q3] at q;cases q
    | some z =>
     rw[q3] at q
     cases q
     refine⟨e,Ω,ρ,ds,Ω1,eH,w,rl,q1,fun l vs e1 x1 w1 st il=>⟨e1,Ω1,ρ,_,_,rfl,w1,rl.ext x1,q2,fun v e2 x2 w2 i2=>?_⟩⟩
     rw[Is] at i2
     subst i2
     obtain⟨v,e3,i3⟩:=zV (il.ext x2) q3
     exact⟨l,vs,i,v,rfl,rfl,SqL.of (st e2 _ x2 w2),e3,kk v e2 (x1.trans x2) w2 i3⟩
   | _=>cases q
theorem Rv(hg:Gl X n)(hm:X.mg n=none)(hv:bootBuiltins n=some (.builtin "len"))(ho:PDL X C a gl)(hn:n ≠ "__name__":=by decide)(hdb:(n==("__debug__":Str))=false:=by decide)
  (he:starEach [a] X.env=(false,eval a X.env)::starEach [] X.env:=by rfl) (hpl:(backTo pos (starEach [] X.env)).any (·.1)=false:=by rfl):PD X C (.Call (.Name n p) [a] [] pos) (wB gl) :=
 aY (fZ Ja hg hm hv (bF ho cQ he) hn hdb he hpl) fun σ H Q hw'=>by
  obtain⟨e,Ω,ρ,d,Ω',eH,w,rl,q,kk⟩:=hw'
  unfold wB at q
  cases q1:gl ρ Ω with
  | none=>rw[q1] at q;cases q
  | some p1 =>
   obtain⟨ds,Ω1⟩:=p1
   rw[q1] at q
   cases q
   refine⟨e,Ω,ρ,ds,_,eH,w,rl,q1,fun l vs e1 x1 w1 st il=>⟨.ref l,vs.length,rfl,.inl ⟨vs,SqL.of (st e1 _ (Ext.refl e1) w1),rfl⟩,?_⟩⟩
   exact kk _ e1 x1 w1 (by rw[Is,il.length])
end
end DL
namespace DL
open PySem PySem.Spec PyProof.Rows L2
noncomputable def tDN(K:PySem.W.Frag)(C:Cl)(g:bx):TE:=fun σ H Q=>∃e Ω ρ ds Ω',e.H=H/\Wf K C e Ω/\RelE K e σ ρ/\g ρ Ω=some (ds,Ω') /\
 ∀a vs e',Ext e e'->Wf K C e' Ω'->IsL K e'.α e'.F ds vs->e'.H a=none->Q (.ref a) (upd e'.H a (.lst vs))
noncomputable def PDN(X:Cx)(C:Cl)(x:Expr)(g:bx):Prop:=PE X x (tDN X.K C g)
end DL
namespace L2
open PySem PySem.Spec PyProof.Rows
section
variable {X:Cx}
theorem Hb(hh:X.A.handled=none):fL X (.builtin "all") (fun xs H Q=>∃(p:Addr) (bs:List Bool),xs=[V.ref p]/\SqL X.K H p (bs.map V.bl)/\Q (.bl (bs.all id)) H):=by
 intro pins s σ H xs us Q I r h
 obtain⟨p,bs,rfl,hp,q⟩:=h
 obtain⟨u,rfl,ru⟩:=vals1 r
 cases ru
 obtain⟨its,rv,pl,_⟩:=I.list hp
 have hlt:p<s.heap.objs.size:=by obtain⟨_,_,e,_⟩:=pl;exact Heap.lt_size e
 have hl:=rv.length
 rw[List.length_map] at hl
 refine call_all_walk (wpAny_pyIter_list pl.isList ?_)
 refine⟨s.heap.objs.size,[s.heap.objs.size,p],[s.heap.objs.size],its.toArray.size,_,_,fun i=>(bs[i]?).getD true,rfl,Walks.list (A:=X.A.in1) hh _ p (Nat.ne_of_lt hlt) its.toArray,⟨⟨_,Heap.get?_push_size _ rfl,rfl,rfl⟩,pl.isList.push _⟩,fun i v s' Q' E' hP hQ=>?_,fun h' tk hk=>?_⟩
 ·have hi:i<its.length:=by
   have:its.toArray[i]? = some v:=hP
   have:=(Array.getElem?_eq_some_iff.mp this).1
   simpa using this
  have hb:i<bs.length:=by omega
  obtain⟨u,e1,e2⟩:=rv.get (i:=i) (x:=V.bl bs[i]) (by rw[List.getElem?_map,List.getElem?_eq_getElem hb];rfl)
  have e3:its.toArray[i]? = some v:=hP
  rw[show its.toArray[i]? = its[i]? by simp,e1] at e3
  cases e3
  cases (show v=Value.bool bs[i] from e2)
  dsimp only at hQ
  rw[List.getElem?_eq_getElem hb,Option.getD_some] at hQ
  exact wpAny_truthy_bool hQ
 ·have e:((List.range its.toArray.size).all fun i=>(bs[i]?).getD true)=bs.all id:=by
   rw[List.size_toArray,<-hl]
   have:∀l:List Bool,((List.range l.length).all fun i=>(l[i]?).getD true)=l.all id:=by
    intro l
    induction l with
    | nil=>rfl
    | cons b l ih =>
     rw[List.length_cons,List.range_succ_eq_map,List.all_cons,List.all_map,List.all_cons,<-ih]
     rfl
   exact this bs
  rw[e]
  refine⟨.bl _,H,I.kept (t':=tk) fun b o q=>?_,rfl,q⟩
  exact hk b o (fun hm=>by rw[List.mem_singleton.mp hm] at q;exact Nat.lt_irrefl _ (Heap.lt_size q)) (Heap.get?_push_of_some _ q)
end
end L2
namespace DL
open PySem PySem.Spec PyProof.Rows L2
noncomputable def rA:List D->Option (List Bool)
 | []=>some []
 | .bl b::r=>match rA r with
  | some bs=>some (b::bs)
  | none=>none
 | _=>none
noncomputable def xP:List D->Option D
 | [.lst ds]=>match rA ds with
  | some bs=>some (.bl (bs.all id))
  | none=>none
 | _=>none
theorem Dj{K:PySem.W.Frag}{α:List Addr}{F:Hp}:∀{ds:List D} {bs:List Bool} {vs:List V},rA ds=some bs->IsL K α F ds vs->vs=bs.map V.bl
 | [],zs,vs,h,i=>by cases h;exact i.of_nil
 | .bl z::r,zs,vs,h,i=>by
  obtain⟨v,t,rfl,i1,i2⟩:=i.of_cons
  unfold rA at h
  cases q:rA r with
  | none=>rw[q] at h;cases h
  | some ys =>
   rw[q] at h
   cases h
   rw[Is] at i1
   rw[i1,Dj q i2]
   rfl
 | .non::_,_,_,h,_=>nomatch h
 | .str _::_,_,_,h,_=>nomatch h
 | .int _::_,_,_,h,_=>nomatch h
 | .tup _::_,_,_,h,_=>nomatch h
 | .lst _::_,_,_,h,_=>nomatch h
 | .scr _::_,_,_,h,_=>nomatch h
 | .obj _::_,_,_,h,_=>nomatch h
section
variable {X:Cx} {C:Cl} {x a b tg:Expr} {f g:Den} {n:Str} {p pos ap cp:Pos}
theorem yQ(hh:X.A.handled=none):CallD X C (.builtin "all") xP:=by
 rintro pins s σ H xs us Q I r ⟨e,Ω,ds,z,eH,w,i,q,kk⟩
 subst eH
 match ds,q with
 | [.lst es],q =>
  obtain⟨v,rfl,iv⟩:=gH i
  rw[Is] at iv
  obtain⟨l,vs,rfl,hF,il⟩:=iv
  unfold xP at q
  dsimp only at q
  cases q1:rA es with
  | none=>rw[q1] at q;cases q
  | some bs =>
   rw[q1] at q
   cases q
   rw[Dj q1 il] at hF
   exact Hb hh pins s σ _ _ us Q I r ⟨l,bs,rfl,SqL.of (w.fh _ _ hF),kk _ e (Ext.refl e) w (by rw[Is])⟩
end
end DL
namespace L2
open PySem PySem.Spec PyProof.Rows
section
variable {X:Cx} {x:Str} {C:Addr} {bmB:List Value} {B newId initId:String} {np cpos pos:Pos} {e:Expr} {te:TE}
noncomputable def oZ(X:Cx)(C:Addr)(σ:St)(H:Hp):Prop:=∀(pins:List (Addr×Obj)) (s:Shared) (h':Heap) (ea:Addr) (args:List Value),Inv X pins σ H s->Heap.MadeExcOf s.heap h' ea (.ref C) args->X.xe (.ref ea) { s with heap:=h' }
theorem JV(O:OwnCls x C bmB newId X.mg X.base)(FB:ExcBaseFacts B newId initId bmB)(hh:X.A.handled=none)(hg:Gl X x)(ha:PE X e te)(te_mono:∀{σ:St} {H:Hp},te σ H (fun _ H1=>oZ X C σ H1)->te σ H (fun v H1=>[v].length=1/\oZ X C σ H1))(he:starEach [e] X.env=(false,eval e X.env)::starEach [] X.env:=by rfl)(hpl:(backTo cpos (starEach [e] X.env)).any (·.1)=false:=by rfl)
  (hd:(x==("__debug__":Str))=false:=by decide):PS X (.Raise (some (.Call (.Name x np) [e] [] cpos)) none pos) (fun _ σ H=>te σ H fun _ H1=>oZ X C σ H1):=by
 intro pins s σ H D I h
 obtain⟨tl,N,nm,q,bs,hdct,sn,sub,ab,col,dd,k0,k1,k2,k3,k5,mN,hC,hN,hni,T⟩:=O.obj
 refine wpAny_Raise_call_subT (C:=C) (nm:=nm) (q:=q) (N:=N) (bs:=bs) (bm:=tl) (hdct:=hdct) (sn:=sn) (sub:=sub) (ab:=ab) (col:=col) (dd:=dd) (k0:=k0) (k1:=k1) (k2:=k2) (k3:=k3) (k5:=k5) FB (mN:=mN) (T.hasType FB.hasBase) hh hpl hni (qj I hg O.bound ⟨rfl,?_⟩ hd)
 have sp:=(bF ha cQ he) cpos pins s σ H (fun vs H1=>vs.length=1/\oZ X C σ H1) I (show te σ H (fun v H1=>[v].length=1/\oZ X C σ H1) from(te_mono h))
 rw[he] at sp ⊢
 refine Calls.evalArgs_plain (thn sp fun us s2 hw'=>?_)
 obtain⟨vs,H1,I1,r1,l1,q1⟩:=hw'
 have k:=I1.bk
 exact⟨rfl,by show us.length<=sizeLine;rw[<-r1.length,l1];decide,k _ _ hC,hN.keeps k,T.keeps k,fun h' ea hm=>q1 pins s2 h' ea us I1 hm⟩
end
theorem Ao{P:Program}{w:World}{H:Hp}{h:Heap}{a:Addr}{o:HO}(x:bI P w H h a o):∃ob,h.get? a=some ob:=by
 cases o with
 | lst xs=>obtain⟨_,_,_,_,e⟩:=x;exact⟨_,e⟩
 | tup xs=>obtain⟨_,_,_,ob,e,_⟩:=x;exact⟨ob,e⟩
 | dK kvs=>obtain⟨_,_,_,_,o,_,_,e,_⟩:=x;exact⟨_,e⟩
 | dT kvs=>obtain⟨_,_,_,_,o,_,_,e,_⟩:=x;exact⟨_,e⟩
 | set S n=>obtain⟨o,_,_,_,e,_⟩:=x;exact⟨_,e⟩
 | ins C dx fs=>obtain⟨_,_,_,e,_⟩:=x;exact⟨_,e⟩
 | own y=>exact x
 | xd fs=>obtain⟨_,⟨_,_,_,e,_⟩,_⟩:=x;exact⟨_,e⟩
 | rng lo hi=>obtain⟨_,_,_,e⟩:=x;exact⟨_,e⟩
 | frz ob u=>exact⟨_,x.1⟩
 | tbl ps=>exact⟨_,x⟩
 | met f y=>exact⟨_,x⟩
 | ext φ=>exact x.2.1
noncomputable def CXr(P:Program)(w:World):CXT:=fun outer H s E e s'=>∃(ea C t:Addr) (H':Hp) (B:Heap),e=.ref ea/\E (.ref C) none H'/\s'.os=s.os/\AllBare s'.gens/\Un (frs outer) [] H H' s.heap s'.heap/\HOk P w H' s'.heap /\
 Heap.FlyingW B outer ea (.ref C) (.ref t) s'.heap/\(∀b o,H' b=some o->∃ob,B.get? b=some ob)/\H' ea=none/\∀b o,s.heap.get? b=some o->H b=none->b∉frs outer->B.get? b=some o
theorem zg{P:Program}{w:World}{K:PySem.W.Frag}{mg:Str->Option Value}{base:Heap}{N:List Str}{qual:Str}{scope:Scope}{f C:Addr}{cd:Value}{A:Around}{outer:List Env}{s₀:Shared}{H₀ H:Hp}{E:XK}{σ:St}
  (hE:E (.ref C) none H):oZ (bJ (CXr P w) P w K mg base N qual scope f cd A outer s₀ H₀ E) C σ H:=by
 intro pins s h' ea args I hm
 have hst:(bJ (CXr P w) P w K mg base N qual scope f cd A outer s₀ H₀ E).stack=envOfC qual scope s₀.heap.objs.size f cd::outer:=rfl
 have hB:∀b o,s.heap.get? b=some o->b∉frs (envOfC qual scope s₀.heap.objs.size f cd::outer)->(PySem.W.hideAll s.heap (frs (envOfC qual scope s₀.heap.objs.size f cd::outer))).get? b=some o:=fun b o e n=>PySem.W.hideAll_get _ e n
 have sub:∀b∈frs (envOfC qual scope s₀.heap.objs.size f cd::outer),b=s₀.heap.objs.size\/b∈frs outer:=fun b hb=>List.mem_cons.mp (I.stkSub b hb)
 have old:∀b o,s₀.heap.get? b=some o->b∉frs outer->b∉frs (envOfC qual scope s₀.heap.objs.size f cd::outer):=fun b o e n hb=>by
  rcases sub b hb with z |z
  ·exact absurd (Heap.lt_size e) (by rw[z];exact Nat.lt_irrefl _)
  ·exact n z
 have trk:∀b o,H b=some o->b∉frs (envOfC qual scope s₀.heap.objs.size f cd::outer):=fun b o e hb=>by
  have:=I.stkFree b hb
  rw[this] at e;cases e
 refine wpAny_leaves_madeW (base:=PySem.W.hideAll s.heap (frs (envOfC qual scope s₀.heap.objs.size f cd::outer))) (env:=envOfC qual scope s₀.heap.objs.size f cd) (outer:=outer) (L:=s₀.heap.objs.size) (h:=s.heap) I.ok.frames rfl (fun b o q=>PySem.W.of_hideAll _ q)
  (PySem.W.funFrames_hide I.stack fun env he b hb=>List.mem_filterMap.mpr ⟨env,he,hb⟩) hm fun h'' t x1 x2 x3 x4=>?_
 have k1:=x1.1
 have un:Un (frs outer) [] H₀ H s₀.heap h'':=by
  refine⟨fun b o e n nf _=>k1 b o (hB b o (I.base.keep b o e n nf (by intro z;cases z)) (old b o e nf)),fun b o e n hf _=>?_,fun b o e n _=>I.base.free b o e n (by intro z;cases z),fun b o e _=>?_,I.base.tups,I.base.frzs,I.base.tbls⟩
  ·obtain⟨sl,q⟩:=I.base.slot b o e n hf (by intro z;cases z)
   obtain⟨_,o',ho',hd⟩:=I.ok.funs.mem hf
   have ho'':s₀.heap.get? b=some o':=ho'
   rw[e] at ho''
   cases ho''
   obtain⟨sl',q'⟩:=x4 b { o with slots:=sl } (hm.keeps b _ q) hd
   exact⟨sl',q'⟩
  ·by_cases hf:b∈frs outer
   ·obtain⟨_,o',ho',hd⟩:=I.ok.funs.mem hf
    have ho'':s₀.heap.get? b=some o':=ho'
    rw[e] at ho''
    cases ho''
    obtain⟨sl,q⟩:=I.base.slot b o e (I.ok.frf b hf) hf (by intro z;cases z)
    obtain⟨sl',q'⟩:=x4 b { o with slots:=sl } (hm.keeps b _ q) hd
    exact⟨_,q'⟩
   ·obtain⟨o',q⟩:=I.base.there b o e (by intro z;cases z)
    exact⟨o',k1 b o' (hB b o' q (old b o e hf))⟩
 have hok:HOk P w H h'':=fun b o e=>(I.hok b o e).stay (fun c u hc q=>by
  refine k1 c u (hB c u q ?_)
  rcases hc with z |z
  ·rw[z];exact trk b o e
  ·exact trk c _ z) (fun _ q=>q) (fun _ _ q=>q)
 refine⟨ea,C,t,H,PySem.W.hideAll s.heap (frs (envOfC qual scope s₀.heap.objs.size f cd::outer)),rfl,hE,I.os,I.bare,un,hok,x1,fun b o e=>?_,?_,fun b o e n nf=>?_⟩
 ·obtain⟨ob,q⟩:=Ao (I.hok b o e)
  exact⟨ob,hB b ob q (trk b o e)⟩
 ·cases q:H ea with
  | none=>rfl
  | some o =>
   obtain⟨ob,z⟩:=Ao (I.hok ea o q)
   rw[hm.new] at z;cases z
 ·exact hB b o (I.base.keep b o e n nf (by intro z;cases z)) (old b o e nf)
end L2
namespace L2
open PySem PySem.Spec PyProof.Rows
structure Flown(X:Cx)(pins:List (Addr×Obj))(σ:St)(ea C t:Addr)(H:Hp)(B:Heap)(s:Shared):Prop where
 fl:Heap.FlyingW B X.stack ea (.ref C) (.ref t) s.heap
 nea:H ea=none
 inv:∀h',B.StaysIn h'->s.heap.UpToSlots h'->Inv X pins σ H { s with heap:=h' }
 new:∀b o,X.s₀.heap.get? b=some o->X.H₀ b=none->b∉X.ex->b≠ea
 pne:∀p∈X.pn++pins,p.1≠ea
theorem flown{X:Cx}{pins:List (Addr×Obj)}{σ:St}{H:Hp}{s s':Shared}{E:XK}{e:Value}(I:Inv X pins σ H s)(h:CXr X.prog X.w X.stack H s E e s')(hdm:∀C H',E C none H'->∀b o,H b=some o->∃o',H' b=some o') :
  ∃ea C t H' B,e=.ref ea/\E (.ref C) none H'/\Flown X pins σ ea C t H' B s':=by
 obtain⟨ea,C,t,H',B,e1,hE,os,bare,un,hok,fl,trk,nea,old⟩:=h
 have gen:∀b o,s.heap.get? b=some o->H b=none->b≠ea:=fun b o e n z=>by
  subst z
  by_cases hf:b∈frs X.stack
  ·obtain⟨_,o',ho',hd⟩:=I.stack.mem hf
   rw[e] at ho'
   cases ho'
   obtain⟨sl,q⟩:=un.slot b o e n hf (by intro z;cases z)
   obtain⟨oe,ws,hoe,_,hoed,_⟩:=fl.first
   rw[q] at hoe
   cases hoe
   exact hd _ hoed
  ·have z:=old b o e n hf
   rw[fl.2.1] at z
   cases z
 refine⟨ea,C,t,H',B,e1,hE,fl,nea,fun h'' kB up=>?_,fun b o e n nx=>?_,fun p hp=>gen _ _ (I.pin p hp).1 (I.pin p hp).2.1⟩
 rotate_left
 ·obtain⟨o',q⟩:=I.base.there b o e nx
  exact gen b o' q (I.base.free b o e n nx)
 have dm:=hdm _ _ hE
 have slot:∀b o,s.heap.get? b=some o->H b=none->b∈frs X.stack->∃sl,h''.get? b=some { o with slots:=sl }:=fun b o e n hf=>by
  obtain⟨sl,q⟩:=un.slot b o e n hf (by intro z;cases z)
  obtain⟨_,o',ho',hd⟩:=I.stack.mem hf
  rw[e] at ho'
  cases ho'
  obtain⟨sl',q'⟩:=up b { o with slots:=sl } q hd
  exact⟨sl',q'⟩
 have un':Un (frs X.stack) [] H H' s.heap h'':=by
  refine⟨fun b o e n nf _=>kB b o (old b o e n nf),fun b o e n hf _=>slot b o e n hf,un.free,fun b o e _=>?_,un.tups,un.frzs,un.tbls⟩
  cases q:H b with
  | none =>
   by_cases hf:b∈frs X.stack
   ·obtain⟨sl,z⟩:=slot b o e q hf
    exact⟨_,z⟩
   ·exact⟨o,kB b o (old b o e q hf)⟩
  | some u =>
   obtain⟨u',q'⟩:=dm b u q
   obtain⟨ob,z⟩:=trk b u' q'
   exact⟨ob,kB b ob z⟩
 have hok':HOk X.prog X.w H' h'':=fun b o e=>(hok b o e).stay (fun c u hc q=>by
  obtain⟨ob,z⟩:∃ob,B.get? c=some ob:=by
   rcases hc with y |y
   ·rw[y];exact trk b o e
   ·exact trk c _ y
  have z':=fl.1 c ob z
  rw[q] at z'
  cases z'
  exact kB c _ z) (fun _ q=>q) (fun _ _ q=>q)
 exact I.call' (s':={ s' with heap:=h'' }) os un' hok' bare (fun b z=>absurd z (by simp))
noncomputable abbrev Cx.mark(X:Cx)(v:Value):Cx:={ X with A:=X.A.mark (some v),calm:=false }
theorem Inv.mark{X:Cx}{pins:List (Addr×Obj)}{σ:St}{H:Hp}{s:Shared}(I:Inv X pins σ H s)(v:Value):Inv (X.mark v) pins σ H s :=
 ⟨⟨I.ok.mod,I.ok.kind,I.ok.glob,I.ok.blt,I.ok.above,I.ok.inj,I.ok.has,I.ok.cab,(fun z=>absurd z Bool.false_ne_true),I.ok.frames,I.ok.stk,I.ok.exf,I.ok.bs,I.ok.bsz,I.ok.noex,I.ok.exfs,I.ok.funs,I.ok.frf⟩,I.os,I.bare,I.base,I.loc,I.cell,I.free,I.freeC,I.pin,I.hok,I.len⟩
theorem Inv.track{X:Cx}{pins:List (Addr×Obj)}{σ:St}{H:Hp}{s:Shared}{ea:Addr}{oe:Obj}(I:Inv X pins σ H s)(ho:s.heap.get? ea=some oe)(nea:H ea=none)(neL:ea≠X.env.locals)(neC:∀y c,X.env.cells.lookup y=some c->c≠ea)
  (new:∀b o,X.s₀.heap.get? b=some o->X.H₀ b=none->b∉X.ex->b≠ea) (pne:∀p∈X.pn++pins,p.1≠ea):Inv X pins σ (upd H ea (.frz oe (.own 0))) s:=by
 have up:∀b u,H b=some u->upd H ea (.frz oe (.own 0)) b=some u:=fun b u e=>by rw[aC (aM e nea)];exact e
 refine⟨I.ok,I.os,I.bare,⟨I.base.keep,I.base.slot,fun b o e n nx=>?_,I.base.there,fun b xs e=>up _ _ (I.base.tups b xs e),fun b o u e=>up _ _ (I.base.frzs b o u e),fun b ps e=>?_⟩,I.loc,I.cell,?_,fun y c hc=>?_,fun p hp=>?_,fun b o e=>?_,I.len⟩
 ·rw[aC (new b o e n nx)];exact I.base.free b o e n nx
 ·obtain⟨m,z⟩:=I.base.tbls b ps e
  exact⟨m,up _ _ z⟩
 ·rw[aC (Ne.symm neL)];exact I.free
 ·rw[aC (neC y c hc)];exact I.freeC y c hc
 ·have z:=I.pin p hp
  refine⟨z.1,?_,z.2.2⟩
  rw[aC (pne p hp)];exact z.2.1
 ·by_cases hb:b=ea
  ·subst hb
   rw[aJ] at e
   cases e
   exact⟨ho,oe,ho⟩
  ·rw[aC hb] at e
   exact(I.hok b o e).stay (fun c u _ q=>q) (fun c q=>up _ _ q) (fun c xs q=>up _ _ q)
section
variable {X:Cx} {pins:List (Addr×Obj)} {σ:St} {ea C t:Addr} {H:Hp} {B:Heap} {s:Shared} {x n:Str} {np hpos:Pos} {cv:Value} {i:Nat} {b₀:Stmt} {suite:List Stmt} {rest:List ExceptHandler} {Q:Flow->Shared->Prop} {E:Value->Shared->Prop} {b:Bool}
theorem JW{M:Model}{h:Heap}{ob:Obj}{cls:Value}(ho:h.get? ea=some ob)(hc:ob.cls=cls):PySem.W.Looks M h (typeOf (.ref ea)) cls:=by
 rw[<-hc];exact(show PySem.W.Looks M h (typeOf (.ref ea)) ob.cls from(PySem.W.Looks.ld ho).andThen .now)
theorem Hc(F:Flown X pins σ ea C t H B s)(hs:X.stack=X.env::X.outer)(hfr:X.env.frame=some X.env.locals)(hg:Gl X x)(hm:X.mg x=some cv)(hx:PySem.W.exmOne X.K (.ref C) cv=some true)(hN:X.N.Nodup)(hi:X.N[i]? = some n)(hl:X.env.scope.names.lookup n=some .local)(hd:(x==("__debug__":Str))=false)
  (k:∀s7 oe,Inv (X.mark (.ref ea)) pins (σ.set i (some (.ref ea))) (upd H ea (.frz oe (.own 0))) s7->oe.cls=.ref C ->
   wpAny (model X.prog X.w) (X.A.mark (some (.ref ea))) (execs (b₀::suite) X.env) (fun f s3=>wpAny (model X.prog X.w) X.A (do bindName X.env n .none;unbindBehindTheSuite X.env n hpos) (fun _ s5=>Q f s5) E s3) (fun _ _=>False) s7) :
  wpAny (model X.prog X.w) X.A (noteFrame (.ref ea) X.env) (fun _ s2=>wpAny (model X.prog X.w) X.A (setFlight (.ref ea) none) (fun _ s3=>wpAny (model X.prog X.w) X.A (handleBy (.ref ea) X.env (.ExceptHandler (some (.Name x np)) (some n) (b₀::suite) hpos::rest)) Q E s3) E s2) E s:=by
 have I0:=F.inv s.heap F.fl.1 (Heap.UpToSlots.refl _)
 have fl:=F.fl
 rw[hs] at fl
 have fr:X.A.frames=some (X.env::X.outer):=by rw[<-hs];exact I0.ok.frames
 refine wpAny_looks_onW fr hfr fl fun h4 held4 up4=>?_
 refine wpAny_landsW held4 fun h5 fl5 up5=>?_
 have up45:=up4.trans up5
 have I5:=(F.inv h5 fl5.1 up45).mark (.ref ea)
 obtain⟨ob,hob,hobc⟩:=fl5.there
 refine wpAny_handleBy_cons (codeAny_handlers_test (qj I5 hg hm ?_ hd)) (by intro q;cases q)
 refine(PySem.W.exm_one I5.kIn (JW hob hobc) hx).here ?_
 refine codeAny_handlers_suite_as (lands_againW fl5 fun h6 fl6 up6=>?_)
 have I6:=(F.inv h6 fl6.1 (up45.trans up6)).mark (.ref ea)
 obtain⟨oe,ws,hoe,hoec,hoed,_⟩:=fl6.first
 refine rT (X:=X.mark (.ref ea)) (i:=i) (v:=.ref ea) I6 hN hi (.inl hl) rfl (fun s7 I7 ⟨a,sb,ha⟩=>?_) (.inr hl)
 have neL:ea≠X.env.locals:=fun z=>by
  obtain⟨m,⟨o',es,ep,ho',hd',_⟩,_⟩:=I6.loc
  have ho'':h6.get? X.env.locals=some o':=ho'
  rw[<-z,hoe] at ho''
  cases ho''
  rw[hoed] at hd'
  cases hd'
 have neC:∀y c,X.env.cells.lookup y=some c->c≠ea:=fun y c hc z=>by
  obtain⟨v,o',ho',hd'⟩:=I6.cell y c hc
  have ho'':h6.get? c=some o':=ho'
  rw[z,hoe] at ho''
  cases ho''
  rw[hoed] at hd'
  cases hd'
 have nefs:ea∉X.fs:=fun z=>by
  obtain⟨_,o',ho',hd'⟩:=I6.funs.mem z
  have ho'':h6.get? ea=some o':=ho'
  rw[hoe] at ho''
  cases ho''
  exact hd' _ hoed
 have h7:s7.heap.get? ea=some oe:=by
  rw[sb.2 ea (by
   rcases ha with z |z
   ·rw[z];exact neL
   ·exact fun q=>neC n a z q.symm)]
  exact hoe
 exact wpAny_mono (k s7 oe (I7.track h7 F.nea neL neC F.new F.pne) hoec) (fun f s3 q=>q) fun _ _ z=>z.elim
end
end L2
namespace L2
open PySem PySem.Spec PyProof.Rows
section
variable {X:Cx} {k:Nat} {f C:Addr} {fd:FuncData} {ps:List Str} {sp:Sp} {dvs:List V} {ds:List Value} {x m:Str} {p pos apos:Pos} {e o:Expr} {es:List Expr} {ta:TE} {t:TA}
noncomputable def wC(X:Cx)(σ:St)(H:Hp)(E:XK):Prop:=∀(pins:List (Addr×Obj)) (s:Shared) (e:Value) (s':Shared),Inv X pins σ H s->CXr X.prog X.w X.stack H s E e s'->X.xe e s'
theorem Oo{pins:List (Addr×Obj)}{σ:St}{H:Hp}{s:Shared}{Q:VK}{E:XK}{us:List Value}{vs:List V}(F:FnOk X.prog X.w X.K X.mg X.base (CXr X.prog X.w) k f fd ps sp)(hr:Room k X.A)(hb:Binds X.K fd ps ds)(hd:Vals dvs ds)
  (I:Inv X pins σ H s) (r:Vals vs us) (h:sp (vs++dvs) H Q E) (hx:wC X σ H E):wpAny (model X.prog X.w) X.A (call (.ref f) us) (EP X pins σ Q) X.xe s:=by
 have r2:Vals (vs++dvs) (us++ds):=r.append hd
 have hl:(us++ds).length=ps.length:=by rw[<-r2.length];exact F.len _ _ _ _ h
 refine wpAny_call (codeAny_mono (F.run X.A X.stack s H ⟨us,[]⟩ (us++ds) (vs++dvs) Q E hr I.env0 (hb s us I.kIn hl) r2 h) fun r s' hq=>?_)
 cases r with
 | error e=>exact hx pins s e s' I hq
 | ok fl=>cases fl with
  | ret u=>exact I.after hq
  | _=>exact False.elim hq
noncomputable def Hd(X:Cx)(C:Addr)(m:Str)(sp:Sp)(dvs:List V)(ta:TE)(t:TA):TE:=fun σ H Q=>ta σ H fun x H1=>∃a dx fs,x=.ref a/\H1 a=some (.ins C dx fs)/\fs.lookup m=none/\t σ H1 fun vs H2=>∃E,sp (x::(vs++dvs)) H2 Q E/\wC X σ H2 E
theorem Aq{pl:Sem Bool}(he:PE X o ta)(c:Cls X.K C)(hm:Meth X.K C m f)(F:FnOk X.prog X.w X.K X.mg X.base (CXr X.prog X.w) k f fd ps sp)(hr:Room k X.A)(hb:Binds X.K fd ps ds)(hd:Vals dvs ds)(ha:PA X (e::es) t)
  (hst:starEach (e::es) X.env=(false,eval e X.env)::starEach es X.env:=by rfl) (hpl:(backTo pos (starEach es X.env)).any (·.1)=false:=by rfl)
  (ht:eval (.Call (.Attribute o m apos) (e::es) [] pos) X.env=(do
   let ov <-eval o X.env;standAt apos.atName
   let (f,first) <-holding [ov] (getMethod ov m pl);callWith pos f first (backTo pos (starEach (e::es) X.env)) (backToKw pos (keywordEach [] X.env))):=by rfl) :
  PE X (.Call (.Attribute o m apos) (e::es) [] pos) (Hd X C m sp dvs ta t):=by
 intro pins s σ H Q I h
 refine PySem.W.methodCall_KW (pl:=pl) (thn (he pins s σ H _ I h) fun u s1 hw'=>?_) ht
 obtain⟨x,H1,I1,rx,a,dx,fs,ex,ea,l,q⟩:=hw'
 subst ex;obtain rfl:u=Value.ref a:=rx
 refine vI I1 ea c hm l ?_
 exact PySem.W.callWith_K (first:=[.ref a]) (h₀:=X.base) I.ok.mod.kin hm.kp (thn (ha pos pins s1 σ H1 _ I1 q) fun us s2 ⟨vs,H2,I2,r,E,q2,hx⟩=>⟨I2.kIn,Oo (us:=.ref a::us) (vs:=.ref a::vs) F hr hb hd I2 (.cons rfl r) q2 hx⟩) hst hpl
end
noncomputable abbrev Cx.hold(X:Cx)(pn:List (Addr×Obj))(E:Value->Shared->Prop):Cx:={ X with pn:=pn,xe:=E }
theorem Inv.hold{X:Cx}{pins:List (Addr×Obj)}{σ:St}{H:Hp}{s:Shared}(I:Inv X pins σ H s)(E:Value->Shared->Prop):Inv (X.hold (X.pn++pins) E) [] σ H s :=
 ⟨⟨I.ok.mod,I.ok.kind,I.ok.glob,I.ok.blt,I.ok.above,I.ok.inj,I.ok.has,I.ok.cab,I.ok.hd,I.ok.frames,I.ok.stk,I.ok.exf,I.ok.bs,I.ok.bsz,I.ok.noex,I.ok.exfs,I.ok.funs,I.ok.frf⟩,I.os,I.bare,I.base,I.loc,I.cell,I.free,I.freeC,fun p hp=>I.pin p (by simpa using hp),I.hok,I.len⟩
theorem Inv.unhold{X:Cx}{pins pins':List (Addr×Obj)}{σ:St}{H:Hp}{s:Shared}{E:Value->Shared->Prop}(ok:X.Ok)(I:Inv (X.hold (X.pn++pins) E) pins' σ H s):Inv X pins σ H s :=
 ⟨ok,I.os,I.bare,I.base,I.loc,I.cell,I.free,I.freeC,fun p hp=>I.pin p (List.mem_append_left _ hp),I.hok,I.len⟩
noncomputable def Ends.only(r:VK):Ends:={ nx:=fun _ _=>False,rt:=r,bk:=fun _ _=>False,ct:=fun _ _=>False }
noncomputable def Ar(X:Cx)(pins:List (Addr×Obj))(Hw:St->Addr->Hp->Prop):Value->Shared->Prop:=fun e s'=>∃σ ea C t H' B,e=.ref ea/\Flown X pins σ ea C t H' B s'/\Hw σ C H'
section
variable {X:Cx} {body:List Stmt} {x n:Str} {np hpos pos:Pos} {cv:Value} {i:Nat} {b₀:Stmt} {suite:List Stmt} {tb:List (Addr×Obj)->(Value->Shared->Prop)->TS} {th:TS}
theorem Rw(hb:∀pn E,PSs (X.hold pn E) body (tb pn E))(hh:∀(v:Value) (pn:List (Addr×Obj)),PSs ((X.mark v).hold pn fun _ _=>False) (b₀::suite) th)
  (hs:X.stack=X.env::X.outer) (hfr:X.env.frame=some X.env.locals) (hg:Gl X x) (hm:X.mg x=some cv) (hN:X.N.Nodup) (hi:X.N[i]? = some n) (hl:X.env.scope.names.lookup n=some .local) (hkn:X.env.kindOf n=some .local) (hd:(x==("__debug__":Str))=false:=by decide) :
  PS X (.Try body [.ExceptHandler (some (.Name x np)) (some n) (b₀::suite) hpos] [] [] pos) (fun D σ H=>∀pins,tb (X.pn++pins) (Ar X pins fun σ' C H'=>PySem.W.exmOne X.K (.ref C) cv=some true/\∀ea oe,H' ea=none->oe.cls=.ref C->th (Ends.only D.rt) (σ'.set i (some (.ref ea))) (upd H' ea (.frz oe (.own 0)))) (Ends.only D.rt) σ H):=by
 intro pins s σ H D I h
 have ok:=I.ok
 have sp:=hb (X.pn++pins) (Ar X pins fun σ' C H'=>PySem.W.exmOne X.K (.ref C) cv=some true/\∀ea oe,H' ea=none->oe.cls=.ref C->th (Ends.only D.rt) (σ'.set i (some (.ref ea))) (upd H' ea (.frz oe (.own 0)))) [] s σ H (Ends.only D.rt) (I.hold _) (h pins)
 refine wpAny_Try_except (wpAny_mono sp (fun fl s1 q=>?_) fun e s1 q=>?_)
 ·cases fl with
  | ret u=>obtain⟨v,σ',H',I',r,q⟩:=q;exact⟨v,σ',H',I'.unhold ok,r,q⟩
  | next=>obtain⟨_,_,_,q⟩:=q;exact q.elim
  | brk=>obtain⟨_,_,_,q⟩:=q;exact q.elim
  | cont=>obtain⟨_,_,_,q⟩:=q;exact q.elim
 ·obtain⟨σ1,ea,C,t,H',B,rfl,F,hx,q⟩:=q
  have I1:=F.inv s1.heap F.fl.1 (Heap.UpToSlots.refl _)
  have hiσ:i<σ1.length:=by rw[I1.len];exact(List.getElem?_eq_some_iff.mp hi).1
  refine Hc (i:=i) F hs hfr hg hm hx hN hi hl hd fun s7 oe I7 hoe=>?_
  refine wpAny_mono (hh (.ref ea) (X.pn++pins) [] s7 _ _ _ (I7.hold _) (q ea oe F.nea hoe)) (fun fl s3 q3=>?_) fun _ _ z=>z
  cases fl with
  | ret u =>
   obtain⟨v,σ3,H3,I3,r3,q3⟩:=q3
   obtain⟨m,hn,_⟩:=I3.loc
   refine wpAny_nameGoes hkn hn (by rw[ok.kind];rfl) fun h5 m5 hn5 sb=>?_
   have ne:∀b o,X.s₀.heap.get? b=some o->b≠X.env.locals:=fun b o e z=>by
    have:=Heap.lt_size e
    have a:=ok.above
    rw[z] at this
    exact Nat.lt_irrefl _ (Nat.lt_of_lt_of_le this a)
   have cne:=I3.cne
   have kp:∀b o,b≠X.env.locals->s3.heap.get? b=some o->h5.get? b=some o:=fun b o z e=>(sb.2 b z).trans e
   refine⟨v,List.replicate X.N.length none,H3,⟨ok,I3.os,I3.bare,⟨fun b o e n nf nx=>kp b o (ne b o e) (I3.base.keep b o e n nf nx),fun b o e n hf nx=>?_,I3.base.free,fun b o e nx=>?_,I3.base.tups,I3.base.frzs,I3.base.tbls⟩,⟨m5,hn5,fun j y w _ z=>?_⟩,fun y c hc=>?_,I3.free,I3.freeC,fun p hp=>?_,fun b o e=>?_,by simp⟩,r3,q3⟩
   ·obtain⟨sl,z⟩:=I3.base.slot b o e n hf nx
    exact⟨sl,kp b _ (ne b o e) z⟩
   ·obtain⟨o',z⟩:=I3.base.there b o e nx
    exact⟨o',kp b o' (ne b o e) z⟩
   ·rw[List.getElem?_replicate] at z
    split at z<;>cases z
   ·obtain⟨w,o,ho,hd⟩:=I3.cell y c hc
    exact⟨w,o,kp c o (cne y c hc) ho,hd⟩
   ·have z:=I3.pin p (List.mem_append_left _ hp)
    exact⟨kp _ _ z.2.2.1 z.1,z.2⟩
   ·refine(I3.hok b o e).stay (fun c u hc q=>kp c u (fun z=>?_) q) (fun _ q=>q) (fun _ _ q=>q)
    have f:=I3.free
    rcases hc with y |y
    ·rw[<-y,z] at e
     have f':H3 X.env.locals=none:=f
     rw[f'] at e;cases e
    ·rw[z] at y
     have f':H3 X.env.locals=none:=f
     rw[f'] at y;cases y
  | next=>obtain⟨_,_,_,q⟩:=q3;exact q.elim
  | brk=>obtain⟨_,_,_,q⟩:=q3;exact q.elim
  | cont=>obtain⟨_,_,_,q⟩:=q3;exact q.elim
end
end L2
namespace PySem.W
open PySem PySem.Spec PySem.Calls PyProof.Rows PySem.Builtin.ObjectAttr PySem PySem.Calls PyProof.Rows Builtin Builtin.ObjectAttr Builtin.Getset_descriptor
noncomputable def uY(h:Heap)(x D:Addr):Prop:=∃ox,h.get? x=some ox/\ox.cls=.ref D
theorem uY.type{M:Model}{h:Heap}{x D:Addr}(I:uY h x D):Looks M h (typeOf (.ref x)) (.ref D):=by
 obtain⟨ox,h1,h2⟩:=I
 exact h2 ▸ (Looks.ld h1).andThen .now
section
variable {prog:Program} {w:World} {A:Around} {E:Value->Shared->Prop} {s:Shared} {K:Frag} {x D:Addr}
theorem Er{M:Model}{Q:Unit->Shared->Prop}{tk:Tok}{y:Str}(X:K.In s.heap)(I:uY s.heap x D)(hsub:subIn K (.ref D) (.type "BaseException")=some true)(h:Q () s) :
  wpAny M A (checkBuiltinCall "BaseException.__getattribute__" ⟨[.ref x,.str y tk],[]⟩) Q E s:=by
 have hsplit:splitId "BaseException.__getattribute__" = some ("BaseException","__getattribute__"):=by decide +kernel
 have hk:builtinKind "BaseException.__getattribute__" = some .slot:=by decide +kernel
 have LI:Looks M s.heap (isInstance (.ref x) (.type "BaseException")) true:=I.type.andThen (looks_subIn X hsub)
 have ha:=F.args_bexc_ga (.ref x) (.str y tk)
 simp only[checkBuiltinCall,hk,hsplit]
 refine wpAny_bind (LI.at ?_)
 simp only[Bool.not_true,Bool.false_eq_true,if_false]
 cases hsig:Manifest.signature? "BaseException.__getattribute__" with
 | none=>exact wpAny_pure h
 | some sig =>
  simp only[argsOk,hsig] at ha
  have h2:Bind.checkArgs "BaseException.__getattribute__" sig ⟨[.ref x,.str y tk],[]⟩=pure ():=ha
  show wpAny M A (Bind.checkArgs _ sig _) Q E s
  rw[h2];exact wpAny_pure h
structure ExcLook(K:Frag)(D:Addr):Prop where
 cl:(clsIn K D).isSome=true
 ga:findIn K (.ref D) "__getattribute__" = some (some (.builtin "BaseException.__getattribute__"))
 hk:findIn K (.ref D) "__getattr__" = some none
 sub:subIn K (.ref D) (.type "BaseException")=some true
 ha:findIn K (.ref D) "__class__" = some (some (.builtin "object.__class__"))
 hn:specialIn K (.builtin "object.__class__") "__get__" = some (some (.builtin "getset_descriptor.__get__"))
 tk:takesIn K (.builtin "object.__class__")=some true
 hm:mroIn K D (.type "object")=some true
theorem ExcLook.find{M:Model}{h:Heap}(T:ExcLook K D)(X:K.In h):Looks M h (find (.ref x) (.ref D) "__class__") (.bind (.builtin "getset_descriptor.__get__") (.builtin "object.__class__")):=by
 have L1:=looks_findIn (M:=M) X T.ha
 have L2:Looks M h (getOf (some (.builtin "object.__class__"))) (some (.builtin "getset_descriptor.__get__")):=looks_specialIn X T.hn
 have L3:=looks_takesIn (M:=M) X T.tk
 unfold Builtin.ObjectAttr.find
 refine L1.andThen (L2.andThen ?_)
 have L4:Looks M h (dataDescriptor? (some (.builtin "object.__class__")) (some (.builtin "getset_descriptor.__get__"))) (some (.builtin "getset_descriptor.__get__",.builtin "object.__class__")):=L3.andThen .now
 exact L4.andThen (Looks.tag .now)
theorem Es{R:Result->Shared->Prop}{tp:Value}(X:K.In s.heap)(I:uY s.heap x D)(hm:mroIn K D (.type "object")=some true)
  (h:R (.ok (.ret (.ref D))) s):codeAny (model prog w) A (.call (.builtin "getset_descriptor.__get__") ⟨[.builtin "object.__class__",.ref x,tp],[]⟩) R s:=by
 obtain⟨hh,g,dr,t,os⟩:=s
 have L0:=I.type (M:=model prog w)
 have L1:=looks_mroIn (M:=model prog w) X hm
 refine codeAny_call_builtin KF.slot_gs.plain KF.entry_gs (KF.slot_gs.check _ _ _ _ _ _ _ _ KF.type_class (KF.args_gs _ _ _) ?_)
 unfold Builtin.«getset_descriptor.__get__» descrGet
 rw[dga_obj]
 refine wpAny_bind (wpAny_pure ?_)
 unfold descrGetter descrCheckInstance descrNameAndClass isInstance
 simp only[KF.owner_class]
 repeat lk
 refine⟨Code.quiet_builtin _ (by decide +kernel),codeAny_builtin KF.entry_class ?_⟩
 unfold Builtin.«object.__class__» shownTypeOf
 repeat lk
 exact h
theorem Hf{tk:Tok}{Q:Fin->Shared->Prop}(T:ExcLook K D)(X:K.In s.heap)(I:uY s.heap x D)(h:Q (.done (.ret (.ref D))) s) :
  wpAny (model prog w) A (Builtin.«object.__getattribute__» ⟨[.ref x,.str "__class__" tk],[]⟩) Q E s:=by
 obtain⟨hh,gg,d,t,os⟩:=s
 have L0:=I.type (M:=model prog w)
 have L1:=T.find (M:=model prog w) (x:=x) X
 unfold Builtin.«object.__getattribute__»
 repeat (first |with_reducible refine wpAny_bind (L0.at ?_) |with_reducible refine wpAny_bind (L1.at ?_) |wp_step)
 exact Es X I T.hm (wpAny_pure h)
theorem Hg{Q:Option Value->Shared->Prop}(T:ExcLook K D)(X:K.In s.heap)(I:uY s.heap x D)(h:Q (some (.ref D)) { s with toks:=s.toks+1 }):wpAny (model prog w) A (getAttr? (.ref x) "__class__") Q E s:=by
 obtain⟨hh,g,d,t,os⟩:=s
 have L0:=I.type (M:=model prog w)
 have L1:=looks_findIn (M:=model prog w) X T.ga
 have L2:=looks_findIn (M:=model prog w) X T.hk
 unfold getAttr? getAttrBy? getAttrBy
 refine wpAny_bind (wpAny_mkText (wpAny_bind (wpAny_attempt (wpAny_holding (wpAny_bind (L0.at (wpAny_bind (L1.at ?_))))))))
 show wpAny _ _ (getAttrByItsOwn _ _ _ _ _ _) _ _ _
 unfold getAttrByItsOwn hookBefore
 refine wpAny_bind (L2.at ?_)
 refine wpAny_bind (wpAny_attempt (wpAny_holding ?_))
 show wpAny _ _ (boundAndCalled _ _ _) _ _ _
 unfold boundAndCalled
 rw[F.excAttr_ValueError.ga.bind]
 refine wpAny_bind (wpAny_pure ?_)
 refine wpAny_call (codeAny_call_builtin F.excAttr_ValueError.ga.plain F.entry_bexc_ga (Er (s:=⟨hh,g,d,t+1,os⟩) X I T.sub (Hf (s:=⟨hh,g,d,t+1,os⟩) T X I ?_)))
 dsimp only
 refine handed_on rfl ?_
 exact wpAny_pure h
theorem Av(T:ExcLook K D):KitX K (.ref x) (.ref D) (fun h=>uY h x D) where
 ty:=fun _ _ _ I=>I.type
 it:=fun _ _ X _=>by
  obtain⟨cdD,hcD⟩:=Option.isSome_iff_exists.mp T.cl
  unfold clsIn at hcD
  split at hcD
  ·rename_i c' d' cd' sl' ho
   intro A' Q' E' s' k q
   unfold isType loadHead
   exact wpAny_bind (wpAny_loadPart (k _ _ (X _ _ ho)) (wpAny_pure q))
  ·cases hcD
 ne:=fun h tp dd its n sl X htp=>by
  obtain⟨cdD,hcD⟩:=Option.isSome_iff_exists.mp T.cl
  refine Bool.eq_false_iff.mpr fun q=>?_
  have e:D=tp:=Value.ref.inj (beq_iff_eq.mp q)
  subst e
  unfold clsIn at hcD
  split at hcD
  ·rename_i c' d' cd' sl' ho
   have z:=(X _ _ ho).symm.trans htp
   cases z
  ·cases hcD
 ca:=fun X I k=>Hg T X I k
end
end PySem.W
namespace DL
open PySem PySem.Spec PyProof.Rows L2
noncomputable def jd(t:Str->Option Bool)(g:Den):Den:=fun ρ Ω=>match g ρ Ω with
 | some (.obj n,Ω1)=>match Ω1[n]? with
  | some (.exc c)=>match t c with
   | some b=>some (.bl b,Ω1)
   | none=>none
  | _=>none
 | _=>none
section
variable {X:Cx} {C:Cl} {x y:Expr} {g:Den} {pos p:Pos} {n:Str} {t:Str->Option Bool}
theorem Aw{K:PySem.W.Frag}{σ:St}{H:Hp}{Q:VK}{R:VK}(hw:tD K C (jd t g) σ H Q)
  (k:∀a Ca ob u e' Ω' (c:Str) b,Wf K C e' Ω'->e'.H a=some (.frz ob u)->ob.cls=.ref Ca->C c=some Ca->t c=some b->(∀e'',Ext e' e''->Wf K C e'' Ω'->Q (.bl b) e''.H)->R (.ref a) e'.H):tD K C g σ H R:=by
 obtain⟨e,Ω,ρ,d,Ω',eH,w,rl,q,kk⟩:=hw
 unfold jd at q
 cases q1:g ρ Ω with
 | none=>rw[q1] at q;cases q
 | some p1 =>
  obtain⟨d1,Ω1⟩:=p1
  rw[q1] at q
  cases d1 with
  | obj n =>
   dsimp only at q
   cases q2:Ω1[n]? with
   | none=>rw[q2] at q;cases q
   | some o =>
    rw[q2] at q
    cases o with
    | exc c =>
     dsimp only at q
     cases q3:t c with
     | none=>rw[q3] at q;cases q
     | some b =>
      rw[q3] at q
      cases q
      refine⟨e,Ω,ρ,.obj n,_,eH,w,rl,q1,fun v e' x' w' i'=>?_⟩
      rw[Is] at i'
      obtain⟨a,ha,rfl⟩:=i'
      obtain⟨_,Ca,ob,u,h1,h2,h3⟩:=w'.ob n a (.exc c) ha q2
      exact k a Ca ob u e' _ c b w' h2 h3 h1 q3 fun e'' y w''=>kk _ e'' (x'.trans y) w'' (by rw[Is])
    | _=>cases q
  | _=>cases q
theorem sV{v:V}{cv:Value}(ha:PD X C x g)(hy:PE X y (tC v))(hv':∀u,RelV v u->u=cv)(hg:Gl X n)(hm:X.mg n=none)(hv:bootBuiltins n=some (.builtin "isinstance"))
  (hk:∀c Ca b,t c=some b->C c=some Ca->PySem.W.ExcLook X.K Ca/\PySem.W.kitOne X.K (.ref Ca) cv=some b)
  (hn:n ≠ "__name__":=by decide) (hdb:(n==("__debug__":Str))=false:=by decide)
  (he:starEach [x,y] X.env=(false,eval x X.env)::starEach [y] X.env:=by rfl) (he2:starEach [y] X.env=(false,eval y X.env)::starEach [] X.env:=by rfl) (hpl:(backTo pos (starEach [y] X.env)).any (·.1)=false:=by rfl) :
  PD X C (.Call (.Name n p) [x,y] [] pos) (jd t g):=by
 have hc:fL X (.builtin "isinstance") (fun xs H Q=>∃a Ca ob u k,xs=[.ref a,v]/\H a=some (.frz ob u)/\ob.cls=.ref Ca/\PySem.W.ExcLook X.K Ca/\PySem.W.kitOne X.K (.ref Ca) cv=some k/\Q (.bl k) H):=by
  intro pins s σ H xs us Q I r hw
  obtain⟨a,Ca,ob,u,k,rfl,h1,h2,T,e,q⟩:=hw
  obtain⟨u1,w',rfl,r1,r2⟩:=vals2 r
  obtain rfl:u1=Value.ref a:=r1
  obtain rfl:=hv' _ r2
  have ho:s.heap.get? a=some ob:=(show bI X.prog X.w H s.heap a (.frz ob u) from I.hok a _ h1).1
  exact PySem.W.kia_one (PySem.W.Av T) I.kIn ⟨ob,ho,h2⟩ e (fun z=>nomatch z) fun tk=>⟨.bl k,H,I.tok tk,rfl,q⟩
 refine aY (fZ hc hg hm hv (bF ha (bF hy cQ he2) he) hn hdb he hpl) fun σ H Q hw=>?_
 refine Aw hw fun a Ca ob u e' Ω' c b w' h1 h2 h3 h4 q=>?_
 obtain⟨T,z⟩:=hk c Ca b h4 h3
 exact⟨a,Ca,ob,u,b,rfl,h1,h2,T,z,q e' (Ext.refl _) w'⟩
theorem Oq{ys:List Expr}{tt:TA}{vs:List V}{cvs:List Value}{x1}{ypos:Pos}(ha:PD X C x g)(hy:PA X ys tt)(htt:∀σ H Q,Q vs H->tt σ H Q)(hvs:∀us,Vals vs us->us=cvs)(hlen:vs.length<=sizeLine)(hg:Gl X n)(hm:X.mg n=none)(hv:bootBuiltins n=some (.builtin "isinstance"))
  (hk:∀c Ca b,t c=some b->C c=some Ca->PySem.W.ExcLook X.K Ca/\PySem.W.kitAny X.K (.ref Ca) cvs=some b)
  (hn:n ≠ "__name__":=by decide) (hdb:(n==("__debug__":Str))=false:=by decide)
  (he:starEach [x,.Tuple ys x1 ypos] X.env=(false,eval x X.env)::starEach [.Tuple ys x1 ypos] X.env:=by rfl) (he2:starEach [.Tuple ys x1 ypos] X.env=(false,eval (.Tuple ys x1 ypos) X.env)::starEach [] X.env:=by rfl) (hpl:(backTo pos (starEach [.Tuple ys x1 ypos] X.env)).any (·.1)=false:=by rfl) :
  PD X C (.Call (.Name n p) [x,.Tuple ys x1 ypos] [] pos) (jd t g):=by
 have hc:fL X (.builtin "isinstance") (fun xs H Q=>∃a tp Ca ob u k,xs=[.ref a,.ref tp]/\H tp=some (.tup vs)/\H a=some (.frz ob u)/\ob.cls=.ref Ca/\PySem.W.ExcLook X.K Ca/\PySem.W.kitAny X.K (.ref Ca) cvs=some k/\Q (.bl k) H):=by
  intro pins s σ H xs us Q I r hw
  obtain⟨a,tp,Ca,ob,u,k,rfl,h0,h1,h2,T,e,q⟩:=hw
  obtain⟨u1,w',rfl,r1,r2⟩:=vals2 r
  obtain rfl:u1=Value.ref a:=r1
  obtain rfl:w'=Value.ref tp:=r2
  have ho:s.heap.get? a=some ob:=(show bI X.prog X.w H s.heap a (.frz ob u) from I.hok a _ h1).1
  obtain⟨_,its,ri,⟨oc,od,odt,osl⟩,g1,g2,m,g3⟩:=(show bI X.prog X.w H s.heap tp (.tup vs) from I.hok tp _ h0)
  obtain rfl:=hvs _ ri
  dsimp only at g2 g3
  subst g2 g3
  exact PySem.W.kia_tup (PySem.W.Av T) I.kIn ⟨ob,ho,h2⟩ g1 e (fun z=>nomatch z) fun tk=>⟨.bl k,H,I.tok tk,rfl,q⟩
 refine aY (fZ hc hg hm hv (bF ha (bF (zM hy) cQ he2) he) hn hdb he hpl) fun σ H Q hw=>?_
 unfold tCB zF
 refine Aw hw fun a Ca ob u e' Ω' c b w' h1 h2 h3 h4 q=>?_
 obtain⟨T,z⟩:=hk c Ca b h4 h3
 refine htt _ _ _ ⟨hlen,fun tp hp=>?_⟩
 refine⟨a,tp,Ca,ob,u,b,rfl,aJ,?_,h2,T,z,q (e'.new tp (.tup vs)) (w'.new_ext hp) (w'.new hp)⟩
 rw[aC (aM h1 hp)];exact h1
end
end DL
namespace DL
open PySem PySem.Spec PyProof.Rows L2
noncomputable abbrev sW:=List Sl->List OS->Option (Str×List OS)
noncomputable abbrev gP:=List D->List OS->Option (Str×List OS)
noncomputable abbrev cP:=List Sl->List OS->Option (Str×List Sl×List OS)
noncomputable abbrev XWt:=St->Addr->Hp->Prop
noncomputable def tR(K:PySem.W.Frag)(C:Cl)(XW:XWt)(r:sW):TE:=fun σ H _=>∃e Ω ρ c Ω' Ca,e.H=H/\Wf K C e Ω/\RelE K e σ ρ/\r ρ Ω=some (c,Ω')/\C c=some Ca/\∀e',Ext e e'->Wf K C e' Ω'->XW σ Ca e'.H
noncomputable def RD(X:Cx)(C:Cl)(XW:XWt)(x:Expr)(r:sW):Prop:=PE X x (tR X.K C XW r)
noncomputable def tRS(K:PySem.W.Frag)(C:Cl)(XW:XWt)(e₀:E4)(r:cP):TS:=fun _ σ H=>∃e Ω ρ c ρ' Ω' Ca,e.H=H/\RelS K C e₀ e Ω σ ρ/\r ρ Ω=some (c,ρ',Ω')/\C c=some Ca/\∀e' σ',RelS K C e₀ e' Ω' σ' ρ'->XW σ' Ca e'.H
noncomputable def RDS(X:Cx)(C:Cl)(XW:XWt)(st:Stmt)(r:cP):Prop:=∀e₀,PS X st (tRS X.K C XW e₀ r)
noncomputable def RDB(X:Cx)(C:Cl)(XW:XWt)(sts:List Stmt)(r:cP):Prop:=∀e₀,PSs X sts (tRS X.K C XW e₀ r)
noncomputable def dmH(H H':Hp):Prop:=∀b o,H b=some o->∃o',H' b=some o'
noncomputable def Dk(X:Cx)(XW:XWt):Prop:=∀Ca σ H,XW σ Ca H->oZ X Ca σ H
noncomputable def uq(X:Cx)(XW:XWt):Prop:=∀σ H,wC X σ H fun cv _ H'=>∃Ca,cv=.ref Ca/\XW σ Ca H'/\dmH H H'
section
variable {X:Cx} {C:Cl} {XW:XWt} {a b c x:Expr} {f g:Den} {p:bR} {st:Stmt} {rest sts sts':List Stmt} {s:aQ} {r r1 r2:cP} {rx:sW} {pos:Pos}
theorem ie(h:RDS X C XW st r):RDB X C XW [st] r:=fun e₀=>Cy (h e₀)
theorem dN(h:RDS X C XW st r):RDB X C XW (st::rest) r:=fun e₀=>n_ (uO (h e₀) (yo (sts:=rest))) fun Dn σ H hw'=>by obtain⟨e,Ω,ρ,c,ρ',Ω',Ca,eH,rl,q,hC,k⟩:=hw';exact⟨e,Ω,ρ,c,ρ',Ω',Ca,eH,rl,q,hC,k⟩
noncomputable def lN(s:aQ)(r:cP):cP:=fun ρ Ω=>match s ρ Ω with
 | some (.nx ρ1 Ω1)=>r ρ1 Ω1
 | _=>none
theorem kE(h1:PDS X C st s)(h2:RDB X C XW rest r):RDB X C XW (st::rest) (lN s r):=fun e₀=>n_ (uO (h1 e₀) (h2 e₀)) fun Dn σ H hw'=>by
 obtain⟨e,Ω,ρ,c,ρ',Ω',Ca,eH,rl,q,hC,k⟩:=hw'
 unfold lN at q
 cases q1:s ρ Ω with
 | none=>rw[q1] at q;cases q
 | some o1 =>
  rw[q1] at q
  refine⟨e,Ω,ρ,o1,eH,rl,q1,?_⟩
  cases o1 with
  | nx ρ1 Ω1=>exact fun e' σ' r'=>⟨e',Ω1,ρ1,c,ρ',Ω',Ca,rfl,r',q,hC,k⟩
  | _=>cases q
noncomputable def rOr(r1 r2:cP):cP:=fun ρ Ω=>match r1 ρ Ω with
 | some z=>some z
 | none=>r2 ρ Ω
theorem o_(h1:RDB X C XW sts r1)(h2:RDB X C XW sts r2):RDB X C XW sts (rOr r1 r2):=fun e₀ pins sh σ H D I hw'=>by
 obtain⟨e,Ω,ρ,c,ρ',Ω',Ca,eH,rl,q,hC,k⟩:=hw'
 unfold rOr at q
 cases q1:r1 ρ Ω with
 | none=>rw[q1] at q;exact h2 e₀ pins sh σ H D I ⟨e,Ω,ρ,c,ρ',Ω',Ca,eH,rl,q,hC,k⟩
 | some z=>rw[q1] at q;cases q;exact h1 e₀ pins sh σ H D I ⟨e,Ω,ρ,c,ρ',Ω',Ca,eH,rl,q1,hC,k⟩
noncomputable def ig:cP:=fun _ _=>none
theorem gQ:RDB X C XW sts ig:=fun e₀=>n_ yo fun Dn σ H hw'=>by obtain⟨e,Ω,ρ,c,ρ',Ω',Ca,eH,rl,q,hC,k⟩:=hw';cases q
noncomputable def rIf(p:bR)(s t:cP):cP:=fun ρ Ω=>match p ρ Ω with
 | some (true,Ω')=>s ρ Ω'
 | some (false,Ω')=>t ρ Ω'
 | none=>none
theorem lO(hc:PDT X C c p)(ha:RDB X C XW sts r1)(hb:RDB X C XW sts' r2):RDS X C XW (.If c sts sts' pos) (rIf p r1 r2):=fun e₀=>dC (Li hc (ha e₀) (hb e₀)) fun Dn σ H hw'=>by
 obtain⟨e,Ω,ρ,c,ρ',Ω',Ca,eH,rl,q,hC,k⟩:=hw'
 unfold rIf at q
 cases q1:p ρ Ω with
 | none=>rw[q1] at q;cases q
 | some p1 =>
  obtain⟨d,Ω1⟩:=p1
  rw[q1] at q
  refine⟨e,Ω,ρ,d,Ω1,eH,rl.wf,rl.rel,q1,fun e' x' w'=>?_⟩
  cases d with
  | true=>rw[if_pos rfl];exact⟨e',Ω1,ρ,c,ρ',Ω',Ca,rfl,rl.to x' w',q,hC,k⟩
  | false=>rw[if_neg (by decide)];exact⟨e',Ω1,ρ,c,ρ',Ω',Ca,rfl,rl.to x' w',q,hC,k⟩
noncomputable def rE(rx:sW):cP:=fun ρ Ω=>match rx ρ Ω with
 | some (c,Ω')=>some (c,ρ,Ω')
 | none=>none
theorem Dl{K:PySem.W.Frag}{e₀:E4}{σ:St}{H:Hp}{Dn:Ends}{Q:VK}(hw:tRS K C XW e₀ (rE rx) Dn σ H):tR K C XW rx σ H Q:=by
 obtain⟨e,Ω,ρ,c,ρ',Ω',Ca,eH,rl,q,hC,k⟩:=hw
 unfold rE at q
 cases q1:rx ρ Ω with
 | none=>rw[q1] at q;cases q
 | some p1 =>
  obtain⟨c1,Ω1⟩:=p1
  rw[q1] at q
  cases q
  exact⟨e,Ω,ρ,_,_,Ca,eH,rl.wf,rl.rel,q1,hC,fun e' x' w'=>k e' σ (rl.to x' w')⟩
theorem oE(h:RD X C XW x rx):RDS X C XW (.Return (some x) pos) (rE rx):=fun e₀=>dC (FN h) fun Dn σ H hw=>Dl hw
theorem mF(h:RD X C XW x rx)(hs:swapsWith x none pos.line X.env=pure false:=by rfl):RDS X C XW (.Expr x pos) (rE rx):=fun e₀=>dC (tQ h hs) fun Dn σ H hw=>Dl hw
end
end DL
namespace DL
open PySem PySem.Spec PyProof.Rows L2
noncomputable def spX(K:PySem.W.Frag)(C:Cl)(F:bG)(R:gP):Sp:=fun vs H Q E=>spD K C F vs H Q E\/∃e Ω ds c Ω' Ca,e.H=H/\Wf K C e Ω/\IsL K e.α e.F ds vs/\R ds Ω=some (c,Ω')/\C c=some Ca/\∀e',Ext e e'->Wf K C e' Ω'->E (.ref Ca) none e'.H
noncomputable def mG(n m:Nat)(r:cP):gP:=fun ds Ω=>if ds.length=n then match r (ds.map Sl.dat++List.replicate (m-n) Sl.und) Ω with
 | some (c,_,Ω')=>some (c,Ω')
 | none=>none
 else none
theorem mQ{P:Program}{w:World}{K:PySem.W.Frag}{mg:Str->Option Value}{base:Heap}{N:List Str}{qual:Str}{scope:Scope}{f:Addr}{cd:Value}{A:Around}{outer:List Env}{s₀:Shared}{H₀:Hp}{E:XK} :
  Dk (bJ (CXr P w) P w K mg base N qual scope f cd A outer s₀ H₀ E) fun _ Ca H'=>E (.ref Ca) none H':=fun Ca σ H h=>zg h
theorem pO{P:Program}{w:World}{K:PySem.W.Frag}{mg:Str->Option Value}{base:Heap}{C:Cl}{x qual:Str}{st:Stmt}{dV:Value}{f:Addr}{fd:FuncData}{N ps:List Str}{k n m:Nat}{s:aQ}{r:cP}(F:FunV K x qual st dV f fd)(S:FnScope N ps (aB st))(hn:ps.length=n)(hm:N.length=m)
  (hbody:∀(cdv:Value) (A:Around) (outer:List Env) (sh:Shared) (H:Hp) (E:XK),Room k (A.deeper (envOfC qual (aB st) sh.heap.objs.size f cdv)) ->
   PDB (bJ (CXr P w) P w K mg base N qual (aB st) f cdv A outer sh H E).nox C (bh st) s)
  (hout:∀(cdv:Value) (A:Around) (outer:List Env) (sh:Shared) (H:Hp) (E:XK),Room k (A.deeper (envOfC qual (aB st) sh.heap.objs.size f cdv)) ->
   RDB (bJ (CXr P w) P w K mg base N qual (aB st) f cdv A outer sh H E) C (fun _ Ca H'=>E (.ref Ca) none H') (bh st) r):FnOk P w K mg base (CXr P w) (k+1) f fd ps (spX K C (cz n m s) (mG n m r)):=by
 obtain⟨oc,od,kV,doc,pm,an,cdv,ct,osl,rfl,lk,hcd⟩:=F
 refine Ec lk hcd S (fun vs H Q E h=>?_) fun A outer sh H vs Q E hr h=>?_
 ·rcases h with⟨e,Ω,ds,d,Ω',_,_,i,q,_⟩ |⟨e,Ω,ds,c,Ω',Ca,_,_,i,q,_⟩
  ·unfold cz at q
   by_cases hl:ds.length=n
   ·rw[<-i.length,hl,hn]
   ·rw[if_neg hl] at q;cases q
  ·unfold mG at q
   by_cases hl:ds.length=n
   ·rw[<-i.length,hl,hn]
   ·rw[if_neg hl] at q;cases q
 ·rcases h with⟨e,Ω,ds,d,Ω',eH,wf,i,q,kk⟩ |⟨e,Ω,ds,c,Ω',Ca,eH,wf,i,q,hC,kk⟩
  ·unfold cz at q
   by_cases hl:ds.length=n
   ·rw[if_pos hl] at q
    cases q1:s (ds.map Sl.dat++List.replicate (m-n) Sl.und) Ω with
    | none=>rw[q1] at q;cases q
    | some o =>
     rw[q1] at q
     refine⟨_,(hbody cdv A outer sh H E hr e).nox,e,Ω,_,o,eH,pL wf i,by rw[hl,hm];exact q1,?_⟩
     cases o with
     | rt d' Ω2=>cases q;exact fun e' v x' w' i'=>kk v e' x' w' i'
     | nx ρ' Ω2=>cases q;exact fun e' σ' r'=>kk .non e' r'.ext r'.wf (by rw[Is])
     | bk ρ' Ω2=>cases q
     | ct ρ' Ω2=>cases q
   ·rw[if_neg hl] at q;cases q
  ·unfold mG at q
   by_cases hl:ds.length=n
   ·rw[if_pos hl] at q
    cases q1:r (ds.map Sl.dat++List.replicate (m-n) Sl.und) Ω with
    | none=>rw[q1] at q;cases q
    | some p1 =>
     obtain⟨c1,ρ1,Ω1⟩:=p1
     rw[q1] at q
     cases q
     exact⟨_,hout cdv A outer sh H E hr e,e,Ω,_,_,ρ1,_,Ca,eH,pL wf i,by rw[hl,hm];exact q1,hC,fun e' σ' r'=>kk e' r'.ext r'.wf⟩
   ·rw[if_neg hl] at q;cases q
structure MtX(P:Program)(w:World)(K:PySem.W.Frag)(mg:Str->Option Value)(base:Heap)(C:Cl)(k:Nat)(c m:Str)(F:bG)(R:gP)(dfl:List D):Prop where
 ex:∃Ca f fd ps ds dvs,C c=some Ca/\Cls K Ca/\Meth K Ca m f/\Binds K fd ps ds/\Vals dvs ds/\(∀α H,IsL K α H dfl dvs)/\FnOk P w K mg base (CXr P w) k f fd ps (spX K C F R)
theorem Ot{K:PySem.W.Frag}{C:Cl}{g:Den}{σ:St}{H:Hp}{Q Q':VK}(h:tD K C g σ H Q)(i:∀v H',Q v H'->Q' v H'):tD K C g σ H Q':=by
 obtain⟨e,Ω,ρ,d,Ω',eH,w,rl,q,kk⟩:=h
 exact⟨e,Ω,ρ,d,Ω',eH,w,rl,q,fun v e' x' w' i'=>i _ _ (kk v e' x' w' i')⟩
theorem JX{K:PySem.W.Frag}{C:Cl}{g:bx}{σ:St}{H:Hp}{Q Q':List V->Hp->Prop}(h:tDA K C g σ H Q)(i:∀v H',Q v H'->Q' v H'):tDA K C g σ H Q':=by
 obtain⟨e,Ω,ρ,d,Ω',eH,w,rl,q,kk⟩:=h
 exact⟨e,Ω,ρ,d,Ω',eH,w,rl,q,fun v e' x' w' i'=>i _ _ (kk v e' x' w' i')⟩
theorem Et{X:Cx}{σ:St}{H:Hp}:wC X σ H fun _ _ _=>False:=fun pins s e s' I hw'=>by obtain⟨ea,C,t,H',B,_,z,_⟩:=hw';exact z.elim
noncomputable def gF(c m:Str)(R:gP)(dfl:List D)(go:Den)(ga:bx):sW:=fun ρ Ω=>match go ρ Ω with
 | some (.obj n,Ω1)=>(match Ω1[n]? with
  | some (.ins c' fs)=>if c'=c then(match fs.lookup m with
   | none=>(match ga ρ Ω1 with |some (ds,Ω2)=>R (.obj n::(ds++dfl)) Ω2 |none=>none)
   | some _=>none) else none
  | _=>none)
 | _=>none
section
variable {X:Cx} {C:Cl} {XW:XWt} {a b x:Expr} {f g:Den} {ga:bx} {r:sW} {pos ap cp:Pos}
theorem Eu{K:PySem.W.Frag}{c m:Str}{F:bG}{R:gP}{dfl:List D}{dvs:List V}{Ca:Addr}(hX:uq X XW)(hC:C c=some Ca)(hd:∀α H,IsL K α H dfl dvs){σ:St}{H:Hp}{Q:VK}(hw:tR K C XW (gF c m R dfl f ga) σ H Q) :
  Hd X Ca m (spX K C F R) dvs (tD K C f) (tDA K C ga) σ H Q:=by
 obtain⟨e,Ω,ρ,xc,Ω',Xa,eH,w,rl,q,hXa,kk⟩:=hw
 unfold gF at q
 cases q1:f ρ Ω with
 | none=>rw[q1] at q;cases q
 | some p1 =>
  obtain⟨d1,Ω1⟩:=p1
  rw[q1] at q
  cases d1 with
  | obj n =>
   dsimp only at q
   cases q0:Ω1[n]? with
   | none=>rw[q0] at q;cases q
   | some o0 =>
    rw[q0] at q
    refine⟨e,Ω,ρ,_,Ω1,eH,w,rl,q1,fun v e1 x1 w1 i1=>?_⟩
    rw[Is] at i1
    obtain⟨p,hα,rfl⟩:=i1
    have ob:=(w1.ob n p _ hα q0).2
    cases o0 with
    | ins c' fs =>
     dsimp only at q
     by_cases ec:c'=c
     ·rw[if_pos ec] at q
      subst ec
      cases q2:fs.lookup m with
      | some v0=>rw[q2] at q;cases q
      | none =>
       rw[q2] at q
       dsimp only at q
       cases q3:ga ρ Ω1 with
       | none=>rw[q3] at q;cases q
       | some p3 =>
        obtain⟨ds,Ω2⟩:=p3
        rw[q3] at q
        obtain⟨Cb,dx,fvs,h1,h2,h3⟩:=ob
        rw[hC] at h1
        cases h1
        have ov:=h3.look m
        rw[q2] at ov
        have e2:fvs.lookup m=none:=by
         cases z:fvs.lookup m with
         | none=>rfl
         | some v=>rw[z] at ov;exact ov.elim
        refine⟨p,dx,fvs,rfl,h2,e2,e1,Ω1,ρ,ds,Ω2,rfl,w1,rl.ext x1,q3,fun vs e3 x3 w3 i3=>?_⟩
        refine⟨_,.inr ⟨e3,Ω2,_,xc,Ω',Xa,rfl,w3,.cons (by rw[Is];exact⟨p,ou (K:=K) x3 hα,rfl⟩) (i3.append (hd _ _)),q,hXa,fun e4 x4 w4=>?_⟩,hX σ e3.H⟩
        exact⟨Xa,rfl,kk e4 ((x1.trans x3).trans x4) w4,x4.dm⟩
     ·rw[if_neg ec] at q;cases q
    | _=>cases q
  | _=>cases q
theorem gJ{k:Nat}{c m:Str}{F:bG}{R:gP}{dfl:List D}{es:List Expr}{pl:Sem Bool}(hX:uq X XW)(G:MtX X.prog X.w X.K X.mg X.base C k c m F R dfl)(hr:Room k X.A)(ho:PD X C a f)(ha:PDA X C (x::es) ga)
  (hst:starEach (x::es) X.env=(false,eval x X.env)::starEach es X.env:=by rfl) (hpl:(backTo cp (starEach es X.env)).any (·.1)=false:=by rfl)
  (ht:eval (.Call (.Attribute a m ap) (x::es) [] cp) X.env=(do
   let ov <-eval a X.env
   standAt ap.atName
   let (f,first) <-holding [ov] (getMethod ov m pl)
   callWith cp f first (backTo cp (starEach (x::es) X.env)) (backToKw cp (keywordEach [] X.env))):=by rfl) :
  RD X C XW (.Call (.Attribute a m ap) (x::es) [] cp) (gF c m R dfl f ga):=by
 obtain⟨Ca,fa,fd,ps,ds,dvs,hC,cl,me,hb,hd,hdd,ok⟩:=G.ex
 exact aY (Aq ho cl me ok hr hb hd ha hst hpl ht) fun _ _ _ hw=>Eu hX hC hdd hw
theorem bW{k:Nat}{c m:Str}{F:bG}{R:gP}{dfl:List D}{es:List Expr}{pl:Sem Bool}(G:MtX X.prog X.w X.K X.mg X.base C k c m F R dfl)(hr:Room k X.A)(ho:PD X C a f)(ha:PDA X C (x::es) ga)
  (hst:starEach (x::es) X.env=(false,eval x X.env)::starEach es X.env:=by rfl) (hpl:(backTo cp (starEach es X.env)).any (·.1)=false:=by rfl)
  (ht:eval (.Call (.Attribute a m ap) (x::es) [] cp) X.env=(do
   let ov <-eval a X.env
   standAt ap.atName
   let (f,first) <-holding [ov] (getMethod ov m pl)
   callWith cp f first (backTo cp (starEach (x::es) X.env)) (backToKw cp (keywordEach [] X.env))):=by rfl) :
  PD X C (.Call (.Attribute a m ap) (x::es) [] cp) (bT c m F dfl f ga):=by
 obtain⟨Ca,fa,fd,ps,ds,dvs,hC,cl,me,hb,hd,hdd,ok⟩:=G.ex
 exact aY (Aq ho cl me ok hr hb hd ha hst hpl ht) fun _ _ _ hw=>Ot (yL (E:=fun _ _ _=>False) hC hdd hw) fun v H1 ⟨a,dx,fs,h1,h2,h3,z⟩=>⟨a,dx,fs,h1,h2,h3,JX z fun vs H2 z2=>⟨_,.inl z2,Et⟩⟩
end
end DL
namespace L2
open PySem PySem.Spec PyProof.Rows
theorem Cx.Ok.unhold{X:Cx}{pn:List (Addr×Obj)}{E:Value->Shared->Prop}(h:(X.hold pn E).Ok):X.Ok :=
 ⟨h.mod,h.kind,h.glob,h.blt,h.above,h.inj,h.has,h.cab,h.hd,h.frames,h.stk,h.exf,h.bs,h.bsz,h.noex,h.exfs,h.funs,h.frf⟩
end L2
namespace DL
open PySem PySem.Spec PyProof.Rows L2
theorem Hh{X:Cx}{pins:List (Addr×Obj)}{Hw:XWt}:uq (X.hold (X.pn++pins) (Ar X pins Hw)) Hw:=fun σ H pins' s e s' I h=>by
 have I':Inv X pins σ H s:=I.unhold I.ok.unhold
 obtain⟨ea,Cc,t,H',B,rfl,⟨Ca,hc,hw,_⟩,F⟩:=flown I' h fun Cv H' ⟨Ca,_,_,dm⟩=>dm
 cases hc
 exact⟨σ,ea,_,t,H',B,rfl,F,hw⟩
noncomputable def uZ(s:aQ)(r:cP)(i:Nat)(tc:Str->Bool)(t:aQ):aQ:=fun ρ Ω=>match s ρ Ω with
 | some (.rt d Ω')=>some (.rt d Ω')
 | some _=>none
 | none=>match r ρ Ω with
  | some (c,ρ1,Ω1)=>if tc c=true then match t (ρ1.set i (.dat (.obj Ω1.length))) (Ω1++[.exc c]) with
    | some (.rt d Ω')=>some (.rt d Ω')
    | _=>none
   else none
  | none=>none
section
variable {X:Cx} {C:Cl} {body:List Stmt} {x n:Str} {np hpos pos:Pos} {cv:Value} {i:Nat} {b₀:Stmt} {suite:List Stmt} {s t:aQ} {r:cP} {tc:Str->Bool}
theorem Ou(hb:∀pn E,PDB (X.hold pn E) C body s)(hr:∀pn E XW,uq (X.hold pn E) XW->RDB (X.hold pn E) C XW body r)(ht:∀v pn,PDB ((X.mark v).hold pn fun _ _=>False) C (b₀::suite) t)
  (htc:∀c,tc c=true->∃Ca,C c=some Ca/\PySem.W.exmOne X.K (.ref Ca) cv=some true)
  (hs:X.stack=X.env::X.outer) (hfr:X.env.frame=some X.env.locals) (hg:Gl X x) (hm:X.mg x=some cv) (hN:X.N.Nodup) (hi:X.N[i]? = some n) (hl:X.env.scope.names.lookup n=some .local) (hkn:X.env.kindOf n=some .local) (hd:(x==("__debug__":Str))=false:=by decide) :
  PDS X C (.Try body [.ExceptHandler (some (.Name x np)) (some n) (b₀::suite) hpos] [] [] pos) (uZ s r i tc t):=fun e₀ =>
 dC (Rw (tb:=fun pn E Dn σ H=>tDS X.K C e₀ s Dn σ H\/∃XW,uq (X.hold pn E) XW/\tRS X.K C XW e₀ r Dn σ H) (th:=tDS X.K C e₀ t)
  (fun pn E pins sh σ H D I h=>h.elim (fun z=>hb pn E e₀ pins sh σ H D I z) fun⟨XW,hX,z⟩=>hr pn E XW hX e₀ pins sh σ H D I z) (fun v pn=>ht v pn e₀) hs hfr hg hm hN hi hl hkn hd) fun Dn σ H hw' pins=>by
  obtain⟨e,Ω,ρ,o,eH,rl,q,k⟩:=hw'
  unfold uZ at q
  cases q1:s ρ Ω with
  | some o1 =>
   rw[q1] at q
   cases o1 with
   | rt d Ω'=>cases q;exact .inl ⟨e,Ω,ρ,_,eH,rl,q1,k⟩
   | _=>cases q
  | none =>
   rw[q1] at q
   dsimp only at q
   cases q2:r ρ Ω with
   | none=>rw[q2] at q;cases q
   | some p2 =>
    obtain⟨c,ρ1,Ω1⟩:=p2
    rw[q2] at q
    dsimp only at q
    by_cases hc:tc c=true
    ·rw[if_pos hc] at q
     obtain⟨Ca,hC,hx⟩:=htc c hc
     refine .inr ⟨_,Hh,e,Ω,ρ,c,ρ1,Ω1,Ca,eH,rl,q2,hC,fun e' σ' r'=>⟨hx,fun ea oe hn ho=>?_⟩⟩
     obtain⟨w',x'⟩:=r'.wf.obj (H':=upd e'.H ea (.frz oe (.own 0))) (o:=.exc c) hn (fun b u hb=>by rw[aC (aM hb hn)];exact hb) (by rw[aJ];exact⟨by simp,fun xs z=>nomatch z⟩) ⟨Ca,oe,_,hC,aJ,ho⟩
     have r2:=(r'.to x' w').set i (d:=.obj Ω1.length) (v:=.ref ea) (by
      rw[Is]
      exact⟨ea,by show(e'.α++[ea])[Ω1.length]? = some ea;rw[<-r'.wf.ol];simp,rfl⟩)
     cases q3:t (ρ1.set i (.dat (.obj Ω1.length))) (Ω1++[.exc c]) with
     | none=>rw[q3] at q;cases q
     | some o3 =>
      rw[q3] at q
      cases o3 with
      | rt d Ω'=>cases q;exact⟨_,_,_,_,rfl,r2,q3,k⟩
      | _=>cases q
    ·rw[if_neg hc] at q;cases q
end
end DL
namespace DL
open PySem PySem.Spec PyProof.Rows L2
noncomputable abbrev u_:=List Sl->List OS->Option (List OS)
noncomputable def tV(K:PySem.W.Frag)(C:Cl)(p:u_):TE:=fun σ H Q=>∃e Ω ρ Ω',e.H=H/\Wf K C e Ω/\RelE K e σ ρ/\p ρ Ω=some Ω'/\∀v e',Ext e e'->Wf K C e' Ω'->Q v e'.H
noncomputable def PV(X:Cx)(C:Cl)(x:Expr)(p:u_):Prop:=PE X x (tV X.K C p)
section
variable {X:Cx} {C:Cl} {XW:XWt} {a x:Expr} {f g:Den} {p:u_} {pos p1 p2:Pos}
noncomputable def bH(i:Int):Prop:=i.natAbs.log2<1920/\(Str.ofString (toString i)).length<=1000
noncomputable instance (i:Int):Decidable (bH i):=by unfold bH;infer_instance
noncomputable def mH(c:Str)(p:u_):cP:=fun ρ Ω=>match p ρ Ω with
 | some Ω'=>some (c,ρ,Ω')
 | none=>none
theorem nU{cn:Str}{Ca:Addr}{bmB:List Value}{B newId initId:String}{np cpos:Pos}(hX:Dk X XW)(hC:C cn=some Ca)(O:OwnCls cn Ca bmB newId X.mg X.base)(FB:ExcBaseFacts B newId initId bmB)(hh:X.A.handled=none)(hg:Gl X cn)(ha:PV X C x p)
  (he:starEach [x] X.env=(false,eval x X.env)::starEach [] X.env:=by rfl) (hpl:(backTo cpos (starEach [x] X.env)).any (·.1)=false:=by rfl)
  (hd:(cn==("__debug__":Str))=false:=by decide):RDS X C XW (.Raise (some (.Call (.Name cn np) [x] [] cpos)) none pos) (mH cn p):=fun e₀ =>
 dC (JV O FB hh hg ha (fun {σ H} hv=>by
   obtain⟨e,Ω,ρ,Ω',eH,w,rl,q,k⟩:=hv
   exact⟨e,Ω,ρ,Ω',eH,w,rl,q,fun v e' x' w'=>⟨rfl,k v e' x' w'⟩⟩) he hpl hd) fun Dn σ H hw'=>by
  obtain⟨e,Ω,ρ,c,ρ',Ω',Cb,eH,rl,q,hCb,k⟩:=hw'
  unfold mH at q
  cases q1:p ρ Ω with
  | none=>rw[q1] at q;cases q
  | some Ω1 =>
   rw[q1] at q
   cases q
   rw[hC] at hCb
   cases hCb
   exact⟨e,Ω,ρ,_,eH,rl.wf,rl.rel,q1,fun v e' x' w'=>hX Ca σ _ (k e' σ (rl.to x' w'))⟩
end
end DL
namespace L2
open PySem PySem.Spec PyProof.Rows
section
variable {K:PySem.W.Frag} {h:Heap} {bmB:List Value} {newId:String} {mg:Str->Option Value} {x:Str}
noncomputable def rB(K:PySem.W.Frag)(N:Addr):Bool:=match K.lookup N with
 | some o=>(match o.data with
  | .dict es _=>es.all (fun e=>match e.key with |.str _ _=>true |_=>false) && (nsFind es "__init__").isNone
  | _=>false)
 | none=>false
theorem LQ{N:Addr}(X:K.In h)(q:rB K N=true):∃mN,h.Ns N mN/\mN "__init__" = none:=by
 unfold rB at q
 split at q
 ·rename_i o ho
  split at q
  ·rename_i es ep hd
   rw[Bool.and_eq_true] at q
   refine⟨h.nsMap N,.of_isNs ?_,?_⟩
   ·unfold Heap.isNs;rw[X _ _ ho];simp only[hd];exact q.1
   ·unfold Heap.nsMap;rw[X _ _ ho];simp only[hd];exact Option.isNone_iff_eq_none.mp q.2
  ·cases q
 ·cases q
noncomputable def tailIn(K:PySem.W.Frag)(bmB:List Value):List Value->Bool
 | []=>bmB==[]
 | v::tl=>(bmB==v::tl) || (match v with
  | .ref A=>(match K.lookup A with |some o=>(match o.data with |.cls cd=>rB K cd.ns && tailIn K bmB tl |_=>false) |none=>false)
  | _=>false)
theorem Dm(X:K.In h):∀{tl:List Value},tailIn K bmB tl=true->OwnTail h bmB tl
 | [],q=>by
  unfold tailIn at q
  rw[beq_iff_eq] at q
  rw[<-q];exact .base
 | v::tl,q=>by
  unfold tailIn at q
  rw[Bool.or_eq_true] at q
  rcases q with q |q
  ·rw[beq_iff_eq] at q
   rw[<-q];exact .base
  ·split at q
   ·split at q
    ·rename_i o ho
     obtain⟨oc,dd,data,sl⟩:=o
     dsimp only at q
     split at q
     ·rw[Bool.and_eq_true] at q
      obtain⟨mA,h1,h2⟩:=LQ X q.1
      exact .own (X _ _ ho) h1 h2 (Dm X q.2)
     ·cases q
    ·cases q
   ·cases q
noncomputable def Ew(l:List (Option Value)):Option Value:=if l.length=6 then(l.getD 4 none) else none
theorem JZ{l:List (Option Value)}{v:Value}(h:Ew l=some v):∃k0 k1 k2 k3 k5,l=[k0,k1,k2,k3,some v,k5]:=by
 unfold Ew at h
 by_cases q:l.length=6
 ·rw[if_pos q] at h
  obtain _ |⟨a,l⟩:=l
  ·cases q
  obtain _ |⟨b,l⟩:=l
  ·cases q
  obtain _ |⟨c,l⟩:=l
  ·cases q
  obtain _ |⟨d,l⟩:=l
  ·cases q
  obtain _ |⟨e,l⟩:=l
  ·cases q
  obtain _ |⟨f,l⟩:=l
  ·cases q
  obtain _ |⟨g,l⟩:=l
  ·exact⟨a,b,c,d,f,congrArg (fun z=>[a,b,c,d,z,f]) h⟩
  ·cases q
 ·rw[if_neg q] at h;cases h
noncomputable def ownIn(K:PySem.W.Frag)(C:Addr)(bmB:List Value)(newId:String):Bool:=match K.lookup C with
 | none=>false
 | some o=>(match o.data with
  | .cls cd=>(match cd.mro with
   | []=>false
   | v::bm=>o.cls == .type "type" && v == .ref C && Ew o.slots.toList==some (.builtin newId) && !cd.hasDel && rB K cd.ns && tailIn K bmB bm)
  | _=>false)
theorem wD{C:Addr}(X:K.In h)(q:ownIn K C bmB newId=true)(hm:mg x=some (.ref C)):OwnCls x C bmB newId mg h:=by
 unfold ownIn at q
 split at q
 ·cases q
 ·rename_i o ho
  obtain⟨oc,dd,data,sl⟩:=o
  dsimp only at q
  split at q
  ·rename_i cd
   obtain⟨nm,bs,mro,ns,qn,hd,sn,sub,ab,col,del⟩:=cd
   dsimp only at q
   cases mro with
   | nil=>cases q
   | cons v bm =>
    simp only[Bool.and_eq_true,beq_iff_eq,Bool.not_eq_true'] at q
    obtain⟨⟨⟨⟨⟨rfl,rfl⟩,hs⟩,hdel⟩,hn⟩,ht⟩:=q
    obtain⟨mN,h1,h2⟩:=LQ X hn
    obtain⟨k0,k1,k2,k3,k5,hs⟩:=JZ hs
    subst hdel
    have hsl:sl = #[k0,k1,k2,k3,some (.builtin newId),k5]:=by
     obtain⟨l⟩:=sl
     simp only at hs
     rw[hs]
    subst hsl
    exact⟨hm,bm,ns,nm,qn,bs,hd,sn,sub,ab,col,dd,k0,k1,k2,k3,k5,mN,X _ _ ho,h1,h2,Dm X ht⟩
  ·cases q
end
end L2
namespace L2
open PySem PySem.Spec PyProof.Rows
theorem Ov{X:Cx}{pins:List (Addr×Obj)}{σ:St}{H H':Hp}{s s':Shared}{ea C t:Addr}{B h'':Heap}(I:Inv X pins σ H s)(os:s'.os=s.os)(bare:AllBare s'.gens)(un:Un (frs X.stack) [] H H' s.heap s'.heap)(hok:HOk X.prog X.w H' s'.heap)
  (fl:Heap.FlyingW B X.stack ea (.ref C) (.ref t) s'.heap) (trk:∀b o,H' b=some o->∃ob,B.get? b=some ob) (old:∀b o,s.heap.get? b=some o->H b=none->b∉frs X.stack->B.get? b=some o) (dm:∀b o,H b=some o->∃o',H' b=some o')
  (kB:B.StaysIn h'') (up:s'.heap.UpToSlots h''):Inv X pins σ H' { s' with heap:=h'' }:=by
 have slot:∀b o,s.heap.get? b=some o->H b=none->b∈frs X.stack->∃sl,h''.get? b=some { o with slots:=sl }:=fun b o e n hf=>by
  obtain⟨sl,q⟩:=un.slot b o e n hf (by intro z;cases z)
  obtain⟨_,o',ho',hd⟩:=I.stack.mem hf
  rw[e] at ho'
  cases ho'
  obtain⟨sl',q'⟩:=up b { o with slots:=sl } q hd
  exact⟨sl',q'⟩
 have un':Un (frs X.stack) [] H H' s.heap h'':=by
  refine⟨fun b o e n nf _=>kB b o (old b o e n nf),fun b o e n hf _=>slot b o e n hf,un.free,fun b o e _=>?_,un.tups,un.frzs,un.tbls⟩
  cases q:H b with
  | none =>
   by_cases hf:b∈frs X.stack
   ·obtain⟨sl,z⟩:=slot b o e q hf
    exact⟨_,z⟩
   ·exact⟨o,kB b o (old b o e q hf)⟩
  | some u =>
   obtain⟨u',q'⟩:=dm b u q
   obtain⟨ob,z⟩:=trk b u' q'
   exact⟨ob,kB b ob z⟩
 have hok':HOk X.prog X.w H' h'':=fun b o e=>(hok b o e).stay (fun c u hc q=>by
  obtain⟨ob,z⟩:∃ob,B.get? c=some ob:=by
   rcases hc with y |y
   ·rw[y];exact trk b o e
   ·exact trk c _ y
  have z':=fl.1 c ob z
  rw[q] at z'
  cases z'
  exact kB c _ z) (fun _ q=>q) (fun _ _ q=>q)
 exact I.call' (s':={ s' with heap:=h'' }) os un' hok' bare (fun b z=>absurd z (by simp))
theorem Ax{P:Program}{w:World}{K:PySem.W.Frag}{mg:Str->Option Value}{base:Heap}{N:List Str}{qual:Str}{scope:Scope}{f:Addr}{cd:Value}{A:Around}{outer:List Env}{s₀:Shared}{H₀ H:Hp}{E E':XK}{σ:St}
  (hE:∀C H',E' (.ref C) none H'->E (.ref C) none H'/\∀b o,H b=some o->∃o',H' b=some o') (hE2:∀C H',E' C none H'->∃Ca,C=.ref Ca):wC (bJ (CXr P w) P w K mg base N qual scope f cd A outer s₀ H₀ E) σ H E':=by
 intro pins s e s' I h
 have sub:∀b∈frs (envOfC qual scope s₀.heap.objs.size f cd::outer),b=s₀.heap.objs.size\/b∈frs outer:=fun b hb=>List.mem_cons.mp (I.stkSub b hb)
 have old0:∀b o,s₀.heap.get? b=some o->b∉frs outer->b∉frs (envOfC qual scope s₀.heap.objs.size f cd::outer):=fun b o e n hb=>by
  rcases sub b hb with z |z
  ·exact absurd (Heap.lt_size e) (by rw[z];exact Nat.lt_irrefl _)
  ·exact n z
 have hdm:∀C H',E' C none H'->∀b o,H b=some o->∃o',H' b=some o':=fun C H' z=>by
  obtain⟨Ca,rfl⟩:=hE2 C H' z
  exact(hE Ca H' z).2
 obtain⟨ea,C,t,H',B,e1,hE',os,bare,un,hok,fl,trk,nea,old⟩:=id h
 subst e1
 have dm:=hdm _ _ hE'
 refine wpAny_leaves_onW (base:=B) (env:=envOfC qual scope s₀.heap.objs.size f cd) (outer:=outer) (L:=s₀.heap.objs.size) I.ok.frames rfl fl fun h'' fl'' up=>?_
 have I'':Inv (bJ (CXr P w) P w K mg base N qual scope f cd A outer s₀ H₀ E) pins σ H' { s' with heap:=h'' } :=
  Ov I os bare un hok fl trk old dm fl''.1 up
 refine⟨ea,C,t,H',B,rfl,(hE C H' hE').1,I''.os,I''.bare,I''.base,I''.hok,fl'',trk,nea,fun b o e n nf=>?_⟩
 exact old b o (I.base.keep b o e n nf (by intro z;cases z)) (I.base.free b o e n (by intro z;cases z)) (old0 b o e nf)
end L2
namespace DL
open PySem PySem.Spec PyProof.Rows L2
theorem lg{P:Program}{w:World}{K:PySem.W.Frag}{mg:Str->Option Value}{base:Heap}{N:List Str}{qual:Str}{scope:Scope}{f:Addr}{cd:Value}{A:Around}{outer:List Env}{s₀:Shared}{H₀:Hp}{E:XK} :
  uq (bJ (CXr P w) P w K mg base N qual scope f cd A outer s₀ H₀ E) fun _ Ca H'=>E (.ref Ca) none H':=fun σ H =>
 Ax (fun C H' ⟨Ca,e,q,dm⟩=>by cases e;exact⟨q,dm⟩) fun Cv H' ⟨Ca,e,_⟩=>⟨Ca,e⟩
end DL
namespace DL
open PySem PySem.Spec PyProof.Rows L2
theorem gR{C:Cl}{c x:Str}{a b:Addr}(h:(x==c)=false)(e:C x=some b):au C c a x=some b:=by
 have h':x≠c:=fun z=>by rw[z] at h;simp at h
 show(if x=c then some a else C x)=some b
 rw[if_neg h',e]
@[elab_as_elim] theorem len0{p:List Value->Prop}(us:List Value)(hl:us.length=0)(h:p []):p us:=by
 cases us with
 | nil=>exact h
 | cons a us=>cases hl
@[elab_as_elim] theorem vd{p:List Value->Prop}(us:List Value)(hl:us.length=1)(h:∀a,p [a]):p us:=by
 cases us with
 | nil=>cases hl
 | cons a us=>exact len0 (p:=fun us=>p (a::us)) us (Nat.succ.inj hl) (h a)
@[elab_as_elim] theorem vf{p:List Value->Prop}(us:List Value)(hl:us.length=2)(h:∀a b,p [a,b]):p us:=by
 cases us with
 | nil=>cases hl
 | cons a us=>exact vd (p:=fun us=>p (a::us)) us (Nat.succ.inj hl) (fun b=>h a b)
@[elab_as_elim] theorem vg{p:List Value->Prop}(us:List Value)(hl:us.length=3)(h:∀a b c,p [a,b,c]):p us:=by
 cases us with
 | nil=>cases hl
 | cons a us=>exact vf (p:=fun us=>p (a::us)) us (Nat.succ.inj hl) (fun b c=>h a b c)
@[elab_as_elim] theorem J_{p:List Value->Prop}(us:List Value)(hl:us.length=4)(h:∀a b c d,p [a,b,c,d]):p us:=by
 cases us with
 | nil=>cases hl
 | cons a us=>exact vg (p:=fun us=>p (a::us)) us (Nat.succ.inj hl) (fun b c d=>h a b c d)
@[elab_as_elim] theorem Ka{p:List Value->Prop}(us:List Value)(hl:us.length=5)(h:∀a b c d e,p [a,b,c,d,e]):p us:=by
 cases us with
 | nil=>cases hl
 | cons a us=>exact J_ (p:=fun us=>p (a::us)) us (Nat.succ.inj hl) (fun b c d e=>h a b c d e)
@[elab_as_elim] theorem UT{p:List Value->Prop}(us:List Value)(hl:us.length=6)(h:∀a b c d e f,p [a,b,c,d,e,f]):p us:=by
 cases us with
 | nil=>cases hl
 | cons a us=>exact Ka (p:=fun us=>p (a::us)) us (Nat.succ.inj hl) (fun b c d e f=>h a b c d e f)
end DL
namespace L2
open PySem PySem.Spec PyProof.Rows
noncomputable def sqN(b:Bool):String:=match b with |true => "tuple" |false => "list"
noncomputable def itN(b:Bool):String:=match b with |true => "tuple_iterator" |false => "list_iterator"
noncomputable def SqB(b:Bool)(h:Heap)(a:Addr)(xs:Array Value):Prop:=∃o,h.get? a=some o/\o.cls=.type (sqN b)/\∃n,o.data=.seq xs n
noncomputable def ItB(b:Bool)(h:Heap)(a l:Addr)(i:Nat):Prop:=∃o,h.get? a=some o/\o.cls=.type (itN b)/\o.data=.fields #[.ref l,.int i 0]
section
variable {b:Bool} {h h':Heap} {a l c:Addr} {i:Nat} {xs:Array Value}
theorem ItB.go(x:ItB b h a l i)(e:∀o,h.get? a=some o->h'.get? a=some o):ItB b h' a l i:=let⟨o,ho,r⟩:=x;⟨o,e o ho,r⟩
theorem ItB.eb(x:ItB b h a l i)(e:Heap.ExtBut c h h')(n:a≠c):ItB b h' a l i:=x.go fun o q=>e a o n q
theorem ItB.lt(x:ItB b h a l i):a<h.objs.size:=let⟨_,ho,_⟩:=x;Heap.lt_size ho
end
end L2
namespace L2
open PySem PySem.Spec PyProof.Rows
section
variable {X:Cx} {pins:List (Addr×Obj)} {σ:St} {H:Hp} {s:Shared} {h':Heap}
theorem Inv.turnL{t':Nat}{ch:List Addr}(I:Inv X pins σ H s)(k:∀b o,b∉ch->s.heap.get? b=some o->h'.get? b=some o)(hf:∀b∈ch,mq X pins H b):Inv X pins σ H { s with heap:=h',toks:=t' }:=by
 have nit:∀b u,H b=some u->b∉ch:=fun b u e z=>by rw[(hf b z).1] at e;cases e
 have nl:X.env.locals∉ch:=fun z=>(hf _ z).2.1 rfl
 refine I.step (g':=s.gens) (d':=s.drawn) (ch:=ch) (fun b hb=>?_) (fun b o _ _ hc e _=>k b o hc e) (fun b o _ _ hc e _=>⟨o.slots,k b o hc e⟩) (fun _ _ _ _ n=>n) (fun b o hc e=>⟨o,k b o hc e⟩) (fun _ _ e=>e) (fun _ _ _ e=>e) (fun b ps e=>⟨#[],by rw[e];simp⟩) (fun m hm=>?_) (fun b u e=>?_) I.bare
 ·obtain⟨f0,f1,f2,f3,f4,f5⟩:=hf b hb
  exact⟨f3,f1,f4,f5⟩
 ·obtain⟨o,es,ep,ho,r⟩:=hm
  exact⟨o,es,ep,k _ o nl ho,r⟩
 ·refine(I.hok b u e).stay (fun c v hc q=>k c v ?_ q) (fun _ q=>q) fun _ _ q=>q
  rcases hc with z |z
  ·rw[z];exact nit b u e
  ·exact nit c _ z
theorem Inv.turnT{t':Nat}{ch:List Addr}{p:Addr}{xs:List V}{us:List Value}(I:Inv X pins σ H s)(k:∀b o,b∉ch->s.heap.get? b=some o->h'.get? b=some o)(hf:∀b∈ch,mq X pins H b)
  (hp:s.heap.objs.size<=p) (hz:xs.length<=sizeLine) (r:Vals xs us) (ht:IsTup h' p us.toArray):Inv X pins σ (upd H p (.tup xs)) { s with heap:=h',toks:=t' }:=by
 have hn:H p=none:=I.hok.fresh hp
 have ne:∀b o,s.heap.get? b=some o->b≠p:=fun b o e z=>absurd (Heap.lt_size e) (by rw[z];exact Nat.not_lt.mpr hp)
 have neH:∀b u,H b=some u->b≠p:=fun b u e z=>by rw[z,hn] at e;cases e
 have nit:∀b u,H b=some u->b∉ch:=fun b u e z=>by rw[(hf b z).1] at e;cases e
 have nl:X.env.locals∉ch:=fun z=>(hf _ z).2.1 rfl
 refine I.step (g':=s.gens) (d':=s.drawn) (ch:=ch) (fun b hb=>?_) (fun b o _ _ hc e _=>k b o hc e) (fun b o _ _ hc e _=>⟨o.slots,k b o hc e⟩) (fun b o _ e n=>by rw[aC (ne b o e)];exact n) (fun b o hc e=>⟨o,k b o hc e⟩)
  (fun b xs e=>by rw[aC (neH b _ e)];exact e) (fun b o u e=>by rw[aC (neH b _ e)];exact e) (fun b ps e=>⟨#[],by rw[aC (neH b _ e),e];simp⟩) (fun m hm=>?_) (fun b u e=>?_) I.bare
 ·obtain⟨f0,f1,f2,f3,f4,f5⟩:=hf b hb
  exact⟨f3,f1,f4,f5⟩
 ·obtain⟨o,es,ep,ho,r⟩:=hm
  exact⟨o,es,ep,k _ o nl ho,r⟩
 ·by_cases z:b=p
  ·subst z
   rw[aJ] at e
   cases e
   exact⟨hz,us,r,ht⟩
  ·rw[aC z] at e
   refine(I.hok b u e).stay (fun c v hc q=>k c v ?_ q) (fun c q=>by rw[aC (neH c _ q)];exact q) fun c xs q=>by rw[aC (neH c _ q)];exact q
   rcases hc with z |z
   ·rw[z];exact nit b u e
   ·exact nit c _ z
end
noncomputable def SqD(K:PySem.W.Frag)(b:Bool)(H:Hp)(a:Addr)(xs:List V):Prop:=match b with |true=>SqT K H a xs |false=>SqL K H a xs
theorem Ay{X:Cx}{pins:List (Addr×Obj)}{σ:St}{H:Hp}{s:Shared}{b:Bool}{a:Addr}{xs:List V}(I:Inv X pins σ H s)(h:SqD X.K b H a xs):∃its:List Value,Vals xs its/\SqB b s.heap a its.toArray:=by
 cases b with
 | false =>
  obtain⟨its,r,p,_⟩:=I.list h
  exact⟨its,r,p.isList⟩
 | true =>
  obtain⟨its,r,p,_⟩:=I.tuple h
  exact⟨its,r,p⟩
theorem Ow{X:Cx}{pins:List (Addr×Obj)}{σ:St}{H:Hp}{s:Shared}{b:Bool}{a:Addr}{xs ys:List V}(I:Inv X pins σ H s)(h:SqD X.K b H a xs)(h':SqD X.K b H a ys):xs=ys:=by
 cases b with
 | false=>exact I.list_inj h h'
 | true=>exact I.tuple_inj h h'
end L2
namespace DL
open PySem PySem.Spec PyProof.Rows L2
noncomputable def pairD(x y:D):D:=.tup [x,y]
theorem vh{K:PySem.W.Frag}{H H':Hp}{b:Bool}{a:Addr}{xs:List V}(e:bC H H')(h:SqD K b H a xs):SqD K b H' a xs:=by
 cases b with
 | false=>exact e.seq h
 | true=>exact Te e h
end DL
namespace DL
open PySem PySem.Spec PyProof.Rows L2
noncomputable def qC(Ts:List String)(d:D):Option D:=match tyD d with
 | some t=>some (.bl (Ts.any fun T=>decide (t=T) || (decide (t = "bool") && decide (T = "int"))))
 | none=>none
theorem Az:∀{Ts:List String} {us:List Value},Vals (Ts.map V.ty) us->us=Ts.map Value.type
 | [],_,.nil=>rfl
 | T::Ts,_,.cons r t=>by rw[Az t];cases (show _=Value.type T from r);rfl
section
variable {X:Cx} {C:Cl} {x:Expr} {g:Den} {pos p:Pos} {n:Str}
theorem Ex{pins:List (Addr×Obj)}{σ:St}{H:Hp}{s:Shared}{A:Around}{E:Value->Shared->Prop}{Q:Value->Shared->Prop}{K':PySem.W.Frag}{α:List Addr}{F:Hp}{d:D}{v:V}{u:Value}{t:String}{b:Bool}{tp:Addr}{its:List Value}{oc:Option Addr}{m:Nat}{sl:Array (Option Value)}
  (I:Inv X pins σ H s) (rx:RelV v u) (ff:bC F H) (i:Is K' α F d v) (ty:tyD d=some t) (htp:s.heap.get? tp=some ⟨.type "tuple",oc,.seq its.toArray m,sl⟩) (e:PySem.W.kitAny X.K (.type t) its=some b) (h:∀tk,Q (.bool b) { s with toks:=tk }) :
  wpAny (model X.prog X.w) A (call (.builtin "isinstance") [u,.ref tp]) Q E s:=by
 cases d<;>rw[Is] at i<;>(try cases ty)
 ·subst i;cases (show u=Value.none from rx);exact PySem.W.kia_tup PySem.W.kitx_none I.kIn True.intro htp e (fun z=>nomatch z) h
 ·subst i;cases (show u=Value.bool _ from rx);exact PySem.W.kia_tup PySem.W.kitx_bool I.kIn True.intro htp e (fun z=>nomatch z) h
 ·subst i;obtain⟨t,q⟩:=(show ∃t,u=Value.int _ t from rx);cases q;exact PySem.W.kia_tup PySem.W.kitx_int I.kIn True.intro htp e (fun z=>nomatch z) h
 ·subst i;obtain⟨t,q⟩:=(show ∃t,u=Value.str _ t from rx);cases q;exact PySem.W.kia_tup PySem.W.kitx_str I.kIn True.intro htp e (fun z=>nomatch z) h
 ·obtain⟨a,vs,rfl,e1,_⟩:=i
  cases (show u=Value.ref a from rx)
  obtain⟨_,_,_,⟨o,g1,g2,_⟩⟩:=(show bI X.prog X.w H s.heap a (.tup vs) from I.hok a _ (ff _ _ e1))
  exact PySem.W.kia_tup PySem.W.kitx_tuple I.kIn ⟨o,g1,g2⟩ htp e (fun z=>nomatch z) h
 ·obtain⟨a,vs,rfl,e1,_⟩:=i
  cases (show u=Value.ref a from rx)
  obtain⟨_,_,n,_,h1⟩:=(show bI X.prog X.w H s.heap a (.lst vs) from I.hok a _ (ff _ _ e1))
  exact PySem.W.kia_tup PySem.W.kitx_list I.kIn ⟨_,h1,rfl⟩ htp e (fun z=>nomatch z) h
theorem Ox{d:D}{t:String}(h:tyD d=some t):t∈["NoneType","bool","int","str","tuple","list"]:=by
 cases d<;>first |(injection h with h;subst h;decide) |cases h
theorem Ey{ys:List Expr}{tt:TA}{Ts:List String}{x1}{ypos:Pos}(ha:PD X C x g)(hy:PA X ys tt)(htt:∀σ H Q,Q (Ts.map V.ty) H->tt σ H Q)(hlen:Ts.length<=sizeLine)(hg:Gl X n)(hm:X.mg n=none)(hv:bootBuiltins n=some (.builtin "isinstance"))
  (hk:∀t∈["NoneType","bool","int","str","tuple","list"],PySem.W.kitAny X.K (.type t) (Ts.map Value.type)=some (Ts.any fun T=>decide (t=T) || (decide (t = "bool") && decide (T = "int"))))
  (hn:n ≠ "__name__":=by decide) (hdb:(n==("__debug__":Str))=false:=by decide)
  (he:starEach [x,.Tuple ys x1 ypos] X.env=(false,eval x X.env)::starEach [.Tuple ys x1 ypos] X.env:=by rfl) (he2:starEach [.Tuple ys x1 ypos] X.env=(false,eval (.Tuple ys x1 ypos) X.env)::starEach [] X.env:=by rfl) (hpl:(backTo pos (starEach [.Tuple ys x1 ypos] X.env)).any (·.1)=false:=by rfl) :
  PD X C (.Call (.Name n p) [x,.Tuple ys x1 ypos] [] pos) (gUn (qC Ts) g):=by
 have hc:fL X (.builtin "isinstance") (fun xs H Q=>∃v tp t k α F d,xs=[v,.ref tp]/\H tp=some (.tup (Ts.map V.ty))/\bC F H/\Is X.K α F d v/\tyD d=some t/\PySem.W.kitAny X.K (.type t) (Ts.map Value.type)=some k/\Q (.bl k) H):=by
  intro pins s σ H xs us Q I r hw
  obtain⟨v,tp,t,k,α,F,d,rfl,h0,ff,i,ty,e,q⟩:=hw
  obtain⟨u1,w',rfl,r1,r2⟩:=vals2 r
  obtain rfl:w'=Value.ref tp:=r2
  obtain⟨_,its,ri,⟨oc,od,odt,osl⟩,g1,g2,m,g3⟩:=(show bI X.prog X.w H s.heap tp (.tup (Ts.map V.ty)) from I.hok tp _ h0)
  obtain rfl:=Az ri
  dsimp only at g2 g3
  subst g2 g3
  exact Ex I r1 ff i ty g1 e fun tk=>⟨.bl k,H,I.tok tk,rfl,q⟩
 refine aY (fZ hc hg hm hv (bF ha (bF (zM hy) cQ he2) he) hn hdb he hpl) fun σ H Q hw'=>?_
 obtain⟨e,Ω,ρ,d,Ω',eH,w,rl,e1,kk⟩:=hw'
 unfold gUn at e1
 cases q1:g ρ Ω with
 | none=>rw[q1] at e1;cases e1
 | some p1 =>
  obtain⟨d1,Ω1⟩:=p1
  rw[q1] at e1
  dsimp only at e1
  unfold qC at e1
  cases q2:tyD d1 with
  | none=>rw[q2] at e1;cases e1
  | some t =>
   rw[q2] at e1
   cases e1
   refine⟨e,Ω,ρ,d1,_,eH,w,rl,q1,fun v e' x' w' i'=>?_⟩
   refine htt _ _ _ ⟨by rw[List.length_map];exact hlen,fun tp hp=>?_⟩
   have wn:=w'.new (o:=.tup (Ts.map V.ty)) hp
   have xn:=w'.new_ext (o:=.tup (Ts.map V.ty)) hp
   refine⟨v,tp,t,_,_,_,d1,rfl,aJ,wn.fh,i'.ext xn,q2,hk t ?_,kk _ _ (x'.trans xn) wn (by rw[Is])⟩
   exact Ox q2
end
end DL
namespace L2
open PySem PySem.Spec PyProof.Rows
section
variable {X:Cx} {a:Expr} {ta:TE} {z:Str} {kk:Nat} {p1 p2 pos:Pos}
noncomputable def tFI(ta:TE):TE:=fun σ H Q=>ta σ H fun x H1=>∃i:Int,x=.int i/\i.natAbs.log2<1920/\(Str.ofString (toString i)).length<=1000/\∀t,Q (.str t) H1
theorem Ti(ha:PE X a ta)(hz:z.length<=1000:=by decide)(hs:evalEach [.FormattedValue a (-1) none p1,.Constant (.str z) kk p2] X.env=[eval (.FormattedValue a (-1) none p1) X.env,eval (.Constant (.str z) kk p2) X.env]:=by rfl) :
  PE X (.JoinedStr [.FormattedValue a (-1) none p1,.Constant (.str z) kk p2] pos) (tFI ta):=by
 intro pins s σ H Q I h
 have len:∀p q:Str,(p++q).length=p.length+q.length:=fun p q=>strLen_append p q
 have sl:(100000:Nat)<=sizeLine:=by rw[sizeLine_eq];decide
 refine PySem.wpAny_JoinedStr ?_
 rw[hs]
 refine PySem.wpAny_FormattedValue_plain (thn (ha pins s σ H _ I h) fun u s1 hw'=>?_)
 obtain⟨x,H1,I1,r1,i,ex,hi,li,q1⟩:=hw'
 subst ex
 obtain⟨t,rfl⟩:=r1
 refine wpAny_formatField_int hi ⟨_,_,rfl,?_,?_⟩
 ·rw[PySem.W.KT.empty_app];exact Nat.le_trans li (by omega)
 rw[PySem.W.KT.empty_app]
 refine wpAny_mono (p_ (X:=X) (x:=z) (j:=kk) (pos:=p2) pins _ σ H1 (fun v H'=>v=.str z/\H'=H1) (I1.tok _) ⟨rfl,rfl⟩) (fun u s2 ⟨y,H2,I2,r2,e2,e3⟩=>?_) fun _ _ e=>e
 subst e2 e3
 obtain⟨t2,rfl⟩:=r2
 refine⟨z,t2,rfl,?_,?_,?_⟩
 ·rw[len];omega
 ·rw[len];omega
 ·exact⟨.str _,_,I2.tok _,⟨_,rfl⟩,q1 _⟩
end
end L2
namespace DL
open PySem PySem.Spec PyProof.Rows L2
section
variable {X:Cx} {C:Cl} {a:Expr} {f:Den} {pos p1 p2:Pos}
noncomputable def pFi(f:Den):u_:=fun ρ Ω=>match f ρ Ω with
 | some (.int i,Ω')=>if bH i then some Ω' else none
 | _=>none
theorem Tj{z:Str}{kk:Nat}(ha:PD X C a f)(hz:z.length<=1000:=by decide)(hs:evalEach [.FormattedValue a (-1) none p1,.Constant (.str z) kk p2] X.env=[eval (.FormattedValue a (-1) none p1) X.env,eval (.Constant (.str z) kk p2) X.env]:=by rfl) :
  PV X C (.JoinedStr [.FormattedValue a (-1) none p1,.Constant (.str z) kk p2] pos) (pFi f):=aY (Ti ha hz hs) fun σ H Q hw'=>by
 obtain⟨e,Ω,ρ,Ω',eH,w,rl,q,k⟩:=hw'
 unfold pFi at q
 split at q
 ·rename_i i Ω1 q1
  split at q
  ·rename_i hi
   cases q
   refine⟨e,Ω,ρ,_,_,eH,w,rl,q1,fun v e' x' w' i'=>?_⟩
   rw[Is] at i'
   exact⟨i,i',hi.1,hi.2,fun t=>k _ e' x' w'⟩
  ·cases q
 ·cases q
end
end DL
namespace DL
open PySem PySem.Spec PyProof.Rows L2
section
variable {X:Cx} {C:Cl} {a b c x:Expr} {f g h:Den} {pos:Pos}
open Classical in
noncomputable def eqR(h:Heap)(p:PyData)(v:Value):Bool:=if q:∃d as,Reads h v d as/\d.canLay0=true then PyData.eqv (Classical.choose q) p else false
theorem Hi{h:Heap}{p d:PyData}{v:Value}{as:List Addr}(r:Reads h v d as)(c:d.canLay0=true):eqR h p v=PyData.eqv d p:=by
 have q:∃d as,Reads h v d as/\d.canLay0=true:=⟨d,as,r,c⟩
 unfold eqR
 rw[dif_pos q]
 obtain⟨as',r',c'⟩:=Classical.choose_spec q
 rw[SeqAt.Reads.unique _ _ _ _ _ c' r' r]
theorem xQ{pins:List (Addr×Obj)}{s:Shared}{σ:St}{e:E4}{A:Around}{p:PyData}{v:Value}{as:List Addr}(I:Inv X pins σ e.H s)(fh:bC e.F e.H)(r:Reads s.heap v p as)(c:SeqAt.shaped p=true)(hu:A.units+64<cLine) :
  ∀{ds:List D} {xs:List V} {us:List Value},IsL X.K e.α e.F ds xs->Vals xs us->(ds.all fun d=>SeqAt.shaped (toP d))=true->(us.any (eqR s.heap p)=ds.any fun d=>PyData.eqv (toP d) p)/\∀u∈us,SeqAt.EqAt A s u v (eqR s.heap p u)
 | [],xs,us,i,q,_=>by
  have e:=i.of_nil
  subst e
  cases q
  exact⟨rfl,fun u hu=>by cases hu⟩
 | d::ds,xs,us,i,q,f=>by
  obtain⟨x,r',rfl,i1,i2⟩:=i.of_cons
  cases q with
  | cons rv rs =>
   rw[List.all_cons,Bool.and_eq_true] at f
   obtain⟨bs,rd⟩:=gb I rfl fh d (SeqAt.canLay_of_shaped f.1) i1 rv
   have e1:=Hi (p:=p) rd (SeqAt.canLay_of_shaped f.1)
   obtain⟨t1,t2⟩:=xQ I fh r c hu i2 rs f.2
   refine⟨by rw[List.any_cons,List.any_cons,e1,t1],fun u hu'=>?_⟩
   rcases List.mem_cons.mp hu' with rfl |hu'
   ·rw[e1]
    exact SeqAt.eqAt_reads _ _ A s _ _ _ _ rd r (SeqAt.canLay_of_shaped f.1) (SeqAt.canLay_of_shaped c) (SeqAt.room_of_shaped f.1 hu)
   ·exact t2 u hu'
end
end DL
namespace DL
open PySem PySem.Spec PyProof.Rows L2
noncomputable def iM:OS->Option (List D)
 | .mls xs=>some xs
 | _=>none
noncomputable def jN:D->Option Nat
 | .obj n=>some n
 | _=>none
noncomputable def ph:D->Option Int
 | .int i=>some i
 | _=>none
theorem ik{o:OS}{xs:List D}(h:iM o=some xs):o=.mls xs:=by
 unfold iM at h
 split at h
 ·cases h;rfl
 ·cases h
theorem gn{d:D}{n:Nat}(h:jN d=some n):d=.obj n:=by
 unfold jN at h
 split at h
 ·cases h;rfl
 ·cases h
theorem qD{d:D}{n:Int}(h:ph d=some n):d=.int n:=by
 unfold ph at h
 split at h
 ·cases h;rfl
 ·cases h
noncomputable def gV(ga:bx):Den:=fun ρ Ω=>(ga ρ Ω).bind fun p=>if p.1.length<=big then some (.obj p.2.length,p.2++[.mls p.1]) else none
noncomputable def gW(f g:Den):aQ:=fun ρ Ω=>(f ρ Ω).bind fun p=>(jN p.1).bind fun n=>(p.2[n]?).bind fun o1=>(iM o1).bind fun _=>(g ρ p.2).bind fun r=>(r.2[n]?).bind fun o=>(iM o).bind fun xs =>
 if xs.length<big then some (.nx ρ (r.2.set n (.mls (xs++[r.1])))) else none
theorem Wf.mls{K:PySem.W.Frag}{C:Cl}{e:E4}{Ω:List OS}(w:Wf K C e Ω){n:Nat}{a:Addr}{xs:List D}(hα:e.α[n]? = some a)(h:Ω[n]? = some (.mls xs)):∃vs,e.H a=some (.lst vs)/\IsL K e.α e.F xs vs:=(w.ob n a _ hα h).2
section
variable {X:Cx} {C:Cl} {a b x:Expr} {es:List Expr} {f g h:Den} {ga:bx} {pos pos':Pos}
theorem mJ(ha:PDA X C es ga):PD X C (.List es pos) (gV ga):=aY (vJ ha) fun σ H Q hw'=>by
 obtain⟨e,Ω,ρ,d,Ω',eH,w,rl,q,kk⟩:=hw'
 obtain⟨⟨ds,Ω1⟩,q1,q⟩:=Option.bind_eq_some_iff.mp q
 dsimp only at q
 split at q
 ·rename_i hl
  cases q
  refine⟨e,Ω,ρ,ds,_,eH,w,rl,q1,fun vs e' x' w' i'=>⟨by rw[<-i'.length];exact iI hl,fun p hp=>?_⟩⟩
  obtain⟨w2,x2⟩:=w'.obj (H':=upd e'.H p (.lst vs)) (o:=.mls ds) hp (fun b u hb=>by rw[aC (aM hb hp)];exact hb) (by rw[aJ];exact⟨by simp,fun xs z=>nomatch z⟩) ⟨vs,aJ,IsL.mono (bC.refl _) ⟨[p],rfl⟩ _ i'⟩
  refine kk _ (e'.obj p _) (x'.trans x2) w2 ?_
  rw[Is]
  exact⟨p,by show(e'.α++[p])[Ω1.length]? = some p;rw[<-w'.ol];simp,rfl⟩
 ·cases q
theorem pq{ap cp:Pos}(ha:PD X C a f)(hb:PD X C b g)(hbase:attributeBase a "append" X.env (eval a X.env)=eval a X.env:=by rfl)
  (hfew:((backTo cp (starEach [b] X.env)).all (fun x=>!x.1) && (backToKw cp (keywordEach [] X.env)).all (fun x=>x.1.isSome)
   && decide (([b]:List Expr).length+([]:List Keyword).length+(if([]:List Keyword).isEmpty then 0 else 1)<30))=true:=by rfl)
  (hline:(ap.endLine==cp.line)=true:=by rfl) (hst:starEach [b] X.env=(false,eval b X.env)::starEach [] X.env:=by rfl) (hplain:(backTo cp (starEach [] X.env)).any (·.1)=false:=by rfl)
  (hs:swapsWith (.Call (.Attribute a "append" ap) [b] [] cp) none pos.line X.env=pure false:=by rfl) :
  PDS X C (.Expr (.Call (.Attribute a "append" ap) [b] [] cp) pos) (gW f g):=fun e₀ =>
 dC (tQ (vK PySem.F.plainAttrs_list PySem.F.slot_list_append PySem.F.type_list_append sr ha (bF hb cQ hst) hbase hfew hline hst hplain) hs) fun Dn σ H hw'=>by
  obtain⟨e,Ω,ρ,o,eH,r,q,k⟩:=hw'
  obtain⟨⟨d1,Ω1⟩,q1,q⟩:=Option.bind_eq_some_iff.mp q
  obtain⟨n,q2,q⟩:=Option.bind_eq_some_iff.mp q
  obtain⟨o1,q3,q⟩:=Option.bind_eq_some_iff.mp q
  obtain⟨xs1,q4,q⟩:=Option.bind_eq_some_iff.mp q
  obtain⟨⟨d5,Ω5⟩,q5,q⟩:=Option.bind_eq_some_iff.mp q
  obtain⟨o6,q6,q⟩:=Option.bind_eq_some_iff.mp q
  obtain⟨xs,q7,q⟩:=Option.bind_eq_some_iff.mp q
  split at q
  ·rename_i hl
   cases q
   have e2:=gn q2
   have e4:=ik q4
   have e7:=ik q7
   dsimp only at e2 q3 q5 q6 hl
   subst e2 e4 e7
   refine⟨e,Ω,ρ,_,Ω1,eH,r.wf,r.rel,q1,fun v e1 x1 w1 i1=>?_⟩
   have i1':=i1
   rw[Is] at i1'
   obtain⟨p,hα,rfl⟩:=i1'
   obtain⟨vs1,hH1,_⟩:=w1.mls hα q3
   refine⟨.inl ⟨rfl,_,SqL.of hH1⟩,?_⟩
   refine⟨e1,Ω1,ρ,d5,Ω5,rfl,w1,r.rel.ext x1,q5,fun u e2 x2 w2 i2=>?_⟩
   have i3:=i1.ext x2
   rw[Is] at i3
   obtain⟨p',hα2,ep⟩:=i3
   cases ep
   obtain⟨vs,hH,il⟩:=w2.mls hα2 q6
   refine⟨p,vs,u,rfl,rfl,hH,by rw[<-il.length];exact oH hl,?_⟩
   obtain⟨w3,x3⟩:=w2.at (ho:=.lst (vs++[u])) (o':=.mls (xs++[d5])) hα2 (fun _ z=>nomatch z) ⟨_,aJ,il.append (.cons i2 .nil)⟩ (fun o u z=>by rw[hH] at z;cases z)
   exact k (e2.at p _) σ (r.to ((x1.trans x2).trans x3) w3)
  ·cases q
noncomputable def forM(β:dH)(s:aQ)(n:Nat)(xs:List D):List D->aQ
 | [],ρ,Ω=>grd (Ω[n]? = some (.mls xs)) (some (.nx ρ Ω))
 | d::ds,ρ,Ω=>grd (Ω[n]? = some (.mls xs)) (match β d ρ with
  | some ρ1=>match s ρ1 Ω with
   | some (.nx ρ' Ω')=>forM β s n xs ds ρ' Ω'
   | some (.ct ρ' Ω')=>forM β s n xs ds ρ' Ω'
   | some (.bk ρ' Ω')=>some (.nx ρ' Ω')
   | some (.rt z Ω')=>some (.rt z Ω')
   | none=>none
  | none=>none)
noncomputable def Ez(f:Den)(β:dH)(s:aQ):aQ:=fun ρ Ω=>(f ρ Ω).bind fun p=>(jN p.1).bind fun n=>(p.2[n]?).bind fun o=>(iM o).bind fun xs=>forM β s n xs xs ρ p.2
theorem Kc{tg iter:Expr}{β:dH}{s:aQ}{body:List Stmt}(hp:PassesOwn (model X.prog X.w) X.A X.env X.xe)(hc:X.calm=true)(hi:PD X C iter f)(hg:PDG X C tg β)(hb:PDB X C body s)
  (hs:∀x,foldedSetIterable iter X.env x=pure x:=by intro _;rfl):PDS X C (.For tg iter body [] pos) (Ez f β s):=by
 refine fun e₀=>dC (F_ hp hc (tU hi) hg (zY hb) hs) fun Dn σ H hw'=>?_
 obtain⟨e,Ω,ρ,o,eH,r,q,k⟩:=hw'
 obtain⟨⟨d1,Ω'⟩,q1,qa⟩:=Option.bind_eq_some_iff.mp q
 obtain⟨n,q2,qb⟩:=Option.bind_eq_some_iff.mp qa
 obtain⟨o3,q3,qc⟩:=Option.bind_eq_some_iff.mp qb
 obtain⟨ds,q4,qd⟩:=Option.bind_eq_some_iff.mp qc
 clear q qa qb qc
 have e2:=gn q2
 have e4:=ik q4
 dsimp only at e2 q3 qd
 subst e2 e4
 refine⟨e,Ω,ρ,_,Ω',eH,r.wf,r.rel,q1,fun v e' x' w' i'=>?_⟩
 rw[Is] at i'
 obtain⟨a,hα,rfl⟩:=i'
 obtain⟨vs0,hH0,il0⟩:=w'.mls hα q3
 refine⟨a,rfl,⟨vs0,SqL.of hH0⟩,?_⟩
 refine⟨fun i m σ H=>m=ds.length-i/\i<=ds.length/\∃e2 Ω2 ρ2,e2.H=H/\RelS X.K C e₀ e2 Ω2 σ ρ2/\e2.α[n]? = some a/\forM β s n ds (ds.drop i) ρ2 Ω2=some o,⟨ds.length,by simp,Nat.zero_le _,e',Ω',ρ,rfl,r.to x' w',hα,by simpa using qd⟩,?_⟩
 rintro i m σ2 H2 ⟨rfl,hil,e2,Ω2,ρ2,rfl,r2,al,q5⟩
 by_cases hlt:i<ds.length
 ·have hd:ds[i]? = some ds[i]:=List.getElem?_eq_getElem hlt
  have edrop:ds.drop i=ds[i]::ds.drop (i+1):=List.drop_eq_getElem_cons hlt
  rw[edrop] at q5
  unfold forM at q5
  obtain⟨hg,q5⟩:=iJ q5
  obtain⟨vs,hH,il⟩:=r2.wf.mls al hg
  obtain⟨u,hu,iu⟩:=il.get hd
  refine .inr ⟨⟨vs,u,SqL.of hH,hu⟩,fun σ' H'=>∃e3 Ω3 ρ3,e3.H=H'/\RelS X.K C e₀ e3 Ω3 σ' ρ3/\e3.α[n]? = some a/\forM β s n ds (ds.drop (i+1)) ρ3 Ω3=some o,fun σ' H' hN=>⟨ds.length-(i+1),by omega,rfl,hlt,hN⟩,fun x H' hy=>?_⟩
  obtain⟨rfl,hx⟩:=hy
  have hx':=hx vs (SqL.of hH)
  rw[hu] at hx'
  cases hx'
  cases q6:β ds[i] ρ2 with
  | none=>rw[q6] at q5;cases q5
  | some ρ3 =>
   rw[q6] at q5
   dsimp only at q5
   refine⟨e2,Ω2,ρ2,_,ρ3,rfl,r2.wf,r2.rel,iu,q6,fun σ3 r3 o3=>?_⟩
   have r3':=r2.by r3 o3
   obtain⟨e₁,hF,hα1,r4,toE,toN,_⟩:=r3'.mark
   cases q7:s ρ3 Ω2 with
   | none=>rw[q7] at q5;cases q5
   | some o7 =>
    rw[q7] at q5
    refine⟨e₁,e2,Ω2,ρ3,o7,rfl,r4,q7,?_⟩
    have back:∀{e5:E4} {Ω5:List OS} {σ5:St} {ρ5:List Sl},RelS X.K C e₁ e5 Ω5 σ5 ρ5->RelS X.K C e₀ e5 Ω5 σ5 ρ5/\e5.α[n]? = some a:=fun {e5 Ω5 σ5 ρ5} r5=>by
     refine⟨⟨r5.wf,r5.rel,toE _ r5.ext,fun i ds a h1 h2=>toN _ (r5.fresh i ds a h1 h2)⟩,?_⟩
     obtain⟨m2,z2⟩:=r5.ext.al
     rw[z2,hα1,List.getElem?_append_left (List.getElem?_eq_some_iff.mp al).1]
     exact al
    cases o7 with
    | nx ρ5 Ω5=>exact fun e5 σ5 r5=>⟨e5,Ω5,ρ5,rfl,(back r5).1,(back r5).2,q5⟩
    | ct ρ5 Ω5=>exact fun e5 σ5 r5=>⟨e5,Ω5,ρ5,rfl,(back r5).1,(back r5).2,q5⟩
    | bk ρ5 Ω5=>cases q5;exact fun e5 σ5 r5=>k e5 σ5 (back r5).1
    | rt z Ω5=>cases q5;exact fun e5 v5 x5 w5 i5=>k e5 v5 (toE _ x5) w5 i5
 ·have ei:i=ds.length:=by omega
  subst ei
  rw[List.drop_length] at q5
  unfold forM at q5
  obtain⟨hg,q5⟩:=iJ q5
  cases q5
  obtain⟨vs,hH,il⟩:=r2.wf.mls al hg
  exact .inl ⟨⟨vs,SqL.of hH,by rw[<-il.length];exact Nat.le_refl _⟩,k e2 σ2 r2⟩
theorem jo{K:PySem.W.Frag}{α:List Addr}{F:Hp}{κ:Type}:∀{ps:List (κ×D)} {vs:List (κ×V)},cG K α F ps vs->vs.map (·.1)=ps.map (·.1)
 | [],vs,h=>by cases (show vs=[] from h);rfl
 | p::r,_,⟨v,t,e,i,q⟩=>by rw[e,List.map_cons,List.map_cons,jo q]
end
end DL
namespace DL
open PySem PySem.Spec PyProof.Rows L2
theorem Dp{g:Den}{ρ:List Sl}{Ω Ω':List OS}{ds:List D}(h:gLs g ρ Ω=some (ds,Ω')):g ρ Ω=some (.lst ds,Ω'):=by
 unfold gLs at h
 split at h
 ·rename_i q;cases h;exact q
 ·cases h
section
variable {K:PySem.W.Frag} {C:Cl} {e e':E4} {Ω:List OS} {a:Addr} {o:HO}
noncomputable def E4.bare(e:E4)(a:Addr):E4:=⟨e.α,e.F,e.A,fun b=>if b=a then none else e.H b⟩
theorem A_(h:e.H a=some o):upd (e.bare a).H a o=e.H:=by
 funext b
 by_cases z:b=a
 ·subst z;rw[aJ];exact h.symm
 ·rw[aC z];show(if b=a then none else e.H b)=e.H b;rw[if_neg z]
theorem Wf.bare(w:Wf K C e Ω)(hF:e.F a=none)(hA:¬e.A a):Wf K C (e.bare a) Ω:=by
 have hb:∀b,b≠a->(e.bare a).H b=e.H b:=fun b z=>by show(if b=a then none else e.H b)=e.H b;rw[if_neg z]
 refine⟨fun b u h=>?_,w.fa,fun b h=>?_,w.ol,w.nd,fun n b u h1 h2=>⟨(w.ob n b u h1 h2).1,(w.ob n b u h1 h2).2.keep (fun v hv=>?_) (bC.refl _) ⟨[],by simp[E4.bare]⟩⟩⟩
 ·rw[hb b (fun z=>by subst z;rw[show e.F b=some u from h] at hF;cases hF)];exact w.fh b u h
 ·rw[hb b (fun z=>hA (by rw[<-z];exact h))];exact w.ah b h
 ·rw[hb b (fun z=>hA (by rw[<-z];exact(w.ob n b u h1 h2).1))];exact hv
theorem Ext.bare(x:Ext e e')(ha:e.H a=none):Ext e (e'.bare a):=by
 have hb:∀b,b≠a->(e'.bare a).H b=e'.H b:=fun b z=>by show(if b=a then none else e'.H b)=e'.H b;rw[if_neg z]
 refine⟨fun b o' u h=>?_,fun b u h hn=>?_,fun b u h=>?_,x.ff,x.fn,x.an,x.aa,x.al⟩
 ·rw[hb b (aM h ha)];exact x.fz b o' u h
 ·rw[hb b (aM h ha)];exact x.hk b u h hn
 ·obtain⟨u',z⟩:=x.dm b u h
  exact⟨u',by rw[hb b (aM h ha)];exact z⟩
end
end DL
namespace KS
open PySem PySem.W PySem.Calls PyProof.Rows
section
variable {prog:Program} {w:World} {A:Around} {E:Value->Shared->Prop} {s:Shared} {a:Addr} {vs:List Value}
theorem Oz{it:Value}{R:List Value->Heap->Nat->Prop}{Q:Value->Shared->Prop}(hcol:∀(E:Value->Shared->Prop) (Q':List Value->Shared->Prop),(∀vs h1 tk,R vs h1 tk->Q' vs { s with heap:=h1,toks:=tk })->wpAny (model prog w) A.in1 (collect it) Q' E s)(h64:∀vs h1 tk,R vs h1 tk->vs.length<64)
  (hend:∀vs h1 tk D e1 h',R vs h1 tk->h1.objs.size<=D->(∀b o,h1.get? b=some o->h'.get? b=some o)->h'.get? D=some (seqObj "list" #[] e1)->JS prog w A.in1.in1 vs D { s with heap:=h',toks:=tk } fun s3=>Q (.ref D) s3) :
  wpAny (model prog w) A (call (.builtin "sorted") [it]) Q E s:=by
 refine Calls.call_function_entry kind_sorted plain_sorted entry_sorted (args_sorted1 _) ?_
 unfold Builtin.«sorted»;refine wpAny_bind (m:=checkCount "sorted" 1 1 _) (wpAny_pure ?_)
 refine wpAny_bind (hcol _ _ fun vs h1 tk keep1=>?_)
 have l64:=h64 vs h1 tk keep1
 refine wpAny_bind (wpAny_newList ?_ (by rw[sizeLine_eq];omega))
 have oL:(h1.push (seqObj "list" vs.toArray 0)).get? h1.objs.size=some (seqObj "list" vs.toArray 0):=Heap.get?_push_size _ rfl
 have keep:∀b o,h1.get? b=some o->(h1.push (seqObj "list" vs.toArray 0)).get? b=some o:=fun b o q=>Heap.get?_push_of_some _ q
 show wpAny _ _ _ _ _ { s with heap:=h1.push (seqObj "list" vs.toArray 0),toks:=tk }
 refine wpAny_bind (wpAny_holding (wpAny_call_entry slot_list_sort ⟨_,oL,rfl⟩ entry_list_sort ?body (args_list_sort _)))
 case body =>
  refine Eo (s:={ s with heap:=h1.push (seqObj "list" vs.toArray 0),toks:=tk }) oL l64 fun e1 h' kp hD=>?_
  obtain⟨κ,r,p1,p2,p3⟩:=hend vs h1 tk h1.objs.size e1 h' keep1 (Nat.le_refl _) (fun b o q=>kp b o (Nat.ne_of_lt (Heap.lt_size q)) (keep b o q)) hD
  exact⟨κ,r,p1,p2,fun p h'' c hp hu k1 k2=>⟨_,rfl,wpAny_pure ⟨_,rfl,p3 p h'' c hp hu k1 k2⟩⟩⟩
end
end KS
namespace L2
open PySem PySem.Spec PyProof.Rows KS PySem.W
section
variable {X:Cx} {pins:List (Addr×Obj)} {σ:St} {H:Hp} {s:Shared}
theorem Kd{vs:List Value}{xs:List V}{Q:VK}{nss:List (List Int)}{h1 h':Heap}{tk e1:Nat}{D:Addr}(I1:Inv X pins σ H { s with heap:=h1,toks:=tk })(rv:Vals xs vs)(h64:xs.length<64)(hK:KeysAre H xs nss)(fin:∀out p,H p=none->qz nss xs out->Q (.ref p) (upd H p (.lst out)))
  (zD:h1.objs.size<=D) (kk:∀b o,h1.get? b=some o->h'.get? b=some o) (oD:h'.get? D=some (seqObj "list" #[] e1)):JS X.prog X.w X.A.in1.in1 vs D { s with heap:=h',toks:=tk } fun s3=>EP X pins σ Q (.ref D) s3:=by
 have hl:=rv.length
 have hn:nss.length=xs.length:=(Paired.length hK).symm
 have fD:=I1.fpOk zD (I1.hok.fresh zD)
 have I2:Inv X pins σ H { s with heap:=h',toks:=tk }:=I1.kept (t':=tk) kk
 have tup:∀j,j<vs.length->∃b o its n ns,vs[j]? = some (.ref b)/\nss[j]? = some ns/\h'.get? b=some o/\o.cls=.type "tuple" /\ o.data=.seq (List.toArray its) n/\IntsAre its ns/\ns≠[]:=fun j hj=>by
  have hj':j<xs.length:=by omega
  obtain⟨ns,e1,b,e2,e3,e4⟩:=Paired.get hK (List.getElem?_eq_getElem hj')
  obtain⟨u,e5,e6⟩:=rv.get (List.getElem?_eq_getElem hj')
  rw[e2] at e6
  cases (show u=Value.ref b from e6)
  obtain⟨_,its,ri,o,h1,h2,n,h3⟩:=(show bI X.prog X.w H h' b (.tup (ns.map V.int)) from I2.hok b _ e3)
  exact⟨b,o,its,n,ns,e5,e1,h1,h2,h3,intsAre_of ri,e4⟩
 refine⟨tuples' true,rankOf nss,fun h2 Q' E' hq=>?_,fun h2 i j C hi hj hC=>?_,fun p h'' c hp hu kp hD=>?_⟩
 ·have kt:∀(l:List Value) (off:Nat),(∀j,j<l.length->∃b o its n ns,l[j]? = some (.ref b)/\nss[off+j]? = some ns/\h'.get? b=some o/\o.cls=.type "tuple" /\ o.data=.seq (List.toArray its) n/\IntsAre its ns/\ns≠[]) ->
    ∃fs,KatTups h' l fs/\fs.length=l.length/\∀v∈fs,∃n t,v=.int n t:=by
   intro l
   induction l with
   | nil=>intro off _;exact⟨[],trivial,rfl,fun v hv=>nomatch hv⟩
   | cons x l ih =>
    intro off ht
    obtain⟨b,o,its,n,ns,e1,e2,e3,e4,e5,e6,e7⟩:=ht 0 (by simp)
    simp at e1
    subst e1
    obtain⟨fs,k1,k2,k3⟩:=ih (off+1) fun j hj=>by
     obtain⟨b,o,its,n,ns,q1,q2,q3⟩:=ht (j+1) (by simpa using hj)
     exact⟨b,o,its,n,ns,by simpa using q1,by rw[show off+1+j=off+(j+1) by omega];exact q2,q3⟩
    cases e6 with
    | nil=>exact absurd rfl e7
    | cons m t r =>
     refine⟨_::fs,KatTups.cons e3 e4 e5 (f:=.int m t) (by simp) k1,by simp[k2],fun v hv=>?_⟩
     rcases List.mem_cons.mp hv with rfl |hv
     ·exact⟨m,t,rfl⟩
     ·exact k3 v hv
  obtain⟨fs,k1,k2,k3⟩:=kt vs 0 fun j hj=>by simpa using tup j hj
  refine kat_kind (T:=.type "int") k1 (by rw[k2];omega) (fun v hv=>?_) rfl hq
  obtain⟨n,t,rfl⟩:=k3 v hv
  exact .now
 ·obtain⟨b1,o1,i1,n1,s1,a1,a2,a3,a4,a5,a6,a7⟩:=tup i (by omega)
  obtain⟨b2,o2,i2,n2,s2,c1,c2,c3,c4,c5,c6,c7⟩:=tup j (by omega)
  unfold kas_ask
  rw[List.getD_eq_getElem?_getD,List.getD_eq_getElem?_getD,a1,c1]
  refine kat_lt a3 a5 c3 c5 (Dh 0 a6 c6 (by simp) ?_)
  have hi':i<nss.length:=by omega
  have hj':j<nss.length:=by omega
  rw[Ah hi' hj'] at hC
  rw[List.getElem?_eq_getElem hi'] at a2
  rw[List.getElem?_eq_getElem hj'] at c2
  cases a2
  cases c2
  exact hC
 ·have hpl:p.toList.Perm (List.range vs.length):=by have:=Array.perm_iff_toList_perm.mp hp;simpa using this
  have hpn:p.toList.length=vs.length:=by rw[hpl.length_eq];simp
  have hlt:∀i∈p.toList,i<xs.length:=fun i hi=>by have:=hpl.mem_iff.mp hi;rw[List.mem_range] at this;omega
  have so:qz nss xs (p.toList.map fun i=>xs.getD i .non):=by
   refine⟨p.toList,by rw[hl];exact hpl,rfl,fun i j hij hj=>?_⟩
   have u:=hu i j hij (by omega)
   have g:∀m,m<p.toList.length->p.getD m 0=p.toList.getD m 0/\p.toList.getD m 0<nss.length:=fun m hm=>by
    have hm':m<p.size:=by simpa using hm
    refine⟨by simp[Array.getD,hm'],?_⟩
    have:p.toList.getD m 0∈p.toList:=by
     rw[List.getD_eq_getElem?_getD,List.getElem?_eq_getElem hm];exact List.getElem_mem hm
    have:=hlt _ this
    omega
   obtain⟨gi,li⟩:=g i (by omega)
   obtain⟨gj,lj⟩:=g j hj
   have ei:nss.getD (p.toList.getD i 0) []=nss[p.toList.getD i 0]:=getD_get li
   have ej:nss.getD (p.toList.getD j 0) []=nss[p.toList.getD j 0]:=getD_get lj
   rw[ei,ej,<-Ah lj li]
   refine decide_eq_false ?_
   have u':rankOf nss (p.getD i 0)<=rankOf nss (p.getD j 0):=u
   rw[gi,gj] at u'
   omega
  refine⟨.ref D,upd H D (.lst (p.toList.map fun i=>xs.getD i .non)),?_,rfl,fin _ D fD.1 so⟩
  refine I2.adopt fD fD (fun b o hb q=>kp b o (by simpa using hb) q) hD (yN rv p.toList hlt) ?_
  ·rw[List.length_map,hpn,sizeLine_eq];omega
theorem yR{it:Value}{vs:List Value}{xs:List V}{Q:VK}{nss:List (List Int)}(I:Inv X pins σ H s)(rv:Vals xs vs)(h64:xs.length<64)
  (hcol:∀(A:Around),A.handled=X.A.handled->∀(E:Value->Shared->Prop) (Q':List Value->Shared->Prop),(∀h1 tk,Kept s h1 []->Q' vs { s with heap:=h1,toks:=tk })->wpAny (model X.prog X.w) A (collect it) Q' E s)
  (hK:KeysAre H xs nss) (fin:∀out p,H p=none->qz nss xs out->Q (.ref p) (upd H p (.lst out))) :
  wpAny (model X.prog X.w) X.A (call (.builtin "sorted") [it]) (EP X pins σ Q) X.xe s:=by
 have hl:=rv.length
 refine Oz (R:=fun us h1 tk=>us=vs/\Kept s h1 []) (fun E Q' hq=>hcol X.A.in1 rfl E Q' fun h1 tk k=>hq vs h1 tk ⟨rfl,k⟩) (fun us h1 tk e=>by rw[e.1];omega) fun us h1 tk D e1 h' k1 zD kk oD=>?_
 obtain⟨rfl,k1⟩:=k1
 exact Kd (I.kept (t':=tk) fun b u q=>k1 b u (by simp) q) rv h64 hK fin zD kk oD
end
theorem Cq{prog:Program}{w:World}{A:Around}{E:Value->Shared->Prop}{s:Shared}{T:String}{r d:Addr}{n:Nat}{P:Nat->Value->Prop}{OK:Heap->Prop}{Q:List Value->Shared->Prop}(K:KdlSrc prog w T r d n P OK)(hh:A.handled=none)(hok:OK s.heap)(hn:n<=sizeLine)
  (hQ:∀h' tk acc',(∀b o,s.heap.get? b=some o->h'.get? b=some o)->ItemsOf P acc' n->Q acc'.toList { s with heap:=h',toks:=tk }):wpAny (model prog w) A (collect (.ref r)) Q E s:=by
 obtain⟨lr,ld⟩:=K.there s.heap hok
 unfold collect
 refine wpAny_bind (wpAny_runValue (codeAny_builtin F.entry_proto_collect ?_))
 rw[Around.under_plainId F.plain_proto_collect _]
 show wpAny _ A.in1 (newList []>>=fun l=>again (.builtin "list.__iadd__" ⟨[l,.ref r],[]⟩)) _ _ s
 refine wpAny_bind (wpAny_newObj_type ?_)
 refine wpAny_pure ⟨plainId_quiet F.plain_list_iadd _,codeAny_builtin F.entry_list_iadd ?_⟩
 rw[Around.under_plainId F.plain_list_iadd _]
 show wpAny _ A.in1 (Builtin.List.listExtendWith (.ref s.heap.objs.size) (.ref r) (.ref s.heap.objs.size)) _ _ _
 have hS:(s.heap.push { cls:=.type "list",data:=.seq ([]:List Value).toArray }).get? s.heap.objs.size=some { cls:=.type "list",data:=.seq #[] }:=Heap.get?_push_size _ rfl
 refine kdl_extend (R:=fun r s'=>match r with |Except.ok (Flow.ret v)=>wpAny (model prog w) A (match v with |Value.ref a=>(do match(<-load a).data with |.seq xs _=>pure xs.toList |_=>unsupported "internal:collect") |_=>unsupported "internal:collect") Q E s' |Except.ok a=>False |Except.error e=>E e s') (s:={ s with heap:=s.heap.push { cls:=.type "list",data:=.seq ([]:List Value).toArray } }) K hh (K.keep _ _ hok fun b _ o e=>Heap.get?_push_of_some _ e) s.heap.objs.size (Nat.ne_of_gt lr) (Nat.ne_of_gt ld) _ 0 hS (fun h' tk acc' c' kp hS' hacc=>?_) hn
 show wpAny _ A (load s.heap.objs.size>>=_) _ _ _
 refine wpAny_bind (wpAny_load hS' ?_)
 exact wpAny_pure (hQ h' tk acc' (fun b o e=>kp b o (Nat.ne_of_lt (Heap.lt_size e)) (Heap.get?_push_of_some _ e)) hacc)
end L2
namespace L2
open PySem PySem.Spec PyProof.Rows KS PySem.W
section
variable {X:Cx}
theorem EY(hh:X.A.handled=none):fL X (.builtin "sorted") (fun xs H Q=>∃l ys nss,xs=[V.ref l]/\H l=some (.lst ys)/\ys.length<64/\KeysAre H ys nss/\∀out p,H p=none->qz nss ys out->Q (.ref p) (upd H p (.lst out))):=by
 intro pins s σ H xs us Q I r h
 obtain⟨l,ys,nss,rfl,hl,h64,hK,fin⟩:=h
 obtain⟨u,rfl,ru⟩:=vals1 r
 cases ru
 obtain⟨vs,rv,hcol⟩:=DL.JT I hl
 exact yR I rv h64 (fun A _ E Q' hq=>hcol A E Q' fun h1 k=>hq h1 s.toks k) hK fin
theorem Ke{pins:List (Addr×Obj)}{σ:St}{H:Hp}{s:Shared}{a:Addr}{kvs:List (List Key×V)}(I:Inv X pins σ H s)(e:H a=some (.dT kvs)):∃(bs:List Addr) (vs:List Value),Paired (fun(x:List Key×V) (b:Addr)=>H b=some (.tup (x.1.map kV))) kvs bs/\Vals (bs.map V.ref) vs /\
  ∀(A:Around),A.handled=none->∀(E:Value->Shared->Prop) (Q':List Value->Shared->Prop),(∀h1 tk,Kept s h1 []->Q' vs { s with heap:=h1,toks:=tk })->wpAny (model X.prog X.w) A (collect (.ref a)) Q' E s:=by
 obtain⟨z,hd,xs,rel,o,es,ep,h1,h2,h3,h4,h5⟩:=(show bI X.prog X.w H s.heap a (.dT kvs) from I.hok a _ e)
 have en:es.size=kvs.length:=by rw[<-Array.length_toList,h4,List.length_map,Paired.length rel]
 have pr:∀{l:List (List Key×V)} {m:List (List Key×Addr×Value)},KT H l m->Paired (fun(x:List Key×V) (b:Addr)=>H b=some (.tup (x.1.map kV))) l (m.map (·.2.1)):=by
  intro l m q
  induction q with
  | nil=>exact .nil
  | cons h t ih=>exact .cons h.2.1 ih
 have vr:∀l:List (List Key×Addr×Value),Vals ((l.map (·.2.1)).map V.ref) (l.map fun x=>Value.ref x.2.1):=by
  intro l
  induction l with
  | nil=>exact .nil
  | cons x r ih=>exact .cons rfl ih
 refine⟨xs.map (·.2.1),xs.map fun x=>Value.ref x.2.1,pr rel,vr xs,fun A hh E Q' hq=>?_⟩
 refine Cq (DR.De (es:=es) (ep:=ep) hd) hh ⟨o,h1,h2,h3⟩ (by rw[en];exact z) fun h' tk acc' kp hacc=>?_
 have ea:acc'.toList=(xs.map fun x=>Value.ref x.2.1):=by
  apply List.ext_getElem?
  intro i
  rw[List.getElem?_map,Array.getElem?_toList]
  by_cases hi:i<acc'.size
  ·have q:(es[i]?).map (·.key)=some acc'[i]:=hacc.2 i acc'[i] (Array.getElem?_eq_getElem hi)
   rw[entry_at h4 i] at q
   rw[Array.getElem?_eq_getElem hi,<-q]
   cases xs[i]? <;> rfl
  ·have hx:xs.length<=i:=by rw[<-Paired.length rel,<-en,<-hacc.1];omega
   rw[Array.getElem?_eq_none (by omega),List.getElem?_eq_none hx];rfl
 rw[ea]
 exact hq h' tk fun b o _ q=>kp b o q
noncomputable def IntKeys(kvs:List (List Key×V))(nss:List (List Int)):Prop:=kvs.map (·.1)=nss.map (fun ns=>ns.map Sum.inl)/\∀ns∈nss,ns≠[]
theorem Ba{H:Hp}:∀{kvs:List (List Key×V)} {nss:List (List Int)} {bs:List Addr},IntKeys kvs nss->Paired (fun(x:List Key×V) (b:Addr)=>H b=some (.tup (x.1.map kV))) kvs bs->KeysAre H (bs.map V.ref) nss
 | [],[],_,_,.nil=>.nil
 | [],_::_,_,h,_=>by have:=h.1;simp at this
 | _::_,[],_,h,_=>by have:=h.1;simp at this
 | p::kvs,ns::nss,_,h,.cons q t=>by
  obtain⟨h1,h2⟩:=h
  rw[List.map_cons,List.map_cons] at h1
  injection h1 with e1 e2
  refine .cons ⟨_,rfl,?_,h2 ns List.mem_cons_self⟩ (Ba ⟨e2,fun m hm=>h2 m (List.mem_cons_of_mem _ hm)⟩ t)
  rw[q,e1,List.map_map]
  rfl
theorem wF(hh:X.A.handled=none):fL X (.builtin "sorted") (fun xs H Q=>∃a kvs nss,xs=[V.ref a]/\H a=some (.dT kvs)/\kvs.length<64/\IntKeys kvs nss /\
  ∀bs out p,H p=none->Paired (fun(x:List Key×V) (b:Addr)=>H b=some (.tup (x.1.map kV))) kvs bs->qz nss (bs.map V.ref) out->Q (.ref p) (upd H p (.lst out))):=by
 intro pins s σ H xs us Q I r h
 obtain⟨a,kvs,nss,rfl,ha,h64,hK,fin⟩:=h
 obtain⟨u,rfl,ru⟩:=vals1 r
 cases ru
 obtain⟨bs,vs,pr,rv,hcol⟩:=Ke I ha
 refine yR I rv (by rw[List.length_map,<-Paired.length pr];exact h64) (fun A hA E Q' hq=>hcol A (hA.trans hh) E Q' hq) (Ba hK pr) fun out p hp so=>fin bs out p hp pr so
end
end L2
namespace DL
open PySem PySem.Spec PyProof.Rows L2
noncomputable def vm:D->Option (List D)
 | .lst xs=>some xs
 | _=>none
theorem Hj{d:D}{xs:List D}(h:vm d=some xs):d=.lst xs:=by
 unfold vm at h
 split at h
 ·cases h;rfl
 ·cases h
noncomputable def sX(g:Den):Den:=fun ρ Ω=>(g ρ Ω).bind fun p=>(vm p.1).bind fun ds=>(rn ds).bind fun nss=>(wz nss ds).bind fun z=>some (z,p.2)
noncomputable def UW:Key->Option Int
 | .inl i=>some i
 | .inr _=>none
noncomputable def zH:List Key->Option (List Int)
 | []=>some []
 | k::ks=>(UW k).bind fun i=>(zH ks).bind fun is=>some (i::is)
noncomputable def wG:List (List Key×D)->Option (List (List Int))
 | []=>some []
 | p::r=>(zH p.1).bind fun ns=>if ns=[] then none else(wG r).bind fun nss=>some (ns::nss)
noncomputable def dTO:OS->Option (List (List Key×D))
 | .dT kvs=>some kvs
 | _=>none
theorem ur{o:OS}{kvs:List (List Key×D)}(h:dTO o=some kvs):o=.dT kvs:=by
 unfold dTO at h
 split at h
 ·cases h;rfl
 ·cases h
noncomputable def mX(f:Den):Den:=fun ρ Ω=>(f ρ Ω).bind fun p=>(jN p.1).bind fun n=>(p.2[n]?).bind fun o=>(dTO o).bind fun kvs=>(wG kvs).bind fun nss=>(wz nss (kvs.map fun x=>.tup (x.1.map ofK))).bind fun z=>some (z,p.2)
theorem Bb:∀{ks:List Key} {ns:List Int},zH ks=some ns->ks=ns.map Sum.inl
 | [],_,h=>by cases h;rfl
 | k::ks,_,h=>by
  obtain⟨i,h1,h⟩:=Option.bind_eq_some_iff.mp h
  obtain⟨is,h2,h⟩:=Option.bind_eq_some_iff.mp h
  cases h
  rw[List.map_cons,Bb h2]
  cases k with
  | inl j=>cases h1;rfl
  | inr _=>cases h1
theorem vo{κ:Type}{f:List Key×κ->List Key×D}:∀{kvs:List (List Key×D)} {nss:List (List Int)},wG kvs=some nss->kvs.map (·.1)=nss.map (fun ns=>ns.map Sum.inl)/\∀ns∈nss,ns≠[]
 | [],_,h=>by cases h;exact⟨rfl,fun _ z=>nomatch z⟩
 | p::r,_,h=>by
  obtain⟨ns,h1,h⟩:=Option.bind_eq_some_iff.mp h
  split at h
  ·cases h
  ·rename_i hne
   obtain⟨nss,h2,h⟩:=Option.bind_eq_some_iff.mp h
   cases h
   obtain⟨e1,e2⟩:=vo (f:=f) h2
   refine⟨by rw[List.map_cons,List.map_cons,e1,Bb h1],fun m hm=>?_⟩
   rcases List.mem_cons.mp hm with rfl |hm
   ·exact hne
   ·exact e2 m hm
section
variable {X:Cx} {C:Cl} {n:Str} {p pos:Pos} {a b:Expr} {f g:Den} {k:Nat}
theorem Kf(hr:Room k X.A)(hg:Gl X n)(hm:X.mg n=none)(hv:bootBuiltins n=some (.builtin "sorted"))(ho:PD X C a g)(hn:n ≠ "__name__":=by decide)(hdb:(n==("__debug__":Str))=false:=by decide)
  (he:starEach [a] X.env=(false,eval a X.env)::starEach [] X.env:=by rfl) (hpl:(backTo pos (starEach [] X.env)).any (·.1)=false:=by rfl):PD X C (.Call (.Name n p) [a] [] pos) (sX g) :=
 aY (fZ (EY hr.hd) hg hm hv (bF ho cQ he) hn hdb he hpl) fun σ H Q hw'=>by
  obtain⟨e,Ω,ρ,d,Ω',eH,w,rl,q,kk⟩:=hw'
  obtain⟨⟨d1,Ω1⟩,q1,qa⟩:=Option.bind_eq_some_iff.mp q
  obtain⟨ds,q2,qb⟩:=Option.bind_eq_some_iff.mp qa
  obtain⟨nss,q3,qc⟩:=Option.bind_eq_some_iff.mp qb
  obtain⟨z,q4,qd⟩:=Option.bind_eq_some_iff.mp qc
  clear q qa qb qc
  have e2:=Hj q2
  dsimp only at e2 qd
  subst e2
  cases qd
  obtain⟨⟨h64,hl,one⟩,ez⟩:=iJ q4
  cases ez
  refine⟨e,Ω,ρ,_,_,eH,w,rl,q1,fun v e1 x1 w1 i1=>?_⟩
  rw[Is] at i1
  obtain⟨l,vs,rfl,hF,il⟩:=i1
  have len:=il.length
  refine⟨l,vs,nss,rfl,w1.fh _ _ hF,by omega,yP w1.fh q3 il,fun out p' hp so=>?_⟩
  obtain⟨pm,hpm,rfl,hup⟩:=so
  rw[<-len] at hpm
  refine kk _ (e1.new p' _) (x1.trans (w1.new_ext hp)) (w1.new hp) ?_
  rw[<-q_ hl one hpm hup,Is]
  exact⟨p',_,rfl,aJ,(rm il pm fun i hi=>by simpa using hpm.mem_iff.mp hi).ext (w1.new_ext hp)⟩
theorem Kg(hr:Room k X.A)(hg:Gl X n)(hm:X.mg n=none)(hv:bootBuiltins n=some (.builtin "sorted"))(ho:PD X C a f)(hn:n ≠ "__name__":=by decide)(hdb:(n==("__debug__":Str))=false:=by decide)
  (he:starEach [a] X.env=(false,eval a X.env)::starEach [] X.env:=by rfl) (hpl:(backTo pos (starEach [] X.env)).any (·.1)=false:=by rfl):PD X C (.Call (.Name n p) [a] [] pos) (mX f) :=
 aY (fZ (wF hr.hd) hg hm hv (bF ho cQ he) hn hdb he hpl) fun σ H Q hw'=>by
  obtain⟨e,Ω,ρ,d,Ω',eH,w,rl,q,kk⟩:=hw'
  obtain⟨⟨d1,Ω1⟩,q1,qa⟩:=Option.bind_eq_some_iff.mp q
  obtain⟨m,q2,qb⟩:=Option.bind_eq_some_iff.mp qa
  obtain⟨o,q3,qc⟩:=Option.bind_eq_some_iff.mp qb
  obtain⟨kvs,q4,qd⟩:=Option.bind_eq_some_iff.mp qc
  obtain⟨nss,q5,qe⟩:=Option.bind_eq_some_iff.mp qd
  obtain⟨z,q6,qf⟩:=Option.bind_eq_some_iff.mp qe
  clear q qa qb qc qd qe
  have e2:=gn q2
  have e4:=ur q4
  dsimp only at e2 q3 qf
  subst e2 e4
  cases qf
  obtain⟨⟨h64,hl,one⟩,ez⟩:=iJ q6
  cases ez
  refine⟨e,Ω,ρ,_,_,eH,w,rl,q1,fun v e1 x1 w1 i1=>?_⟩
  rw[Is] at i1
  obtain⟨a,hα,rfl⟩:=i1
  obtain⟨vs,h1,h2⟩:=(w1.ob m a _ hα q3).2
  obtain⟨z1,z2⟩:=vo (κ:=D) (f:=id) q5
  refine⟨a,vs,nss,rfl,h1,?_,⟨by rw[jo h2];exact z1,z2⟩,fun bs out p' hp pr so=>?_⟩
  ·have:=congrArg List.length (jo h2)
   simp only[List.length_map] at this h64
   omega
  obtain⟨e2,eH2,eα2,x2,w2,ft⟩:=w1.tups
  have hp2:e2.H p'=none:=by rw[eH2];exact hp
  have il:IsL X.K e2.α e2.F (kvs.map fun x=>.tup (x.1.map ofK)) (bs.map V.ref):=qZ (H:=e1.H) (fun b xs hb=>ft b xs hb) (jo h2).symm pr
  have len:=il.length
  obtain⟨pm,hpm,rfl,hup⟩:=so
  rw[<-len] at hpm
  have z:=kk (.ref p') (e2.new p' _) ((x1.trans x2).trans (w2.new_ext hp2)) (w2.new hp2) (by
   rw[<-q_ hl one hpm hup,Is]
   exact⟨p',_,rfl,aJ,(rm il pm fun i hi=>by simpa using hpm.mem_iff.mp hi).ext (w2.new_ext hp2)⟩)
  have eq:∀o,(e2.new p' o).H=upd e1.H p' o:=fun o=>by show upd e2.H p' o=_;rw[eH2]
  rw[<-eq];exact z
end
end DL
namespace DL
open PySem PySem.Spec PyProof.Rows L2
section
variable {X:Cx} {C:Cl} {a b x:Expr} {f g:Den} {ga:bx} {n:Str} {p pos:Pos} {k:Nat}
theorem xR{pins:List (Addr×Obj)}{s:Shared}{σ:St}{e:E4}{q:PyData}(I:Inv X pins σ e.H s)(fh:bC e.F e.H) :
  ∀{ds:List D} {xs:List V} {us:List Value},IsL X.K e.α e.F ds xs->Vals xs us->(ds.all fun d=>SeqAt.shaped (toP d))=true->us.map (eqR s.heap q)=ds.map fun d=>PyData.eqv (toP d) q
 | [],xs,us,i,v,_=>by
  have e:=i.of_nil
  subst e
  cases v
  rfl
 | d::ds,xs,us,i,v,h=>by
  obtain⟨x,r',rfl,i1,i2⟩:=i.of_cons
  cases v with
  | cons rv rs =>
   rw[List.all_cons,Bool.and_eq_true] at h
   obtain⟨bs,rd⟩:=gb I rfl fh d (SeqAt.canLay_of_shaped h.1) i1 rv
   rw[List.map_cons,List.map_cons,Hi rd (SeqAt.canLay_of_shaped h.1),xR I fh i2 rs h.2]
theorem _root_.L2.Room.u65{k:Nat}{A:Around}(r:Room k A):A.units+65<cLine:=by have:=r.un;omega
noncomputable def rC(ds:List D)(x:D):Option D:=if SeqAt.shaped (toP x) && ds.all fun d=>SeqAt.shaped (toP d) then some (.int (ds.countP fun d=>PyData.eqv (toP d) (toP x):Nat)) else none
noncomputable def rD(ds:List D)(x:D):Option D:=if SeqAt.shaped (toP x) && ds.all fun d=>SeqAt.shaped (toP d) then(ds.findIdx? fun d=>PyData.eqv (toP d) (toP x)).bind fun j=>if j<big then some (.int (j:Nat)) else none else none
noncomputable def nW(r:List D->D->Option D)(f g:Den):Den:=fun ρ Ω=>(f ρ Ω).bind fun p=>(vm p.1).bind fun ds=>(g ρ p.2).bind fun q=>(r ds q.1).bind fun z=>some (z,q.2)
theorem rO{α:Type}(l:List α)(h:α->Bool):l.countP h=(l.map h).countP id:=by rw[List.countP_map];rfl
theorem qF{α:Type}(l:List α)(h:α->Bool):l.findIdx? h=(l.map h).findIdx? id:=by rw[List.findIdx?_map];rfl
noncomputable def E_(X:Cx)(C:Cl)(r:List D->D->Option D):V->List V->Hp->VK->Prop:=fun x vs H Q=>∃e Ω l xs y ds d z,e.H=H/\Wf X.K C e Ω/\x=.ref l/\vs=[y]/\e.H l=some (.lst xs)/\IsL X.K e.α e.F ds xs/\Is X.K e.α e.F d y/\r ds d=some (.int z)/\Q (.int z) H
theorem OD(hu1:X.A.units+65<cLine):MtR X "list.count" (E_ X C rC):=by
 have hu1:X.A.in1.units+64<cLine:=by show X.A.units+1+64<_;omega
 intro pins s σ H x vs v us Q I rx rv h
 obtain⟨e,Ω,l,xs,y,ds,d,z,rfl,w,rfl,rfl,hl,il,iy,q,kk⟩:=h
 unfold rC at q
 split at q
 ·rename_i hs
  rw[Bool.and_eq_true] at hs
  cases q
  cases rx
  obtain⟨u,rfl,ru⟩:=vals1 rv
  obtain⟨its,r,⟨⟨cls,dd,data,sl⟩,n,ho,hc,_,hd⟩,_⟩:=I.list (SqL.of hl)
  simp only at hc hd
  subst hc hd
  obtain⟨as,rd⟩:=gb I rfl w.fh d (SeqAt.canLay_of_shaped hs.1) iy ru
  obtain⟨_,t2⟩:=xQ (A:=X.A.in1) I w.fh rd hs.1 hu1 il r hs.2
  refine call_meets PySem.F.slot_list_count ⟨_,ho,rfl⟩ PySem.F.entry_list_count (PySem.F.args_list_count_2 _ _) (SeqAt.list_countAt l its.toArray n dd sl _ (eqR s.heap (toP d))) ⟨ho,fun y hy=>t2 y (by simpa using hy),?_⟩
  show EP X pins σ Q _ _
  rw[show its.toArray.toList=its from rfl,rO,xR I w.fh il r hs.2,<-rO]
  exact⟨.int _,e.H,I.tok _,⟨_,rfl⟩,kk⟩
 ·cases q
theorem OJ(hu1:X.A.units+65<cLine):MtR X "list.index" (E_ X C rD):=by
 have hu1:X.A.in1.units+64<cLine:=by show X.A.units+1+64<_;omega
 intro pins s σ H x vs v us Q I rx rv h
 obtain⟨e,Ω,l,xs,y,ds,d,z,rfl,w,rfl,rfl,hl,il,iy,q,kk⟩:=h
 unfold rD at q
 split at q
 ·rename_i hs
  rw[Bool.and_eq_true] at hs
  obtain⟨j,hj,q⟩:=Option.bind_eq_some_iff.mp q
  split at q
  ·rename_i hjb
   cases q
   cases rx
   obtain⟨u,rfl,ru⟩:=vals1 rv
   obtain⟨its,r,⟨⟨cls,dd,data,sl⟩,n,ho,hc,_,hd⟩,_⟩:=I.list (SqL.of hl)
   simp only at hc hd
   subst hc hd
   obtain⟨as,rd⟩:=gb I rfl w.fh d (SeqAt.canLay_of_shaped hs.1) iy ru
   obtain⟨_,t2⟩:=xQ (A:=X.A.in1) I w.fh rd hs.1 hu1 il r hs.2
   rw[qF,<-xR I w.fh il r hs.2,<-qF,List.findIdx?_eq_some_iff_getElem] at hj
   obtain⟨hjl,hit,hno⟩:=hj
   refine call_meets PySem.F.slot_list_index ⟨_,ho,rfl⟩ PySem.F.entry_list_index (PySem.F.args_list_index_2 _ _) (SeqAt.list_indexAt l its.toArray n dd sl _ (eqR s.heap (toP d)) j (by simpa using hjl) (by have:big=100000:=rfl;omega) (by simpa using hit) fun m hm hmj=>?_) ⟨ho,fun y hy=>t2 y (by simpa using hy),?_⟩
   ·have:=hno m hmj
    simpa using this
   ·show EP X pins σ Q _ _
    exact⟨.int _,e.H,I.tok _,⟨_,rfl⟩,kk⟩
  ·cases q
 ·cases q
theorem Kh{ds:List D}{x z:D}(h:rC ds x=some z):∃i,z=.int i:=by
 unfold rC at h
 split at h
 ·cases h;exact⟨_,rfl⟩
 ·cases h
theorem Kl{ds:List D}{x z:D}(h:rD ds x=some z):∃i,z=.int i:=by
 unfold rD at h
 split at h
 ·obtain⟨j,_,h⟩:=Option.bind_eq_some_iff.mp h
  split at h
  ·cases h;exact⟨_,rfl⟩
  ·cases h
 ·cases h
theorem Bc{r:List D->D->Option D}(hz:∀{ds x z},r ds x=some z->∃i,z=.int i){σ:St}{H:Hp}{Q:VK}(hw:tD X.K C (nW r f g) σ H Q):tBM X.K "list" (E_ X C r) (tD X.K C f) (zF (tD X.K C g) zL) σ H Q:=by
 obtain⟨e,Ω,ρ,d,Ω',eH,w,rl,q,kk⟩:=hw
 obtain⟨⟨d1,Ω1⟩,q1,qa⟩:=Option.bind_eq_some_iff.mp q
 obtain⟨ds,q2,qb⟩:=Option.bind_eq_some_iff.mp qa
 obtain⟨⟨d3,Ω3⟩,q3,qc⟩:=Option.bind_eq_some_iff.mp qb
 obtain⟨z,q4,qd⟩:=Option.bind_eq_some_iff.mp qc
 clear q qa qb qc
 have e2:=Hj q2
 dsimp only at e2 q3 q4 qd
 subst e2
 cases qd
 obtain⟨i,rfl⟩:=hz q4
 refine⟨e,Ω,ρ,_,Ω1,eH,w,rl,q1,fun v e1 x1 w1 i1=>?_⟩
 have i1':=i1
 rw[Is] at i1'
 obtain⟨l,vs,rfl,hF,il⟩:=i1'
 refine⟨.inl ⟨rfl,_,SqL.of (w1.fh _ _ hF)⟩,e1,Ω1,ρ,d3,_,rfl,w1,rl.ext x1,q3,fun u e2 x2 w2 i2=>?_⟩
 exact⟨e2,_,l,vs,u,ds,d3,i,rfl,w2,rfl,rfl,w2.fh _ _ (x2.ff _ _ hF),il.ext x2,i2,q4,kk _ e2 (x1.trans x2) w2 (by rw[Is])⟩
theorem O_{ap cp:Pos}(hr:X.A.units+65<cLine)(ha:PD X C a f)(hb:PD X C b g)
  (hbase:attributeBase a "count" X.env (eval a X.env)=eval a X.env:=by rfl) (hline:(ap.endLine==cp.line)=true:=by rfl) (hs1:starEach [b] X.env=(false,eval b X.env)::starEach [] X.env:=by rfl)
  (hfew:((backTo cp (starEach [b] X.env)).all (fun x=>!x.1) && (backToKw cp (keywordEach [] X.env)).all (fun x=>x.1.isSome) && decide ([b].length+([]:List Keyword).length+(if([]:List Keyword).isEmpty then 0 else 1)<30))=true:=by rfl)
  (hpl:(backTo cp (starEach [] X.env)).any (·.1)=false:=by rfl):PD X C (.Call (.Attribute a "count" ap) [b] [] cp) (nW rC f g) :=
 aY (vK PySem.F.plainAttrs_list PySem.F.slot_list_count PySem.F.type_list_count (OD (C:=C) hr) ha (bF hb cQ hs1) hbase hfew hline hs1 hpl) fun σ H Q hw'=>Bc Kh hw'
theorem Pa{ap cp:Pos}(hr:X.A.units+65<cLine)(ha:PD X C a f)(hb:PD X C b g)
  (hbase:attributeBase a "index" X.env (eval a X.env)=eval a X.env:=by rfl) (hline:(ap.endLine==cp.line)=true:=by rfl) (hs1:starEach [b] X.env=(false,eval b X.env)::starEach [] X.env:=by rfl)
  (hfew:((backTo cp (starEach [b] X.env)).all (fun x=>!x.1) && (backToKw cp (keywordEach [] X.env)).all (fun x=>x.1.isSome) && decide ([b].length+([]:List Keyword).length+(if([]:List Keyword).isEmpty then 0 else 1)<30))=true:=by rfl)
  (hpl:(backTo cp (starEach [] X.env)).any (·.1)=false:=by rfl):PD X C (.Call (.Attribute a "index" ap) [b] [] cp) (nW rD f g) :=
 aY (vK PySem.F.plainAttrs_list PySem.F.slot_list_index PySem.F.type_list_index (OJ (C:=C) hr) ha (bF hb cQ hs1) hbase hfew hline hs1 hpl) fun σ H Q hw'=>Bc Kl hw'
noncomputable def uw(ga:bx):Den:=fun ρ Ω=>(ga ρ Ω).bind fun p=>some (.obj p.2.length,p.2++[.mls p.1])
theorem Dq(h:PDN X C x ga):PD X C x (uw ga):=aY h fun σ H Q hw'=>by
 obtain⟨e,Ω,ρ,d,Ω',eH,w,rl,q,kk⟩:=hw'
 obtain⟨⟨ds,Ω1⟩,q1,qa⟩:=Option.bind_eq_some_iff.mp q
 cases qa
 refine⟨e,Ω,ρ,ds,Ω1,eH,w,rl,q1,fun p vs e' x' w' i' hp=>?_⟩
 obtain⟨w2,x2⟩:=w'.obj (H':=upd e'.H p (.lst vs)) (o:=.mls ds) hp (fun b u hb=>by rw[aC (aM hb hp)];exact hb) (by rw[aJ];exact⟨by simp,fun xs z=>nomatch z⟩) ⟨vs,aJ,IsL.mono (bC.refl _) ⟨[p],rfl⟩ _ i'⟩
 refine kk _ (e'.obj p _) (x'.trans x2) w2 ?_
 rw[Is]
 exact⟨p,by show(e'.α++[p])[Ω1.length]? = some p;rw[<-w'.ol];simp,rfl⟩
noncomputable def sY(f:Den):Den:=fun ρ Ω=>(f ρ Ω).bind fun p=>(jN p.1).bind fun n=>(p.2[n]?).bind fun o=>(iM o).bind fun _=>some (.bl true,p.2)
theorem Bd{y:Expr}(ha:PD X C x f)(hy:PE X y (tC (.ty "list")))(hg:Gl X n)(hm:X.mg n=none)(hv:bootBuiltins n=some (.builtin "isinstance"))
  (hk:∀t∈["NoneType","bool","int","str","tuple","list"],PySem.W.kitOne X.K (.type t) (.type "list")=some (decide (t = "list") || (decide (t = "bool") && decide ("list" = "int"))))
  (hn:n ≠ "__name__":=by decide) (hdb:(n==("__debug__":Str))=false:=by decide)
  (he:starEach [x,y] X.env=(false,eval x X.env)::starEach [y] X.env:=by rfl) (he2:starEach [y] X.env=(false,eval y X.env)::starEach [] X.env:=by rfl) (hpl:(backTo pos (starEach [y] X.env)).any (·.1)=false:=by rfl) :
  PD X C (.Call (.Name n p) [x,y] [] pos) (sY f):=by
 have hc:fL X (.builtin "isinstance") (fun xs H Q=>∃v t k,xs=[v,.ty "list"]/\TyOf X.K H v (.type t)/\PySem.W.kitOne X.K (.type t) (.type "list")=some k/\Q (.bl k) H):=by
  intro pins s σ H xs us Q I r hw
  obtain⟨v,t,k,rfl,ty,e,q⟩:=hw
  obtain⟨u,w',rfl,r1,r2⟩:=vals2 r
  cases (show w'=Value.type "list" from r2)
  exact yq I r1 ty e fun tk=>⟨.bl k,H,I.tok tk,rfl,q⟩
 refine aY (fZ hc hg hm hv (bF ha (bF hy cQ he2) he) hn hdb he hpl) fun σ H Q hw'=>?_
 obtain⟨e,Ω,ρ,d,Ω',eH,w,rl,q,kk⟩:=hw'
 obtain⟨⟨d1,Ω1⟩,q1,qa⟩:=Option.bind_eq_some_iff.mp q
 obtain⟨m,q2,qb⟩:=Option.bind_eq_some_iff.mp qa
 obtain⟨o,q3,qc⟩:=Option.bind_eq_some_iff.mp qb
 obtain⟨ds,q4,qd⟩:=Option.bind_eq_some_iff.mp qc
 clear q qa qb qc
 have e2:=gn q2
 have e4:=ik q4
 dsimp only at e2 q3 qd
 subst e2 e4
 cases qd
 refine⟨e,Ω,ρ,_,_,eH,w,rl,q1,fun v e1 x1 w1 i1=>?_⟩
 rw[Is] at i1
 obtain⟨l,hα,rfl⟩:=i1
 obtain⟨vs,hH,_⟩:=w1.mls hα q3
 exact⟨.ref l,"list",_,rfl,.lst hH,hk "list" (by simp),kk _ e1 x1 w1 (by rw[Is];rfl)⟩
noncomputable def jO(neg:Bool)(f g:Den):Den:=fun ρ Ω=>(f ρ Ω).bind fun p=>(jN p.1).bind fun n=>(g ρ p.2).bind fun q=>(q.2[n]?).bind fun o=>(iM o).bind fun xs=>(eqD neg (.lst xs) q.1).bind fun z=>some (z,q.2)
noncomputable def Km(X:Cx)(C:Cl)(neg:Bool):R2:=fun x y H Q=>∃e Ω l vs xs d z,e.H=H/\Wf X.K C e Ω/\x=.ref l/\e.H l=some (.lst vs)/\IsL X.K e.α e.F xs vs/\Is X.K e.α e.F d y/\eqD neg (.lst xs) d=some (.bl z)/\Q (.bl z) H
theorem oF{neg:Bool}{p q z:D}(h:eqD neg p q=some z):SeqAt.shaped (toP p)=true/\SeqAt.shaped (toP q)=true/\z=.bl (if neg then !PyData.eqv (toP p) (toP q) else PyData.eqv (toP p) (toP q)):=by
 unfold eqD at h
 split at h
 ·rename_i hs
  rw[Bool.and_eq_true] at hs
  cases h
  exact⟨hs.1,hs.2,rfl⟩
 ·cases h
theorem pP{pins:List (Addr×Obj)}{s:Shared}{σ:St}{e:E4}(I:Inv X pins σ e.H s)(fh:bC e.F e.H){l:Addr}{vs:List V}{xs:List D}(hl:e.H l=some (.lst vs))(il:IsL X.K e.α e.F xs vs)(hc:(toP (.lst xs)).canLay0=true):∃as,Reads s.heap (.ref l) (toP (.lst xs)) as:=by
 obtain⟨_,its,n,rv,e1⟩:=(show bI X.prog X.w e.H s.heap l (.lst vs) from I.hok l _ hl)
 rw[toP] at hc ⊢
 obtain⟨as,z⟩:=pI I rfl fh xs (by simpa [PyData.canLay0] using hc) il rv
 exact⟨_,.list e1 rfl rfl (by simpa using z)⟩
theorem Rx(hu:X.A.units+64<cLine):OpR X (compareOp .Eq) (Km X C false):=by
 intro pins s σ H x y v u Q I rx ry h
 obtain⟨e,Ω,l,vs,xs,d,z,rfl,w,rfl,hl,il,iy,q,kk⟩:=h
 obtain⟨s1,s2,ez⟩:=oF q
 cases ez
 cases rx
 obtain⟨as,r1⟩:=pP I w.fh hl il (SeqAt.canLay_of_shaped s1)
 obtain⟨bs,r2⟩:=gb I rfl w.fh d (SeqAt.canLay_of_shaped s2) iy ry
 exact eq_dataH r1 r2 s1 s2 hu ⟨.bl _,e.H,I,rfl,kk⟩
theorem Ry(hu:X.A.units+64<cLine):OpR X (compareOp .NotEq) (Km X C true):=by
 intro pins s σ H x y v u Q I rx ry h
 obtain⟨e,Ω,l,vs,xs,d,z,rfl,w,rfl,hl,il,iy,q,kk⟩:=h
 obtain⟨s1,s2,ez⟩:=oF q
 cases ez
 cases rx
 obtain⟨as,r1⟩:=pP I w.fh hl il (SeqAt.canLay_of_shaped s1)
 obtain⟨bs,r2⟩:=gb I rfl w.fh d (SeqAt.canLay_of_shaped s2) iy ry
 exact ne_dataH r1 r2 s1 s2 hu ⟨.bl _,e.H,I,rfl,kk⟩
theorem Be{neg:Bool}{σ:St}{H:Hp}{Q:VK}(hw:tD X.K C (jO neg f g) σ H Q):tOp (Km X C neg) (tD X.K C f) (tD X.K C g) σ H Q:=by
 obtain⟨e,Ω,ρ,d,Ω',eH,w,rl,q,kk⟩:=hw
 obtain⟨⟨d1,Ω1⟩,q1,qa⟩:=Option.bind_eq_some_iff.mp q
 obtain⟨m,q2,qb⟩:=Option.bind_eq_some_iff.mp qa
 obtain⟨⟨d3,Ω3⟩,q3,qc⟩:=Option.bind_eq_some_iff.mp qb
 obtain⟨o,q4,qd⟩:=Option.bind_eq_some_iff.mp qc
 obtain⟨xs,q5,qe⟩:=Option.bind_eq_some_iff.mp qd
 obtain⟨z,q6,qf⟩:=Option.bind_eq_some_iff.mp qe
 clear q qa qb qc qd qe
 have e2:=gn q2
 have e5:=ik q5
 dsimp only at e2 q3 q4 q6 qf
 subst e2 e5
 cases qf
 obtain⟨_,_,ez⟩:=oF q6
 subst ez
 refine⟨e,Ω,ρ,_,Ω1,eH,w,rl,q1,fun v e1 x1 w1 i1=>?_⟩
 refine⟨e1,Ω1,ρ,d3,_,rfl,w1,rl.ext x1,q3,fun u e2 x2 w2 i2=>?_⟩
 have i1':=i1.ext x2
 rw[Is] at i1'
 obtain⟨l,hα,rfl⟩:=i1'
 obtain⟨vs,hH,il⟩:=w2.mls hα q4
 exact⟨e2,_,l,vs,xs,d3,_,rfl,w2,rfl,hH,il,i2,q6,kk _ e2 (x1.trans x2) w2 (by rw[Is])⟩
theorem Dr(hu:X.A.units+64<cLine)(ha:PD X C a f)(hb:PD X C b g)(hm:behindInMarks .Eq b=false:=by first |exact nobehind _ (by decide) (by decide) |rfl):PDT X C (.Compare a [.Eq] [b] pos) (gT (jO false f g)) :=
 mU (tW (Rx (C:=C) hu) ha hb hm) fun _ _ _ h=>Be (my h)
theorem Ds(hu:X.A.units+64<cLine)(ha:PD X C a f)(hb:PD X C b g)(hm:behindInMarks .NotEq b=false:=by first |exact nobehind _ (by decide) (by decide) |rfl):PDT X C (.Compare a [.NotEq] [b] pos) (gT (jO true f g)) :=
 mU (tW (Ry (C:=C) hu) ha hb hm) fun _ _ _ h=>Be (my h)
end
end DL
namespace DL
open PySem PySem.Spec PyProof.Rows L2
noncomputable def jh(n:Nat)(xs:List D)(β:dH)(p:bR)(g:Den):List D->List Sl->List OS->Option (List D×List OS)
 | [],_,Ω=>grd (Ω[n]? = some (.mls xs)) (some ([],Ω))
 | d::ds,ρ,Ω=>grd (Ω[n]? = some (.mls xs)) (match β d ρ with
  | some ρ1=>match p ρ1 Ω with
   | some (true,Ω1)=>match g ρ1 Ω1 with
    | some (y,Ω2)=>match jh n xs β p g ds ρ1 Ω2 with
     | some (ys,Ω3)=>some (y::ys,Ω3)
     | none=>none
    | none=>none
   | some (false,Ω1)=>jh n xs β p g ds ρ1 Ω1
   | none=>none
  | none=>none)
noncomputable def gq(μ:List (Option Nat))(f:Den)(β:dH)(p:bR)(g:Den):Den:=fun ρ Ω=>(f ρ Ω).bind fun q=>(jN q.1).bind fun n=>(q.2[n]?).bind fun o=>(iM o).bind fun xs =>
 if xs.length<=big then(jh n xs β p g xs (cI μ ρ) q.2).bind fun r=>some (.lst r.1,r.2) else none
section
variable {K:PySem.W.Frag} {C:Cl} {β:dH} {p:bR} {g:Den} {μ:List (Option Nat)}
structure CIM(nn:Nat)(K:PySem.W.Frag)(C:Cl)(β:dH)(p:bR)(g:Den)(ds:List D)(a:Addr)(ysAll:List D)(Ωf:List OS)(e':E4)(i:Nat)(σ':St)(e2:E4)(Ω2:List OS)(ρ2:List Sl)(vs:List V)(ys0 ys1:List D):Prop where
 w:Wf K C e2 Ω2
 r:RelE K e2 σ' ρ2
 no:∀(j:Nat) (es:List D),ρ2[j]? ≠ some (.own es)
 ha:e2.H a=some (.lst vs)
 hF:e2.F a=none
 hA:¬e2.A a
 iy:IsL K e2.α e2.F ys0 vs
 x:Ext e' e2
 q:jh nn ds β p g (ds.drop i) ρ2 Ω2=some (ys1,Ωf)
 ey:ys0++ys1=ysAll
 hy:ys0.length<=i
noncomputable def LR(nn:Nat)(K:PySem.W.Frag)(C:Cl)(β:dH)(p:bR)(g:Den)(ds:List D)(a:Addr)(ysAll:List D)(Ωf:List OS)(e':E4)(i:Nat)(σ':St)(H':Hp):Prop :=
 ∃e2 Ω2 ρ2 vs ys0 ys1,e2.H=H'/\CIM nn K C β p g ds a ysAll Ωf e' i σ' e2 Ω2 ρ2 vs ys0 ys1
theorem yS{nn:Nat}{f:Den}{σ:St}{H:Hp}{Q:VK}{e:E4}{Ω Ω1 Ωf:List OS}{ρ:List Sl}{ds ysAll:List D}(eH:e.H=H)(w:Wf K C e Ω)(rl:RelE K e σ ρ)(q1:f ρ Ω=some (.obj nn,Ω1))(q0:Ω1[nn]? = some (.mls ds))(hbig:ds.length<=big)(q2:jh nn ds β p g ds (cI μ ρ) Ω1=some (ysAll,Ωf))
  (fin:∀a vs e2,Ext e e2->Wf K C e2 Ωf->e2.H a=some (.lst vs)->e2.F a=none->¬e2.A a->e.H a=none->IsL K e2.α e2.F ysAll vs->Q (.ref a) e2.H):vO μ (Lk K (tD K C f)) (tDG K C β) (tDT K C p) (tD K C g) σ H Q:=by
 refine⟨e,Ω,ρ,_,Ω1,eH,w,rl,q1,fun v e' x' w' i'=>?_⟩
 rw[Is] at i'
 obtain⟨ax,hα,rfl⟩:=i'
 obtain⟨vs0,hH0,_⟩:=w'.mls hα q0
 refine⟨ax,rfl,⟨vs0,SqL.of hH0⟩,fun a ha=>?_⟩
 refine⟨fun i m σ' H'=>m=ds.length-i/\i<=ds.length/\LR nn K C β p g ds a ysAll Ωf e' i σ' H',⟨ds.length,by simp,Nat.zero_le _,⟨e'.α,e'.F,e'.A,upd e'.H a (.lst [])⟩,Ω1,cI μ ρ,[],[],ysAll,rfl,⟨?_,?_,fun j es=>k_,aJ,w'.nF ha,fun z=>(w'.ah a z).1 ha,.nil,?_,by simpa using q2,rfl,Nat.zero_le _⟩⟩,?_⟩
 ·refine⟨fun b u hb=>?_,w'.fa,fun b hb=>?_,w'.ol,w'.nd,fun n b u h1 h2=>⟨(w'.ob n b u h1 h2).1,(w'.ob n b u h1 h2).2.keep (fun z hz=>?_) (bC.refl _) ⟨[],by simp⟩⟩⟩
  ·show upd e'.H a _ b=some u
   rw[aC (aM (w'.fh b u hb) ha)];exact w'.fh b u hb
  ·show upd e'.H a _ b≠none/\∀xs,upd e'.H a _ b≠some (.tup xs)
   rw[aC (fun z=>(w'.ah b hb).1 (by rw[z];exact ha))];exact w'.ah b hb
  ·show upd e'.H a _ b=some z
   rw[aC (aM hz ha)];exact hz
 ·have r1:=yH (μ:=μ) (rl.ext x')
  exact⟨r1.len,r1.dat,fun j es h=>absurd h k_,r1.sep⟩
 ·refine⟨fun b o' u hb=>by show upd e'.H a _ b=some (.frz o' u);rw[aC (aM hb ha)];exact hb,fun b u hb _=>?_,fun b u hb=>⟨u,?_⟩,bC.refl _,fun b u hb=>.inl hb,fun b hb=>.inl hb,fun b hb=>hb,[],by simp⟩
  ·show upd e'.H a _ b=some u
   rw[aC (aM hb ha)];exact hb
  ·show upd e'.H a _ b=some u
   rw[aC (aM hb ha)];exact hb
 ·rintro i m σ2 H2 ⟨rfl,hil,e2,Ω2,ρ2,vs,ys0,ys1,rfl,⟨w2,r2,no2,ha2,hF2,hA2,iy,x2,q3,ey,hy⟩⟩
  have al:e2.α[nn]? = some ax:=ou (K:=K) x2 hα
  by_cases hlt:i<ds.length
  ·have hd:ds[i]? = some ds[i]:=List.getElem?_eq_getElem hlt
   have edrop:ds.drop i=ds[i]::ds.drop (i+1):=List.drop_eq_getElem_cons hlt
   rw[edrop] at q3
   unfold jh at q3
   obtain⟨hgd,q3⟩:=iJ q3
   obtain⟨us,hU,iU⟩:=w2.mls al hgd
   obtain⟨u0,hu0,ix⟩:=iU.get hd
   refine .inr ⟨⟨us,u0,SqL.of hU,hu0⟩,fun σ' H'=>i+1<=ds.length/\LR nn K C β p g ds a ysAll Ωf e' (i+1) σ' H',fun σ' H' hN=>⟨ds.length-(i+1),by omega,rfl,hN⟩,fun x H' hyl=>?_⟩
   obtain⟨rfl,hx⟩:=hyl
   have hx':=hx us (SqL.of hU)
   rw[hu0] at hx'
   cases hx'
   cases q4:β ds[i] ρ2 with
   | none=>rw[q4] at q3;cases q3
   | some ρ3 =>
    rw[q4] at q3
    dsimp only at q3
    refine⟨e2,Ω2,ρ2,_,ρ3,rfl,w2,r2,ix,q4,fun σ3 r3 o3=>?_⟩
    have no3:∀(j:Nat) (es:List D),ρ3[j]? ≠ some (.own es):=fun j es h=>no2 j es (o3 j es h).1
    cases q5:p ρ3 Ω2 with
    | none=>rw[q5] at q3;cases q3
    | some p5 =>
     obtain⟨b,Ω3⟩:=p5
     rw[q5] at q3
     refine⟨e2,Ω2,ρ3,b,Ω3,rfl,w2,r3,q5,fun e3 x3 w3=>?_⟩
     cases b with
     | false =>
      refine Jq ?_
      obtain⟨z1,z2,z3⟩:=x3.keepOwn ha2 hF2 hA2
      exact⟨hlt,e3,Ω3,ρ3,vs,ys0,ys1,rfl,⟨w3,r3.ext x3,no3,z1,z2,z3,iy.ext x3,x2.trans x3,q3,ey,Nat.le_succ_of_le hy⟩⟩
     | true =>
      refine Jr ?_
      dsimp only at q3
      cases q6:g ρ3 Ω3 with
      | none=>rw[q6] at q3;cases q3
      | some p6 =>
       obtain⟨y,Ω4⟩:=p6
       rw[q6] at q3
       dsimp only at q3
       cases q7:jh nn ds β p g (ds.drop (i+1)) ρ3 Ω4 with
       | none=>rw[q7] at q3;cases q3
       | some p7 =>
        obtain⟨ys2,Ω5⟩:=p7
        rw[q7] at q3
        cases q3
        refine⟨e3,Ω3,ρ3,y,Ω4,rfl,w3,r3.ext x3,q6,fun v e4 x4 w4 i4=>?_⟩
        obtain⟨z1,z2,z3⟩:=(x3.trans x4).keepOwn ha2 hF2 hA2
        have x24:=x3.trans x4
        refine⟨vs,z1,by rw[<-iy.length];exact oH (by omega),hlt,⟨e4.α,e4.F,e4.A,upd e4.H a (.lst (vs++[v]))⟩,Ω4,ρ3,_,ys0++[y],ys2,rfl,⟨⟨fun b u hb=>?_,w4.fa,fun b hb=>?_,w4.ol,w4.nd,fun n b u h1 h2=>⟨(w4.ob n b u h1 h2).1,(w4.ob n b u h1 h2).2.keep (fun z hz=>?_) (bC.refl _) ⟨[],by simp⟩⟩⟩,
         ⟨((r3.ext x3).ext x4).len,((r3.ext x3).ext x4).dat,fun j es h=>absurd h (no3 j es),((r3.ext x3).ext x4).sep⟩,no3,aJ,z2,z3,(iy.ext x24).append (.cons i4 .nil),⟨fun b o' u hb=>by show upd e4.H a _ b=some (.frz o' u);rw[aC (aM hb ha)];exact(x2.trans x24).fz b o' u hb,fun b u hb hn=>?_,fun b u hb=>?_,(x2.trans x24).ff,(x2.trans x24).fn,(x2.trans x24).an,(x2.trans x24).aa,(x2.trans x24).al⟩,q7,by rw[<-ey];simp,by simp;omega⟩⟩
        ·show upd e4.H a _ b=some u
         rw[aC (fun z=>by subst z;rw[z2] at hb;cases hb)];exact w4.fh b u hb
        ·show upd e4.H a _ b≠none/\∀xs,upd e4.H a _ b≠some (.tup xs)
         rw[aC (fun z=>z3 (by rw[<-z];exact hb))];exact w4.ah b hb
        ·show upd e4.H a _ b=some z
         rw[aC (fun y=>z3 (by rw[<-y];exact(w4.ob n b u h1 h2).1))];exact hz
        ·show upd e4.H a _ b=some u
         rw[aC (aM hb ha)];exact(x2.trans x24).hk b u hb hn
        ·obtain⟨u',z⟩:=(x2.trans x24).dm b u hb
         exact⟨u',by show upd e4.H a _ b=some u';rw[aC (aM hb ha)];exact z⟩
  ·have ei:i=ds.length:=by omega
   subst ei
   rw[List.drop_length] at q3
   unfold jh at q3
   obtain⟨hgd,q3⟩:=iJ q3
   cases q3
   rw[List.append_nil] at ey
   subst ey
   obtain⟨us,hU,iU⟩:=w2.mls al hgd
   refine .inl ⟨⟨us,SqL.of hU,by rw[<-iU.length];exact Nat.le_refl _⟩,?_⟩
   exact fin a vs e2 (x'.trans x2) w2 ha2 hF2 hA2 (x'.back ha) iy
end
section
variable {X:Cx} {C:Cl} {tg iter elt:Expr} {ifs:List Expr} {scope:Scope} {pos:Pos} {N:List Str} {μ:List (Option Nat)} {f:Den} {β:dH} {p:bR} {g:Den}
theorem pA(hc:X.calm=true)(ok:CompOk X N scope μ)(hi:PD X C iter f)
  (hg:∀fp A s H,PDG (bD X N scope (clos X.env.cells scope.names []) A fp s H) C tg β) (ht:∀fp A s H,sG (bD X N scope (clos X.env.cells scope.names []) A fp s H) C ifs p) (he:∀fp A s H,PD (bD X N scope (clos X.env.cells scope.names []) A fp s H) C elt g)
  (hs:∀x,foldedSetIterable iter X.env x=pure x:=by intro _;rfl):PD X C (.ListComp elt [⟨tg,iter,ifs,0⟩] scope pos) (gq μ f β p g) :=
 aY (xj (g:=tDG X.K C β) (tt:=tDT X.K C p) (te:=tD X.K C g) hc ok.cell ok.kind ok.names ok.free ok.has ok.mu (tU hi) hg ht he hs) fun σ H Q hw=>by
  obtain⟨e,Ω,ρ,d,Ωf,eH,w,rl,q,kk⟩:=hw
  obtain⟨⟨d1,Ω1⟩,q1,qa⟩:=Option.bind_eq_some_iff.mp q
  obtain⟨n,q2,qb⟩:=Option.bind_eq_some_iff.mp qa
  obtain⟨o,q3,qc⟩:=Option.bind_eq_some_iff.mp qb
  obtain⟨xs,q4,qd⟩:=Option.bind_eq_some_iff.mp qc
  clear q qa qb qc
  have e2:=gn q2
  have e4:=ik q4
  dsimp only at e2 q3 qd
  subst e2 e4
  split at qd
  ·rename_i hbig
   obtain⟨⟨ys,Ω5⟩,q5,qe⟩:=Option.bind_eq_some_iff.mp qd
   cases qe
   refine yS eH w rl q1 q3 hbig q5 fun a vs e2 x2 w2 ha2 hF2 hA2 ha iy=>?_
   have w3:=w2.bare hF2 hA2
   have z:=kk (.ref a) ((e2.bare a).new a (.lst vs)) ((x2.bare ha).trans (w3.new_ext (if_pos rfl))) (w3.new (if_pos rfl)) (by
    rw[Is]
    exact⟨a,vs,rfl,aJ,IsL.ext (w3.new_ext (if_pos rfl)) iy⟩)
   have eq:((e2.bare a).new a (.lst vs)).H=e2.H:=A_ ha2
   rw[<-eq];exact z
  ·cases qd
end
end DL
namespace DR
open PySem PySem.Spec PyProof.Rows
section
variable {κ:Type} [DecidableEq κ] {prog:Program} {w:World} {knd:HeapKind prog w κ} {A:Around} {E:Value->Shared->Prop} {s:Shared}
theorem Ko{d a:Addr}{xs:List (κ×Addr×Value)}{k:κ}{Q:Option DictEntry->Shared->Prop}(hu:knd.room A)(hkey:knd.is s.heap k a)(hm:s.heap.DictOfH knd d xs)(hp:atKey xs k=none)
  (hnone:Q none { s with toks:=s.toks+knd.draws k }):wpAny (model prog w) A (Builtin.Dict.takeOut d (.ref a)) Q E s:=by
 obtain⟨o,es,ep,ho,hc,hd,he,his,hn⟩:=hm
 unfold Builtin.Dict.takeOut
 try with_reducible refine wpAny_holding ?_
 refine wpAny_bind (knd.pyHash hu hkey (wpAny_bind (wpAny_dictFind_heap (s:={ s with toks:=s.toks+knd.draws k }) hu hkey ho hd he his hn (fun _=>?_) (fun j p' hj=>?_))))
 ·exact wpAny_pure hnone
 ·rw[atKey_of_get hn hj] at hp;cases hp
theorem Hk{d a:Addr}{dv:Value}{xs:List (κ×Addr×Value)}{k:κ}{R:Result->Shared->Prop}(hsys:(d==sysModules)=false)(hu:knd.room A.in1)(hkey:knd.is s.heap k a)(hm:s.heap.DictOfH knd d xs)(hsz:xs.length<=sizeLine)
  (h:∀p h',atKey xs k=some p->h'.DictOfH knd d (qY xs k)->Heap.SameBut d s.heap h'->R (.ok (.ret p.2)) { s with heap:=h',toks:=s.toks+knd.draws k })
  (h0:atKey xs k=none->∀tk,R (.ok (.ret dv)) { s with toks:=tk }) :
  wpAny (model prog w) A.in1 (Builtin.«dict.pop» ⟨[.ref d,.ref a,dv],[]⟩) (fun fin s'=>match fin with |.done f=>R (.ok f) s' |.again c'=>c'.quiet=true/\codeAny (model prog w) A c' R s') (fun e s'=>R (.error e) s') s:=by
 obtain⟨o,es,ep,ho,hc,hd,he,his,hn⟩:=id hm
 unfold Builtin.«dict.pop»;refine wpAny_bind ?_
 unfold Builtin.Dict.keyAndDefault;refine wpAny_bind (wpAny_notOrdered_dict hm.typeIs ?_)
 show wpAny _ _ (pure (d,Value.ref a,some dv)) _ _ s;refine wpAny_pure ?_
 dsimp only;rw[if_neg (show ¬((keyPart (Value.ref a)).isSome=true) from by simp[keyPart])]
 refine wpAny_bind (wpAny_dictEntries ho hd ?_);refine wpAny_bind (wpAny_pure ?_)
 have miss:∀{s':Shared} {Q:Unit->Shared->Prop} {E':Value->Shared->Prop},Q () s'->wpAny (model prog w) A.in1 (Builtin.Dict.missedRemoval d (.ref a)) Q E' s':=fun {s' Q E'} q=>by
  unfold Builtin.Dict.missedRemoval
  rw[if_neg (by rw[hsys];exact Bool.false_ne_true)]
  exact wpAny_pure q
 cases ne:es.isEmpty with
 | true =>
  have e2:xs=[]:=by
   have z:es = #[]:=by simpa using ne
   rw[z] at he
   cases xs with
   | nil=>rfl
   | cons x r=>simp at he
  have hp:atKey xs k=none:=by rw[e2];rfl
  simp only[if_true]
  refine wpAny_bind (wpAny_rule (wpAny_bind (wpAny_pure ?_)))
  simp only[Option.isNone_none,if_true]
  refine wpAny_bind (miss ?_)
  refine wpAny_bind (wpAny_rule (wpAny_pure ?_))
  exact h0 hp s.toks
 | false =>
  simp only[Bool.false_eq_true,if_false]
  cases hp:atKey xs k with
  | none =>
   refine wpAny_bind (Ko hu hkey hm hp ?_)
   simp only[Option.isNone_none,if_true]
   refine wpAny_bind (miss ?_)
   refine wpAny_bind (wpAny_rule (wpAny_pure ?_))
   exact h0 hp _
  | some p =>
   refine wpAny_bind (Ae hu hkey hm hp (fun e h' hv hm' hs'=>?_) hsz)
   simp only[Option.isNone_some,Bool.false_eq_true,if_false];refine wpAny_bind (wpAny_letGo (wpAny_pure ?_))
   show R (.ok (.ret e.val)) _
   rw[hv];exact h p h' hp hm' hs'
end
end DR
namespace L2
open PySem PySem.Spec PyProof.Rows
section
variable {X:Cx} {pins:List (Addr×Obj)} {σ:St} {H:Hp} {s:Shared} {a b:Addr} {A:Around} {E:Value->Shared->Prop}
theorem Pb{kvs:List (List Key×V)}{k:List Key}{dv:Value}{Q:Value->Shared->Prop}(hu:A.units+1<cLine)(I:Inv X pins σ H s)(e:H a=some (.dT kvs))(eb:H b=some (.tup (k.map kV)))
  (h:∀v w' s',du kvs k=some v->Inv X pins σ (upd H a (.dT (fj kvs k))) s'->RelV v w'->Q w' s') (h0:du kvs k=none->∀s',Inv X pins σ H s'->Q dv s'):wpAny (model X.prog X.w) A (call (.builtin "dict.pop") [.ref a,.ref b,dv]) Q E s:=by
 obtain⟨z,hd,xs,rel,dd⟩:=zG I.hok e
 have hz:xs.length<=sizeLine:=by rw[<-Paired.length rel];exact z
 have hl:(fj kvs k).length<=sizeLine:=Nat.le_trans (uP kvs k) z
 refine call_meetsIn PySem.F.slot_dict_pop dd.typeIs PySem.F.entry_dict_pop (PySem.F.args_dict_pop_3 _ _ _) (S:=fun A' R s'=>A'=A/\s'=s/\R=wants Q E) (fun A' R s' hw=>?_) ⟨rfl,rfl,rfl⟩
 obtain⟨rfl,rfl,rfl⟩:=hw
 refine DR.Hk (knd:=tupleKind (cD X.prog X.w)) hd (tupleKind_room_in1 hu) (lB I.hok eb) dd hz (fun p h' hp dd' hs=>?_) fun hp tk=>?_
 ·have ov:=rel.val k
  rw[hp] at ov
  cases l:du kvs k with
  | none=>rw[l] at ov;exact ov.elim
  | some v =>
   rw[l] at ov
   obtain⟨q,es,ep,hq,h2,h3,h4,_,h5⟩:=dd'
   refine h v p.2 _ l (nZ I (by rw[e];exact True.intro) hs ⟨q,hq⟩ ⟨hl,hd,_,(rel.out k).keeps fun c ys ec=>?_,q,es,ep,hq,h2,h3,h4,h5⟩) ov
   rw[aC (zE ec e (fun z=>nomatch z))]
   exact ec
 ·have ov:=rel.val k
  rw[hp] at ov
  cases l:du kvs k with
  | some v=>rw[l] at ov;exact ov.elim
  | none=>exact h0 l _ (I.tok _)
end
noncomputable def Tn(td ty tx:TE):TE:=fun σ H Q=>td σ H fun x H1=>∃a,x=.ref a/\IsD H1 a/\ty σ H1 fun y H2=>tx σ H2 fun z H3=>∃kvs k b,H3 a=some (.dT kvs)/\y=.ref b/\H3 b=some (.tup (k.map kV)) /\
 (∀v,du kvs k=some v->Q v (upd H3 a (.dT (fj kvs k))))/\(du kvs k=none->Q z H3)
section
variable {X:Cx} {o e f a b:Expr} {apos cpos pos p1 p2 p3 p4:Pos} {td ty tx ta tb:TE} {z y:Str} {kk kl:Nat}
theorem Pg(hu:X.A.units+1<cLine)(ho:PE X o td)(he:PE X e ty)(hf:PE X f tx)(m:M2 X o "pop" apos e f cpos):PE X (.Call (.Attribute o "pop" apos) [e,f] [] cpos) (Tn td ty tx):=by
 intro pins s σ H Q I h
 refine wpAny_Call_method m.base m.few m.line PySem.F.plainAttrs_dict PySem.F.slot_dict_pop PySem.F.type_dict_pop (thn (ho pins s σ H _ I h) fun u s1 hw'=>?_)
 obtain⟨x,H1,I1,rx,a,ex,d,q1⟩:=hw'
 subst ex;obtain rfl:u=Value.ref a:=rx
 obtain⟨t1,t2,_⟩:=vL I1 d
 refine⟨t1,t2,?_⟩;rw[m.trees]
 refine Calls.callWith_builtin rfl (Calls.evalArgs_plain (Calls.spliced_cons (thn (he pins s1 σ H1 _ I1 q1) fun iv s2 hy=>?_)))
 obtain⟨y,H2,I2,ry,q2⟩:=hy
 refine Calls.spliced_cons (thn (hf pins s2 σ H2 _ I2 q2) fun fv s3 hz=>Calls.spliced_nil ?_)
 obtain⟨z,H3,I3,rz,kvs,k,b,ea,ey,eb,q3,q4⟩:=hz
 subst ey
 obtain rfl:iv=Value.ref b:=ry
 exact Pb hu I3 ea eb (fun v w' s4 l I4 rw'=>⟨v,_,I4,rw',q3 v l⟩) fun l s4 I4=>⟨z,H3,I4,rz,q4 l⟩
noncomputable def Rz(ta tb:TE):TE:=fun σ H Q=>ta σ H fun x H1=>∃i:Int,x=.int i/\i.natAbs.log2<1920/\(Str.ofString (toString i)).length<=1000/\tb σ H1 fun x2 H2=>∃j:Int,x2=.int j/\j.natAbs.log2<1920/\(Str.ofString (toString j)).length<=1000/\∀t,Q (.str t) H2
theorem RB(ha:PE X a ta)(hb:PE X b tb)(hz:z.length<=1000:=by decide)(hy:y.length<=1000:=by decide)(hs:evalEach [.FormattedValue a (-1) none p1,.Constant (.str z) kk p2,.FormattedValue b (-1) none p3,.Constant (.str y) kl p4] X.env=[eval (.FormattedValue a (-1) none p1) X.env,eval (.Constant (.str z) kk p2) X.env,eval (.FormattedValue b (-1) none p3) X.env,eval (.Constant (.str y) kl p4) X.env]:=by rfl) :
  PE X (.JoinedStr [.FormattedValue a (-1) none p1,.Constant (.str z) kk p2,.FormattedValue b (-1) none p3,.Constant (.str y) kl p4] pos) (Rz ta tb):=by
 intro pins s σ H Q I h
 have len:∀p q:Str,(p++q).length=p.length+q.length:=fun p q=>strLen_append p q
 have sl:(100000:Nat)<=sizeLine:=by rw[sizeLine_eq];decide
 refine PySem.wpAny_JoinedStr ?_
 rw[hs]
 refine PySem.wpAny_FormattedValue_plain (thn (ha pins s σ H _ I h) fun u s1 hw'=>?_)
 obtain⟨x,H1,I1,r1,i,ex,hi,li,q1⟩:=hw'
 subst ex
 obtain⟨t,rfl⟩:=r1
 refine wpAny_formatField_int hi ⟨_,_,rfl,?_,?_⟩
 ·rw[PySem.W.KT.empty_app];exact Nat.le_trans li (by omega)
 rw[PySem.W.KT.empty_app]
 refine wpAny_mono (p_ (X:=X) (x:=z) (j:=kk) (pos:=p2) pins _ σ H1 (fun v H'=>v=.str z/\H'=H1) (I1.tok _) ⟨rfl,rfl⟩) (fun u s2 ⟨y',H2,I2,r2,e2,e3⟩=>?_) fun _ _ e=>e
 subst e2 e3
 obtain⟨t2,rfl⟩:=r2
 refine⟨z,t2,rfl,?_,?_⟩
 ·rw[len];omega
 refine PySem.wpAny_FormattedValue_plain (thn (hb pins s2 σ H2 _ I2 q1) fun u s3 hw'=>?_)
 obtain⟨x2,H3,I3,r3,j,ex2,hj,lj,q2⟩:=hw'
 subst ex2
 obtain⟨t3,rfl⟩:=r3
 refine wpAny_formatField_int hj ⟨_,_,rfl,?_,?_⟩
 ·rw[len,len];omega
 refine wpAny_mono (p_ (X:=X) (x:=y) (j:=kl) (pos:=p4) pins _ σ H3 (fun v H'=>v=.str y/\H'=H3) (I3.tok _) ⟨rfl,rfl⟩) (fun u s4 ⟨y'',H4,I4,r4,e4,e5⟩=>?_) fun _ _ e=>e
 subst e4 e5
 obtain⟨t4,rfl⟩:=r4
 refine⟨y,t4,rfl,?_,?_,?_⟩
 ·rw[len,len,len];omega
 ·rw[len,len,len];omega
 ·exact⟨.str _,_,I4.tok _,⟨_,rfl⟩,q2 _⟩
end
end L2
namespace DL
open PySem PySem.Spec PyProof.Rows L2
section
variable {X:Cx} {C:Cl} {XW:XWt} {a b x:Expr} {f g h:Den} {r:sW} {ap cp pos p1 p2 p3 p4:Pos}
theorem oG(hx:RD X C XW x r)(hs:starEach [x] X.env=(false,eval x X.env)::starEach [] X.env:=by rfl):RD X C XW (.List [x] pos) r :=
 aY (vJ (bF hx cQ hs)) fun _ _ _ hw=>hw
noncomputable def sZ(f g:Den):u_:=fun ρ Ω=>(f ρ Ω).bind fun p=>(ph p.1).bind fun i=>if bH i then(g ρ p.2).bind fun q=>(ph q.1).bind fun j=>if bH j then some q.2 else none else none
theorem Hl{z y:Str}{kk kl:Nat}(ha:PD X C a f)(hb:PD X C b g)(hz:z.length<=1000:=by decide)(hy:y.length<=1000:=by decide)(hs:evalEach [.FormattedValue a (-1) none p1,.Constant (.str z) kk p2,.FormattedValue b (-1) none p3,.Constant (.str y) kl p4] X.env=[eval (.FormattedValue a (-1) none p1) X.env,eval (.Constant (.str z) kk p2) X.env,eval (.FormattedValue b (-1) none p3) X.env,eval (.Constant (.str y) kl p4) X.env]:=by rfl) :
  PV X C (.JoinedStr [.FormattedValue a (-1) none p1,.Constant (.str z) kk p2,.FormattedValue b (-1) none p3,.Constant (.str y) kl p4] pos) (sZ f g):=aY (RB ha hb hz hy hs) fun σ H Q hw'=>by
 obtain⟨e,Ω,ρ,Ω',eH,w,rl,q,k⟩:=hw'
 obtain⟨⟨d1,Ω1⟩,q1,qa⟩:=Option.bind_eq_some_iff.mp q
 obtain⟨i,q2,qb⟩:=Option.bind_eq_some_iff.mp qa
 have e2:=qD q2
 dsimp only at e2 qb
 subst e2
 split at qb
 ·rename_i hi
  obtain⟨⟨d3,Ω3⟩,q3,qc⟩:=Option.bind_eq_some_iff.mp qb
  obtain⟨j,q4,qd⟩:=Option.bind_eq_some_iff.mp qc
  have e4:=qD q4
  dsimp only at e4 qd
  subst e4
  split at qd
  ·rename_i hj
   cases qd
   refine⟨e,Ω,ρ,_,_,eH,w,rl,q1,fun v e' x' w' i'=>?_⟩
   rw[Is] at i'
   refine⟨i,i',hi.1,hi.2,e',Ω1,ρ,_,_,rfl,w',rl.ext x',q3,fun v2 e2 x2 w2 i2=>?_⟩
   rw[Is] at i2
   exact⟨j,i2,hj.1,hj.2,fun t=>k _ e2 (x'.trans x2) w2⟩
  ·cases qd
 ·cases qb
noncomputable def qG(f g h:Den):Den:=fun ρ Ω=>(f ρ Ω).bind fun p=>(jN p.1).bind fun n=>(p.2[n]?).bind fun o1=>(dTO o1).bind fun _=>(g ρ p.2).bind fun q=>(jD q.1).bind fun k=>(h ρ q.2).bind fun y=>(y.2[n]?).bind fun o=>(dTO o).bind fun kvs =>
 match eF kvs k with
 | some v=>some (v,y.2.set n (.dT (jC kvs k)))
 | none=>some (y.1,y.2)
theorem Bf(hu:X.A.units+1<cLine)(ho:PD X C a f)(hi:PD X C b g)(hx:PD X C x h)(m:M2 X a "pop" ap b x cp):PD X C (.Call (.Attribute a "pop" ap) [b,x] [] cp) (qG f g h):=aY (Pg hu ho hi hx m) fun σ H Q hw'=>by
 obtain⟨e,Ω,ρ,d,Ω',eH,w,rl,q,kk⟩:=hw'
 obtain⟨⟨d1,Ω1⟩,q1,qa⟩:=Option.bind_eq_some_iff.mp q
 obtain⟨n,q2,qb⟩:=Option.bind_eq_some_iff.mp qa
 obtain⟨o1,q3,qc⟩:=Option.bind_eq_some_iff.mp qb
 obtain⟨kv1,q4,qd⟩:=Option.bind_eq_some_iff.mp qc
 obtain⟨⟨d5,Ω5⟩,q5,qe⟩:=Option.bind_eq_some_iff.mp qd
 obtain⟨k,q6,qf⟩:=Option.bind_eq_some_iff.mp qe
 obtain⟨⟨d7,Ω7⟩,q7,qg⟩:=Option.bind_eq_some_iff.mp qf
 obtain⟨o8,q8,qh⟩:=Option.bind_eq_some_iff.mp qg
 obtain⟨kvs,q9,qi⟩:=Option.bind_eq_some_iff.mp qh
 clear q qa qb qc qd qe qf qg qh
 have e2:=gn q2
 have e4:=ur q4
 have e9:=ur q9
 dsimp only at e2 q3 q5 q6 q7 q8 qi
 subst e2 e4 e9
 refine⟨e,Ω,ρ,_,Ω1,eH,w,rl,q1,fun v e1 x1 w1 i1=>?_⟩
 have i1':=i1
 rw[Is] at i1'
 obtain⟨p,hα,rfl⟩:=i1'
 obtain⟨vs1,hH1,_⟩:=(w1.ob n p _ hα q3).2
 refine⟨p,rfl,.inr ⟨vs1,.inl hH1⟩,?_⟩
 refine⟨e1,Ω1,ρ,d5,Ω5,rfl,w1,rl.ext x1,q5,fun u e2 x2 w2 i2=>?_⟩
 refine⟨e2,Ω5,ρ,d7,Ω7,rfl,w2,(rl.ext x1).ext x2,q7,fun z e3 x3 w3 i3=>?_⟩
 have hα3:e3.α[n]? = some p:=ou (K:=X.K) (x2.trans x3) hα
 obtain⟨vs,hH,ps⟩:=(w3.ob n p _ hα3 q8).2
 obtain⟨b,rfl,hb⟩:=qt q6 (i2.ext x3)
 have ov:=ps.val k
 refine⟨vs,k,b,hH,rfl,w3.fh _ _ hb,fun v hv=>?_,fun hv=>?_⟩
 ·cases l:eF kvs k with
  | none=>rw[l,hv] at ov;exact ov.elim
  | some dv =>
   rw[l] at qi ov
   cases qi
   rw[hv] at ov
   obtain⟨w4,x4⟩:=w3.at (o':=.dT (jC kvs k)) (ho:=.dT (fj vs k)) hα3 (fun xs z=>nomatch z) ⟨_,aJ,ps.drop k⟩ fun o u z=>by rw[hH] at z;cases z
   exact kk v (e3.at p _) (((x1.trans x2).trans x3).trans x4) w4 (Is.ext x4 ov)
 ·cases l:eF kvs k with
  | some dv=>rw[l,hv] at ov;exact ov.elim
  | none =>
   rw[l] at qi
   cases qi
   exact kk z e3 ((x1.trans x2).trans x3) w3 i3
end
end DL
namespace DR
open PySem PySem.Spec PyProof.Rows
section
variable {κ:Type} [DecidableEq κ] {prog:Program} {w:World} {knd:HeapKind prog w κ} {A:Around} {E:Value->Shared->Prop} {s:Shared}
theorem Hm{d a:Addr}{dv:Value}{xs:List (κ×Addr×Value)}{k:κ}{Q:Value->Shared->Prop}(hu:knd.room A)(hkey:knd.is s.heap k a)(hm:s.heap.DictOfH knd d xs)(hsz:xs.length<=sizeLine)
  (h:∀p,atKey xs k=some p->Q p.2 { s with toks:=s.toks+knd.draws k })
  (h0:atKey xs k=none->∀h',h'.DictOfH knd d (storedH xs k a dv)->Heap.SameBut d s.heap h'->Q dv { s with heap:=h',toks:=s.toks+knd.draws k }) :
  wpAny (model prog w) A (dictSetDefault d (.ref a) dv) Q E s:=by
 obtain⟨o,es,ep,ho,hc,hd,he,his,hn⟩:=hm
 unfold dictSetDefault
 try with_reducible refine wpAny_holding ?_
 refine wpAny_bind (knd.pyHash hu hkey (wpAny_bind (wpAny_dictFind_heap (s:={ s with toks:=s.toks+knd.draws k }) hu hkey ho hd he his hn ?_ ?_)))
 ·intro hno
  have hnot:k∉xs.map (·.1):=not_mem_keys_of_get hno
  refine wpAny_bind (wpAny_rule (wpAny_bind (wpAny_updateDictKeys (hz:=by have e:=size_of_entries he;omega) (s:={ s with toks:=s.toks+knd.draws k }) ho hd (wpAny_pure (h0 (atKey_none_of_get hno) _ ⟨_,_,ep+1,Heap.get?_update_self _ ho (Obj.isFreed_of_dict (Obj.data_mapDictKeys hd _)),
   hc.mapDictKeys _,Obj.data_mapDictKeys hd _,?_,?_,?_⟩ (Heap.SameBut.update ..))))))
  ·rw[storedH_new (atKey_none_of_get hno)]
   simp[he,entryOfKey]
  ·rw[storedH_new (atKey_none_of_get hno)]
   intro x hx
   rcases List.mem_append.mp hx with hx |hx
   ·exact knd.keeps (his x hx) ho hd (Heap.SameBut.update ..)
   ·simp only[List.mem_singleton] at hx
    subst hx
    exact knd.keeps hkey ho hd (Heap.SameBut.update ..)
  ·rw[storedH_new (atKey_none_of_get hno)]
   rw[List.map_append,List.nodup_append]
   refine⟨hn,by simp,?_⟩
   intro x hx y hy
   simp only[List.map_cons,List.map_nil,List.mem_singleton] at hy
   subst hy
   exact fun e=>hnot (e ▸ hx)
 ·intro j p hj
  refine wpAny_bind (wpAny_dictEntries (s:={ s with toks:=s.toks+knd.draws k }) ho hd ?_)
  rw[entry_at he j,hj]
  exact wpAny_bind (wpAny_rule (wpAny_pure (h p (atKey_of_get hn hj))))
theorem Cr{d a:Addr}{dv:Value}{xs:List (κ×Addr×Value)}{k:κ}{R:Result->Shared->Prop}(hsys:(d==sysModules)=false)(hu:knd.room A.in1)(hkey:knd.is s.heap k a)(hm:s.heap.DictOfH knd d xs)(hsz:xs.length<=sizeLine)
  (h:∀p,atKey xs k=some p->R (.ok (.ret p.2)) { s with toks:=s.toks+knd.draws k })
  (h0:atKey xs k=none->∀h',h'.DictOfH knd d (storedH xs k a dv)->Heap.SameBut d s.heap h'->R (.ok (.ret dv)) { s with heap:=h',toks:=s.toks+knd.draws k }) :
  wpAny (model prog w) A.in1 (Builtin.«dict.setdefault» ⟨[.ref d,.ref a,dv],[]⟩) (fun fin s'=>match fin with |.done f=>R (.ok f) s' |.again c'=>c'.quiet=true/\codeAny (model prog w) A c' R s') (fun e s'=>R (.error e) s') s:=by
 unfold Builtin.«dict.setdefault»;refine wpAny_bind ?_
 unfold Builtin.Dict.keyAndDefault;refine wpAny_bind (wpAny_notOrdered_dict hm.typeIs ?_)
 show wpAny _ _ (pure (d,Value.ref a,some dv)) _ _ s;refine wpAny_pure ?_
 dsimp only
 rw[if_neg (by rw[hsys];exact Bool.false_ne_true)]
 refine wpAny_bind (Hm (dv:=dv) hu hkey hm hsz (fun p hp=>?_) fun hp h' hd hs=>?_)
 ·exact wpAny_pure (h p hp)
 ·exact wpAny_pure (h0 hp h' hd hs)
end
end DR
namespace L2
open PySem PySem.Spec PyProof.Rows
section
variable {X:Cx} {pins:List (Addr×Obj)} {σ:St} {H:Hp} {s:Shared} {a b:Addr} {A:Around} {E:Value->Shared->Prop}
theorem Ph{kvs:List (List Key×V)}{k:List Key}{x:V}{dv:Value}{Q:Value->Shared->Prop}(hu:A.units+1<cLine)(I:Inv X pins σ H s)(e:H a=some (.dT kvs))(eb:H b=some (.tup (k.map kV)))(rd:RelV x dv)(hl:kvs.length<sizeLine)
  (h:∀v w' s',du kvs k=some v->Inv X pins σ H s'->RelV v w'->Q w' s') (h0:du kvs k=none->∀s',Inv X pins σ (upd H a (.dT (putK kvs k x))) s'->Q dv s'):wpAny (model X.prog X.w) A (call (.builtin "dict.setdefault") [.ref a,.ref b,dv]) Q E s:=by
 obtain⟨z,hd,xs,rel,dd⟩:=zG I.hok e
 have hz:xs.length<=sizeLine:=by rw[<-Paired.length rel];exact z
 have hl':(putK kvs k x).length<=sizeLine:=by have:=pR kvs k x;omega
 refine call_meetsIn PySem.F.slot_dict_setdefault dd.typeIs PySem.F.entry_dict_setdefault (PySem.F.args_dict_setdefault_3 _ _ _) (S:=fun A' R s'=>A'=A/\s'=s/\R=wants Q E) (fun A' R s' hw=>?_) ⟨rfl,rfl,rfl⟩
 obtain⟨rfl,rfl,rfl⟩:=hw
 refine DR.Cr (knd:=tupleKind (cD X.prog X.w)) hd (tupleKind_room_in1 hu) (lB I.hok eb) dd hz (fun p hp=>?_) fun hp h' dd' hs=>?_
 ·have ov:=rel.val k
  rw[hp] at ov
  cases l:du kvs k with
  | none=>rw[l] at ov;exact ov.elim
  | some v =>
   rw[l] at ov
   exact h v p.2 _ l (I.tok _) ov
 ·have ov:=rel.val k
  rw[hp] at ov
  cases l:du kvs k with
  | some v=>rw[l] at ov;exact ov.elim
  | none =>
   obtain⟨q,es,ep,hq,h2,h3,h4,_,h5⟩:=dd'
   refine h0 l _ (nZ I (by rw[e];exact True.intro) hs ⟨q,hq⟩ ⟨hl',hd,_,(rel.put k eb rd).keeps fun c ys ec=>?_,q,es,ep,hq,h2,h3,h4,h5⟩)
   rw[aC (zE ec e (fun z=>nomatch z))]
   exact ec
end
noncomputable def Tp(td ty tx:TE):TE:=fun σ H Q=>td σ H fun x H1=>∃a,x=.ref a/\IsD H1 a/\ty σ H1 fun y H2=>tx σ H2 fun z H3=>∃kvs k b,H3 a=some (.dT kvs)/\y=.ref b/\H3 b=some (.tup (k.map kV))/\kvs.length<sizeLine /\
 (∀v,du kvs k=some v->Q v H3)/\(du kvs k=none->Q z (upd H3 a (.dT (putK kvs k z))))
section
variable {X:Cx} {o e f a b:Expr} {apos cpos pos:Pos} {td ty tx:TE}
theorem Pj(hu:X.A.units+1<cLine)(ho:PE X o td)(he:PE X e ty)(hf:PE X f tx)(m:M2 X o "setdefault" apos e f cpos):PE X (.Call (.Attribute o "setdefault" apos) [e,f] [] cpos) (Tp td ty tx):=by
 intro pins s σ H Q I h
 refine wpAny_Call_method m.base m.few m.line PySem.F.plainAttrs_dict PySem.F.slot_dict_setdefault PySem.F.type_dict_setdefault (thn (ho pins s σ H _ I h) fun u s1 hw'=>?_)
 obtain⟨x,H1,I1,rx,a,ex,d,q1⟩:=hw'
 subst ex;obtain rfl:u=Value.ref a:=rx
 obtain⟨t1,t2,_⟩:=vL I1 d
 refine⟨t1,t2,?_⟩;rw[m.trees]
 refine Calls.callWith_builtin rfl (Calls.evalArgs_plain (Calls.spliced_cons (thn (he pins s1 σ H1 _ I1 q1) fun iv s2 hy=>?_)))
 obtain⟨y,H2,I2,ry,q2⟩:=hy
 refine Calls.spliced_cons (thn (hf pins s2 σ H2 _ I2 q2) fun fv s3 hz=>Calls.spliced_nil ?_)
 obtain⟨z,H3,I3,rz,kvs,k,b,ea,ey,eb,hl,q3,q4⟩:=hz
 subst ey
 obtain rfl:iv=Value.ref b:=ry
 exact Ph hu I3 ea eb rz hl (fun v w' s4 l I4 rw'=>⟨v,_,I4,rw',q3 v l⟩) fun l s4 I4=>⟨z,_,I4,rz,q4 l⟩
end
end L2
namespace DL
open PySem PySem.Spec PyProof.Rows L2
section
variable {X:Cx} {C:Cl} {a b x:Expr} {f g h:Den} {ap cp pos:Pos}
noncomputable def rF(f g h:Den):Den:=fun ρ Ω=>(f ρ Ω).bind fun p=>(jN p.1).bind fun n=>(p.2[n]?).bind fun o1=>(dTO o1).bind fun _=>(g ρ p.2).bind fun q=>(jD q.1).bind fun k=>(h ρ q.2).bind fun y=>(y.2[n]?).bind fun o=>(dTO o).bind fun kvs =>
 if kvs.length<big then(match eF kvs k with
 | some v=>some (v,y.2)
 | none=>some (y.1,y.2.set n (.dT (putD kvs k y.1)))) else none
theorem Pk(hu:X.A.units+1<cLine)(ho:PD X C a f)(hi:PD X C b g)(hx:PD X C x h)(m:M2 X a "setdefault" ap b x cp):PD X C (.Call (.Attribute a "setdefault" ap) [b,x] [] cp) (rF f g h):=aY (Pj hu ho hi hx m) fun σ H Q hw'=>by
 obtain⟨e,Ω,ρ,d,Ω',eH,w,rl,q,kk⟩:=hw'
 obtain⟨⟨d1,Ω1⟩,q1,qa⟩:=Option.bind_eq_some_iff.mp q
 obtain⟨n,q2,qb⟩:=Option.bind_eq_some_iff.mp qa
 obtain⟨o1,q3,qc⟩:=Option.bind_eq_some_iff.mp qb
 obtain⟨kv1,q4,qd⟩:=Option.bind_eq_some_iff.mp qc
 obtain⟨⟨d5,Ω5⟩,q5,qe⟩:=Option.bind_eq_some_iff.mp qd
 obtain⟨k,q6,qf⟩:=Option.bind_eq_some_iff.mp qe
 obtain⟨⟨d7,Ω7⟩,q7,qg⟩:=Option.bind_eq_some_iff.mp qf
 obtain⟨o8,q8,qh⟩:=Option.bind_eq_some_iff.mp qg
 obtain⟨kvs,q9,qi⟩:=Option.bind_eq_some_iff.mp qh
 clear q qa qb qc qd qe qf qg qh
 have e2:=gn q2
 have e4:=ur q4
 have e9:=ur q9
 dsimp only at e2 q3 q5 q6 q7 q8 qi
 subst e2 e4 e9
 split at qi
 ·rename_i hb
  refine⟨e,Ω,ρ,_,Ω1,eH,w,rl,q1,fun v e1 x1 w1 i1=>?_⟩
  have i1':=i1
  rw[Is] at i1'
  obtain⟨p,hα,rfl⟩:=i1'
  refine⟨p,rfl,Ab w1 hα q3 rfl,e1,Ω1,ρ,d5,Ω5,rfl,w1,rl.ext x1,q5,fun u e2 x2 w2 i2=>?_⟩
  refine⟨e2,Ω5,ρ,d7,Ω7,rfl,w2,rl.ext (x1.trans x2),q7,fun t e3 x3 w3 i3=>?_⟩
  have i4:=i1.ext (x2.trans x3)
  rw[Is] at i4
  obtain⟨p',hα3,ep⟩:=i4
  cases ep
  obtain⟨bk,rfl,hbk⟩:=qt q6 (i2.ext x3)
  obtain⟨vs,hH,ps⟩:=(w3.ob n p _ hα3 q8).2
  refine⟨vs,k,bk,hH,rfl,w3.fh _ _ hbk,by rw[<-ps.len];exact oH hb,fun v hv=>?_,fun hv=>?_⟩
  ·have ov:=ps.val k
   rw[hv] at ov
   cases z:eF kvs k with
   | none=>rw[z] at ov;exact ov.elim
   | some dv =>
    rw[z] at ov qi
    cases qi
    exact kk v e3 ((x1.trans x2).trans x3) w3 ov
  ·have ov:=ps.val k
   rw[hv] at ov
   cases z:eF kvs k with
   | some dv=>rw[z] at ov;exact ov.elim
   | none =>
    rw[z] at qi
    cases qi
    obtain⟨w4,x4⟩:=w3.at (ho:=.dT (putK vs k t)) (o':=.dT (putD kvs k _)) hα3 (fun _ z=>nomatch z) ⟨_,aJ,ps.put k i3⟩ (fun o u z=>by rw[hH] at z;cases z)
    exact kk t (e3.at p _) (((x1.trans x2).trans x3).trans x4) w4 (i3.ext x4)
 ·cases qi
end
end DL
namespace L2
open PySem PySem.Spec PyProof.Rows
noncomputable def Ite(K:PySem.W.Frag)(l:Addr):It :=
 ⟨fun i H=>∃xs x,SqD K false H l xs/\xs[i]? = some x,
  fun i H v H'=>∃p x,v=.ref p/\H p=none/\H'=upd H p (.tup [.int i,x])/\∀xs,SqD K false H l xs->xs[i]? = some x,
  fun i H=>∃xs,SqD K false H l xs/\xs.length<=i⟩
noncomputable def RC(e it l:Addr)(i:Nat)(h:Heap):Prop:=(∃old,IsEnum h e it i old)/\ItB false h it l i
theorem Ho{P:Program}{w:World}{K:PySem.W.Frag}{es:List Expr}{kk:Nat}{pt:Pos}{e it l:Addr}(hne:e≠it) :
  Turn P w K (.Tuple es kk pt) (Ite K l) [e,it] e (RC e it l) where
 mem:=by simp
 obj:=fun i h st b hb=>by
  obtain⟨⟨old,he⟩,⟨o1,e1,_,d1⟩⟩:=st
  simp only[List.mem_cons,List.not_mem_nil,or_false] at hb
  rcases hb with rfl |rfl
  ·exact⟨_,he,fun v q=>nomatch q⟩
  ·exact⟨_,e1,fun v q=>by rw[d1] at q;cases q⟩
 keep:=fun i h h' st k=>by
  obtain⟨⟨old,he⟩,p1⟩:=st
  exact⟨⟨old,k e (by simp) _ he⟩,p1.go fun o q=>k it (by simp) o q⟩
 item:=by
  intro X hP hw hK hc i pins s σ H E I hf st hg
  subst hP hw hK
  obtain⟨⟨old,he⟩,p1⟩:=st
  obtain⟨xs,x,s1,hx⟩:=hg
  obtain⟨its1,rv1,q1⟩:=Ay I s1
  obtain⟨u,hu,ru⟩:=rv1.get hx
  refine wpAny_pyNext_enum_item he p1 q1 (x:=u) (by simpa using hu) hne fun g a1 a2 a3 a4 a5=>⟨_,rfl,wpAny_letOwnedTupleGo_enum a1 fun g' z' m'=>?_⟩
  have le:e<s.heap.objs.size:=Heap.lt_size he
  have k':∀c o,c∉[e,it]->s.heap.get? c=some o->g'.get? c=some o:=fun c o hc q=>by
   simp only[List.mem_cons,List.not_mem_nil,or_false,not_or] at hc
   exact m'.extBut c o hc.1 (a5 c o hc.1 hc.2 q)
  have t':IsTup g' s.heap.objs.size [.int i s.toks,u].toArray:=⟨_,m'.extBut _ _ (Nat.ne_of_gt le) a3,rfl,_,rfl⟩
  have J:=I.turnT (t':=s.toks+1) (xs:=[.int i,x]) (us:=[.int i s.toks,u]) (p:=s.heap.objs.size) k' hf (Nat.le_refl _) (by show 2<=sizeLine;rw[sizeLine_eq];decide) (.cons ⟨_,rfl⟩ (.cons ru .nil)) t'
  have hn:H s.heap.objs.size=none:=I.hok.fresh (Nat.le_refl _)
  refine⟨.ref s.heap.objs.size,_,J,rfl,⟨_,x,rfl,hn,rfl,fun us hu=>by rw[Ow I hu s1];exact hx⟩,⟨⟨_,z'⟩,ItB.eb (b:=false) a2 m'.extBut (Ne.symm hne)⟩,fun b hb=>?_⟩
  have lb:b<s.heap.objs.size:=by
   simp only[List.mem_cons,List.not_mem_nil,or_false] at hb
   rcases hb with rfl |rfl
   ·exact le
   ·exact p1.lt
  rw[aC (Nat.ne_of_lt lb)]
  exact(hf b hb).1
 done:=by
  intro X hP hw hK hc i pins s σ H E I hf st hg
  subst hP hw hK
  obtain⟨⟨old,he⟩,p1⟩:=st
  obtain⟨xs,s1,hx⟩:=hg
  obtain⟨its1,rv1,q1⟩:=Ay I s1
  have n1:=rv1.length
  refine wpAny_pyNext_enum_end (I.ok.hd hc) he p1 q1 (by simp;omega) fun g hk=>⟨rfl,I.turnL (t':=s.toks) (ch:=[e,it]) (fun c o hc q=>?_) hf⟩
  simp only[List.mem_cons,List.not_mem_nil,or_false,not_or] at hc
  exact hk c o hc.2 q
 self:=fun _ _ _ _ _ st h=>wpAny_pyIter_enum st.1.choose_spec h
theorem Hq:bootBuiltins "enumerate" = some (.type "enumerate"):=by decide +kernel
noncomputable def Tq(K:PySem.W.Frag)(ta:TA):TI:=fun σ H R=>ta σ H fun vs H1=>∃l xs,vs=[.ref l]/\SqD K false H1 l xs/\R (Ite K l) H1
theorem Pn{X:Cx}{es:List Expr}{kk:Nat}{pt:Pos}{a:Expr}{ta:TA}{p pos:Pos}(hg:Gl X "enumerate")(hm:X.mg "enumerate" = none)(ha:PA X [a] ta)(hs:starEach [a] X.env=[(false,eval a X.env)]:=by rfl) :
  PI X (.Tuple es kk pt) (.Call (.Name "enumerate" p) [a] [] pos) (Tq X.K ta):=by
 intro pins s σ H R I h
 refine Call_ (rU I hg hm Hq (PyProof.Rows.callWith_type1 (thn (ha pos pins s σ H _ I h) fun us s1 ⟨vs,H1,I1,r1,q1⟩=>?_) (by rw[hs];rfl) rfl))
 obtain⟨l,xs,e,s1',q⟩:=q1
 subst e
 cases r1 with
 | cons r rr =>
  cases rr
  cases r
  obtain⟨its1,rv1,c1⟩:=Ay I1 s1'
  refine call_enumerate_list c1 fun h' hE hI hsz hk=>wpAny_pyIter_enum hE ⟨_,_,_,_,H1,rfl,I1.kept (t':=s1.toks) hk,Ho (Nat.succ_ne_self _),⟨⟨_,hE⟩,hI⟩,fun b hb=>?_,q⟩
  have lb:s1.heap.objs.size<=b:=by
   simp only[List.mem_cons,List.not_mem_nil,or_false] at hb
   rcases hb with rfl |rfl
   ·exact Nat.le_add_right _ _
   ·exact Nat.le_refl _
  exact I1.fpOk lb (I1.hok.fresh lb)
end L2
namespace DL
open PySem PySem.Spec PyProof.Rows L2
noncomputable def jG:Nat->List D->List D
 | _,[]=>[]
 | lo,d::ds=>pairD (.int lo) d::jG (lo+1) ds
noncomputable def wH:List D->Option (List D)
 | [.lst xs]=>some (jG 0 xs)
 | _=>none
theorem tu:∀(lo:Nat) (ds:List D),(jG lo ds).length=ds.length
 | _,[]=>rfl
 | lo,d::ds=>by show(jG (lo+1) ds).length+1=_;rw[tu (lo+1) ds];rfl
theorem yU:∀(lo:Nat) (ds:List D) (i:Nat),(jG lo ds)[i]? = (ds[i]?).map fun d=>pairD (.int ((lo+i:Nat):Int)) d
 | _,[],i=>rfl
 | lo,d::ds,0=>rfl
 | lo,d::ds,i+1=>by
  show(jG (lo+1) ds)[i]? = (ds[i]?).map _
  rw[yU (lo+1) ds i,show lo+1+i=lo+(i+1) by omega]
theorem Hr{K:PySem.W.Frag}{e:E4}{l:Addr}{vs:List V}{ds:List D}(s1:SqD K false e.F l vs)(r1:IsL K e.α e.F ds vs):Walk K e (Ite K l) (jG 0 ds):=by
 intro i e2 ff al fh
 have t1:=vh fh (vh ff s1)
 have n1:=r1.length
 refine⟨fun z=>⟨vs,t1,?_⟩,fun d hd=>?_⟩
 ·rw[tu] at z
  omega
 ·rw[yU] at hd
  cases q1:ds[i]? with
  | none=>rw[q1] at hd;cases hd
  | some x =>
   rw[q1] at hd
   cases hd
   obtain⟨vx,hvx,ivx⟩:=(IsL.mono ff al ds r1).get q1
   refine⟨⟨vs,vx,t1,hvx⟩,fun v H' ⟨p,x',e1,e2',e3,u1⟩=>?_⟩
   subst e1 e3
   have u1':=u1 vs t1
   rw[hvx] at u1'
   cases u1'
   have nF:e2.F p=none:=by
    cases q:e2.F p with
    | none=>rfl
    | some o=>rw[fh p o q] at e2';cases e2'
   have sm:bC e2.F (e2.new p (.tup [.int i,vx])).F:=fun b o hb=>by
    show upd e2.F p _ b=some o
    rw[aC (fun z=>by rw[z,nF] at hb;cases hb)]
    exact hb
   refine⟨e2.new p (.tup [.int i,vx]),rfl,?_,fun C Ω w=>⟨w.new_ext e2',w.new e2'⟩⟩
   unfold pairD
   rw[Is]
   refine⟨p,[.int i,vx],rfl,aJ,.cons ?_ (.cons (Is.mono sm ⟨[],by simp[E4.new]⟩ _ ivx) .nil)⟩
   rw[Is,Nat.zero_add]
section
variable {X:Cx} {C:Cl} {ga:bx} {pos p pt:Pos} {es:List Expr} {kk:Nat} {a b:Expr}
theorem Kq(hg:Gl X "enumerate")(hm:X.mg "enumerate" = none)(ha:PDA X C [a] ga)(hs:starEach [a] X.env=[(false,eval a X.env)]:=by rfl) :
  PDI X C (.Tuple es kk pt) (.Call (.Name "enumerate" p) [a] [] pos) (mz wH ga) :=
 zX (Pn hg hm ha hs) fun σ H R hw'=>by
  obtain⟨e,Ω,ρ,ds,Ω',eH,w,rl,q,k⟩:=hw'
  unfold mz at q
  cases q1:ga ρ Ω with
  | none=>rw[q1] at q;cases q
  | some p1 =>
   obtain⟨fs,Ω1⟩:=p1
   rw[q1] at q
   dsimp only at q
   refine⟨e,Ω,ρ,fs,Ω1,eH,w,rl,q1,fun v e' x' w' i'=>?_⟩
   match fs,q,i' with
   | [.lst xs],q,i' =>
    have ez:wH [.lst xs]=some (jG 0 xs):=rfl
    rw[ez] at q
    cases q
    obtain⟨v1,r,rfl,iv1,rr⟩:=i'.of_cons
    have e0:=rr.of_nil
    subst e0
    rw[Is] at iv1
    obtain⟨l,vs,rfl,h1,r1⟩:=iv1
    exact⟨l,vs,rfl,vh w'.fh (show SqD X.K false e'.F l vs from SqL.of h1),k e' _ x' w' (Hr (show SqD X.K false e'.F l vs from SqL.of h1) r1)⟩
end
end DL
namespace DL
open PySem PySem.Spec PyProof.Rows L2
section
variable {X:Cx} {C:Cl} {a b x:Expr} {f g:Den} {n:Str} {p pos ap cp:Pos} {k:Nat}
noncomputable def ux(f g:Den):Den:=fun ρ Ω=>(f ρ Ω).bind fun p=>(jN p.1).bind fun n=>(p.2[n]?).bind fun o1=>(iM o1).bind fun _=>(g ρ p.2).bind fun r=>(ph r.1).bind fun i=>(r.2[n]?).bind fun o=>(iM o).bind fun xs =>
 if i=0 then(match xs with |[]=>none |d::t=>some (d,r.2.set n (.mls t))) else none
theorem Dt(ha:PD X C a f)(hb:PD X C b g)(hbase:attributeBase a "pop" X.env (eval a X.env)=eval a X.env:=by rfl)
  (hfew:((backTo cp (starEach [b] X.env)).all (fun x=>!x.1) && (backToKw cp (keywordEach [] X.env)).all (fun x=>x.1.isSome)
   && decide (([b]:List Expr).length+([]:List Keyword).length+(if([]:List Keyword).isEmpty then 0 else 1)<30))=true:=by rfl)
  (hline:(ap.endLine==cp.line)=true:=by rfl) (hst:starEach [b] X.env=(false,eval b X.env)::starEach [] X.env:=by rfl) (hplain:(backTo cp (starEach [] X.env)).any (·.1)=false:=by rfl) :
  PD X C (.Call (.Attribute a "pop" ap) [b] [] cp) (ux f g) :=
 aY (vK PySem.F.plainAttrs_list PySem.F.slot_list_pop PySem.F.type_list_pop Jj ha (bF hb cQ hst) hbase hfew hline hst hplain) fun σ H Q hw'=>by
  obtain⟨e,Ω,ρ,d,Ω',eH,w,rl,q,kk⟩:=hw'
  obtain⟨⟨d1,Ω1⟩,q1,qa⟩:=Option.bind_eq_some_iff.mp q
  obtain⟨m,q2,qb⟩:=Option.bind_eq_some_iff.mp qa
  obtain⟨o1,q3,qc⟩:=Option.bind_eq_some_iff.mp qb
  obtain⟨xs1,q4,qd⟩:=Option.bind_eq_some_iff.mp qc
  obtain⟨⟨d5,Ω5⟩,q5,qe⟩:=Option.bind_eq_some_iff.mp qd
  obtain⟨i,q6,qf⟩:=Option.bind_eq_some_iff.mp qe
  obtain⟨o7,q7,qg⟩:=Option.bind_eq_some_iff.mp qf
  obtain⟨xs,q8,qh⟩:=Option.bind_eq_some_iff.mp qg
  clear q qa qb qc qd qe qf qg
  have e2:=gn q2
  have e4:=ik q4
  have e6:=qD q6
  have e8:=ik q8
  dsimp only at e2 q3 q5 e6 q7 qh
  subst e2 e4 e6 e8
  split at qh
  ·rename_i hi
   subst hi
   cases xs with
   | nil=>cases qh
   | cons z t =>
    cases qh
    refine⟨e,Ω,ρ,_,Ω1,eH,w,rl,q1,fun v e1 x1 w1 i1=>?_⟩
    have i1':=i1
    rw[Is] at i1'
    obtain⟨l,hα,rfl⟩:=i1'
    obtain⟨vs1,hH1,_⟩:=w1.mls hα q3
    refine⟨.inl ⟨rfl,_,SqL.of hH1⟩,e1,Ω1,ρ,_,Ω5,rfl,w1,rl.ext x1,q5,fun u e2 x2 w2 i2=>?_⟩
    have i3:=i1.ext x2
    rw[Is] at i3
    obtain⟨p',hα2,ep⟩:=i3
    cases ep
    obtain⟨vs,hH,il⟩:=w2.mls hα2 q7
    obtain⟨v0,r,rfl,iv0,ir⟩:=il.of_cons
    rw[Is] at i2
    subst i2
    refine⟨l,_,0,0,v0,rfl,rfl,hH,by decide,by decide,?_,rfl,?_⟩
    ·show seqIndex? 0 (r.length+1)=some 0
     simp[seqIndex?]
    ·obtain⟨w3,x3⟩:=w2.at (ho:=.lst r) (o':=.mls t) hα2 (fun _ z=>nomatch z) ⟨_,aJ,ir⟩ (fun o u z=>by rw[hH] at z;cases z)
     exact kk v0 (e2.at l _) ((x1.trans x2).trans x3) w3 (iv0.ext x3)
  ·cases qh
noncomputable def mY(f:Den):Den:=fun ρ Ω=>(f ρ Ω).bind fun p=>(jN p.1).bind fun n=>(p.2[n]?).bind fun o=>(iM o).bind fun xs=>some (.lst xs,p.2)
theorem Bg(hg:Gl X n)(hm:X.mg n=none)(hv:bootBuiltins n=some (.type "list"))(ho:PD X C a f)(hn:n ≠ "__name__":=by decide)(hdb:(n==("__debug__":Str))=false:=by decide)
  (he:starEach [a] X.env=(false,eval a X.env)::starEach [] X.env:=by rfl) (hpl:(backTo pos (starEach [] X.env)).any (·.1)=false:=by rfl):PD X C (.Call (.Name n p) [a] [] pos) (mY f) :=
 aY (rZ lA hg hm hv (bF ho cQ he) hn hdb he hpl) fun σ H Q hw'=>by
  obtain⟨e,Ω,ρ,d,Ω',eH,w,rl,q,kk⟩:=hw'
  obtain⟨⟨d1,Ω1⟩,q1,qa⟩:=Option.bind_eq_some_iff.mp q
  obtain⟨m,q2,qb⟩:=Option.bind_eq_some_iff.mp qa
  obtain⟨o,q3,qc⟩:=Option.bind_eq_some_iff.mp qb
  obtain⟨xs,q4,qd⟩:=Option.bind_eq_some_iff.mp qc
  clear q qa qb qc
  have e2:=gn q2
  have e4:=ik q4
  dsimp only at e2 q3 qd
  subst e2 e4
  cases qd
  refine⟨e,Ω,ρ,_,_,eH,w,rl,q1,fun v e1 x1 w1 i1=>?_⟩
  rw[Is] at i1
  obtain⟨l,hα,rfl⟩:=i1
  obtain⟨vs,hH,il⟩:=w1.mls hα q3
  refine⟨l,vs,rfl,.inl (SqL.of hH),fun p' hp=>?_⟩
  refine kk _ (e1.new p' _) (x1.trans (w1.new_ext hp)) (w1.new hp) ?_
  rw[Is]
  exact⟨p',vs,rfl,aJ,il.ext (w1.new_ext hp)⟩
noncomputable def Fb:Sl->Option Int
 | .dat (.int a)=>some a
 | _=>none
theorem Pq{s:Sl}{a:Int}(h:Fb s=some a):s=.dat (.int a):=by
 unfold Fb at h
 split at h
 ·cases h;rfl
 ·cases h
noncomputable def Fd(i:Nat)(g:Den):aQ:=fun ρ Ω=>(ρ[i]?).bind fun s=>(Fb s).bind fun a=>(g ρ Ω).bind fun p=>(ph p.1).bind fun j=>some (.nx (ρ.set i (.dat (.int (a+j)))) p.2)
theorem Pr{i:Nat}{n:Str}{pos':Pos}(hN:X.N.Nodup)(hi:X.N[i]? = some n)(hx:Loc X.env.scope n)(he:PD X C x g)(hf:X.fn n=true\/X.env.scope.names.lookup n=some .local:=by first |exact .inl rfl |exact .inr rfl |assumption) :
  PDS X C (.AugAssign (.Name n pos') .Add x pos) (Fd i g):=fun e₀=>dC (QC hN hi hx he QD hf) fun Dn σ H hw'=>by
 obtain⟨e,Ω,ρ,o,eH,r,q,k⟩:=hw'
 obtain⟨s,q1,qa⟩:=Option.bind_eq_some_iff.mp q
 obtain⟨a,q2,qb⟩:=Option.bind_eq_some_iff.mp qa
 obtain⟨⟨d3,Ω3⟩,q3,qc⟩:=Option.bind_eq_some_iff.mp qb
 obtain⟨j,q4,qd⟩:=Option.bind_eq_some_iff.mp qc
 clear q qa qb qc
 have e2:=Pq q2
 have e4:=qD q4
 dsimp only at e4 qd
 subst e2 e4
 cases qd
 obtain⟨v,e1,i1⟩:=r.rel.dat _ _ q1
 rw[Is] at i1
 subst i1
 refine⟨_,e1,e,Ω,ρ,_,Ω3,eH,r.wf,r.rel,q3,fun u e' x' w' i'=>?_⟩
 rw[Is] at i'
 exact⟨a,j,rfl,i',k e' _ ((r.to x' w').set i (by rw[Is]))⟩
end
end DL
namespace L2
open PySem PySem.Spec PyProof.Rows
section
variable {X:Cx} {a b:Expr} {pos p1 p2 p3 p4:Pos} {ta tb:TE} {z y:Str} {kk kl:Nat}
theorem RG(ha:PE X a ta)(hb:PE X b tb)(hz:z.length<=1000:=by decide)(hy:y.length<=1000:=by decide)(hs:evalEach [.Constant (.str z) kk p1,.FormattedValue a (-1) none p2,.Constant (.str y) kl p3,.FormattedValue b (-1) none p4] X.env=[eval (.Constant (.str z) kk p1) X.env,eval (.FormattedValue a (-1) none p2) X.env,eval (.Constant (.str y) kl p3) X.env,eval (.FormattedValue b (-1) none p4) X.env]:=by rfl) :
  PE X (.JoinedStr [.Constant (.str z) kk p1,.FormattedValue a (-1) none p2,.Constant (.str y) kl p3,.FormattedValue b (-1) none p4] pos) (Rz ta tb):=by
 intro pins s σ H Q I h
 have len:∀p q:Str,(p++q).length=p.length+q.length:=fun p q=>strLen_append p q
 have sl:(100000:Nat)<=sizeLine:=by rw[sizeLine_eq];decide
 refine PySem.wpAny_JoinedStr ?_
 rw[hs]
 refine wpAny_mono (p_ (X:=X) (x:=z) (j:=kk) (pos:=p1) pins _ σ H (fun v H'=>v=.str z/\H'=H) I ⟨rfl,rfl⟩) (fun u s2 ⟨y',H2,I2,r2,e2,e3⟩=>?_) fun _ _ e=>e
 subst e2 e3
 obtain⟨t2,rfl⟩:=r2
 refine⟨z,t2,rfl,?_,?_⟩
 ·rw[PySem.W.KT.empty_app];omega
 rw[PySem.W.KT.empty_app]
 refine PySem.wpAny_FormattedValue_plain (thn (ha pins s2 σ _ _ I2 h) fun u s1 hw'=>?_)
 obtain⟨x,H1,I1,r1,i,ex,hi,li,q1⟩:=hw'
 subst ex
 obtain⟨t,rfl⟩:=r1
 refine wpAny_formatField_int hi ⟨_,_,rfl,?_,?_⟩
 ·rw[len];omega
 refine wpAny_mono (p_ (X:=X) (x:=y) (j:=kl) (pos:=p3) pins _ σ H1 (fun v H'=>v=.str y/\H'=H1) (I1.tok _) ⟨rfl,rfl⟩) (fun u s4 ⟨y'',H4,I4,r4,e4,e5⟩=>?_) fun _ _ e=>e
 subst e4 e5
 obtain⟨t4,rfl⟩:=r4
 refine⟨y,t4,rfl,?_,?_⟩
 ·rw[len,len];omega
 refine PySem.wpAny_FormattedValue_plain (thn (hb pins s4 σ _ _ I4 q1) fun u s3 hw'=>?_)
 obtain⟨x2,H3,I3,r3,j,ex2,hj,lj,q2⟩:=hw'
 subst ex2
 obtain⟨t3,rfl⟩:=r3
 refine wpAny_formatField_int hj ⟨_,_,rfl,?_,?_⟩
 ·rw[len,len,len];omega
 ·refine⟨?_,.str _,_,I3.tok _,⟨_,rfl⟩,q2 _⟩
  rw[len,len,len];omega
end
end L2
namespace DL
open PySem PySem.Spec PyProof.Rows L2
section
variable {X:Cx} {C:Cl} {a b:Expr} {f g:Den} {pos p1 p2 p3 p4:Pos}
theorem RJ{z y:Str}{kk kl:Nat}(ha:PD X C a f)(hb:PD X C b g)(hz:z.length<=1000:=by decide)(hy:y.length<=1000:=by decide)(hs:evalEach [.Constant (.str z) kk p1,.FormattedValue a (-1) none p2,.Constant (.str y) kl p3,.FormattedValue b (-1) none p4] X.env=[eval (.Constant (.str z) kk p1) X.env,eval (.FormattedValue a (-1) none p2) X.env,eval (.Constant (.str y) kl p3) X.env,eval (.FormattedValue b (-1) none p4) X.env]:=by rfl) :
  PV X C (.JoinedStr [.Constant (.str z) kk p1,.FormattedValue a (-1) none p2,.Constant (.str y) kl p3,.FormattedValue b (-1) none p4] pos) (sZ f g):=aY (RG ha hb hz hy hs) fun σ H Q hw'=>by
 obtain⟨e,Ω,ρ,Ω',eH,w,rl,q,k⟩:=hw'
 obtain⟨⟨d1,Ω1⟩,q1,qa⟩:=Option.bind_eq_some_iff.mp q
 obtain⟨i,q2,qb⟩:=Option.bind_eq_some_iff.mp qa
 have e2:=qD q2
 dsimp only at e2 qb
 subst e2
 split at qb
 ·rename_i hi
  obtain⟨⟨d3,Ω3⟩,q3,qc⟩:=Option.bind_eq_some_iff.mp qb
  obtain⟨j,q4,qd⟩:=Option.bind_eq_some_iff.mp qc
  have e4:=qD q4
  dsimp only at e4 qd
  subst e4
  split at qd
  ·rename_i hj
   cases qd
   refine⟨e,Ω,ρ,_,_,eH,w,rl,q1,fun v e' x' w' i'=>?_⟩
   rw[Is] at i'
   refine⟨i,i',hi.1,hi.2,e',Ω1,ρ,_,_,rfl,w',rl.ext x',q3,fun v2 e2 x2 w2 i2=>?_⟩
   rw[Is] at i2
   exact⟨j,i2,hj.1,hj.2,fun t=>k _ e2 (x'.trans x2) w2⟩
  ·cases qd
 ·cases qb
end
end DL
namespace DL
open PySem PySem.Spec PyProof.Rows L2
section
variable {X:Cx} {C:Cl} {tg iter elt:Expr} {ifs:List Expr} {scope:Scope} {pos:Pos} {N:List Str} {μ:List (Option Nat)} {f:Den} {β:dH} {p:bR} {g:Den}
theorem Ht(hc:X.calm=true)(ok:CompOk X N scope μ)(hi:PD X C iter f)
  (hg:∀fp A s H,PDG (bD X N scope (clos X.env.cells scope.names []) A fp s H) C tg β) (ht:∀fp A s H,sG (bD X N scope (clos X.env.cells scope.names []) A fp s H) C ifs p) (he:∀fp A s H,PD (bD X N scope (clos X.env.cells scope.names []) A fp s H) C elt g)
  (hs:∀x,foldedSetIterable iter X.env x=pure x:=by intro _;rfl):PDN X C (.ListComp elt [⟨tg,iter,ifs,0⟩] scope pos) (gLs (gq μ f β p g)) :=
 aY (xj (g:=tDG X.K C β) (tt:=tDT X.K C p) (te:=tD X.K C g) hc ok.cell ok.kind ok.names ok.free ok.has ok.mu (tU hi) hg ht he hs) fun σ H Q hw=>by
  obtain⟨e,Ω,ρ,ys,Ωf,eH,w,rl,q0,kk⟩:=hw
  have q:=Dp q0
  obtain⟨⟨d1,Ω1⟩,q1,qa⟩:=Option.bind_eq_some_iff.mp q
  obtain⟨n,q2,qb⟩:=Option.bind_eq_some_iff.mp qa
  obtain⟨o,q3,qc⟩:=Option.bind_eq_some_iff.mp qb
  obtain⟨xs,q4,qd⟩:=Option.bind_eq_some_iff.mp qc
  clear q q0 qa qb qc
  have e2:=gn q2
  have e4:=ik q4
  dsimp only at e2 q3 qd
  subst e2 e4
  split at qd
  ·rename_i hbig
   obtain⟨⟨ys',Ω5⟩,q5,qe⟩:=Option.bind_eq_some_iff.mp qd
   cases qe
   refine yS eH w rl q1 q3 hbig q5 fun a vs e2 x2 w2 ha2 hF2 hA2 ha iy=>?_
   have:=kk a vs (e2.bare a) (x2.bare ha) (w2.bare hF2 hA2) iy (if_pos rfl)
   rw[A_ ha2] at this
   exact this
  ·cases qd
end
section
variable {X:Cx} {C:Cl} {n:Str} {p pos:Pos} {a b:Expr} {f g:Den} {k:Nat}
theorem Hu(hr:Room k X.A)(hg:Gl X n)(hm:X.mg n=none)(hv:bootBuiltins n=some (.builtin "sorted"))(ho:PD X C a f)(hn:n ≠ "__name__":=by decide)(hdb:(n==("__debug__":Str))=false:=by decide)
  (he:starEach [a] X.env=(false,eval a X.env)::starEach [] X.env:=by rfl) (hpl:(backTo pos (starEach [] X.env)).any (·.1)=false:=by rfl):PDN X C (.Call (.Name n p) [a] [] pos) (gLs (mX f)) :=
 aY (fZ (wF hr.hd) hg hm hv (bF ho cQ he) hn hdb he hpl) fun σ H Q hw'=>by
  obtain⟨e,Ω,ρ,ys,Ω',eH,w,rl,q0,kk⟩:=hw'
  have q:=Dp q0
  obtain⟨⟨d1,Ω1⟩,q1,qa⟩:=Option.bind_eq_some_iff.mp q
  obtain⟨m,q2,qb⟩:=Option.bind_eq_some_iff.mp qa
  obtain⟨o,q3,qc⟩:=Option.bind_eq_some_iff.mp qb
  obtain⟨kvs,q4,qd⟩:=Option.bind_eq_some_iff.mp qc
  obtain⟨nss,q5,qe⟩:=Option.bind_eq_some_iff.mp qd
  obtain⟨z,q6,qf⟩:=Option.bind_eq_some_iff.mp qe
  clear q q0 qa qb qc qd qe
  have e2:=gn q2
  have e4:=ur q4
  dsimp only at e2 q3 qf
  subst e2 e4
  cases qf
  obtain⟨⟨h64,hl,one⟩,ez⟩:=iJ q6
  cases ez
  refine⟨e,Ω,ρ,_,_,eH,w,rl,q1,fun v e1 x1 w1 i1=>?_⟩
  rw[Is] at i1
  obtain⟨a,hα,rfl⟩:=i1
  obtain⟨vs,h1,h2⟩:=(w1.ob m a _ hα q3).2
  obtain⟨z1,z2⟩:=vo (κ:=D) (f:=id) q5
  refine⟨a,vs,nss,rfl,h1,?_,⟨by rw[jo h2];exact z1,z2⟩,fun bs out p' hp pr so=>?_⟩
  ·have:=congrArg List.length (jo h2)
   simp only[List.length_map] at this h64
   omega
  obtain⟨e2,eH2,eα2,x2,w2,ft⟩:=w1.tups
  have hp2:e2.H p'=none:=by rw[eH2];exact hp
  have il:IsL X.K e2.α e2.F (kvs.map fun x=>.tup (x.1.map ofK)) (bs.map V.ref):=qZ (H:=e1.H) (fun b xs hb=>ft b xs hb) (jo h2).symm pr
  have len:=il.length
  obtain⟨pm,hpm,rfl,hup⟩:=so
  rw[<-len] at hpm
  have z:=kk p' _ e2 (x1.trans x2) w2 (by
   rw[<-q_ hl one hpm hup]
   exact rm il pm fun i hi=>by simpa using hpm.mem_iff.mp hi) hp2
  rw[eH2] at z
  exact z
noncomputable def uy(f:Den):Den:=fun ρ Ω=>(f ρ Ω).bind fun p=>(jN p.1).bind fun n=>(p.2[n]?).bind fun o=>(iM o).bind fun xs=>some (.int xs.length,p.2)
theorem xT(hg:Gl X n)(hm:X.mg n=none)(hv:bootBuiltins n=some (.builtin "len"))(ha:PD X C a f)(hn:n ≠ "__name__":=by decide)(hdb:(n==("__debug__":Str))=false:=by decide)
  (he:starEach [a] X.env=(false,eval a X.env)::starEach [] X.env:=by rfl) (hpl:(backTo pos (starEach [] X.env)).any (·.1)=false:=by rfl):PD X C (.Call (.Name n p) [a] [] pos) (uy f) :=
 aY (fZ lz hg hm hv (bF ha cQ he) hn hdb he hpl) fun σ H Q hw'=>by
  obtain⟨e,Ω,ρ,d,Ω',eH,w,rl,q,kk⟩:=hw'
  obtain⟨⟨d1,Ω1⟩,q1,q⟩:=Option.bind_eq_some_iff.mp q
  obtain⟨m,q2,q⟩:=Option.bind_eq_some_iff.mp q
  obtain⟨o,q3,q⟩:=Option.bind_eq_some_iff.mp q
  obtain⟨xs,q4,q⟩:=Option.bind_eq_some_iff.mp q
  have e2:=gn q2
  have e4:=ik q4
  dsimp only at e2 q3 q
  subst e2 e4
  cases q
  refine⟨e,Ω,ρ,_,_,eH,w,rl,q1,fun v e1 x1 w1 i1=>?_⟩
  rw[Is] at i1
  obtain⟨p,hα,rfl⟩:=i1
  obtain⟨vs,hH,il⟩:=w1.mls hα q3
  exact⟨p,vs,rfl,.inl (SqL.of hH),kk _ e1 x1 w1 (by rw[Is,il.length])⟩
noncomputable def zJ(neg:Bool)(f g:Den):Den:=fun ρ Ω=>(f ρ Ω).bind fun p=>(jN p.1).bind fun n=>(g ρ p.2).bind fun q=>(jN q.1).bind fun m=>(q.2[n]?).bind fun o=>(iM o).bind fun xs=>(q.2[m]?).bind fun o'=>(iM o').bind fun ys=>(eqD neg (.lst xs) (.lst ys)).bind fun z=>some (z,q.2)
noncomputable def L_(X:Cx)(C:Cl)(neg:Bool):R2:=fun x y H Q=>∃e Ω l vs xs l' vs' ys z,e.H=H/\Wf X.K C e Ω/\x=.ref l/\e.H l=some (.lst vs)/\IsL X.K e.α e.F xs vs/\y=.ref l'/\e.H l'=some (.lst vs')/\IsL X.K e.α e.F ys vs'/\eqD neg (.lst xs) (.lst ys)=some (.bl z)/\Q (.bl z) H
theorem Pu(hu:X.A.units+64<cLine):OpR X (compareOp .NotEq) (L_ X C true):=by
 intro pins s σ H x y v u Q I rx ry h
 obtain⟨e,Ω,l,vs,xs,l',vs',ys,z,rfl,w,rfl,hl,il,rfl,hl',il',q,kk⟩:=h
 obtain⟨s1,s2,ez⟩:=oF q
 cases ez
 cases rx
 cases ry
 obtain⟨as,r1⟩:=pP I w.fh hl il (SeqAt.canLay_of_shaped s1)
 obtain⟨bs,r2⟩:=pP I w.fh hl' il' (SeqAt.canLay_of_shaped s2)
 exact ne_dataH r1 r2 s1 s2 hu ⟨.bl _,e.H,I,rfl,kk⟩
theorem Hv{neg:Bool}{σ:St}{H:Hp}{Q:VK}(hw:tD X.K C (zJ neg f g) σ H Q):tOp (L_ X C neg) (tD X.K C f) (tD X.K C g) σ H Q:=by
 obtain⟨e,Ω,ρ,d,Ω',eH,w,rl,q,kk⟩:=hw
 obtain⟨⟨d1,Ω1⟩,q1,qa⟩:=Option.bind_eq_some_iff.mp q
 obtain⟨m,q2,qb⟩:=Option.bind_eq_some_iff.mp qa
 obtain⟨⟨d3,Ω3⟩,q3,qc⟩:=Option.bind_eq_some_iff.mp qb
 obtain⟨m',q2',qc'⟩:=Option.bind_eq_some_iff.mp qc
 obtain⟨o,q4,qd⟩:=Option.bind_eq_some_iff.mp qc'
 obtain⟨xs,q5,qe⟩:=Option.bind_eq_some_iff.mp qd
 obtain⟨o',q4',qd'⟩:=Option.bind_eq_some_iff.mp qe
 obtain⟨ys,q5',qe'⟩:=Option.bind_eq_some_iff.mp qd'
 obtain⟨z,q6,qf⟩:=Option.bind_eq_some_iff.mp qe'
 clear q qa qb qc qc' qd qe qd' qe'
 have e2:=gn q2
 have e2':=gn q2'
 have e5:=ik q5
 have e5':=ik q5'
 dsimp only at e2 e2' q3 q4 q4' q6 qf
 subst e2 e2' e5 e5'
 cases qf
 obtain⟨_,_,ez⟩:=oF q6
 subst ez
 refine⟨e,Ω,ρ,_,Ω1,eH,w,rl,q1,fun v e1 x1 w1 i1=>?_⟩
 refine⟨e1,Ω1,ρ,_,_,rfl,w1,rl.ext x1,q3,fun u e2 x2 w2 i2=>?_⟩
 have i1':=i1.ext x2
 rw[Is] at i1' i2
 obtain⟨l,hα,rfl⟩:=i1'
 obtain⟨l',hα',rfl⟩:=i2
 obtain⟨vs,hH,il⟩:=w2.mls hα q4
 obtain⟨vs',hH',il'⟩:=w2.mls hα' q4'
 exact⟨e2,_,l,vs,xs,l',vs',ys,_,rfl,w2,rfl,hH,il,rfl,hH',il',q6,kk _ e2 (x1.trans x2) w2 (by rw[Is])⟩
theorem Kr(hu:X.A.units+64<cLine)(ha:PD X C a f)(hb:PD X C b g)(hm:behindInMarks .NotEq b=false:=by first |exact nobehind _ (by decide) (by decide) |rfl):PDT X C (.Compare a [.NotEq] [b] pos) (gT (zJ true f g)) :=
 mU (tW (Pu (C:=C) hu) ha hb hm) fun _ _ _ h=>Hv (my h)
end
end DL
namespace Law
open PySem DL
noncomputable def xU:Str->Option Bool:=fun c=>if c = "NoHouse" then some false else if c = "NoNote" then some true else if c = "NotTied" then some false else if c = "Tied" then some false else none
noncomputable def xV:Str->Option Bool:=fun c=>if c = "NoHouse" then some false else if c = "NoNote" then some false else if c = "NotTied" then some true else if c = "Tied" then some false else none
noncomputable def xW:Str->Option Bool:=fun c=>if c = "NoHouse" then some false else if c = "NoNote" then some false else if c = "NotTied" then some false else if c = "Tied" then some true else none
noncomputable def xX:Str->Option Bool:=fun c=>if c = "NoHouse" then some true else if c = "NoNote" then some false else if c = "NotTied" then some false else if c = "Tied" then some false else none
noncomputable def xY:Str->Option Bool:=fun c=>if c = "NoHouse" then some false else if c = "NoNote" then some false else if c = "NotTied" then some false else if c = "Tied" then some false else none
noncomputable def xZ:Str->Option Bool:=fun c=>if c = "NoHouse" then some true else if c = "NoNote" then some true else if c = "NotTied" then some true else if c = "Tied" then some true else none
noncomputable def jX:Str->Bool:=fun c=>decide (c = "NoHouse") || decide (c = "NoNote") || decide (c = "NotTied") || decide (c = "Tied")
noncomputable def cg:bG:=cz 1 1 (aH (sIf (gT (gOp (isD false) (aj 0) (gC .non))) (bw (gC (.int 0))) aP) (aH (sIf (gT (gUn (jf "int") (aj 0))) (bw (gC (.int 1))) aP) (aH (sIf (gT (gUn (jf "str") (aj 0))) (bw (gC (.int 2))) aP) (bw (gOp fM (gC (.int 3)) (gCB Ly (ao (gUn (jf "tuple") (aj 0)) aA)))))))
noncomputable def cJ:bG:=cz 2 2 (aH (sIf (lE (gA (gT (sY (aj 0)))) (lE (gT (gOp (eqD true) (uy (aj 0)) (gCB pU (ao (aj 1) aA)))) (gT (jO true (aj 0) (aj 1))))) (bw (gC (.bl false))) aP) (bw (gOp (eqD false) (gq [none] (aj 0) (bO 0) cO (aW cg (ao (aj 0) aA))) (gD [none] (iK (aj 1)) (bO 0) cO (aW cg (ao (aj 0) aA))))))
noncomputable def cX:bG:=cz 2 2 (aH (sIf (gT (gOp ltD (aj 1) (gCB pU (ao (aj 0) aA)))) (bw (gOp ixD (aj 0) (aj 1))) aP) (bw (gC (.int 0))))
noncomputable def mZ:bG:=cz 2 5 (aH (xq 2 aA) (aH (bK 3 (gCB pU (ao (aj 0) aA))) (aH (pX (mz oM (ao (aj 1) aA)) (bO 4) (aH (bK 3 (gOp dD (gOp fM (gOp fM (gOp fM (gOp dY (aj 3) (gC (.int 1000003))) (aW cX (ao (aj 0) (ao (aj 4) aA)))) (gOp dY (gC (.int 104729)) (aj 4))) (gOp dY (gOp dY (gC (.int 7919)) (aj 4)) (aj 4))) (gC (.int 998244353)))) (pW 2 (gOp jb (gOp dD (gOp dY (gOp dD (gOp dY (aj 3) (aj 3)) (gC (.int 998244353))) (gC (.int 48271))) (gC (.int 2147483647))) (gC (.int 13)))))) (sE (frz 2) (bw (aj 2))))))
noncomputable def fC:bG:=cz 1 1 (aH (wj "Ties" "length_by" (aj 0) ug) (wj "Ties" "sent_on" (aj 0) ug))
noncomputable def iw:bG:=cz 2 2 (aH (sIf (lE (gA (gT (sY (aj 0)))) (lE (gT (gOp (eqD true) (uy (aj 0)) (uy (aj 1)))) (gT (zJ true (aj 0) (aj 1))))) (bw (gC (.bl false))) aP) (bw (gOp (eqD false) (gq [none] (aj 0) (bO 0) cO (aW cg (ao (aj 0) aA))) (gq [none] (aj 1) (bO 0) cO (aW cg (ao (aj 0) aA))))))
noncomputable def cV:bG:=cz 2 2 (bw (bB (ao (gCB jz (ao (aj 0) (ao (aj 1) aA))) (ao (gCB lF (ao (aj 0) (ao (aj 1) aA))) aA))))
noncomputable def aO:bG:=cz 3 3 (sIf (gT (jc true (aW cV (ao (aj 1) (ao (aj 2) aA))) (fG "Ties" "length_by" (aj 0)))) lG aP)
noncomputable def aV:gP:=mG 3 3 (rIf (gT (jc true (aW cV (ao (aj 1) (ao (aj 2) aA))) (fG "Ties" "length_by" (aj 0)))) (mH "NotTied" (sZ (aj 1) (aj 2))) ig)
noncomputable def cY:bG:=cz 1 8 (aH (xq 1 (ao (bV (ao (aj 0) aA)) aA)) (aH (xq 2 aA) (aH (bK 3 (gC (.int 0))) (aH (gf (gT (gOp ltD (aj 3) (wB (gO 1)))) (aH (bK 4 (Am (gO 1) (aj 3))) (aH (pX (mz wH (ao (aj 4) aA)) (lH [5,6]) (sIf (gT (gUn (qC ["list","tuple"]) (aj 6))) (aH (pW 2 (bB (ao (aj 3) (ao (aj 5) (ao (gUn (jf "tuple") (aj 6)) aA))))) (pW 1 (gCB oK (ao (aj 6) aA)))) aP)) (Fd 3 (gC (.int 1))))) 1000) (sE (frz 2) (aH (sIf (gT (gCB xP (ao (gD [none] (iK (aj 2)) (bO 0) cO (gOp ixD (aj 0) (gC (.int 2)))) aA))) (bw (aj 0)) aP) (aH lG lG)))))))
noncomputable def dz:bG:=cz 3 3 (aH (cC (bT "Ties" "need_pair" aO [] (aj 0) (ao (aj 1) (ao (aj 2) aA)))) (bw (uw (gLs (gq [none] (oX (fG "Ties" "sent_on" (aj 0)) (bB (ao (aj 1) (ao (aj 2) aA))) (gV aA)) (bO 0) cO (aW cY (ao (aj 0) aA)))))))
noncomputable def iQ:gP:=mG 3 3 (rE (gF "Ties" "need_pair" aV [] (aj 0) (ao (aj 1) (ao (aj 2) aA))))
noncomputable def cL:bG:=cz 1 1 (bw (uw (gLs (mX (fG "Ties" "sent_on" (aj 0))))))
noncomputable def jq:bG:=cz 2 2 (aH (sIf (lE (gA (gT (gUn (jf "list") (aj 0)))) (lE (gT (gOp (eqD true) (gCB pU (ao (aj 0) aA)) (gCB pU (ao (aj 1) aA)))) (gT (gOp (eqD true) (aj 0) (aj 1))))) (bw (gC (.bl false))) aP) (bw (gOp (eqD false) (gD [none] (iK (aj 0)) (bO 0) cO (aW cg (ao (aj 0) aA))) (gD [none] (iK (aj 1)) (bO 0) cO (aW cg (ao (aj 0) aA))))))
noncomputable def eG:bG:=cz 1 1 (bw (mX (fG "Ties" "sent_on" (aj 0))))
noncomputable def eX:bG:=cz 3 3 (aH (cC (bT "Ties" "need_pair" aO [] (aj 0) (ao (aj 1) (ao (aj 2) aA)))) (bw (gq [none] (oX (fG "Ties" "sent_on" (aj 0)) (bB (ao (aj 1) (ao (aj 2) aA))) (gV aA)) (bO 0) cO (aW cY (ao (aj 0) aA)))))
noncomputable def iz:gP:=mG 3 3 (rE (gF "Ties" "need_pair" aV [] (aj 0) (ao (aj 1) (ao (aj 2) aA))))
noncomputable def iR:bG:=cz 5 7 (aH (bK 5 (sX (gD [none,some 1] (iK (qu (aj 1))) (bO 0) (gT (jO true (eQ (aj 1) (aj 0)) (bV aA))) (aj 0)))) (aH (sIf (gT (gOp (eqD false) (aj 3) (gC (.int 0)))) (aH (bK 6 (bT "Ties" "waiting" cL [] (aj 0) aA)) (aH (sIf (gA (gT (aW cJ (ao (aj 6) (ao (aj 5) aA))))) (bw (gC (.bl false))) aP) (gW (aj 4) (bB (ao (aj 6) (ao (gCB oK (ao (aj 5) aA)) aA)))))) aP) (aH (sIf (gT (jc false (aj 2) (aj 1))) (aH (bK 6 (bT "Ties" "notes" dz [] (aj 0) (ao (gOp ixD (aj 2) (gC (.int 0))) (ao (gOp ixD (aj 2) (gC (.int 1))) aA)))) (aH (sIf (gA (gT (aW iw (ao (aj 6) (ao (eQ (aj 1) (aj 2)) aA))))) (bw (gC (.bl false))) aP) (gW (aj 4) (bB (ao (aj 6) (ao (mY (eQ (aj 1) (aj 2))) aA)))))) aP) (bw (aW jq (ao (bT "Ties" "waiting" eG [] (aj 0) aA) (ao (aj 5) aA)))))))
noncomputable def bY:bG:=cz 4 4 (aH (sIf (gT (gOp (eqD false) (aj 1) (aj 2))) lG aP) (aH (sIf (gT (jc false (aW cV (ao (aj 1) (ao (aj 2) aA))) (fG "Ties" "length_by" (aj 0)))) lG aP) (jV (fG "Ties" "length_by" (aj 0)) (aW cV (ao (aj 1) (ao (aj 2) aA))) (aj 3))))
noncomputable def fU:gP:=mG 4 4 (rOr (rIf (gT (gOp (eqD false) (aj 1) (aj 2))) (mH "NoHouse" (pFi (aj 1))) ig) (lN (sIf (gT (gOp (eqD false) (aj 1) (aj 2))) lG aP) (rIf (gT (jc false (aW cV (ao (aj 1) (ao (aj 2) aA))) (fG "Ties" "length_by" (aj 0)))) (mH "Tied" (sZ (aj 1) (aj 2))) ig)))
noncomputable def cF:bG:=cz 6 6 (aH (sIf (jW (gT (gOp (eqD false) (aj 0) (gC (.str "come")))) (gT (gOp (eqD false) (aj 3) (aj 4)))) (bw (gC (.str "nohouse"))) aP) (aH (sIf (jW (gT (gOp (eqD false) (aj 0) (gC (.str "come")))) (gT (jc false (bB (ao (aj 3) (ao (aj 4) aA))) (aj 2)))) (bw (gC (.str "tied"))) aP) (aH (sIf (jW (gT (gOp (eqD true) (aj 0) (gC (.str "come")))) (gT (jc true (bB (ao (aj 3) (ao (aj 4) aA))) (aj 2)))) (bw (gC (.str "nottied"))) aP) (aH (sIf (gT (gOp (eqD false) (aj 0) (gC (.str "come")))) (aH (jV (aj 1) (bB (ao (gCB jz (ao (aj 3) (ao (aj 4) aA))) (ao (gCB lF (ao (aj 3) (ao (aj 4) aA))) aA))) (aj 5)) (aH (jV (aj 2) (bB (ao (aj 3) (ao (aj 4) aA))) (gV aA)) (jV (aj 2) (bB (ao (aj 4) (ao (aj 3) aA))) (gV aA)))) aP) (aH (sIf (gT (gOp (eqD false) (aj 0) (gC (.str "fall")))) (aH (cC (jg (aj 1) (bB (ao (gCB jz (ao (aj 3) (ao (aj 4) aA))) (ao (gCB lF (ao (aj 3) (ao (aj 4) aA))) aA))))) (aH (cC (jg (aj 2) (bB (ao (aj 3) (ao (aj 4) aA))))) (cC (jg (aj 2) (bB (ao (aj 4) (ao (aj 3) aA))))))) aP) (aH (sIf (gT (gOp (eqD false) (aj 0) (gC (.str "send")))) (gW (eQ (aj 2) (bB (ao (aj 3) (ao (aj 4) aA)))) (aj 5)) aP) (aH (sIf (gT (gOp (eqD false) (aj 0) (gC (.str "carry")))) (aH (sIf (gT (jO false (eQ (aj 2) (bB (ao (aj 3) (ao (aj 4) aA)))) (bV aA))) (bw (gC (.str "nonote"))) aP) (bw (bV (ao (ux (eQ (aj 2) (bB (ao (aj 3) (ao (aj 4) aA)))) (gC (.int 0))) aA)))) aP) (aH (sIf (gT (gOp (eqD false) (aj 0) (gC (.str "length")))) (bw (bV (ao (eQ (aj 1) (bB (ao (gCB jz (ao (aj 3) (ao (aj 4) aA))) (ao (gCB lF (ao (aj 3) (ao (aj 4) aA))) aA)))) aA))) aP) (aH (sIf (gT (gOp (eqD false) (aj 0) (gC (.str "notes")))) (bw (bV (ao (mY (eQ (aj 2) (bB (ao (aj 3) (ao (aj 4) aA))))) aA))) aP) (bw (bV (ao (gC .non) aA))))))))))))
noncomputable def mK:bG:=cz 1 3 (aH (bK 1 (gOp dD (gOp jb (aj 0) (gC (.int 6))) (gC (.int 1000)))) (aH (bK 2 (bV (ao (bB (ao (gC (.str "news")) (ao (gOp dD (aj 1) (gC (.int 32))) (ao (aj 1) aA)))) (ao (bB (ao (gC (.str "way")) (ao (gOp dD (aj 1) (gC (.int 32))) (ao (gC (.int 1)) (ao (gC .non) (ao (bB aA) aA)))))) (ao (aj 1) (ao (gC (.str "note")) (ao (gC .non) (ao (bB (ao (aj 1) aA)) aA)))))))) (bw (gOp ixD (aj 2) (gOp dD (aj 0) (gC (.int 6)))))))
noncomputable def eU:bG:=cz 3 3 (aH (cC (bT "Ties" "need_pair" aO [] (aj 0) (ao (aj 1) (ao (aj 2) aA)))) (aH (cC (jg (fG "Ties" "length_by" (aj 0)) (aW cV (ao (aj 1) (ao (aj 2) aA))))) (aH (cC (qG (fG "Ties" "sent_on" (aj 0)) (bB (ao (aj 1) (ao (aj 2) aA))) (gC .non))) (cC (qG (fG "Ties" "sent_on" (aj 0)) (bB (ao (aj 2) (ao (aj 1) aA))) (gC .non))))))
noncomputable def iZ:gP:=mG 3 3 (rE (gF "Ties" "need_pair" aV [] (aj 0) (ao (aj 1) (ao (aj 2) aA))))
noncomputable def dG:bG:=cz 4 4 (aH (cC (bT "Ties" "need_pair" aO [] (aj 0) (ao (aj 1) (ao (aj 2) aA)))) (gW (rF (fG "Ties" "sent_on" (aj 0)) (bB (ao (aj 1) (ao (aj 2) aA))) (gV aA)) (aW cY (ao (aj 3) aA))))
noncomputable def i_:gP:=mG 4 4 (rE (gF "Ties" "need_pair" aV [] (aj 0) (ao (aj 1) (ao (aj 2) aA))))
noncomputable def cZ:bG:=cz 3 5 (aH (cC (bT "Ties" "need_pair" aO [] (aj 0) (ao (aj 1) (ao (aj 2) aA)))) (aH (sIf (gT (jc true (bB (ao (aj 1) (ao (aj 2) aA))) (fG "Ties" "sent_on" (aj 0)))) lG aP) (aH (bK 3 (eQ (fG "Ties" "sent_on" (aj 0)) (bB (ao (aj 1) (ao (aj 2) aA))))) (aH (bK 4 (ux (aj 3) (gC (.int 0)))) (aH (sIf (gT (jO false (aj 3) (bV aA))) (cC (jg (fG "Ties" "sent_on" (aj 0)) (bB (ao (aj 1) (ao (aj 2) aA))))) aP) (bw (aj 4)))))))
noncomputable def gw:gP:=mG 3 5 (rOr (rE (gF "Ties" "need_pair" aV [] (aj 0) (ao (aj 1) (ao (aj 2) aA)))) (lN (cC (bT "Ties" "need_pair" aO [] (aj 0) (ao (aj 1) (ao (aj 2) aA)))) (rIf (gT (jc true (bB (ao (aj 1) (ao (aj 2) aA))) (fG "Ties" "sent_on" (aj 0)))) (mH "NoNote" (sZ (aj 1) (aj 2))) ig)))
noncomputable def dW:bG:=cz 3 3 (aH (cC (bT "Ties" "need_pair" aO [] (aj 0) (ao (aj 1) (ao (aj 2) aA)))) (bw (eQ (fG "Ties" "length_by" (aj 0)) (aW cV (ao (aj 1) (ao (aj 2) aA))))))
noncomputable def gK:gP:=mG 3 3 (rE (gF "Ties" "need_pair" aV [] (aj 0) (ao (aj 1) (ao (aj 2) aA))))
noncomputable def cT:bG:=cz 5 7 (uZ (aH (sIf (gT (gOp (eqD false) (aj 0) (gC (.str "come")))) (bw (bV (ao (bT "Ties" "come" bY [] (aj 1) (ao (aj 2) (ao (aj 3) (ao (aj 4) aA)))) aA))) aP) (aH (sIf (gT (gOp (eqD false) (aj 0) (gC (.str "fall")))) (bw (bV (ao (bT "Ties" "fall" eU [] (aj 1) (ao (aj 2) (ao (aj 3) aA))) aA))) aP) (aH (sIf (gT (gOp (eqD false) (aj 0) (gC (.str "send")))) (bw (bV (ao (bT "Ties" "send" dG [] (aj 1) (ao (aj 2) (ao (aj 3) (ao (aj 4) aA)))) aA))) aP) (aH (sIf (gT (gOp (eqD false) (aj 0) (gC (.str "carry")))) (bw (bV (ao (bT "Ties" "carry" cZ [] (aj 1) (ao (aj 2) (ao (aj 3) aA))) aA))) aP) (aH (sIf (gT (gOp (eqD false) (aj 0) (gC (.str "length")))) (bw (bV (ao (bT "Ties" "length" dW [] (aj 1) (ao (aj 2) (ao (aj 3) aA))) aA))) aP) (bw (bV (ao (bT "Ties" "notes" eX [] (aj 1) (ao (aj 2) (ao (aj 3) aA))) aA)))))))) (rOr (rIf (gT (gOp (eqD false) (aj 0) (gC (.str "come")))) (rE (gF "Ties" "come" fU [] (aj 1) (ao (aj 2) (ao (aj 3) (ao (aj 4) aA))))) ig) (lN (sIf (gT (gOp (eqD false) (aj 0) (gC (.str "come")))) (bw (bV (ao (bT "Ties" "come" bY [] (aj 1) (ao (aj 2) (ao (aj 3) (ao (aj 4) aA)))) aA))) aP) (rOr (rIf (gT (gOp (eqD false) (aj 0) (gC (.str "fall")))) (rE (gF "Ties" "fall" iZ [] (aj 1) (ao (aj 2) (ao (aj 3) aA)))) ig) (lN (sIf (gT (gOp (eqD false) (aj 0) (gC (.str "fall")))) (bw (bV (ao (bT "Ties" "fall" eU [] (aj 1) (ao (aj 2) (ao (aj 3) aA))) aA))) aP) (rOr (rIf (gT (gOp (eqD false) (aj 0) (gC (.str "send")))) (rE (gF "Ties" "send" i_ [] (aj 1) (ao (aj 2) (ao (aj 3) (ao (aj 4) aA))))) ig) (lN (sIf (gT (gOp (eqD false) (aj 0) (gC (.str "send")))) (bw (bV (ao (bT "Ties" "send" dG [] (aj 1) (ao (aj 2) (ao (aj 3) (ao (aj 4) aA)))) aA))) aP) (rOr (rIf (gT (gOp (eqD false) (aj 0) (gC (.str "carry")))) (rE (gF "Ties" "carry" gw [] (aj 1) (ao (aj 2) (ao (aj 3) aA)))) ig) (lN (sIf (gT (gOp (eqD false) (aj 0) (gC (.str "carry")))) (bw (bV (ao (bT "Ties" "carry" cZ [] (aj 1) (ao (aj 2) (ao (aj 3) aA))) aA))) aP) (rOr (rIf (gT (gOp (eqD false) (aj 0) (gC (.str "length")))) (rE (gF "Ties" "length" gK [] (aj 1) (ao (aj 2) (ao (aj 3) aA)))) ig) (lN (sIf (gT (gOp (eqD false) (aj 0) (gC (.str "length")))) (bw (bV (ao (bT "Ties" "length" dW [] (aj 1) (ao (aj 2) (ao (aj 3) aA))) aA))) aP) (rE (gF "Ties" "notes" iz [] (aj 1) (ao (aj 2) (ao (aj 3) aA)))))))))))))) 5 jX (aH (bK 6 (bV (ao (jd xX (aj 5)) (ao (jd xW (aj 5)) (ao (jd xV (aj 5)) (ao (jd xU (aj 5)) aA)))))) (aH (sIf (lE (gT (gOp (eqD true) (nW rC (aj 6) (gC (.bl true))) (gC (.int 1)))) (lE (gT (jd xY (aj 5))) (gA (gT (jd xZ (aj 5)))))) (bw (gC (.str "several"))) aP) (bw (gOp ixD (bV (ao (gC (.str "nohouse")) (ao (gC (.str "tied")) (ao (gC (.str "nottied")) (ao (gC (.str "nonote")) aA))))) (nW rD (aj 6) (gC (.bl true))))))))
noncomputable def uz:bG:=cz 1 15 (aH (bK 1 (aW mZ (ao (aj 0) (ao (gOp fM (gOp fM (gC (.int 2)) (gCB jz (ao (gC (.int 40)) (ao (gCB pU (ao (aj 0) aA)) aA)))) (gOp dD (aW cX (ao (aj 0) (ao (gC (.int 0)) aA))) (gC (.int 30)))) aA)))) (aH (bK 2 (gOp dD (gOp ixD (aj 1) (gC (.int 0))) (gC (.int 30)))) (aH (bK 3 (bV (ao (aj 2) (ao (gOp fM (aj 2) (gC (.int 1))) (ao (gOp fM (aj 2) (gC (.int 2))) aA))))) (aH (bK 4 (gD [none,some 3] (mz oM (ao (gC (.int 6)) aA)) (bO 0) cO (bB (ao (gOp ixD (aj 1) (gOp jb (aj 0) (gC (.int 2)))) (ao (gOp ixD (aj 1) (gOp ixD (bV (ao (gC (.int 1)) (ao (gC (.int 2)) (ao (gC (.int 0)) (ao (gC (.int 2)) (ao (gC (.int 0)) (ao (gC (.int 1)) aA))))))) (aj 0))) aA))))) (aH (bK 5 (wu "Ties" fC [] aA)) (aH (bK 6 ug) (aH (bK 7 ug) (aH (bK 8 (gV aA)) (aH (pX (iK (bV (ao (gOp ixD (aj 4) (gC (.int 0))) (ao (gOp ixD (aj 4) (gC (.int 1))) (ao (gOp ixD (aj 4) (gC (.int 3))) aA))))) (bO 9) (aH (cC (bT "Ties" "come" bY [] (aj 5) (ao (gOp ixD (aj 9) (gC (.int 1))) (ao (gOp ixD (aj 9) (gC (.int 0))) (ao (gC (.int 5)) aA))))) (cC (aW cF (ao (gC (.str "come")) (ao (aj 6) (ao (aj 7) (ao (gOp ixD (aj 9) (gC (.int 0))) (ao (gOp ixD (aj 9) (gC (.int 1))) (ao (gC (.int 5)) aA)))))))))) (aH (pX (iK (gSl (aj 1) (vP (gC (.int 1))) t_)) (bO 10) (aH (bK 11 (gOp ixD (bV (ao (gC (.str "send")) (ao (gC (.str "send")) (ao (gC (.str "carry")) (ao (gC (.str "send")) (ao (gC (.str "carry")) (ao (gC (.str "fall")) (ao (gC (.str "come")) (ao (gC (.str "carry")) (ao (gC (.str "send")) (ao (gC (.str "carry")) (ao (gC (.str "send")) aA)))))))))))) (gOp dD (aj 10) (gC (.int 11))))) (aH (bK 9 (gOp ixD (aj 4) (gOp dD (gOp jb (aj 10) (gC (.int 11))) (gC (.int 6))))) (aH (bK 12 (aW mK (ao (gOp jb (aj 10) (gC (.int 66))) aA))) (aH (sIf (gT (gOp (eqD false) (aj 11) (gC (.str "come")))) (bK 12 (gOp fM (gC (.int 1)) (gOp dD (gOp jb (aj 10) (gC (.int 66))) (gC (.int 99))))) aP) (aH (bK 13 (aW cF (ao (aj 11) (ao (aj 6) (ao (aj 7) (ao (gOp ixD (aj 9) (gC (.int 0))) (ao (gOp ixD (aj 9) (gC (.int 1))) (ao (aj 12) aA)))))))) (aH (bK 14 (aW cT (ao (aj 11) (ao (aj 5) (ao (gOp ixD (aj 9) (gC (.int 0))) (ao (gOp ixD (aj 9) (gC (.int 1))) (ao (aj 12) aA))))))) (aH (sIf (gT (gUn (jf "str") (aj 13))) (sIf (gT (gOp (eqD true) (aj 14) (aj 13))) (bw (gC (.bl false))) aP) (sIf (gA (gT (aW jq (ao (aj 14) (ao (aj 13) aA))))) (bw (gC (.bl false))) aP)) (sIf (gA (gT (aW iR (ao (aj 5) (ao (aj 7) (ao (gOp ixD (aj 4) (gOp dD (gOp jb (aj 10) (gC (.int 400))) (gC (.int 6)))) (ao (gOp dD (gOp jb (aj 10) (gC (.int 2400))) (gC (.int 2))) (ao (aj 8) aA)))))))) (bw (gC (.bl false))) aP))))))))) (aH (sIf (gA (gT (gCB xP (ao (gq [none,none] (aj 8) (lH [0,1]) cO (aW cJ (ao (aj 0) (ao (aj 1) aA)))) aA)))) (bw (gC (.bl false))) aP) (aH (Ez (aj 8) (lH [14,13]) (gW (aj 14) (gC (.int 5)))) (bw (aW iR (ao (aj 5) (ao (aj 7) (ao (gOp ixD (aj 4) (gC (.int 0))) (ao (gC (.int 0)) (ao (gV aA) aA)))))))))))))))))))
end Law
namespace Law
open PySem DL
section
variable {κ κ' β:Type} [DecidableEq κ] [DecidableEq κ']
noncomputable def aF(xs:List (κ×β))(k:κ):Option β:=(xs.find? fun r=>decide (r.1=k)).map (·.2)
noncomputable def aR(xs:List (κ×β))(k:κ)(v:β):List (κ×β):=if(xs.any fun r=>decide (r.1=k))=true then xs.map (fun r=>if r.1=k then(r.1,v) else r) else xs++[(k,v)]
noncomputable def bf(xs:List (κ×β))(k:κ):List (κ×β):=xs.filter fun r=>decide (r.1≠k)
noncomputable def mpA(e:κ->κ')(f:β->D)(xs:List (κ×β)):List (κ'×D):=xs.map fun r=>(e r.1,f r.2)
theorem eY(r:κ×β)(xs:List (κ×β))(k:κ):aF (r::xs) k=if r.1=k then some r.2 else aF xs k:=by
 unfold aF
 rw[List.find?_cons]
 by_cases h:r.1=k
 ·simp[h]
 ·simp[h]
theorem pB{e:κ->κ'}(he:∀a b,e a=e b↔a=b)(f:β->D)(k:κ):∀xs:List (κ×β),eF (mpA e f xs) (e k)=(aF xs k).map f
 | []=>rfl
 | r::xs=>by
  have ih:=pB he f k xs
  rw[eY]
  unfold eF mpA at ih ⊢
  rw[List.map_cons,List.find?_cons]
  by_cases h:r.1=k
  ·simp[h]
  ·have h':¬e r.1=e k:=fun z=>h ((he _ _).mp z)
   simpa [h,h'] using ih
theorem Hx{e:κ->κ'}(he:∀a b,e a=e b↔a=b)(f:β->D)(k:κ):∀xs:List (κ×β),((mpA e f xs).any fun kv=>decide (kv.1=e k))=xs.any fun r=>decide (r.1=k)
 | []=>rfl
 | r::xs=>by
  have ih:=Hx he f k xs
  unfold mpA at ih ⊢
  rw[List.map_cons,List.any_cons,List.any_cons,ih]
  congr 1
  exact decide_eq_decide.mpr (he _ _)
theorem Bh{e:κ->κ'}(he:∀a b,e a=e b↔a=b)(f:β->D)(xs:List (κ×β))(k:κ)(v:β):putD (mpA e f xs) (e k) (f v)=mpA e f (aR xs k v):=by
 unfold putD aR
 rw[Hx he]
 split
 ·unfold mpA
  rw[List.map_map,List.map_map]
  apply List.map_congr_left
  intro r _
  show(if e r.1=e k then(e r.1,f v) else(e r.1,f r.2))=_
  by_cases h:r.1=k
  ·rw[if_pos (by rw[h])];simp[h]
  ·rw[if_neg (fun z=>h ((he _ _).mp z))];simp[h]
 ·simp[mpA]
theorem x_{e:κ->κ'}(he:∀a b,e a=e b↔a=b)(f:β->D)(xs:List (κ×β))(k:κ):jC (mpA e f xs) (e k)=mpA e f (bf xs k):=by
 unfold jC bf mpA
 rw[List.filter_map]
 congr 1
 apply List.filter_congr
 intro r _
 exact decide_eq_decide.mpr (not_congr (he _ _))
@[simp] theorem Tr(e:κ->κ')(f:β->D)(xs:List (κ×β)):(mpA e f xs).length=xs.length:=by simp[mpA]
theorem rG{xs:List (κ×β)}{k:κ}{v:β}(h:aF xs k=some v):(k,v)∈xs:=by
 induction xs with
 | nil=>cases h
 | cons r xs ih =>
  rw[eY] at h
  split at h
  ·rename_i e
   cases h
   rw[<-e];exact List.mem_cons_self
  ·exact List.mem_cons_of_mem _ (ih h)
theorem jr{xs:List (κ×β)}{k:κ}:aF xs k=none↔k∉xs.map (·.1):=by
 induction xs with
 | nil=>simp[aF]
 | cons r xs ih =>
  rw[eY,List.map_cons,List.mem_cons,not_or,<-ih]
  by_cases h:r.1=k
  ·rw[if_pos h];simp[h]
  ·rw[if_neg h]
   exact⟨fun z=>⟨fun y=>h y.symm,z⟩,fun z=>z.2⟩
theorem uA{xs:List (κ×β)}{k:κ}:(xs.any fun r=>decide (r.1=k))=true↔k∈xs.map (·.1):=by
 rw[List.any_eq_true]
 constructor
 ·rintro⟨r,h1,h2⟩
  exact List.mem_map.mpr ⟨r,h1,by simpa using h2⟩
 ·intro h
  obtain⟨r,h1,h2⟩:=List.mem_map.mp h
  exact⟨r,h1,by simpa using h2⟩
theorem Bj(xs:List (κ×β))(k k':κ)(v:β):aF (xs.map fun r=>if r.1=k then(r.1,v) else r) k'=if k'=k then(aF xs k).map fun _=>v else aF xs k':=by
 induction xs with
 | nil=>simp[aF]
 | cons r xs ih =>
  rw[List.map_cons,eY,ih,eY,eY]
  by_cases h:r.1=k
  ·by_cases h2:k'=k
   ·subst h2;simp[h]
   ·have h3:¬r.1=k':=fun z=>h2 (by rw[<-z,h])
    have h4:¬k=k':=fun z=>h2 z.symm
    simp[h,h2,h4]
  ·by_cases h2:k'=k
   ·subst h2;simp[h]
   ·simp[h,h2]
theorem Ks(xs ys:List (κ×β))(k:κ):aF (xs++ys) k=match aF xs k with |some v=>some v |none=>aF ys k:=by
 induction xs with
 | nil=>rfl
 | cons r xs ih =>
  rw[List.cons_append,eY,eY,ih]
  by_cases h:r.1=k
  ·simp[h]
  ·simp[h]
theorem cj(xs:List (κ×β))(k k':κ)(v:β):aF (aR xs k v) k'=if k'=k then some v else aF xs k':=by
 unfold aR
 split
 ·rename_i h
  rw[Bj]
  by_cases h2:k'=k
  ·rw[if_pos h2,if_pos h2]
   have:=uA.mp h
   cases q:aF xs k with
   | none=>exact absurd this (jr.mp q)
   | some w=>rfl
  ·rw[if_neg h2,if_neg h2]
 ·rename_i h
  have hn:k∉xs.map (·.1):=fun z=>h (uA.mpr z)
  rw[Ks,eY]
  by_cases h2:k'=k
  ·subst h2
   rw[jr.mpr hn];simp
  ·have h3:¬k=k':=fun z=>h2 z.symm
   rw[if_neg h2]
   show(match aF xs k' with |some v=>some v |none=>if k=k' then some v else aF [] k')=_
   rw[if_neg h3]
   cases aF xs k'<;>rfl
theorem cU(xs:List (κ×β))(k k':κ):aF (bf xs k) k'=if k'=k then none else aF xs k':=by
 induction xs with
 | nil=>simp[bf,aF]
 | cons r xs ih =>
  unfold bf at ih ⊢
  rw[List.filter_cons,eY]
  by_cases h:r.1=k
  ·simp only[h,ne_eq,not_true,decide_false,Bool.false_eq_true,if_false,ih]
   by_cases h2:k'=k
   ·simp[h2]
   ·have h3:¬k=k':=fun z=>h2 z.symm
    simp[h2,h3]
  ·simp only[h,ne_eq,not_false_eq_true,decide_true,if_true,eY,ih]
   by_cases h2:k'=k
   ·subst h2;simp[h]
   ·simp[h2]
theorem Hy(xs:List (κ×β))(k:κ)(v:β):(aR xs k v).map (·.1)=if k∈xs.map (·.1) then xs.map (·.1) else xs.map (·.1)++[k]:=by
 unfold aR
 by_cases h:k∈xs.map (·.1)
 ·rw[if_pos (uA.mpr h),if_pos h,List.map_map]
  apply List.map_congr_left
  intro r _
  show(if r.1=k then(r.1,v) else r).1=r.1
  split<;>rfl
 ·rw[if_neg (fun z=>h (uA.mp z)),if_neg h];simp
theorem wI{xs:List (κ×β)}(h:(xs.map (·.1)).Nodup)(k:κ)(v:β):((aR xs k v).map (·.1)).Nodup:=by
 rw[Hy]
 split
 ·exact h
 ·rename_i hn
  rw[List.nodup_append]
  refine⟨h,by simp,fun a ha b hb z=>hn ?_⟩
  rw[List.mem_singleton] at hb
  rw[<-hb,<-z];exact ha
theorem Hz(xs:List (κ×β))(k:κ):(bf xs k).map (·.1)=(xs.map (·.1)).filter fun x=>decide (x≠k):=by
 unfold bf
 rw[List.filter_map];rfl
theorem wJ{xs:List (κ×β)}(h:(xs.map (·.1)).Nodup)(k:κ):((bf xs k).map (·.1)).Nodup:=by
 rw[Hz];exact h.filter _
theorem Ku(xs:List (κ×β))(k:κ)(v:β):(aR xs k v).length<=xs.length+1:=by
 unfold aR
 split<;>simp
theorem Bk{xs:List (κ×β)}{k:κ}{v:β}{r:κ×β}(h:r∈aR xs k v):r∈xs\/r=(k,v):=by
 unfold aR at h
 split at h
 ·obtain⟨q,hq,e⟩:=List.mem_map.mp h
  by_cases z:q.1=k
  ·rw[if_pos z] at e;exact .inr (by rw[<-e,z])
  ·rw[if_neg z] at e;exact .inl (by rw[<-e];exact hq)
 ·rcases List.mem_append.mp h with h |h
  ·exact .inl h
  ·exact .inr (by simpa using h)
end
end Law
namespace Law
open PySem DL
section
variable {ρ:List Sl} {Ω:List OS}
@[simp] theorem VF(t:Str->Option Bool)(g:Den):jd t g ρ Ω=match g ρ Ω with
 | some (.obj n,Ω1)=>(match Ω1[n]? with
  | some (.exc c)=>(match t c with |some b=>some (.bl b,Ω1) |none=>none)
  | _=>none)
 | _=>none:=by unfold jd;rfl
@[simp] theorem V_(rx:sW):rE rx ρ Ω=match rx ρ Ω with |some (c,Ω')=>some (c,ρ,Ω') |none=>none:=(rfl)
@[simp] theorem U_(c m:Str)(R:gP)(dfl:List D)(go:Den)(ga:bx):gF c m R dfl go ga ρ Ω=match go ρ Ω with
 | some (.obj n,Ω1)=>(match Ω1[n]? with
  | some (.ins c' fs)=>(if c'=c then(match fs.lookup m with
   | none=>(match ga ρ Ω1 with |some (ds,Ω2)=>R (.obj n::(ds++dfl)) Ω2 |none=>none)
   | some _=>none) else none)
  | _=>none)
 | _=>none:=(rfl)
@[simp] theorem Tt(c:Str)(p:u_):mH c p ρ Ω=match p ρ Ω with |some Ω'=>some (c,ρ,Ω') |none=>none:=(rfl)
@[simp] theorem HB(p:bR)(s t:cP):rIf p s t ρ Ω=match p ρ Ω with |some (true,Ω')=>s ρ Ω' |some (false,Ω')=>t ρ Ω' |none=>none:=(rfl)
@[simp] theorem HD:ig ρ Ω=none:=(rfl)
@[simp] theorem Kv(s:aQ)(r:cP):lN s r ρ Ω=match s ρ Ω with |some (.nx ρ1 Ω1)=>r ρ1 Ω1 |_=>none:=(rfl)
@[simp] theorem Bl(r1 r2:cP):rOr r1 r2 ρ Ω=match r1 ρ Ω with |some z=>some z |none=>r2 ρ Ω:=(rfl)
@[simp] theorem Va:lG ρ Ω=none:=(rfl)
theorem Du(n m:Nat)(r:cP)(ds:List D):mG n m r ds Ω=if ds.length=n then(match r (ds.map Sl.dat++List.replicate (m-n) Sl.und) Ω with
  | some (c,_,Ω')=>some (c,Ω')
  | none=>none) else none:=(rfl)
theorem qH{s t:aQ}{r:cP}{i:Nat}{tc:Str->Bool}{d:D}{Ω':List OS}(h:s ρ Ω=some (.rt d Ω')):uZ s r i tc t ρ Ω=some (.rt d Ω'):=by unfold uZ;rw[h]
theorem m_{s t:aQ}{r:cP}{i:Nat}{tc:Str->Bool}{c:Str}{ρ1:List Sl}{d:D}{Ω1 Ω':List OS}(h:s ρ Ω=none)(h1:r ρ Ω=some (c,ρ1,Ω1))(h2:tc c=true)(h3:t (ρ1.set i (.dat (.obj Ω1.length))) (Ω1++[.exc c])=some (.rt d Ω')):uZ s r i tc t ρ Ω=some (.rt d Ω'):=by
 unfold uZ
 rw[h,h1]
 dsimp only
 rw[if_pos h2,h3]
end
theorem lQ{n m:Nat}{s:aQ}{ds:List D}{Ω:List OS}(hl:ds.length=n)(h:s (ds.map Sl.dat++List.replicate (m-n) Sl.und) Ω=none):cz n m s ds Ω=none:=by
 rw[z_,if_pos hl,h]
theorem jH{n m:Nat}{r:cP}{ds:List D}{c:Str}{ρ:List Sl}{Ω Ω':List OS}(hl:ds.length=n)(h:r (ds.map Sl.dat++List.replicate (m-n) Sl.und) Ω=some (c,ρ,Ω')):mG n m r ds Ω=some (c,Ω'):=by
 rw[Du,if_pos hl,h]
theorem Dv{i:Int}(h0:-70000<i)(h1:i<70000):bH i:=by
 have hl:i.natAbs.log2<17:=by
  by_cases z:i.natAbs=0
  ·rw[z];decide
  ·exact(Nat.log2_lt z).mpr (by omega)
 refine⟨by omega,?_⟩
 have:=int_text_length_le (a:=i) (k:=17) (by decide) hl
 rw[ofString_length]
 omega
end Law
namespace Law
open PySem DL
section
variable {ρ:List Sl} {Ω Ω1 Ω2:List OS} {p q:bR} {s t:aQ} {f g:Den} {b:Bool}
theorem uC(h:p ρ Ω=some (false,Ω1)):sIf p s t ρ Ω=t ρ Ω1:=by rw[zZ,h]
theorem uD(h:p ρ Ω=some (true,Ω1)):sIf p s t ρ Ω=s ρ Ω1:=by rw[zZ,h]
theorem iC{r:D->D->Option D}{x y:D}(hf:f ρ Ω=some (x,Ω))(hg:g ρ Ω=some (y,Ω))(h:r x y=some (.bl b)):gT (gOp r f g) ρ Ω=some (b,Ω):=by
 rw[Ek,vW,hf]
 dsimp only
 rw[hg]
 dsimp only
 rw[h]
theorem RK{F:bG}{ga:bx}{ds:List D}(hg:ga ρ Ω=some (ds,Ω))(h:F ds Ω=some (.bl b,Ω1)):gT (aW F ga) ρ Ω=some (b,Ω1):=by
 rw[Ek,ue,hg]
 dsimp only
 rw[h]
theorem nt(h:p ρ Ω=some (b,Ω1)):gA p ρ Ω=some (!b,Ω1):=by rw[NT,h]
theorem Bm(h:p ρ Ω=some (false,Ω1)):jW p q ρ Ω=some (false,Ω1):=by rw[C_,h]
theorem vp(h:p ρ Ω=some (true,Ω1))(h2:q ρ Ω1=some (b,Ω2)):jW p q ρ Ω=some (b,Ω2):=by rw[C_,h];exact h2
theorem lR(h:p ρ Ω=some (false,Ω1)):aH (sIf p s aP) t ρ Ω=t ρ Ω1:=aK (uC h)
theorem aZ{w l:Str}(h0:ρ[0]? = some (.dat (.str w)))(h:eqD false (.str w) (.str l)=some (.bl false)):aH (sIf (gT (gOp (eqD false) (aj 0) (gC (.str l)))) s aP) t ρ Ω=t ρ Ω:=lR (iC (by rw[oU,h0]) rfl h)
theorem fP{w l:Str}(h0:ρ[0]? = some (.dat (.str w)))(h:eqD false (.str w) (.str l)=some (.bl true)){u:aQ}:sIf (gT (gOp (eqD false) (aj 0) (gC (.str l)))) s u ρ Ω=s ρ Ω:=uD (iC (by rw[oU,h0]) rfl h)
theorem ni(h:s ρ Ω=none):aH s t ρ Ω=none:=by rw[xG,h]
theorem yc{d:D}(h:f ρ Ω=some (d,Ω1)):bw (bV (ao f aA)) ρ Ω=some (.rt (.lst [d]) Ω1):=by
 rw[jU,GP,jB,h]
 rfl
theorem lq(h:f ρ Ω=none):bw (bV (ao f aA)) ρ Ω=none:=by rw[jU,GP,jB,h]
theorem je{w l:Str}{r r2:cP}(h0:ρ[0]? = some (.dat (.str w)))(h:eqD false (.str w) (.str l)=some (.bl false)):rOr (rIf (gT (gOp (eqD false) (aj 0) (gC (.str l)))) r ig) (lN (sIf (gT (gOp (eqD false) (aj 0) (gC (.str l)))) s aP) r2) ρ Ω=r2 ρ Ω:=by
 have e:gT (gOp (eqD false) (aj 0) (gC (.str l))) ρ Ω=some (false,Ω):=iC (by rw[oU,h0]) rfl h
 rw[Bl,HB,e]
 dsimp only
 rw[HD]
 dsimp only
 rw[Kv,uC e]
 rfl
theorem vq{w l:Str}{r r2:cP}{z:Str×List Sl×List OS}(h0:ρ[0]? = some (.dat (.str w)))(h:eqD false (.str w) (.str l)=some (.bl true))(hr:r ρ Ω=some z):rOr (rIf (gT (gOp (eqD false) (aj 0) (gC (.str l)))) r ig) r2 ρ Ω=some z:=by
 have e:gT (gOp (eqD false) (aj 0) (gC (.str l))) ρ Ω=some (true,Ω):=iC (by rw[oU,h0]) rfl h
 rw[Bl,HB,e]
 dsimp only
 rw[hr]
theorem o2{r:D->D->Option D}{x y z:D}(hf:f ρ Ω=some (x,Ω))(hg:g ρ Ω=some (y,Ω))(h:r x y=some z):gOp r f g ρ Ω=some (z,Ω):=by
 rw[vW,hf]
 dsimp only
 rw[hg]
 dsimp only
 rw[h]
theorem cl{F:bG}{ga:bx}{ds:List D}{d:D}(hg:ga ρ Ω=some (ds,Ω))(h:F ds Ω=some (d,Ω)):aW F ga ρ Ω=some (d,Ω):=by
 rw[ue,hg]
 exact h
theorem Tu{i:Nat}{d:D}(h:f ρ Ω=some (d,Ω)):bK i f ρ Ω=some (.nx (ρ.set i (.dat d)) Ω):=by rw[vX,h]
theorem c1{d:D}(h:f ρ Ω=some (d,Ω)):ao f aA ρ Ω=some ([d],Ω):=by rw[jB,h];rfl
theorem Kw{i:Nat}{F:bG}{ga:bx}{ds:List D}{d:D}(hg:ga ρ Ω=some (ds,Ω))(h:F ds Ω=some (d,Ω1)):bK i (aW F ga) ρ Ω=some (.nx (ρ.set i (.dat d)) Ω1):=by
 rw[vX,ue,hg]
 dsimp only
 rw[h]
theorem Tv{r1 r2:cP}{z:Str×List Sl×List OS}(h:r1 ρ Ω=some z):rOr r1 r2 ρ Ω=some z:=by rw[Bl,h]
theorem rH{d:D}(h:f ρ Ω=some (d,Ω1)):aH (cC f) t ρ Ω=t ρ Ω1:=aK (by rw[qx,h])
theorem wK(h:f ρ Ω=none):aH (cC f) t ρ Ω=none:=ni (by rw[qx,h])
end
end Law
namespace Law
open PySem DL
noncomputable def pK(p:Int×Int):List L2.Key:=[.inl p.1,.inl p.2]
theorem iV(a b:Int×Int):pK a=pK b↔a=b:=by
 obtain⟨a1,a2⟩:=a
 obtain⟨b1,b2⟩:=b
 simp[pK]
noncomputable def prr(a b:Int):Int×Int:=(if b<a then b else a,if b>a then b else a)
theorem lU(x y a b:Int):prr x y=prr a b↔(x,y)=(a,b)\/(x,y)=(b,a):=by
 unfold prr
 rw[Prod.mk.injEq,Prod.mk.injEq,Prod.mk.injEq]
 constructor
 ·intro⟨h1,h2⟩
  split at h1<;>split at h1<;>split at h2<;>split at h2<;>omega
 ·intro h
  rcases h with⟨rfl,rfl⟩ |⟨rfl,rfl⟩
  ·exact⟨rfl,rfl⟩
  ·constructor
   ·split<;>split<;>omega
   ·split<;>split<;>omega
theorem rJ(a b:Int):prr b a=prr a b:=(lU b a a b).mpr (.inr rfl)
noncomputable abbrev TyL:=List ((Int×Int)×Int)
noncomputable def lD(L:TyL):OS:=.dT (mpA pK D.int L)
theorem t21:(("sent_on":Str)==("length_by":Str))=false:=by decide +kernel
theorem t12:¬(("length_by":Str)=("sent_on":Str)):=by decide +kernel
@[simp] theorem VG(L:TyL)(a b:Int):jE (lD L) (.tup [.int a,.int b])=some ((aF L (a,b)).map D.int):=by
 show some (eF (mpA pK D.int L) (pK (a,b)))=_
 rw[pB iV]
theorem Ma{L:TyL}(h:L.length<100000)(a b l:Int):qW (lD L) (.tup [.int a,.int b]) (.int l)=some (lD (aR L (a,b) l)):=by
 show(if(mpA pK D.int L).length<100000 then some (OS.dT (putD (mpA pK D.int L) (pK (a,b)) (D.int l))) else none)=_
 rw[if_pos (by simpa using h),Bh iV]
 rfl
theorem HF{L:TyL}{a b v:Int}(h:aF L (a,b)=some v):nT (lD L) (.tup [.int a,.int b])=some (.int v,lD (bf L (a,b))):=by
 show(match eF (mpA pK D.int L) (pK (a,b)) with |some v=>some (v,OS.dT (jC (mpA pK D.int L) (pK (a,b)))) |none=>none)=_
 rw[pB iV,x_ iV,h]
 rfl
@[simp] theorem Vq(L:TyL):nR (lD L)=true:=rfl
theorem eqS(neg:Bool){x y:Str}(hx:(PyData.str x).canLay0=true)(hy:(PyData.str y).canLay0=true):eqD neg (.str x) (.str y)=some (.bl (if x=y then !neg else neg)):=by
 by_cases h:x=y
 ·subst h
  rw[if_pos rfl,jF neg (by simpa [pl] using hx) (by simp[dep])]
 ·rw[if_neg h,Aj neg (by simpa [pl] using hx) (by simpa [pl] using hy) (by simp[dep]) (by simp[dep]) (fun z=>h (by cases z;rfl))]
end Law
namespace Law
open PySem DL
theorem HH(i j:Bool):PyData.eqv (toP (.bl i)) (toP (.bl j))=decide (i=j):=by
 have:=(oF (JH false i j)).2.2
 injection this with this
@[simp] theorem Wa{β:Type}(a:β)(l:List β):L2.atI (a::l) 0=some a:=by
 have:=mC (a::l) 0 (by simp)
 simpa using this
@[simp] theorem Wb{β:Type}(a b:β)(l:List β):L2.atI (a::b::l) 1=some b:=by
 have:=mC (a::b::l) 1 (by simp)
 simpa using this
@[simp] theorem Wc{β:Type}(a b c:β)(l:List β):L2.atI (a::b::c::l) 2=some c:=by
 have:=mC (a::b::c::l) 2 (by simp)
 simpa using this
theorem Vb(p q r s:Bool):rC [.bl p,.bl q,.bl r,.bl s] (.bl true)=some (.int (([p,q,r,s].countP id:Nat):Int)):=by
 unfold rC
 rw[if_pos (by simp[pN])]
 simp[HH,List.countP_cons]
theorem Vc(p q r s:Bool){j:Nat}(h:[p,q,r,s].findIdx? id=some j)(hj:j<4):rD [.bl p,.bl q,.bl r,.bl s] (.bl true)=some (.int (j:Int)):=by
 unfold rD
 rw[if_pos (by simp[pN])]
 have e:([D.bl p,D.bl q,D.bl r,D.bl s].findIdx? fun d=>PyData.eqv (toP d) (toP (.bl true)))=some j:=by
  rw[<-h]
  simp[HH,List.findIdx?_cons]
 rw[e]
 show(if j<big then some (D.int (j:Int)) else none)=_
 rw[if_pos (by have:big=100000:=rfl;omega)]
noncomputable def exS:aQ:=(aH (bK 6 (bV (ao (jd xX (aj 5)) (ao (jd xW (aj 5)) (ao (jd xV (aj 5)) (ao (jd xU (aj 5)) aA)))))) (aH (sIf (lE (gT (gOp (eqD true) (nW rC (aj 6) (gC (.bl true))) (gC (.int 1)))) (lE (gT (jd xY (aj 5))) (gA (gT (jd xZ (aj 5)))))) (bw (gC (.str "several"))) aP) (bw (gOp ixD (bV (ao (gC (.str "nohouse")) (ao (gC (.str "tied")) (ao (gC (.str "nottied")) (ao (gC (.str "nonote")) aA))))) (nW rD (aj 6) (gC (.bl true)))))))
theorem uE{x0 x1 x2 x3 x4:Sl}{n:Nat}{Ω:List OS}{c w:Str}{p q r s:Bool}{j:Nat}(hn:Ω[n]? = some (.exc c))(h3:xX c=some p)(h2:xW c=some q)(h1:xV c=some r)(h0:xU c=some s)(h4:xY c=some false)(h5:xZ c=some true)
  (hc:[p,q,r,s].countP id=1) (hj:[p,q,r,s].findIdx? id=some j) (j4:j<4) (hw:L2.atI [D.str "nohouse",.str "tied",.str "nottied",.str "nonote"] (j:Int)=some (.str w)):exS [x0,x1,x2,x3,x4,.dat (.obj n),.und] Ω=some (.rt (.str w) Ω):=by
 have e1:=Vb p q r s
 rw[hc] at e1
 have e2:=Vc p q r s hj j4
 refine(aK (ρ':=[x0,x1,x2,x3,x4,.dat (.obj n),.dat (.lst [.bl p,.bl q,.bl r,.bl s])]) (Ω':=Ω) (by simp[hn,h3,h2,h1,h0])).trans ?_
 refine(aK (ρ':=[x0,x1,x2,x3,x4,.dat (.obj n),.dat (.lst [.bl p,.bl q,.bl r,.bl s])]) (Ω':=Ω) ?_).trans ?_
 ·simp[nW,vm,e1,hn,h4,h5]
 ·simp[nW,vm,e2,hw]
theorem Fe{x0 x1 x2 x3 x4:Sl}{n:Nat}{Ω:List OS}(hn:Ω[n]? = some (.exc "NoHouse")):exS [x0,x1,x2,x3,x4,.dat (.obj n),.und] Ω=some (.rt (.str "nohouse") Ω) :=
 uE (p:=true) (q:=false) (r:=false) (s:=false) (j:=0) hn (by decide +kernel) (by decide +kernel) (by decide +kernel) (by decide +kernel) (by decide +kernel) (by decide +kernel) rfl rfl (by decide) (by simp)
theorem Px{x0 x1 x2 x3 x4:Sl}{n:Nat}{Ω:List OS}(hn:Ω[n]? = some (.exc "Tied")):exS [x0,x1,x2,x3,x4,.dat (.obj n),.und] Ω=some (.rt (.str "tied") Ω) :=
 uE (p:=false) (q:=true) (r:=false) (s:=false) (j:=1) hn (by decide +kernel) (by decide +kernel) (by decide +kernel) (by decide +kernel) (by decide +kernel) (by decide +kernel) rfl rfl (by decide) (by simp)
theorem lV{x0 x1 x2 x3 x4:Sl}{n:Nat}{Ω:List OS}(hn:Ω[n]? = some (.exc "NotTied")):exS [x0,x1,x2,x3,x4,.dat (.obj n),.und] Ω=some (.rt (.str "nottied") Ω) :=
 uE (p:=false) (q:=false) (r:=true) (s:=false) (j:=2) hn (by decide +kernel) (by decide +kernel) (by decide +kernel) (by decide +kernel) (by decide +kernel) (by decide +kernel) rfl rfl (by decide) (by simp)
end Law
namespace Law
open PySem DL L2
theorem Py{α:Type}(k:α->List Int)(d:α->D){xs ys:List α}(hp:ys.Perm xs)(hs:ys.Pairwise fun a b=>HT.lexLt (k b) (k a)=false)(inj:∀a∈xs,∀b∈xs,k a=k b->a=b):srt (xs.map k) (xs.map d)=ys.map d:=by
 have ez:(xs.map k).zip (xs.map d)=xs.map fun x=>(k x,d x):=by
  rw[List.zip_map']
 unfold srt
 rw[ez]
 have:(xs.map fun x=>(k x,d x)).mergeSort leK=ys.map fun x=>(k x,d x):=by
  refine List.Perm.eq_of_pairwise (le:=fun a b=>leK a b=true) ?_ (List.pairwise_mergeSort sS sU _) ?_ ((List.mergeSort_perm _ _).trans (hp.map _).symm)
  ·intro a b ha hb h1 h2
   obtain⟨x,hx,rfl⟩:=List.mem_map.mp ((List.mergeSort_perm _ _).mem_iff.mp ha)
   obtain⟨y,hy,rfl⟩:=List.mem_map.mp hb
   unfold leK at h1 h2
   have e:=uX (k x) (k y) (by simpa using h2) (by simpa using h1)
   rw[inj x hx y (hp.mem_iff.mp hy) e]
  ·rw[List.pairwise_map]
   refine hs.imp fun h=>?_
   unfold leK
   rw[h];rfl
 rw[this,List.map_map]
 rfl
noncomputable def k1(r:(Int×Int)×Int):List Int:=[r.1.1,r.1.2]
noncomputable def k2(r:(Int×Int)×Int):List Int:=[r.1.1,r.1.2,r.2]
end Law
namespace Law
open PySem DL L2
theorem Dw{α:Type}{f:α->D}(h:∀x,pl (f x)=true):∀xs:List α,plL (xs.map f)=true
 | []=>rfl
 | x::xs=>by rw[List.map_cons];simp[plL,h x,Dw h xs]
theorem Bo{α:Type}{f:α->D}(h:∀x,dep (f x)<=1):∀xs:List α,dM (xs.map f)<=1
 | []=>by simp[dM]
 | x::xs=>by
  have:=Bo h xs
  have:=h x
  rw[List.map_cons]
  simp only[dM]
  omega
end Law
namespace Law
open PySem DL
theorem Ky(lo:Int)(n:Nat):upD lo (n+1)=D.int lo::upD (lo+1) n:=by
 unfold upD
 rw[List.range_succ_eq_map,List.map_cons,List.map_map]
 congr 1
 ·simp
 ·apply List.map_congr_left
  intro k _
  show D.int (lo+((k+1:Nat):Int))=D.int (lo+1+(k:Int))
  congr 1
  omega
theorem Mf(ns:List Int)(k:Nat)(Ω:List OS):∃c,cX [.scr ns,.int k] Ω=some (.int c,Ω):=by
 by_cases h:k<ns.length
 ·have h1:(k:Int)<(ns.length:Int):=by omega
  have h2:L2.atI ns (k:Int)=some ns[k]:=mC _ _ h
  exact⟨ns[k],bc rfl (dZ (by simp[h1,h2]))⟩
 ·have h1:¬(k:Int)<(ns.length:Int):=by omega
  exact⟨0,bc rfl ((aK (ρ':=[.dat (.scr ns),.dat (.int k)]) (Ω':=Ω) (by simp[h1])).trans (by simp))⟩
noncomputable def drB:aQ:=(aH (bK 3 (gOp dD (gOp fM (gOp fM (gOp fM (gOp dY (aj 3) (gC (.int 1000003))) (aW cX (ao (aj 0) (ao (aj 4) aA)))) (gOp dY (gC (.int 104729)) (aj 4))) (gOp dY (gOp dY (gC (.int 7919)) (aj 4)) (aj 4))) (gC (.int 998244353)))) (pW 2 (gOp jb (gOp dD (gOp dY (gOp dD (gOp dY (aj 3) (aj 3)) (gC (.int 998244353))) (gC (.int 48271))) (gC (.int 2147483647))) (gC (.int 13)))))
theorem yV(ns:List Int)(X1:Sl)(Ω:List OS):∀(n lo:Nat) (fs:List Int) (m:Int) (x:Sl),fs.length+n<=1000->lo+n<=1000->(∀x∈fs,0<=x)->∃(gs:List Int) (m':Int) (y:Sl),gs.length=fs.length+n/\(∀x∈gs,0<=x) /\
  jm (bO 4) drB (upD lo n) [.dat (.scr ns),X1,.own (fs.map D.int),.dat (.int m),x] Ω=some (.nx [.dat (.scr ns),X1,.own (gs.map D.int),.dat (.int m'),y] Ω)
 | 0,lo,fs,m,x,_,_,h=>⟨fs,m,x,by simp,h,rfl⟩
 | n+1,lo,fs,m,x,hl,hlo,h=>by
  obtain⟨c,hc⟩:=Mf ns lo Ω
  obtain⟨k,hk⟩:∃k:Int,k=(m*1000003+c+104729*(lo:Int)+7919*(lo:Int)*(lo:Int))%998244353:=⟨_,rfl⟩
  have k0:0<=k:=by rw[hk];exact Int.emod_nonneg _ (by decide)
  have k1:k<998244353:=by rw[hk];exact Int.emod_lt_of_pos _ (by decide)
  have e1:dY (.int m) (.int 1000003)=some (.int (m*1000003)):=vZ (.inr ⟨by decide,by decide⟩)
  have e2:dY (.int 104729) (.int (lo:Int))=some (.int (104729*(lo:Int))):=vZ (.inl ⟨by decide,by decide⟩)
  have e3:dY (.int 7919) (.int (lo:Int))=some (.int (7919*(lo:Int))):=vZ (.inl ⟨by decide,by decide⟩)
  have e4:dY (.int (7919*(lo:Int))) (.int (lo:Int))=some (.int (7919*(lo:Int)*(lo:Int))):=fu (.inr ⟨by omega,by omega⟩)
  have e5:dY (.int k) (.int k)=some (.int (k*k)):=vZ (.inl ⟨by omega,by omega⟩)
  have e6:dY (.int (k*k%998244353)) (.int 48271)=some (.int (k*k%998244353*48271)):=vZ (.inr ⟨by decide,by decide⟩)
  obtain⟨gs,m',y,h1,h2,h3⟩:=yV ns X1 Ω n (lo+1) (fs++[k*k%998244353*48271%2147483647 / 13]) k (.dat (.int lo)) (by simp;omega) (by omega) (by
   intro x hx
   rcases List.mem_append.mp hx with z |z
   ·exact h x z
   ·rw[List.mem_singleton.mp z]
    have:=Int.emod_nonneg (k*k%998244353*48271) (by decide:(2147483647:Int)≠0)
    omega)
  refine⟨gs,m',y,by simp at h1 ⊢;omega,h2,?_⟩
  have hb:fs.length<100000:=by omega
  have cs:upD (lo:Int) (n+1)=.int lo::upD ((lo+1:Nat):Int) n:=by
   rw[Ky];rfl
  have s1:bK 3 (gOp dD (gOp fM (gOp fM (gOp fM (gOp dY (aj 3) (gC (.int 1000003))) (aW cX (ao (aj 0) (ao (aj 4) aA)))) (gOp dY (gC (.int 104729)) (aj 4))) (gOp dY (gOp dY (gC (.int 7919)) (aj 4)) (aj 4))) (gC (.int 998244353))) [.dat (.scr ns),X1,.own (fs.map D.int),.dat (.int m),.dat (.int lo)] Ω=some (.nx [.dat (.scr ns),X1,.own (fs.map D.int),.dat (.int k),.dat (.int lo)] Ω):=by
   rw[hk]
   exact Tu (o2 (o2 (o2 (o2 (o2 rfl rfl e1) (cl rfl hc) rfl) (o2 rfl rfl e2) rfl) (o2 (o2 rfl rfl e3) rfl e4) rfl) rfl (by simp))
  rw[<-h3,cs,km]
  have eb:bO 4 (.int lo) [.dat (.scr ns),X1,.own (fs.map D.int),.dat (.int m),x]=some [.dat (.scr ns),X1,.own (fs.map D.int),.dat (.int m),.dat (.int lo)]:=rfl
  rw[eb]
  dsimp only
  have s2:drB [.dat (.scr ns),X1,.own (fs.map D.int),.dat (.int m),.dat (.int lo)] Ω=some (.nx [.dat (.scr ns),X1,.own ((fs++[k*k%998244353*48271%2147483647 / 13]).map D.int),.dat (.int k),.dat (.int lo)] Ω):=by
   have s3:gOp jb (gOp dD (gOp dY (gOp dD (gOp dY (aj 3) (aj 3)) (gC (.int 998244353))) (gC (.int 48271))) (gC (.int 2147483647))) (gC (.int 13)) [.dat (.scr ns),X1,.own (fs.map D.int),.dat (.int k),.dat (.int lo)] Ω=some (.int (k*k%998244353*48271%2147483647 / 13),Ω):=o2 (o2 (o2 (o2 (o2 rfl rfl e5) rfl (by simp:dD (.int (k*k)) (.int 998244353)=some (.int (k*k%998244353)))) rfl e6) rfl (by simp:dD (.int (k*k%998244353*48271)) (.int 2147483647)=some (.int (k*k%998244353*48271%2147483647)))) rfl (by simp)
   refine(aK s1).trans ?_
   rw[Rq,s3]
   simp[hb]
  rw[s2]
theorem HJ(ns:List Int){m:Nat}(hm:m<=1000)(Ω:List OS):∃xs:List Int,xs.length=m/\(∀x∈xs,0<=x)/\mZ [.scr ns,.int m] Ω=some (.lst (xs.map D.int),Ω):=by
 obtain⟨gs,k,y,h1,h2,h3⟩:=yV ns (.dat (.int m)) Ω m 0 [] ns.length .und (by simpa using hm) (by omega) (fun x hx=>absurd hx List.not_mem_nil)
 refine⟨gs,by simpa using h1,h2,bc rfl ?_⟩
 refine(aK (ρ':=[.dat (.scr ns),.dat (.int m),.own [],.und,.und]) (Ω':=Ω) (by simp)).trans ?_
 refine(aK (ρ':=[.dat (.scr ns),.dat (.int m),.own [],.dat (.int ns.length),.und]) (Ω':=Ω) (by simp)).trans ?_
 have er:oM [.int (m:Int)]=some (upD 0 m):=by
  rw[LK (by omega) (by omega)];rfl
 refine(aK (ρ':=[.dat (.scr ns),.dat (.int m),.own (gs.map D.int),.dat (.int k),y]) (Ω':=Ω) ?_).trans ?_
 ·rw[vY]
  have:mz oM (ao (aj 1) aA) [.dat (.scr ns),.dat (.int m),.own [],.dat (.int ns.length),.und] Ω=some (upD 0 m,Ω):=by simp[er]
  rw[this]
  exact h3
 simp[frz]
end Law
namespace Law
open PySem DL
noncomputable abbrev TyO:=List ((Int×Int)×Nat)
noncomputable abbrev TyN:=Int×Int->List D
noncomputable def oV:Nat->D:=fun i=>.obj i
noncomputable def oD(T:TyO):OS:=.dT (mpA pK oV T)
noncomputable def tfo(o:Nat):List (Str×D):=[("length_by",.obj (o+1)),("sent_on",.obj (o+2))]
@[simp] theorem Wd(o:Nat):List.lookup ("length_by":Str) (tfo o)=some (.obj (o+1)):=by simp[tfo,List.lookup_cons]
@[simp] theorem We(o:Nat):List.lookup ("sent_on":Str) (tfo o)=some (.obj (o+2)):=by simp[tfo,List.lookup_cons,t21]
theorem nY{f:Str}(o:Nat)(h1:(f==("length_by":Str))=false)(h2:(f==("sent_on":Str))=false):List.lookup f (tfo o)=none:=by simp[tfo,List.lookup_cons,h1,h2]
@[simp] theorem pC(o:Nat):List.lookup ("come":Str) (tfo o)=none:=nY o (by decide +kernel) (by decide +kernel)
@[simp] theorem vy(o:Nat):List.lookup ("fall":Str) (tfo o)=none:=nY o (by decide +kernel) (by decide +kernel)
@[simp] theorem vz(o:Nat):List.lookup ("send":Str) (tfo o)=none:=nY o (by decide +kernel) (by decide +kernel)
@[simp] theorem nj(o:Nat):List.lookup ("carry":Str) (tfo o)=none:=nY o (by decide +kernel) (by decide +kernel)
@[simp] theorem rK(o:Nat):List.lookup ("length":Str) (tfo o)=none:=nY o (by decide +kernel) (by decide +kernel)
@[simp] theorem tE(o:Nat):List.lookup ("notes":Str) (tfo o)=none:=nY o (by decide +kernel) (by decide +kernel)
@[simp] theorem Qm(o:Nat):List.lookup ("need_pair":Str) (tfo o)=none:=nY o (by decide +kernel) (by decide +kernel)
@[simp] theorem TX(o:Nat):List.lookup ("pairs":Str) (tfo o)=none:=nY o (by decide +kernel) (by decide +kernel)
@[simp] theorem Sg(o:Nat):List.lookup ("waiting":Str) (tfo o)=none:=nY o (by decide +kernel) (by decide +kernel)
@[simp] theorem VH(T:TyO)(a b:Int):jE (oD T) (.tup [.int a,.int b])=some ((aF T (a,b)).map oV):=by
 show some (eF (mpA pK oV T) (pK (a,b)))=_
 rw[pB iV]
theorem Mg{T:TyO}(h:T.length<100000)(a b:Int)(n:Nat):qW (oD T) (.tup [.int a,.int b]) (.obj n)=some (oD (aR T (a,b) n)):=by
 show(if(mpA pK oV T).length<100000 then some (OS.dT (putD (mpA pK oV T) (pK (a,b)) (oV n))) else none)=_
 rw[if_pos (by simpa using h),Bh iV]
 rfl
theorem Bp{T:TyO}{a b:Int}{n:Nat}(h:aF T (a,b)=some n):nT (oD T) (.tup [.int a,.int b])=some (.obj n,oD (bf T (a,b))):=by
 show(match eF (mpA pK oV T) (pK (a,b)) with |some v=>some (v,OS.dT (jC (mpA pK oV T) (pK (a,b)))) |none=>none)=_
 rw[pB iV,x_ iV,h]
 rfl
@[simp] theorem Vr(T:TyO):nR (oD T)=true:=rfl
@[simp] theorem Wg(T:TyO):dTO (oD T)=some (mpA pK oV T):=rfl
@[simp] theorem HN(ds:List D):iM (.mls ds)=some ds:=rfl
@[simp] theorem qI(n:Nat):jN (.obj n)=some n:=rfl
@[simp] theorem VJ(n:Int):ph (.int n)=some n:=rfl
theorem Pz{T:TyO}{k:Int×Int}(h:aF T k=none):bf T k=T:=by
 unfold bf
 rw[List.filter_eq_self]
 intro r hr
 refine decide_eq_true fun z=>?_
 exact jr.mp h (z ▸ List.mem_map.mpr ⟨r,hr,rfl⟩)
structure St(o:Nat)(Ω:List OS)(L M:TyL)(P T:TyO):Prop where
 h0:Ω[o]? = some (.ins "Ties" (tfo o))
 h1:Ω[o+1]? = some (lD L)
 h2:Ω[o+2]? = some (oD P)
 h3:Ω[o+3]? = some (lD M)
 h4:Ω[o+4]? = some (oD T)
theorem rM{Ω:List OS}{i:Nat}{x:OS}(h:Ω[i]? = some x):i<Ω.length:=(List.getElem?_eq_some_iff.mp h).1
theorem nq{Ω:List OS}{i:Nat}{x y:OS}(h:Ω[i]? = some x):(Ω.set i y)[i]? = some y:=List.getElem?_set_self (rM h)
theorem cA{Ω:List OS}{i j:Nat}{x y:OS}(h:Ω[j]? = some x)(n:i≠j):(Ω.set i y)[j]? = some x:=by rw[List.getElem?_set_ne n];exact h
theorem iW{Ω:List OS}{i:Nat}{x y:OS}(h:Ω[i]? = some x):(Ω++[y])[i]? = some x:=by rw[List.getElem?_append_left (rM h)];exact h
section
variable {o:Nat} {Ω:List OS} {L M:TyL} {P T:TyO}
theorem St.set1(s:St o Ω L M P T)(L':TyL):St o (Ω.set (o+1) (lD L')) L' M P T:=⟨cA s.h0 (by omega),nq s.h1,cA s.h2 (by omega),cA s.h3 (by omega),cA s.h4 (by omega)⟩
theorem St.set2(s:St o Ω L M P T)(P':TyO):St o (Ω.set (o+2) (oD P')) L M P' T:=⟨cA s.h0 (by omega),cA s.h1 (by omega),nq s.h2,cA s.h3 (by omega),cA s.h4 (by omega)⟩
theorem St.set3(s:St o Ω L M P T)(M':TyL):St o (Ω.set (o+3) (lD M')) L M' P T:=⟨cA s.h0 (by omega),cA s.h1 (by omega),cA s.h2 (by omega),nq s.h3,cA s.h4 (by omega)⟩
theorem St.set4(s:St o Ω L M P T)(T':TyO):St o (Ω.set (o+4) (oD T')) L M P T':=⟨cA s.h0 (by omega),cA s.h1 (by omega),cA s.h2 (by omega),cA s.h3 (by omega),nq s.h4⟩
theorem St.other(s:St o Ω L M P T){i:Nat}(hi:i<o\/o+5<=i)(x:OS):St o (Ω.set i x) L M P T:=⟨cA s.h0 (by omega),cA s.h1 (by omega),cA s.h2 (by omega),cA s.h3 (by omega),cA s.h4 (by omega)⟩
theorem St.app(s:St o Ω L M P T)(x:OS):St o (Ω++[x]) L M P T:=⟨iW s.h0,iW s.h1,iW s.h2,iW s.h3,iW s.h4⟩
end
@[simp] theorem Bq(ρ:List Sl)(Ω:List OS):gV aA ρ Ω=some (.obj Ω.length,Ω++[.mls []]):=by
 unfold gV
 simp
noncomputable def Nl:D->Prop
 | .non=>True
 | .int _=>True
 | .str x=>(PyData.str x).canLay0=true
 | _=>False
noncomputable def Nt(d:D):Prop:=Nl d\/∃xs,d=.tup xs/\xs.length<=10/\∀x∈xs,Nl x\/x=.tup []
theorem Nl.pl{d:D}(h:Nl d):pl d=true/\dep d=0:=by
 cases d<;>first |exact h.elim |(simp[DL.pl,dep];try exact h)
theorem Nt.pl{d:D}(h:Nt d):pl d=true/\dep d<=2:=by
 rcases h with h |⟨xs,rfl,_,h⟩
 ·exact⟨h.pl.1,by rw[h.pl.2];omega⟩
 ·have key:∀xs:List D,(∀x∈xs,Nl x\/x=.tup [])->plL xs=true/\dM xs<=1:=fun xs=>by
   induction xs with
   | nil=>exact fun _=>⟨rfl,by simp[dM]⟩
   | cons x xs ih =>
    intro h
    obtain⟨i1,i2⟩:=ih fun y hy=>h y (List.mem_cons_of_mem _ hy)
    rcases h x List.mem_cons_self with z |rfl
    ·simp only[plL,dM,z.pl.1,z.pl.2,i1,Bool.and_self,true_and];omega
    ·simp only[plL,DL.pl,dM,dep,i1,Bool.and_self,true_and];omega
  obtain⟨k1,k2⟩:=key xs h
  simp only[DL.pl,dep,k1,true_and]
  omega
@[simp] theorem Vs(gl:bx)(ρ:List Sl)(Ω:List OS):wB gl ρ Ω=match gl ρ Ω with |some (ds,Ω1)=>some (.int ds.length,Ω1) |none=>none:=(rfl)
@[simp] theorem Wi(i:Nat)(ρ:List Sl)(Ω:List OS):gO i ρ Ω=match ρ[i]? with |some (.own ds)=>some (ds,Ω) |_=>none:=(rfl)
@[simp] theorem VL(gl:bx)(g:Den)(ρ:List Sl)(Ω:List OS):Am gl g ρ Ω=match gl ρ Ω with
 | some (ds,Ω1)=>(match g ρ Ω1 with
  | some (.int i,Ω2)=>(match L2.atI ds i with
   | some d=>some (d,Ω2)
   | none=>none)
  | _=>none)
 | none=>none:=(rfl)
noncomputable def subs:List D->List D
 | []=>[]
 | .tup xs::r=>.lst xs::subs r
 | _::r=>subs r
noncomputable def fH(k:Int):Nat->List D->List D
 | _,[]=>[]
 | lo,.tup _::r=>.tup [.int k,.int lo,.bl true]::fH k (lo+1) r
 | lo,_::r=>fH k (lo+1) r
noncomputable def Pt(d:D):Prop:=Nl d\/∃xs,d=.tup xs
noncomputable def anI:aQ:=(sIf (gT (gUn (qC ["list","tuple"]) (aj 6))) (aH (pW 2 (bB (ao (aj 3) (ao (aj 5) (ao (gUn (jf "tuple") (aj 6)) aA))))) (pW 1 (gCB oK (ao (aj 6) aA)))) aP)
noncomputable def anB:aQ:=(aH (bK 4 (Am (gO 1) (aj 3))) (aH (pX (mz wH (ao (aj 4) aA)) (lH [5,6]) anI) (Fd 3 (gC (.int 1)))))
noncomputable def An(x0:Sl)(ns ss:List D)(k:Int)(x4 x5 x6:Sl):List Sl:=[x0,.own ns,.own ss,.dat (.int k),x4,x5,x6,.und]
theorem Ff(x0:Sl)(k:Int)(Ω:List OS):∀(ps:List D) (lo:Nat) (ns ss:List D) (x4 x5 x6:Sl),(∀p∈ps,Pt p)->ns.length+ps.length<100000->ss.length+ps.length<100000->∃y5 y6,jm (lH [5,6]) anI (jG lo ps) (An x0 ns ss k x4 x5 x6) Ω=some (.nx (An x0 (ns++subs ps) (ss++fH k lo ps) k x4 y5 y6) Ω)
 | [],lo,ns,ss,x4,x5,x6,_,_,_=>⟨x5,x6,by simp[jG,subs,fH]⟩
 | p::ps,lo,ns,ss,x4,x5,x6,hp,h1,h2=>by
  rw[List.length_cons] at h1 h2
  have eb:lH [5,6] (pairD (.int lo) p) (An x0 ns ss k x4 x5 x6)=some (An x0 ns ss k x4 (.dat (.int lo)) (.dat p)):=rfl
  have hb1:ns.length<100000:=by omega
  have hb2:ss.length<100000:=by omega
  rcases hp p List.mem_cons_self with h |⟨xs,rfl⟩
  ·have es:subs (p::ps)=subs ps/\fH k lo (p::ps)=fH k (lo+1) ps:=by
    cases p<;>first |exact h.elim |exact⟨rfl,rfl⟩
   have ei:qC ["list","tuple"] p=some (.bl false):=by
    cases p<;>first |exact h.elim |rfl
   obtain⟨y5,y6,e⟩:=Ff x0 k Ω ps (lo+1) ns ss x4 (.dat (.int lo)) (.dat p) (fun q hq=>hp q (List.mem_cons_of_mem _ hq)) (by omega) (by omega)
   refine⟨y5,y6,?_⟩
   rw[es.1,es.2,<-e]
   show jm _ _ (pairD (.int lo) p::jG (lo+1) ps) _ _=_
   rw[km,eb]
   simp[anI,An,ei]
  ·have ei:qC ["list","tuple"] (.tup xs)=some (.bl true):=rfl
   have ej:jf "tuple" (.tup xs)=some (.bl true):=rfl
   have el:oK [.tup xs]=some (.lst xs):=rfl
   obtain⟨y5,y6,e⟩:=Ff x0 k Ω ps (lo+1) (ns++[.lst xs]) (ss++[.tup [.int k,.int lo,.bl true]]) x4 (.dat (.int lo)) (.dat (.tup xs)) (fun q hq=>hp q (List.mem_cons_of_mem _ hq)) (by simp;omega) (by simp;omega)
   refine⟨y5,y6,?_⟩
   have es:subs (.tup xs::ps)=.lst xs::subs ps/\fH k lo (.tup xs::ps)=.tup [.int k,.int lo,.bl true]::fH k (lo+1) ps:=⟨rfl,rfl⟩
   rw[es.1,es.2]
   have e':ns ++ .lst xs::subs ps=ns++[.lst xs]++subs ps:=by simp
   have e'':ss++D.tup [.int k,.int lo,.bl true]::fH k (lo+1) ps=ss++[.tup [.int k,.int lo,.bl true]]++fH k (lo+1) ps:=by simp
   rw[e',e'',<-e]
   show jm _ _ (pairD (.int lo) (.tup xs)::jG (lo+1) ps) _ _=_
   rw[km,eb]
   simp[anI,An,ei,ej,el,hb1,hb2]
noncomputable def anP:bR:=(gT (gOp ltD (aj 3) (wB (gO 1))))
theorem uF(x0:Sl){ns ss ps:List D}{k:Nat}(hk:ns[k]? = some (.lst ps))(hp:∀p∈ps,Pt p)(h1:ns.length+ps.length<100000)(h2:ss.length+ps.length<100000)(n:Nat)(Ω:List OS)(x4 x5 x6:Sl):∃y4 y5 y6,gf anP anB (n+1) (An x0 ns ss k x4 x5 x6) Ω=gf anP anB n (An x0 (ns++subs ps) (ss++fH k 0 ps) ((k+1:Nat):Int) y4 y5 y6) Ω:=by
 obtain⟨y5,y6,e⟩:=Ff x0 k Ω ps 0 ns ss (.dat (.lst ps)) x5 x6 hp h1 h2
 refine⟨.dat (.lst ps),y5,y6,?_⟩
 have hlt:k<ns.length:=(List.getElem?_eq_some_iff.mp hk).1
 have hlt':(k:Int)<(ns.length:Int):=by omega
 have ea:L2.atI ns (k:Int)=some (.lst ps):=L2.CG hk
 have ep:anP (An x0 ns ss k x4 x5 x6) Ω=some (true,Ω):=by simp[anP,An,hlt]
 have eB:anB (An x0 ns ss k x4 x5 x6) Ω=some (.nx (An x0 (ns++subs ps) (ss++fH k 0 ps) ((k+1:Nat):Int) (.dat (.lst ps)) y5 y6) Ω):=by
  refine(aK (ρ':=An x0 ns ss k (.dat (.lst ps)) x5 x6) (Ω':=Ω) (by simp[An,ea])).trans ?_
  refine(aK (ρ':=An x0 (ns++subs ps) (ss++fH k 0 ps) k (.dat (.lst ps)) y5 y6) (Ω':=Ω) ?_).trans ?_
  ·rw[vY]
   have:mz wH (ao (aj 4) aA) (An x0 ns ss k (.dat (.lst ps)) x5 x6) Ω=some (jG 0 ps,Ω):=rfl
   rw[this]
   exact e
  ·simp[Fd,An,Fb]
 rw[yJ,ep]
 dsimp only
 rw[eB]
theorem HQ(x0:Sl){ns ss:List D}{k:Nat}(hk:ns.length<=k)(n:Nat)(Ω:List OS)(x4 x5 x6:Sl):gf anP anB (n+1) (An x0 ns ss k x4 x5 x6) Ω=some (.nx (An x0 ns ss k x4 x5 x6) Ω):=by
 have hlt:¬k<ns.length:=by omega
 have ep:anP (An x0 ns ss k x4 x5 x6) Ω=some (false,Ω):=by simp[anP,An,hlt]
 rw[yJ,ep]
theorem Dy(x0:Sl){ns ss:List D}(h1:ns.length<1000)(h2:ss.length<1000)(Ω:List OS):∀(j k n:Nat) (x4 x5 x6:Sl),ns.length=k+j->j<n->(∀i,k<=i->i<ns.length->ns[i]? = some (.lst []))->∃y3 y4 y5 y6,gf anP anB n (An x0 ns ss k x4 x5 x6) Ω=some (.nx (An x0 ns ss y3 y4 y5 y6) Ω)
 | 0,k,n,x4,x5,x6,hl,hn,_=>by
  obtain⟨n,rfl⟩:∃m,n=m+1:=⟨n-1,by omega⟩
  exact⟨k,x4,x5,x6,HQ x0 (by omega) n Ω x4 x5 x6⟩
 | j+1,k,n,x4,x5,x6,hl,hn,he=>by
  obtain⟨n,rfl⟩:∃m,n=m+1:=⟨n-1,by omega⟩
  obtain⟨y4,y5,y6,e⟩:=uF (ss:=ss) x0 (he k (Nat.le_refl _) (by omega)) (fun p hp=>absurd hp List.not_mem_nil) (by simp;omega) (by simp;omega) n Ω x4 x5 x6
  simp only[subs,fH,List.append_nil] at e
  obtain⟨z3,z4,z5,z6,e2⟩:=Dy x0 h1 h2 Ω j (k+1) n y4 y5 y6 (by omega) (by omega) fun i hi h=>he i (by omega) h
  exact⟨z3,z4,z5,z6,e.trans e2⟩
theorem Kz{ps:List D}(h:∀x∈ps,Nl x\/x=.tup []):∀y∈subs ps,y=.lst []:=by
 induction ps with
 | nil=>intro y hy;cases hy
 | cons x ps ih =>
  intro y hy
  have ih':=ih fun z hz=>h z (List.mem_cons_of_mem _ hz)
  rcases h x List.mem_cons_self with z |rfl
  ·have:subs (x::ps)=subs ps:=by cases x<;>first |exact z.elim |rfl
   rw[this] at hy
   exact ih' y hy
  ·rcases List.mem_cons.mp (show y∈D.lst []::subs ps from hy) with e |e
   ·exact e
   ·exact ih' y e
theorem Br:∀ps:List D,(subs ps).length<=ps.length
 | []=>by simp[subs]
 | p::ps=>by
  have:=Br ps
  cases p<;>simp[subs]<;>omega
theorem rN(k:Int):∀(ps:List D) (lo:Nat),(fH k lo ps).length<=ps.length
 | [],_=>by simp[fH]
 | p::ps,lo=>by
  have:=rN k ps (lo+1)
  cases p<;>simp[fH]<;>omega
noncomputable def Sp(d:D):Prop:=∃i j,d=.tup [.int i,.int j,.bl true]
theorem vA(k:Int):∀(ps:List D) (lo:Nat),∀y∈fH k lo ps,Sp y
 | [],_,y,hy=>by cases hy
 | p::ps,lo,y,hy=>by
  have ih:=vA k ps (lo+1)
  cases p with
  | tup xs =>
   rcases List.mem_cons.mp (show y∈D.tup [.int k,.int lo,.bl true]::fH k (lo+1) ps from hy) with e |e
   ·exact⟨_,_,e⟩
   ·exact ih y e
  | _=>exact ih y hy
theorem Dz(Ω:List OS):∀(ss:List D) (x:Sl),(∀s∈ss,Sp s)->gB (bO 0) cO (gOp ixD (aj 0) (gC (.int 2))) ss [x] Ω=some (ss.map (fun _=>D.bl true),Ω)
 | [],x,_=>rfl
 | s::ss,x,h=>by
  obtain⟨i,j,rfl⟩:=h s List.mem_cons_self
  have ih:=Dz Ω ss (.dat (.tup [.int i,.int j,.bl true])) fun q hq=>h q (List.mem_cons_of_mem _ hq)
  rw[pM]
  simp[ih]
theorem Mh{α:Type}:∀ks:List α,rA (ks.map fun _=>D.bl true)=some (ks.map fun _=>true)
 | []=>rfl
 | r::rs=>by
  rw[List.map_cons]
  unfold rA
  rw[Mh rs]
  rfl
theorem Mi{α:Type}(ks:List α):xP [.lst (ks.map fun _=>D.bl true)]=some (.bl true):=by
 show(match rA (ks.map fun _=>D.bl true) with |some bs=>some (D.bl (bs.all id)) |none=>none)=_
 rw[Mh]
 simp
theorem Bs{d:D}{ns ss:List D}{k:Int}{x4 x5 x6:Sl}{Ω:List OS}(hs:∀s∈ss,Sp s)(hl:ss.length<1000)(hw:gf anP anB 1000 (An (.dat d) [.lst [d]] [] 0 .und .und .und) Ω=some (.nx (An (.dat d) ns ss k x4 x5 x6) Ω)):cY [d] Ω=some (d,Ω):=by
 have ec:=Dz Ω ss .und hs
 have ea:=Mi ss
 have ei:cI [none] [Sl.dat d,.own ns,.dat (.lst ss),.dat (.int k),x4,x5,x6,.und]=[.und]:=rfl
 refine bc rfl ?_
 refine(aK (ρ':=[.dat d,.own [.lst [d]],.und,.und,.und,.und,.und,.und]) (Ω':=Ω) (by simp)).trans ?_
 refine(aK (ρ':=[.dat d,.own [.lst [d]],.own [],.und,.und,.und,.und,.und]) (Ω':=Ω) (by simp)).trans ?_
 refine(aK (ρ':=An (.dat d) [.lst [d]] [] 0 .und .und .und) (Ω':=Ω) (by simp[An])).trans ?_
 refine(aK (ρ':=An (.dat d) ns ss k x4 x5 x6) (Ω':=Ω) hw).trans ?_
 rw[JF]
 have eg:frz 2 (An (.dat d) ns ss k x4 x5 x6)=some [.dat d,.own ns,.dat (.lst ss),.dat (.int k),x4,x5,x6,.und]:=rfl
 rw[eg]
 dsimp only
 refine dZ ?_
 rw[zZ,Ek,LC,jB,qp]
 have es:iK (aj 2) [.dat d,.own ns,.dat (.lst ss),.dat (.int k),x4,x5,x6,.und] Ω=some (ss,Ω):=rfl
 rw[es,ei]
 dsimp only
 rw[if_pos (by omega),ec]
 dsimp only
 rw[GJ]
 dsimp only
 rw[ea]
 rfl
theorem vB{d:D}(h:Nt d)(Ω:List OS):cY [d] Ω=some (d,Ω):=by
 rcases h with h |⟨xs,rfl,hl,h⟩
 ·obtain⟨y4,y5,y6,e⟩:=uF (ns:=[.lst [d]]) (ss:=[]) (ps:=[d]) (k:=0) (.dat d) rfl (fun p hp=>.inl (by rw[List.mem_singleton.mp hp];exact h)) (by simp) (by simp) 999 Ω .und .und .und
  have es:subs [d]=[]/\fH ((0:Nat):Int) 0 [d]=[]:=by cases d<;>first |exact h.elim |exact⟨rfl,rfl⟩
  rw[es.1,es.2] at e
  exact Bs (fun s hs=>absurd hs List.not_mem_nil) (by simp) (e.trans (HQ _ (by simp) 998 Ω y4 y5 y6))
 ·obtain⟨y4,y5,y6,e⟩:=uF (ns:=[.lst [.tup xs]]) (ss:=[]) (ps:=[.tup xs]) (k:=0) (.dat (.tup xs)) rfl (fun p hp=>.inr ⟨xs,List.mem_singleton.mp hp⟩) (by simp) (by simp) 999 Ω .und .und .und
  obtain⟨z4,z5,z6,e2⟩:=uF (ns:=[.lst [.tup xs],.lst xs]) (ss:=fH ((0:Nat):Int) 0 [.tup xs]) (ps:=xs) (k:=1) (.dat (.tup xs)) rfl (fun p hp=>(h p hp).imp id fun z=>⟨[],z⟩) (by simp;omega) (by have:=rN ((0:Nat):Int) [.tup xs] 0;rw[List.length_singleton] at this;omega) 998 Ω y4 y5 y6
  have l1:=Br xs
  have l2:=rN ((1:Nat):Int) xs 0
  have l3:=rN ((0:Nat):Int) [.tup xs] 0
  simp only[List.length_singleton] at l3
  obtain⟨w3,w4,w5,w6,e3⟩:=Dy (ns:=[.lst [.tup xs],.lst xs]++subs xs) (ss:=fH ((0:Nat):Int) 0 [.tup xs]++fH ((1:Nat):Int) 0 xs) (.dat (.tup xs)) (by simp;omega) (by rw[List.length_append];omega) Ω (subs xs).length 2 998 z4 z5 z6 (by simp;omega) (by omega) (fun i hi hlt=>by
   rw[List.getElem?_append_right (by simpa using hi)]
   have:i - [D.lst [.tup xs],.lst xs].length<(subs xs).length:=by simp at hlt ⊢;omega
   rw[List.getElem?_eq_getElem this]
   congr 1
   exact Kz h _ (List.getElem_mem this))
  refine Bs (ss:=fH ((0:Nat):Int) 0 [.tup xs]++fH ((1:Nat):Int) 0 xs) (fun s hs=>?_) (by rw[List.length_append];omega) (e.trans (e2.trans e3))
  rcases List.mem_append.mp hs with z |z
  ·exact vA _ _ _ s z
  ·exact vA _ _ _ s z
theorem Bt{d:D}(h:pl d=true)(Ω:List OS):∃n:Int,cg [d] Ω=some (.int n,Ω):=by
 cases d with
 | non=>exact⟨0,bc rfl (dZ (by simp[isD,isNone]))⟩
 | int i=>exact⟨1,bc rfl ((aK (ρ':=[.dat (.int i)]) (Ω':=Ω) (by simp[isD,isNone])).trans (dZ rfl))⟩
 | str x=>exact⟨2,bc rfl ((aK (ρ':=[.dat (.str x)]) (Ω':=Ω) (by simp[isD,isNone])).trans ((aK (ρ':=[.dat (.str x)]) (Ω':=Ω) rfl).trans (dZ rfl)))⟩
 | tup xs=>exact⟨4,bc rfl ((aK (ρ':=[.dat (.tup xs)]) (Ω':=Ω) (by simp[isD,isNone])).trans ((aK (ρ':=[.dat (.tup xs)]) (Ω':=Ω) rfl).trans ((aK (ρ':=[.dat (.tup xs)]) (Ω':=Ω) rfl).trans rfl)))⟩
 | lst xs=>exact⟨3,bc rfl ((aK (ρ':=[.dat (.lst xs)]) (Ω':=Ω) (by simp[isD,isNone])).trans ((aK (ρ':=[.dat (.lst xs)]) (Ω':=Ω) rfl).trans ((aK (ρ':=[.dat (.lst xs)]) (Ω':=Ω) rfl).trans rfl)))⟩
 | _=>cases h
theorem nC(Ω:List OS):∀(ds:List D) (x:Sl),plL ds=true->∃ns:List Int,ns.length=ds.length/\gB (bO 0) cO (aW cg (ao (aj 0) aA)) ds [x] Ω=some (ns.map D.int,Ω)
 | [],x,_=>⟨[],rfl,rfl⟩
 | d::ds,x,h=>by
  rw[plL,Bool.and_eq_true] at h
  obtain⟨n,hn⟩:=Bt h.1 Ω
  obtain⟨ns,hl,e⟩:=nC Ω ds (.dat d) h.2
  refine⟨n::ns,by simp[hl],?_⟩
  rw[pM]
  simp[hn,e]
theorem Bu{ds:List D}(h:plL ds=true)(hd:dM ds<=60)(hl:ds.length<=1000)(Ω:List OS):jq [.lst ds,.lst ds] Ω=some (.bl true,Ω):=by
 obtain⟨ns,hn,e⟩:=nC Ω ds .und h
 have e0:eqD true (.lst ds) (.lst ds)=some (.bl false):=jF true (by simpa [DL.pl] using h) (by simp only[dep];omega)
 have e1:eqD false (.lst (ns.map D.int)) (.lst (ns.map D.int))=some (.bl true):=by rw[xH];simp
 have ei:jf "list" (.lst ds)=some (.bl true):=rfl
 have en:cI [none] [Sl.dat (.lst ds),.dat (.lst ds)]=[.und]:=rfl
 refine bc rfl ((aK (ρ':=[.dat (.lst ds),.dat (.lst ds)]) (Ω':=Ω) (by simp[ei,e0])).trans ?_)
 have hb:ds.length<=100000:=by omega
 have g:∀i,iK (aj i) [.dat (.lst ds),.dat (.lst ds)] Ω=some (ds,Ω)->gD [none] (iK (aj i)) (bO 0) cO (aW cg (ao (aj 0) aA)) [.dat (.lst ds),.dat (.lst ds)] Ω=some (.lst (ns.map D.int),Ω):=fun i hi=>by
  rw[qp,hi,en]
  dsimp only
  rw[if_pos hb,e]
 rw[jU,vW,g 0 rfl]
 dsimp only
 rw[g 1 rfl]
 dsimp only
 rw[e1]
@[simp] theorem cB(neg:Bool):eqD neg (.str "come") (.str "come")=some (.bl (!neg)):=by rw[eqS neg (by decide +kernel) (by decide +kernel),if_pos rfl]
@[simp] theorem Bv(neg:Bool):eqD neg (.str "come") (.str "fall")=some (.bl neg):=by rw[eqS neg (by decide +kernel) (by decide +kernel),if_neg (by decide +kernel)]
@[simp] theorem Bw(neg:Bool):eqD neg (.str "come") (.str "send")=some (.bl neg):=by rw[eqS neg (by decide +kernel) (by decide +kernel),if_neg (by decide +kernel)]
@[simp] theorem zj(neg:Bool):eqD neg (.str "come") (.str "carry")=some (.bl neg):=by rw[eqS neg (by decide +kernel) (by decide +kernel),if_neg (by decide +kernel)]
@[simp] theorem yd(neg:Bool):eqD neg (.str "come") (.str "length")=some (.bl neg):=by rw[eqS neg (by decide +kernel) (by decide +kernel),if_neg (by decide +kernel)]
@[simp] theorem zm(neg:Bool):eqD neg (.str "come") (.str "notes")=some (.bl neg):=by rw[eqS neg (by decide +kernel) (by decide +kernel),if_neg (by decide +kernel)]
@[simp] theorem lW(neg:Bool):eqD neg (.str "fall") (.str "come")=some (.bl neg):=by rw[eqS neg (by decide +kernel) (by decide +kernel),if_neg (by decide +kernel)]
@[simp] theorem lX(neg:Bool):eqD neg (.str "fall") (.str "fall")=some (.bl (!neg)):=by rw[eqS neg (by decide +kernel) (by decide +kernel),if_pos rfl]
@[simp] theorem Bx(neg:Bool):eqD neg (.str "fall") (.str "send")=some (.bl neg):=by rw[eqS neg (by decide +kernel) (by decide +kernel),if_neg (by decide +kernel)]
@[simp] theorem zp(neg:Bool):eqD neg (.str "fall") (.str "carry")=some (.bl neg):=by rw[eqS neg (by decide +kernel) (by decide +kernel),if_neg (by decide +kernel)]
@[simp] theorem ye(neg:Bool):eqD neg (.str "fall") (.str "length")=some (.bl neg):=by rw[eqS neg (by decide +kernel) (by decide +kernel),if_neg (by decide +kernel)]
@[simp] theorem zq(neg:Bool):eqD neg (.str "fall") (.str "notes")=some (.bl neg):=by rw[eqS neg (by decide +kernel) (by decide +kernel),if_neg (by decide +kernel)]
@[simp] theorem lY(neg:Bool):eqD neg (.str "send") (.str "come")=some (.bl neg):=by rw[eqS neg (by decide +kernel) (by decide +kernel),if_neg (by decide +kernel)]
@[simp] theorem lZ(neg:Bool):eqD neg (.str "send") (.str "fall")=some (.bl neg):=by rw[eqS neg (by decide +kernel) (by decide +kernel),if_neg (by decide +kernel)]
@[simp] theorem l_(neg:Bool):eqD neg (.str "send") (.str "send")=some (.bl (!neg)):=by rw[eqS neg (by decide +kernel) (by decide +kernel),if_pos rfl]
@[simp] theorem zr(neg:Bool):eqD neg (.str "send") (.str "carry")=some (.bl neg):=by rw[eqS neg (by decide +kernel) (by decide +kernel),if_neg (by decide +kernel)]
@[simp] theorem yf(neg:Bool):eqD neg (.str "send") (.str "length")=some (.bl neg):=by rw[eqS neg (by decide +kernel) (by decide +kernel),if_neg (by decide +kernel)]
@[simp] theorem zu(neg:Bool):eqD neg (.str "send") (.str "notes")=some (.bl neg):=by rw[eqS neg (by decide +kernel) (by decide +kernel),if_neg (by decide +kernel)]
@[simp] theorem gM(neg:Bool):eqD neg (.str "carry") (.str "come")=some (.bl neg):=by rw[eqS neg (by decide +kernel) (by decide +kernel),if_neg (by decide +kernel)]
@[simp] theorem fJ(neg:Bool):eqD neg (.str "carry") (.str "fall")=some (.bl neg):=by rw[eqS neg (by decide +kernel) (by decide +kernel),if_neg (by decide +kernel)]
@[simp] theorem fK(neg:Bool):eqD neg (.str "carry") (.str "send")=some (.bl neg):=by rw[eqS neg (by decide +kernel) (by decide +kernel),if_neg (by decide +kernel)]
@[simp] theorem eN(neg:Bool):eqD neg (.str "carry") (.str "carry")=some (.bl (!neg)):=by rw[eqS neg (by decide +kernel) (by decide +kernel),if_pos rfl]
@[simp] theorem Mj(neg:Bool):eqD neg (.str "carry") (.str "length")=some (.bl neg):=by rw[eqS neg (by decide +kernel) (by decide +kernel),if_neg (by decide +kernel)]
@[simp] theorem PB(neg:Bool):eqD neg (.str "carry") (.str "notes")=some (.bl neg):=by rw[eqS neg (by decide +kernel) (by decide +kernel),if_neg (by decide +kernel)]
@[simp] theorem jJ(neg:Bool):eqD neg (.str "length") (.str "come")=some (.bl neg):=by rw[eqS neg (by decide +kernel) (by decide +kernel),if_neg (by decide +kernel)]
@[simp] theorem jK(neg:Bool):eqD neg (.str "length") (.str "fall")=some (.bl neg):=by rw[eqS neg (by decide +kernel) (by decide +kernel),if_neg (by decide +kernel)]
@[simp] theorem jL(neg:Bool):eqD neg (.str "length") (.str "send")=some (.bl neg):=by rw[eqS neg (by decide +kernel) (by decide +kernel),if_neg (by decide +kernel)]
@[simp] theorem ji(neg:Bool):eqD neg (.str "length") (.str "carry")=some (.bl neg):=by rw[eqS neg (by decide +kernel) (by decide +kernel),if_neg (by decide +kernel)]
@[simp] theorem iT(neg:Bool):eqD neg (.str "length") (.str "length")=some (.bl (!neg)):=by rw[eqS neg (by decide +kernel) (by decide +kernel),if_pos rfl]
@[simp] theorem Ml(neg:Bool):eqD neg (.str "length") (.str "notes")=some (.bl neg):=by rw[eqS neg (by decide +kernel) (by decide +kernel),if_neg (by decide +kernel)]
@[simp] theorem jY(neg:Bool):eqD neg (.str "notes") (.str "come")=some (.bl neg):=by rw[eqS neg (by decide +kernel) (by decide +kernel),if_neg (by decide +kernel)]
@[simp] theorem jZ(neg:Bool):eqD neg (.str "notes") (.str "fall")=some (.bl neg):=by rw[eqS neg (by decide +kernel) (by decide +kernel),if_neg (by decide +kernel)]
@[simp] theorem j_(neg:Bool):eqD neg (.str "notes") (.str "send")=some (.bl neg):=by rw[eqS neg (by decide +kernel) (by decide +kernel),if_neg (by decide +kernel)]
@[simp] theorem jM(neg:Bool):eqD neg (.str "notes") (.str "carry")=some (.bl neg):=by rw[eqS neg (by decide +kernel) (by decide +kernel),if_neg (by decide +kernel)]
@[simp] theorem jj(neg:Bool):eqD neg (.str "notes") (.str "length")=some (.bl neg):=by rw[eqS neg (by decide +kernel) (by decide +kernel),if_neg (by decide +kernel)]
@[simp] theorem yg(neg:Bool):eqD neg (.str "notes") (.str "notes")=some (.bl (!neg)):=by rw[eqS neg (by decide +kernel) (by decide +kernel),if_pos rfl]
end Law
namespace Law
open PySem DL
@[simp high] theorem Vt(x0 x1 x2 x5:Sl)(a b:Int)(Ω:List OS):bB (ao (gCB jz (ao (aj 3) (ao (aj 4) aA))) (ao (gCB lF (ao (aj 3) (ao (aj 4) aA))) aA)) [x0,x1,x2,.dat (.int a),.dat (.int b),x5] Ω=some (.tup [.int (prr a b).1,.int (prr a b).2],Ω):=by
 rw[GK]
 simp[prr]
noncomputable def Wy(w:Str):Prop:=w = "come" \/ w = "fall" \/ w = "send" \/ w = "carry" \/ w = "length" \/ w = "notes"
noncomputable def Wn(w:Str):Prop:=w = "fall" \/ w = "send" \/ w = "carry" \/ w = "length" \/ w = "notes"
section
variable {o:Nat} {Ω:List OS} {L M:TyL} {P T:TyO} {a b l:Int} {d:D}
noncomputable def D6(o:Nat)(w:Str)(a b:Int)(d:D):List Sl:=[.dat (.str w),.dat (.obj (o+3)),.dat (.obj (o+4)),.dat (.int a),.dat (.int b),.dat d]
theorem KC(Ω:List OS):cF [.str "come",.obj (o+3),.obj (o+4),.int a,.int a,d] Ω=some (.str "nohouse",Ω):=bc rfl (dZ ((uD (vp (iC rfl rfl (cB false)) (iC rfl rfl (by simp:eqD false (.int a) (.int a)=some (.bl true))))).trans rfl))
theorem Fg(s:St o Ω L M P T){w:Str}{neg:Bool}:gT (jc neg (bB (ao (aj 3) (ao (aj 4) aA))) (aj 2)) (D6 o w a b d) Ω=some (if neg then !(aF T (a,b)).isSome else(aF T (a,b)).isSome,Ω):=by
 simp[D6,s.h4]
theorem Mm(ne:a≠b):eqD false (.int a) (.int b)=some (.bl false):=by simp[ne]
theorem KD(s:St o Ω L M P T)(ne:a≠b){i:Nat}(h:aF T (a,b)=some i):cF [.str "come",.obj (o+3),.obj (o+4),.int a,.int b,d] Ω=some (.str "tied",Ω):=by
 have hi:=Fg s (a:=a) (b:=b) (d:=d) (w:="come") (neg:=false)
 rw[h] at hi
 exact bc rfl ((lR (ρ:=D6 o "come" a b d) (vp (iC rfl rfl (cB false)) (iC rfl rfl (Mm ne)))).trans (dZ ((uD (vp (iC rfl rfl (cB false)) hi)).trans rfl)))
theorem vC(s:St o Ω L M P T)(ne:a≠b)(h:aF T (a,b)=none)(hM:M.length<50000)(hT:T.length<50000):∃Ω',Ω'=((((Ω.set (o+3) (lD (aR M (prr a b) l)))++[OS.mls []]).set (o+4) (oD (aR T (a,b) Ω.length))++[OS.mls []]).set (o+4) (oD (aR (aR T (a,b) Ω.length) (b,a) (Ω.length+1))))/\St o Ω' L (aR M (prr a b) l) P (aR (aR T (a,b) Ω.length) (b,a) (Ω.length+1))/\cF [.str "come",.obj (o+3),.obj (o+4),.int a,.int b,.int l] Ω=some (.lst [.non],Ω'):=by
 have e1:qW (lD M) (.tup [.int (prr a b).1,.int (prr a b).2]) (.int l)=some (lD (aR M (prr a b) l)):=Ma (by omega:M.length<100000) (prr a b).1 (prr a b).2 l
 have e2:=Mg (by omega:T.length<100000) a b Ω.length
 have e3:=Mg (T:=aR T (a,b) Ω.length) (by have:=Ku T (a,b) Ω.length;omega) b a (Ω.length+1)
 have hi:=Fg s (a:=a) (b:=b) (d:=.int l) (w:="come") (neg:=false)
 rw[h] at hi
 have s1:=s.set3 (aR M (prr a b) l)
 have s2:=(s1.app (.mls [])).set4 (aR T (a,b) Ω.length)
 have s3:=(s2.app (.mls [])).set4 (aR (aR T (a,b) Ω.length) (b,a) (Ω.length+1))
 refine⟨_,rfl,s3,?_⟩
 refine bc rfl ((lR (ρ:=D6 o "come" a b (.int l)) (vp (iC rfl rfl (cB false)) (iC rfl rfl (Mm ne)))).trans ?_)
 refine(lR (vp (iC rfl rfl (cB false)) hi)).trans ?_
 refine(lR (Bm (iC rfl rfl (cB true)))).trans ?_
 refine(aK (ρ':=D6 o "come" a b (.int l)) (Ω':=((((Ω.set (o+3) (lD (aR M (prr a b) l)))++[OS.mls []]).set (o+4) (oD (aR T (a,b) Ω.length))++[OS.mls []]).set (o+4) (oD (aR (aR T (a,b) Ω.length) (b,a) (Ω.length+1))))) ((fP rfl (cB false)).trans ?_)).trans ?_
 ·refine(aK (ρ':=D6 o "come" a b (.int l)) (Ω':=Ω.set (o+3) (lD (aR M (prr a b) l))) (by simp[D6,s.h3,e1])).trans ?_
  refine(aK (ρ':=D6 o "come" a b (.int l)) (Ω':=(Ω.set (o+3) (lD (aR M (prr a b) l))++[OS.mls []]).set (o+4) (oD (aR T (a,b) Ω.length))) ?_).trans ?_
  ·rw[Dg,Bq,List.length_set]
   simp[D6,(s1.app (.mls [])).h4,e2]
  ·have el:((Ω.set (o+3) (lD (aR M (prr a b) l))++[OS.mls []]).set (o+4) (oD (aR T (a,b) Ω.length))).length=Ω.length+1:=by simp
   rw[Dg,Bq,el]
   simp[D6,(s2.app (.mls [])).h4,e3]
 ·exact(aZ rfl (Bv false)).trans ((aZ rfl (Bw false)).trans ((aZ rfl (zj false)).trans ((aZ rfl (yd false)).trans ((aZ rfl (zm false)).trans rfl))))
theorem tG{w:Str}(hw:Wn w)(neg:Bool):eqD neg (.str w) (.str "come")=some (.bl neg):=by
 rcases hw with rfl |rfl |rfl |rfl |rfl
 ·exact lW neg
 ·exact lY neg
 ·exact gM neg
 ·exact jJ neg
 ·exact jY neg
theorem PJ(s:St o Ω L M P T){w:Str}(hw:Wn w)(h:aF T (a,b)=none):cF [.str w,.obj (o+3),.obj (o+4),.int a,.int b,d] Ω=some (.str "nottied",Ω):=by
 have hi:=Fg s (a:=a) (b:=b) (d:=d) (w:=w) (neg:=true)
 rw[h] at hi
 exact bc rfl ((lR (ρ:=D6 o w a b d) (Bm (iC rfl rfl (tG hw false)))).trans ((lR (Bm (iC rfl rfl (tG hw false)))).trans (dZ ((uD (vp (iC rfl rfl (tG hw true)) hi)).trans rfl))))
theorem qJ(s0:St o Ω L M P T){w:Str}(hw:Wn w){i:Nat}(h:aF T (a,b)=some i){s:aQ}{r:D×List OS}(hs:aH (sIf (gT (gOp (eqD false) (aj 0) (gC (.str "fall")))) (aH (cC (jg (aj 1) (bB (ao (gCB jz (ao (aj 3) (ao (aj 4) aA))) (ao (gCB lF (ao (aj 3) (ao (aj 4) aA))) aA))))) (aH (cC (jg (aj 2) (bB (ao (aj 3) (ao (aj 4) aA))))) (cC (jg (aj 2) (bB (ao (aj 4) (ao (aj 3) aA))))))) aP) s (D6 o w a b d) Ω=some (.rt r.1 r.2))
  {t:aQ} (ht:aH (sIf (gT (gOp (eqD false) (aj 0) (gC (.str "fall")))) (aH (cC (jg (aj 1) (bB (ao (gCB jz (ao (aj 3) (ao (aj 4) aA))) (ao (gCB lF (ao (aj 3) (ao (aj 4) aA))) aA))))) (aH (cC (jg (aj 2) (bB (ao (aj 3) (ao (aj 4) aA))))) (cC (jg (aj 2) (bB (ao (aj 4) (ao (aj 3) aA))))))) aP) s=t) :
  aH (sIf (jW (gT (gOp (eqD false) (aj 0) (gC (.str "come")))) (gT (gOp (eqD false) (aj 3) (aj 4)))) (bw (gC (.str "nohouse"))) aP) (aH (sIf (jW (gT (gOp (eqD false) (aj 0) (gC (.str "come")))) (gT (jc false (bB (ao (aj 3) (ao (aj 4) aA))) (aj 2)))) (bw (gC (.str "tied"))) aP) (aH (sIf (jW (gT (gOp (eqD true) (aj 0) (gC (.str "come")))) (gT (jc true (bB (ao (aj 3) (ao (aj 4) aA))) (aj 2)))) (bw (gC (.str "nottied"))) aP) (aH (sIf (gT (gOp (eqD false) (aj 0) (gC (.str "come")))) (aH (jV (aj 1) (bB (ao (gCB jz (ao (aj 3) (ao (aj 4) aA))) (ao (gCB lF (ao (aj 3) (ao (aj 4) aA))) aA))) (aj 5)) (aH (jV (aj 2) (bB (ao (aj 3) (ao (aj 4) aA))) (gV aA)) (jV (aj 2) (bB (ao (aj 4) (ao (aj 3) aA))) (gV aA)))) aP) t))) (D6 o w a b d) Ω=some (.rt r.1 r.2):=by
 subst ht
 have hi:=Fg s0 (a:=a) (b:=b) (d:=d) (w:=w) (neg:=true)
 rw[h] at hi
 exact(lR (Bm (iC rfl rfl (tG hw false)))).trans ((lR (Bm (iC rfl rfl (tG hw false)))).trans ((lR (vp (iC rfl rfl (tG hw true)) hi)).trans ((lR (iC rfl rfl (tG hw false))).trans hs)))
theorem KH(s:St o Ω L M P T){v:Int}{i j:Nat}(hv:aF M (prr a b)=some v)(h:aF T (a,b)=some i)(h2:aF (bf T (a,b)) (b,a)=some j):∃Ω',Ω'=((Ω.set (o+3) (lD (bf M (prr a b)))).set (o+4) (oD (bf T (a,b)))).set (o+4) (oD (bf (bf T (a,b)) (b,a)))/\St o Ω' L (bf M (prr a b)) P (bf (bf T (a,b)) (b,a))/\cF [.str "fall",.obj (o+3),.obj (o+4),.int a,.int b,d] Ω=some (.lst [.non],Ω'):=by
 have e1:nT (lD M) (.tup [.int (prr a b).1,.int (prr a b).2])=some (.int v,lD (bf M (prr a b))):=HF hv
 have e2:=Bp h
 have e3:=Bp h2
 have s1:=s.set3 (bf M (prr a b))
 have s2:=s1.set4 (bf T (a,b))
 have s3:=s2.set4 (bf (bf T (a,b)) (b,a))
 refine⟨_,rfl,s3,bc rfl (qJ s (r:=(.lst [.non],_)) (.inl rfl) h ?_ rfl)⟩
 refine(aK (ρ':=D6 o "fall" a b d) (Ω':=((Ω.set (o+3) (lD (bf M (prr a b)))).set (o+4) (oD (bf T (a,b)))).set (o+4) (oD (bf (bf T (a,b)) (b,a)))) ((fP rfl (lX false)).trans ?_)).trans ?_
 ·refine(aK (ρ':=D6 o "fall" a b d) (Ω':=Ω.set (o+3) (lD (bf M (prr a b)))) (by simp[D6,s.h3,e1])).trans ?_
  refine(aK (ρ':=D6 o "fall" a b d) (Ω':=(Ω.set (o+3) (lD (bf M (prr a b)))).set (o+4) (oD (bf T (a,b)))) (by simp[D6,s1.h4,e2])).trans ?_
  have h4:=s2.h4
  rw[qx]
  simp[D6,h4,e3,-List.set_set]
 ·exact(aZ rfl (Bx false)).trans ((aZ rfl (zp false)).trans ((aZ rfl (ye false)).trans ((aZ rfl (zq false)).trans (rfl))))
theorem By(s:St o Ω L M P T){i:Nat}{ns:List D}(h:aF T (a,b)=some i)(hi:Ω[i]? = some (.mls ns))(hl:ns.length<1000):cF [.str "send",.obj (o+3),.obj (o+4),.int a,.int b,d] Ω=some (.lst [.non],Ω.set i (.mls (ns++[d]))):=by
 have hb:ns.length<big:=by have:big=100000:=rfl;omega
 refine bc rfl (qJ s (r:=(.lst [.non],Ω.set i (.mls (ns++[d])))) (.inr (.inl rfl)) h ?_ rfl)
 refine(aZ rfl (lZ false)).trans ((aK (ρ':=D6 o "send" a b d) (Ω':=Ω.set i (.mls (ns++[d]))) ((fP rfl (l_ false)).trans (by simp[D6,gW,s.h4,h,oV,hi,hb]))).trans ?_)
 exact(aZ rfl (zr false)).trans ((aZ rfl (yf false)).trans ((aZ rfl (zu false)).trans (rfl)))
theorem HR(s:St o Ω L M P T){i:Nat}{n:D}{ns:List D}(h:aF T (a,b)=some i)(hi:Ω[i]? = some (.mls (n::ns)))(e0:eqD false (.lst (n::ns)) (.lst [])=some (.bl false)):cF [.str "carry",.obj (o+3),.obj (o+4),.int a,.int b,d] Ω=some (.lst [n],Ω.set i (.mls ns)):=by
 refine bc rfl (qJ s (r:=(.lst [n],Ω.set i (.mls ns))) (.inr (.inr (.inl rfl))) h ?_ rfl)
 refine(aZ rfl (fJ false)).trans ((aZ rfl (fK false)).trans (dZ ((fP rfl (eN false)).trans ?_)))
 refine(aK (ρ':=D6 o "carry" a b d) (Ω':=Ω) ?_).trans ?_
 ·simp[D6,jO,s.h4,h,oV,hi,e0]
 ·simp[D6,ux,s.h4,h,oV,hi]
theorem Fi(s:St o Ω L M P T){i:Nat}(h:aF T (a,b)=some i)(hi:Ω[i]? = some (.mls [])):cF [.str "carry",.obj (o+3),.obj (o+4),.int a,.int b,d] Ω=some (.str "nonote",Ω):=by
 have e0:eqD false (.lst []) (.lst [])=some (.bl true):=jF false rfl (by simp[dep,dM])
 refine bc rfl (qJ s (r:=(.str "nonote",Ω)) (.inr (.inr (.inl rfl))) h ?_ rfl)
 refine(aZ rfl (fJ false)).trans ((aZ rfl (fK false)).trans (dZ ((fP rfl (eN false)).trans ?_)))
 refine dZ ?_
 simp[D6,jO,s.h4,h,oV,hi,e0]
theorem Fj(s:St o Ω L M P T){v:Int}{i:Nat}(hv:aF M (prr a b)=some v)(h:aF T (a,b)=some i):cF [.str "length",.obj (o+3),.obj (o+4),.int a,.int b,d] Ω=some (.lst [.int v],Ω):=by
 have hv':aF M ((prr a b).1,(prr a b).2)=some v:=hv
 refine bc rfl (qJ s (r:=(.lst [.int v],Ω)) (.inr (.inr (.inr (.inl rfl)))) h ?_ rfl)
 exact(aZ rfl (jK false)).trans ((aZ rfl (jL false)).trans ((aZ rfl (ji false)).trans (dZ ((fP rfl (iT false)).trans (by simp[D6,s.h3,hv'])))))
theorem HS(s:St o Ω L M P T){i:Nat}{ns:List D}(h:aF T (a,b)=some i)(hi:Ω[i]? = some (.mls ns)):cF [.str "notes",.obj (o+3),.obj (o+4),.int a,.int b,d] Ω=some (.lst [.lst ns],Ω):=by
 refine bc rfl (qJ s (r:=(.lst [.lst ns],Ω)) (.inr (.inr (.inr (.inr rfl)))) h ?_ rfl)
 exact(aZ rfl (jZ false)).trans ((aZ rfl (j_ false)).trans ((aZ rfl (jM false)).trans ((aZ rfl (jj false)).trans (dZ ((fP rfl (yg false)).trans (by simp[D6,mY,s.h4,h,oV,hi]))))))
end
end Law
namespace Law
open PySem DL
theorem kI(a b:Int)(Ω:List OS):cV [.int a,.int b] Ω=some (.tup [.int (prr a b).1,.int (prr a b).2],Ω):=bc rfl (by simp[prr])
theorem qK{n m:Nat}{s:aQ}{ds:List D}{ρ':List Sl}{Ω Ω':List OS}(hl:ds.length=n)(h:s (ds.map Sl.dat++List.replicate (m-n) Sl.und) Ω=some (.nx ρ' Ω')):cz n m s ds Ω=some (.non,Ω'):=by
 rw[z_,if_pos hl,h]
section
variable {o:Nat} {Ω:List OS} {L M:TyL} {P T:TyO} {a b l:Int} {d:D}
theorem DG(s:St o Ω L M P T)(ne:a≠b)(hn:aF L (prr a b)=none)(hl:L.length<100000):bY [.obj o,.int a,.int b,.int l] Ω=some (.non,Ω.set (o+1) (lD (aR L (prr a b) l))):=by
 have hp:=kI a b
 have e1:qW (lD L) (.tup [.int (prr a b).1,.int (prr a b).2]) (.int l)=some (lD (aR L (prr a b) l)):=Ma hl (prr a b).1 (prr a b).2 l
 refine qK (ρ':=[.dat (.obj o),.dat (.int a),.dat (.int b),.dat (.int l)]) rfl ?_
 simp[ne,hp,hn,s.h0,s.h1,e1]
theorem HW(s:St o Ω L M P T)(hs:bH a):bY [.obj o,.int a,.int a,d] Ω=none/\fU [.obj o,.int a,.int a,d] Ω=some (("NoHouse":Str),Ω):=by
 constructor
 ·exact lQ rfl (by simp)
 ·refine jH (ρ:=[.dat (.obj o),.dat (.int a),.dat (.int a),.dat d]) rfl ?_
  simp[pFi,ph,hs]
theorem HX(s:St o Ω L M P T)(ne:a≠b){v:Int}(hn:aF L (prr a b)=some v)(hs:bH a)(ht:bH b):bY [.obj o,.int a,.int b,d] Ω=none/\fU [.obj o,.int a,.int b,d] Ω=some (("Tied":Str),Ω):=by
 have hp:=kI a b
 constructor
 ·exact lQ rfl (by simp[ne,hp,hn,s.h0,s.h1])
 ·refine jH (ρ:=[.dat (.obj o),.dat (.int a),.dat (.int b),.dat d]) rfl ?_
  simp[ne,hp,hn,sZ,ph,hs,ht,s.h0,s.h1]
theorem uG(s:St o Ω L M P T){v:Int}(hn:aF L (prr a b)=some v):aO [.obj o,.int a,.int b] Ω=some (.non,Ω):=by
 have hp:=kI a b
 refine qK (ρ':=[.dat (.obj o),.dat (.int a),.dat (.int b)]) rfl ?_
 simp[hp,hn,s.h0,s.h1]
theorem PK(s:St o Ω L M P T)(hn:aF L (prr a b)=none)(hs:bH a)(ht:bH b):aO [.obj o,.int a,.int b] Ω=none/\aV [.obj o,.int a,.int b] Ω=some (("NotTied":Str),Ω):=by
 have hp:=kI a b
 constructor
 ·exact lQ rfl (by simp[hp,hn,s.h0,s.h1])
 ·refine jH (ρ:=[.dat (.obj o),.dat (.int a),.dat (.int b)]) rfl ?_
  simp[hp,hn,sZ,ph,hs,ht,s.h0,s.h1]
theorem uH(s:St o Ω L M P T){ρ:List Sl}{v:Int}(h0:ρ[0]? = some (.dat (.obj o)))(h1:ρ[1]? = some (.dat (.int a)))(h2:ρ[2]? = some (.dat (.int b)))(hn:aF L (prr a b)=some v):bT "Ties" "need_pair" aO [] (aj 0) (ao (aj 1) (ao (aj 2) aA)) ρ Ω=some (.non,Ω):=by
 have hq:=uG s hn
 simp[h0,h1,h2,hq,s.h0]
theorem tH(s:St o Ω L M P T){ρ:List Sl}(h0:ρ[0]? = some (.dat (.obj o)))(h1:ρ[1]? = some (.dat (.int a)))(h2:ρ[2]? = some (.dat (.int b)))(hn:aF L (prr a b)=none)(hs:bH a)(ht:bH b):bT "Ties" "need_pair" aO [] (aj 0) (ao (aj 1) (ao (aj 2) aA)) ρ Ω=none/\rE (gF "Ties" "need_pair" aV [] (aj 0) (ao (aj 1) (ao (aj 2) aA))) ρ Ω=some (("NotTied":Str),ρ,Ω):=by
 obtain⟨q1,q2⟩:=PK s hn hs ht
 constructor
 ·simp[h0,h1,h2,q1,s.h0]
 ·simp[h0,h1,h2,q2,s.h0]
theorem BJ(s:St o Ω L M P T)(i j:Nat)(ρ:List Sl)(h0:ρ[0]? = some (.dat (.obj o)))(hi:ρ[i]? = some (.dat (.int a)))(hj:ρ[j]? = some (.dat (.int b))):∃v Ω',qG (fG "Ties" "sent_on" (aj 0)) (bB (ao (aj i) (ao (aj j) aA))) (gC .non) ρ Ω=some (v,Ω')/\(Ω'=Ω/\bf P (a,b)=P\/Ω'=Ω.set (o+2) (oD (bf P (a,b)))):=by
 have ev:eF (mpA pK oV P) [.inl a,.inl b]=(aF P (a,b)).map oV:=pB iV oV (a,b) P
 have ed:jC (mpA pK oV P) [.inl a,.inl b]=mpA pK oV (bf P (a,b)):=x_ iV oV P (a,b)
 cases q:aF P (a,b) with
 | none=>exact⟨.non,Ω,by simp[qG,h0,hi,hj,jD,ev,q,s.h0,s.h2],.inl ⟨rfl,Pz q⟩⟩
 | some n=>exact⟨oV n,Ω.set (o+2) (oD (bf P (a,b))),by simp[qG,h0,hi,hj,jD,ev,q,ed,s.h0,s.h2];rfl,.inr rfl⟩
theorem St.mL(s:St o Ω L M P T){P':TyO}{Ω':List OS}(h:Ω'=Ω/\P'=P\/Ω'=Ω.set (o+2) (oD P')):St o Ω' L M P' T:=by
 rcases h with⟨rfl,rfl⟩ |rfl
 ·exact s
 ·exact s.set2 _
theorem PL(s:St o Ω L M P T){v:Int}(hn:aF L (prr a b)=some v):∃Ω1 Ω2,(Ω1=Ω.set (o+1) (lD (bf L (prr a b)))/\bf P (a,b)=P\/Ω1=(Ω.set (o+1) (lD (bf L (prr a b)))).set (o+2) (oD (bf P (a,b))))/\(Ω2=Ω1/\bf (bf P (a,b)) (b,a)=bf P (a,b)\/Ω2=Ω1.set (o+2) (oD (bf (bf P (a,b)) (b,a))))/\eU [.obj o,.int a,.int b] Ω=some (.non,Ω2):=by
 have hp:=kI a b
 have hq:=uG s hn
 have e1:nT (lD L) (.tup [.int (prr a b).1,.int (prr a b).2])=some (.int v,lD (bf L (prr a b))):=HF hn
 have s1:=s.set1 (bf L (prr a b))
 obtain⟨v1,Ω1,e2,c1⟩:=BJ s1 (a:=a) (b:=b) 1 2 [.dat (.obj o),.dat (.int a),.dat (.int b)] rfl rfl rfl
 have s2:=s1.mL c1
 obtain⟨v2,Ω2,e3,c2⟩:=BJ s2 (a:=b) (b:=a) 2 1 [.dat (.obj o),.dat (.int a),.dat (.int b)] rfl rfl rfl
 refine⟨Ω1,Ω2,c1,c2,?_⟩
 refine qK (ρ':=[.dat (.obj o),.dat (.int a),.dat (.int b)]) rfl ?_
 refine(rH (ρ:=[.dat (.obj o),.dat (.int a),.dat (.int b)]) (uH s rfl rfl rfl hn)).trans ?_
 refine(aK (ρ':=[.dat (.obj o),.dat (.int a),.dat (.int b)]) (Ω':=Ω.set (o+1) (lD (bf L (prr a b)))) (by simp[hp,e1,s.h0,s.h1])).trans ?_
 refine(aK (ρ':=[.dat (.obj o),.dat (.int a),.dat (.int b)]) (Ω':=Ω1) (by rw[qx,e2])).trans ?_
 rw[qx,e3]
theorem PN(s:St o Ω L M P T)(hn:aF L (prr a b)=none)(hs:bH a)(ht:bH b):eU [.obj o,.int a,.int b] Ω=none/\iZ [.obj o,.int a,.int b] Ω=some (("NotTied":Str),Ω):=by
 obtain⟨h1,h2⟩:=tH s (a:=a) (b:=b) (ρ:=[.dat (.obj o),.dat (.int a),.dat (.int b)]) rfl rfl rfl hn hs ht
 exact⟨lQ rfl (wK h1),jH rfl h2⟩
theorem HY(s:St o Ω L M P T){v:Int}(hn:aF L (prr a b)=some v):dW [.obj o,.int a,.int b] Ω=some (.int v,Ω):=by
 have hp:=kI a b
 have hq:=uG s hn
 refine bc rfl ?_
 simp[hp,hq,hn,s.h0,s.h1]
theorem H_(s:St o Ω L M P T)(hn:aF L (prr a b)=none)(hs:bH a)(ht:bH b):dW [.obj o,.int a,.int b] Ω=none/\gK [.obj o,.int a,.int b] Ω=some (("NotTied":Str),Ω):=by
 obtain⟨h1,h2⟩:=tH s (a:=a) (b:=b) (ρ:=[.dat (.obj o),.dat (.int a),.dat (.int b)]) rfl rfl rfl hn hs ht
 exact⟨lQ rfl (wK h1),jH rfl h2⟩
theorem BK(s:St o Ω L M P T)(ρ:List Sl)(h0:ρ[0]? = some (.dat (.obj o)))(h1:ρ[1]? = some (.dat (.int a)))(h2:ρ[2]? = some (.dat (.int b)))(hP:P.length<1000):rF (fG "Ties" "sent_on" (aj 0)) (bB (ao (aj 1) (ao (aj 2) aA))) (gV aA) ρ Ω=match aF P (a,b) with
  | some i=>some (.obj i,Ω++[OS.mls []])
  | none=>some (.obj Ω.length,(Ω++[OS.mls []]).set (o+2) (oD (aR P (a,b) Ω.length))):=by
 have ev:eF (mpA pK oV P) [.inl a,.inl b]=(aF P (a,b)).map oV:=pB iV oV (a,b) P
 have ed:putD (mpA pK oV P) [.inl a,.inl b] (.obj Ω.length)=mpA pK oV (aR P (a,b) Ω.length):=Bh iV oV P (a,b) Ω.length
 have hb:P.length<big:=by have:big=100000:=rfl;omega
 have h2':=(s.app (.mls [])).h2
 cases q:aF P (a,b) with
 | none =>
  simp[rF,h0,h1,h2,jD,ev,q,ed,hb,s.h0,s.h2,h2']
  rfl
 | some n=>simp[rF,h0,h1,h2,jD,ev,q,hb,oV,s.h0,s.h2,h2']
end
end Law
namespace Law
open PySem DL
section
variable {o:Nat} {Ω:List OS} {L M:TyL} {P T:TyO} {a b l:Int} {d:D}
theorem KJ(s:St o Ω L M P T)(hd:Nt d){v:Int}{i:Nat}{ns:List D}(hn:aF L (prr a b)=some v)(hi:aF P (a,b)=some i)(hP:P.length<1000)(hR:Ω[i]? = some (.mls ns))(hl:ns.length<1000):dG [.obj o,.int a,.int b,d] Ω=some (.non,(Ω++[OS.mls []]).set i (.mls (ns++[d]))):=by
 have hs:=BK s (a:=a) (b:=b) [.dat (.obj o),.dat (.int a),.dat (.int b),.dat d] rfl rfl rfl hP
 rw[hi] at hs
 dsimp only at hs
 have hR':(Ω++[OS.mls []])[i]? = some (.mls ns):=iW hR
 have hb:ns.length<big:=by have:big=100000:=rfl;omega
 have ha:=vB hd
 refine qK (ρ':=[.dat (.obj o),.dat (.int a),.dat (.int b),.dat d]) rfl ?_
 refine(rH (ρ:=[.dat (.obj o),.dat (.int a),.dat (.int b),.dat d]) (uH s rfl rfl rfl hn)).trans ?_
 unfold gW
 show(rF _ _ _ [Sl.dat (.obj o),.dat (.int a),.dat (.int b),.dat d] _).bind _=_
 rw[hs]
 simp[hR',ha,hb]
theorem KN(s:St o Ω L M P T)(hd:Nt d){v:Int}(hn:aF L (prr a b)=some v)(hi:aF P (a,b)=none)(hP:P.length<1000):dG [.obj o,.int a,.int b,d] Ω=some (.non,((Ω++[OS.mls []]).set (o+2) (oD (aR P (a,b) Ω.length))).set Ω.length (.mls [d])):=by
 have hs:=BK s (a:=a) (b:=b) [.dat (.obj o),.dat (.int a),.dat (.int b),.dat d] rfl rfl rfl hP
 rw[hi] at hs
 dsimp only at hs
 have lt:=rM s.h2
 have hR':((Ω++[OS.mls []]).set (o+2) (oD (aR P (a,b) Ω.length)))[Ω.length]? = some (.mls []):=by
  rw[List.getElem?_set_ne (by omega)]
  simp
 have hb:0<big:=by decide
 have ha:=vB hd
 refine qK (ρ':=[.dat (.obj o),.dat (.int a),.dat (.int b),.dat d]) rfl ?_
 refine(rH (ρ:=[.dat (.obj o),.dat (.int a),.dat (.int b),.dat d]) (uH s rfl rfl rfl hn)).trans ?_
 unfold gW
 show(rF _ _ _ [Sl.dat (.obj o),.dat (.int a),.dat (.int b),.dat d] _).bind _=_
 rw[hs]
 generalize (Ω++[OS.mls []]).set (o+2) (oD (aR P (a,b) Ω.length))=Z at hR' ⊢
 simp[hR',ha,hb]
theorem PQ(s:St o Ω L M P T)(hn:aF L (prr a b)=none)(hs:bH a)(ht:bH b):dG [.obj o,.int a,.int b,d] Ω=none/\i_ [.obj o,.int a,.int b,d] Ω=some (("NotTied":Str),Ω):=by
 obtain⟨h1,h2⟩:=tH s (a:=a) (b:=b) (ρ:=[.dat (.obj o),.dat (.int a),.dat (.int b),.dat d]) rfl rfl rfl hn hs ht
 exact⟨lQ rfl (wK h1),jH rfl h2⟩
theorem KQ(s:St o Ω L M P T){v:Int}{n:D}{i:Nat}{ns:List D}(hn:aF L (prr a b)=some v)(hi:aF P (a,b)=some i)(hR:Ω[i]? = some (.mls (n::ns)))(hf:i<o\/o+5<=i)(e0:eqD false (.lst ns) (.lst [])=some (.bl (decide (ns=[])))):∃Ω',(ns=[]/\Ω'=(Ω.set i (.mls ns)).set (o+2) (oD (bf P (a,b)))\/ns≠[]/\Ω'=Ω.set i (.mls ns))/\cZ [.obj o,.int a,.int b] Ω=some (n,Ω'):=by
 have s1:=s.other hf (.mls ns)
 have hg:(Ω.set i (.mls ns))[i]? = some (.mls ns):=nq hR
 have e1:=Bp hi
 have st:∀{t:aQ},aH (cC (bT "Ties" "need_pair" aO [] (aj 0) (ao (aj 1) (ao (aj 2) aA)))) t [.dat (.obj o),.dat (.int a),.dat (.int b),.und,.und] Ω=t [.dat (.obj o),.dat (.int a),.dat (.int b),.und,.und] Ω:=rH (uH s rfl rfl rfl hn)
 by_cases hc:ns=[]
 ·refine⟨_,.inl ⟨hc,rfl⟩,?_⟩
  rw[decide_eq_true hc] at e0
  refine bc rfl (st.trans ?_)
  refine(aK (ρ':=[.dat (.obj o),.dat (.int a),.dat (.int b),.und,.und]) (Ω':=Ω) (by simp[hi,s.h0,s.h2])).trans ?_
  refine(aK (ρ':=[.dat (.obj o),.dat (.int a),.dat (.int b),.dat (.obj i),.und]) (Ω':=Ω) (by simp[hi,oV,s.h0,s.h2])).trans ?_
  refine(aK (ρ':=[.dat (.obj o),.dat (.int a),.dat (.int b),.dat (.obj i),.dat n]) (Ω':=Ω.set i (.mls ns)) (by simp[ux,hR])).trans ?_
  refine(aK (ρ':=[.dat (.obj o),.dat (.int a),.dat (.int b),.dat (.obj i),.dat n]) (Ω':=(Ω.set i (.mls ns)).set (o+2) (oD (bf P (a,b)))) (by simp[jO,hg,e0,e1,s1.h0,s1.h2])).trans ?_
  simp
 ·refine⟨_,.inr ⟨hc,rfl⟩,?_⟩
  rw[decide_eq_false hc] at e0
  refine bc rfl (st.trans ?_)
  refine(aK (ρ':=[.dat (.obj o),.dat (.int a),.dat (.int b),.und,.und]) (Ω':=Ω) (by simp[hi,s.h0,s.h2])).trans ?_
  refine(aK (ρ':=[.dat (.obj o),.dat (.int a),.dat (.int b),.dat (.obj i),.und]) (Ω':=Ω) (by simp[hi,oV,s.h0,s.h2])).trans ?_
  refine(aK (ρ':=[.dat (.obj o),.dat (.int a),.dat (.int b),.dat (.obj i),.dat n]) (Ω':=Ω.set i (.mls ns)) (by simp[ux,hR])).trans ?_
  refine(aK (ρ':=[.dat (.obj o),.dat (.int a),.dat (.int b),.dat (.obj i),.dat n]) (Ω':=Ω.set i (.mls ns)) (by simp[jO,hg,e0])).trans ?_
  simp
theorem Fl(s:St o Ω L M P T){v:Int}(hn:aF L (prr a b)=some v)(hi:aF P (a,b)=none)(hs:bH a)(ht:bH b):cZ [.obj o,.int a,.int b] Ω=none/\gw [.obj o,.int a,.int b] Ω=some (("NoNote":Str),Ω):=by
 have hq:=uG s hn
 have hr:aV [.obj o,.int a,.int b] Ω=none:=by
  have hp:=kI a b
  unfold aV
  rw[Du]
  simp[hp,hn,s.h0,s.h1]
 constructor
 ·exact lQ rfl (by simp[hq,hi,s.h0,s.h2])
 ·refine jH (ρ:=[.dat (.obj o),.dat (.int a),.dat (.int b),.und,.und]) rfl ?_
  simp[hq,hr,hi,sZ,ph,hs,ht,s.h0,s.h2]
theorem KR(s:St o Ω L M P T)(hn:aF L (prr a b)=none)(hs:bH a)(ht:bH b):cZ [.obj o,.int a,.int b] Ω=none/\gw [.obj o,.int a,.int b] Ω=some (("NotTied":Str),Ω):=by
 obtain⟨h1,h2⟩:=tH s (a:=a) (b:=b) (ρ:=[.dat (.obj o),.dat (.int a),.dat (.int b),.und,.und]) rfl rfl rfl hn hs ht
 exact⟨lQ rfl (wK h1),jH rfl (Tv h2)⟩
theorem tK{n:Nat}{xs:List D}{Ω:List OS}(hn:Ω[n]? = some (.mls xs)):∀(ns:List D) (x:Sl),(∀m∈ns,Nt m)->jh n xs (bO 0) cO (aW cY (ao (aj 0) aA)) ns [x] Ω=some (ns,Ω)
 | [],x,_=>by
  show grd (Ω[n]? = some (.mls xs)) (some ([],Ω))=_
  rw[fu hn]
 | m::ns,x,h=>by
  have ih:=tK hn ns (.dat m) fun q hq=>h q (List.mem_cons_of_mem _ hq)
  have e:=vB (h m List.mem_cons_self) Ω
  unfold jh
  rw[fu hn]
  simp[e,ih]
theorem KY(s:St o Ω L M P T){v:Int}{ns:List D}(hn:aF L (prr a b)=some v)(hl:ns.length<1000)(hN:∀n∈ns,Nt n)(hi:(∃i,aF P (a,b)=some i/\Ω[i]? = some (.mls ns))\/(aF P (a,b)=none/\ns=[])):eX [.obj o,.int a,.int b] Ω=some (.lst ns,Ω++[.mls []]):=by
 have hb:ns.length<=big:=by have:big=100000:=rfl;omega
 have s1:=s.app (.mls [])
 obtain⟨j,hj,hR⟩:∃j,((aF P (a,b)).map oV).getD (.obj Ω.length)=.obj j/\(Ω++[OS.mls []])[j]? = some (.mls ns):=by
  rcases hi with⟨i,h1,h2⟩ |⟨h1,h2⟩
  ·exact⟨i,by rw[h1];rfl,iW h2⟩
  ·exact⟨Ω.length,by rw[h1];rfl,by rw[h2];simp⟩
 have em:=tK hR ns .und hN
 have ei:cI [none] [Sl.dat (.obj o),.dat (.int a),.dat (.int b)]=[.und]:=rfl
 have eg:oX (fG "Ties" "sent_on" (aj 0)) (bB (ao (aj 1) (ao (aj 2) aA))) (gV aA) [.dat (.obj o),.dat (.int a),.dat (.int b)] Ω=some (.obj j,Ω++[.mls []]):=by
  simp[hj,s.h0,s.h2,s1.h2]
 refine bc rfl ?_
 refine(rH (ρ:=[.dat (.obj o),.dat (.int a),.dat (.int b)]) (uH s rfl rfl rfl hn)).trans ?_
 rw[jU]
 unfold gq
 rw[eg,ei]
 simp only[Option.bind_some,qI,hR,iM,hb,if_true,em]
theorem KZ(s:St o Ω L M P T)(hn:aF L (prr a b)=none)(hs:bH a)(ht:bH b):eX [.obj o,.int a,.int b] Ω=none/\iz [.obj o,.int a,.int b] Ω=some (("NotTied":Str),Ω):=by
 obtain⟨h1,h2⟩:=tH s (a:=a) (b:=b) (ρ:=[.dat (.obj o),.dat (.int a),.dat (.int b)]) rfl rfl rfl hn hs ht
 exact⟨lQ rfl (wK h1),jH rfl h2⟩
end
end Law
namespace Law
open PySem DL
theorem Ia{x0 x1 x2 x3 x4:Sl}{n:Nat}{Ω:List OS}(hn:Ω[n]? = some (.exc "NoNote")):exS [x0,x1,x2,x3,x4,.dat (.obj n),.und] Ω=some (.rt (.str "nonote") Ω) :=
 uE (p:=false) (q:=false) (r:=false) (s:=true) (j:=3) hn (by decide +kernel) (by decide +kernel) (by decide +kernel) (by decide +kernel) (by decide +kernel) (by decide +kernel) rfl rfl (by decide) (by
  have:=mC [D.str "nohouse",.str "tied",.str "nottied",.str "nonote"] 3 (by simp)
  simpa using this)
section
variable {o:Nat} {Ω:List OS} {L M:TyL} {P T:TyO} {a b l:Int} {d:D}
theorem nG(Ω:List OS)(c:Str):(Ω++[.exc c])[Ω.length]? = some (.exc c):=by
 rw[List.getElem?_append_right (Nat.le_refl _)]
 simp
noncomputable def D5(o:Nat)(w:Str)(a b:Int)(d:D):List Sl:=[.dat (.str w),.dat (.obj o),.dat (.int a),.dat (.int b),.dat d,.und,.und]
theorem me(s:St o Ω L M P T){m:Str}{F:bG}{ga:bx}{ds:List D}{ρ:List Sl}(h1:ρ[1]? = some (.dat (.obj o)))(hl:List.lookup m (tfo o)=none)(hg:ga ρ Ω=some (ds,Ω)):bT "Ties" m F [] (aj 1) ga ρ Ω=F (.obj o::ds) Ω:=by
 simp[h1,hl,hg,s.h0]
theorem rme(s:St o Ω L M P T){m c:Str}{F:gP}{ga:bx}{ds:List D}{ρ:List Sl}{Ω':List OS}(h1:ρ[1]? = some (.dat (.obj o)))(hl:List.lookup m (tfo o)=none)(hg:ga ρ Ω=some (ds,Ω))(h:F (.obj o::ds) Ω=some (c,Ω')):rE (gF "Ties" m F [] (aj 1) ga) ρ Ω=some (c,ρ,Ω'):=by
 simp[h1,hl,hg,h,s.h0]
theorem RM(s:St o Ω L M P T){Ω':List OS}(h:bY [.obj o,.int a,.int b,d] Ω=some (.non,Ω')):cT [.str "come",.obj o,.int a,.int b,d] Ω=some (.lst [.non],Ω') :=
 bc rfl (qH (dZ ((fP rfl (cB false)).trans (yc ((me s rfl (pC o) rfl).trans h)))))
theorem RN(s:St o Ω L M P T){Ω':List OS}(h:eU [.obj o,.int a,.int b] Ω=some (.non,Ω')):cT [.str "fall",.obj o,.int a,.int b,d] Ω=some (.lst [.non],Ω') :=
 bc rfl (qH ((aZ rfl (lW false)).trans (dZ ((fP rfl (lX false)).trans (yc ((me s rfl (vy o) rfl).trans h))))))
theorem Ib(s:St o Ω L M P T){Ω':List OS}(h:dG [.obj o,.int a,.int b,d] Ω=some (.non,Ω')):cT [.str "send",.obj o,.int a,.int b,d] Ω=some (.lst [.non],Ω') :=
 bc rfl (qH ((aZ rfl (lY false)).trans ((aZ rfl (lZ false)).trans (dZ ((fP rfl (l_ false)).trans (yc ((me s rfl (vz o) rfl).trans h)))))))
theorem PX(s:St o Ω L M P T){n:D}{Ω':List OS}(h:cZ [.obj o,.int a,.int b] Ω=some (n,Ω')):cT [.str "carry",.obj o,.int a,.int b,d] Ω=some (.lst [n],Ω') :=
 bc rfl (qH ((aZ rfl (gM false)).trans ((aZ rfl (fJ false)).trans ((aZ rfl (fK false)).trans (dZ ((fP rfl (eN false)).trans (yc ((me s rfl (nj o) rfl).trans h))))))))
theorem K_(s:St o Ω L M P T){v:Int}(hn:aF L (prr a b)=some v):cT [.str "length",.obj o,.int a,.int b,d] Ω=some (.lst [.int v],Ω) :=
 bc rfl (qH ((aZ rfl (jJ false)).trans ((aZ rfl (jK false)).trans ((aZ rfl (jL false)).trans ((aZ rfl (ji false)).trans (dZ ((fP rfl (iT false)).trans (yc ((me s rfl (rK o) rfl).trans (HY s hn))))))))))
theorem P_(s:St o Ω L M P T){ns:D}{Ω':List OS}(h:eX [.obj o,.int a,.int b] Ω=some (ns,Ω')):cT [.str "notes",.obj o,.int a,.int b,d] Ω=some (.lst [ns],Ω') :=
 bc rfl (qH ((aZ rfl (jY false)).trans ((aZ rfl (jZ false)).trans ((aZ rfl (j_ false)).trans ((aZ rfl (jM false)).trans ((aZ rfl (jj false)).trans (yc ((me s rfl (tE o) rfl).trans h))))))))
theorem RP(s:St o Ω L M P T)(hs:bH a):cT [.str "come",.obj o,.int a,.int a,d] Ω=some (.str "nohouse",Ω++[.exc "NoHouse"]):=by
 obtain⟨h1,h2⟩:=HW s (d:=d) hs
 exact bc rfl (m_ (c:="NoHouse") (ρ1:=D5 o "come" a a d) (Ω1:=Ω) (ni ((fP rfl (cB false)).trans (lq ((me s rfl (pC o) rfl).trans h1)))) (vq rfl (cB false) (rme s rfl (pC o) rfl h2)) (by decide +kernel) (Fe (nG _ _)))
theorem RQ(s:St o Ω L M P T)(ne:a≠b){v:Int}(hn:aF L (prr a b)=some v)(hs:bH a)(ht:bH b):cT [.str "come",.obj o,.int a,.int b,d] Ω=some (.str "tied",Ω++[.exc "Tied"]):=by
 obtain⟨h1,h2⟩:=HX s (d:=d) ne hn hs ht
 exact bc rfl (m_ (c:="Tied") (ρ1:=D5 o "come" a b d) (Ω1:=Ω) (ni ((fP rfl (cB false)).trans (lq ((me s rfl (pC o) rfl).trans h1)))) (vq rfl (cB false) (rme s rfl (pC o) rfl h2)) (by decide +kernel) (Px (nG _ _)))
theorem La(s:St o Ω L M P T){v:Int}(hn:aF L (prr a b)=some v)(hi:aF P (a,b)=none)(hs:bH a)(ht:bH b):cT [.str "carry",.obj o,.int a,.int b,d] Ω=some (.str "nonote",Ω++[.exc "NoNote"]):=by
 obtain⟨h1,h2⟩:=Fl s hn hi hs ht
 exact bc rfl (m_ (c:="NoNote") (ρ1:=D5 o "carry" a b d) (Ω1:=Ω) ((aZ rfl (gM false)).trans ((aZ rfl (fJ false)).trans ((aZ rfl (fK false)).trans (ni ((fP rfl (eN false)).trans (lq ((me s rfl (nj o) rfl).trans h1))))))) ((je rfl (gM false)).trans ((je rfl (fJ false)).trans ((je rfl (fK false)).trans (vq rfl (eN false) (rme s rfl (nj o) rfl h2))))) (by decide +kernel) (Ia (nG _ _)))
theorem w_not(s:St o Ω L M P T){w:Str}(hw:Wn w)(hn:aF L (prr a b)=none)(hs:bH a)(ht:bH b):cT [.str w,.obj o,.int a,.int b,d] Ω=some (.str "nottied",Ω++[.exc "NotTied"]):=by
 rcases hw with rfl |rfl |rfl |rfl |rfl
 ·obtain⟨h1,h2⟩:=PN s hn hs ht
  exact bc rfl (m_ (c:="NotTied") (ρ1:=D5 o "fall" a b d) (Ω1:=Ω) ((aZ rfl (lW false)).trans (ni ((fP rfl (lX false)).trans (lq ((me s rfl (vy o) rfl).trans h1))))) ((je rfl (lW false)).trans (vq rfl (lX false) (rme s rfl (vy o) rfl h2))) (by decide +kernel) (lV (nG _ _)))
 ·obtain⟨h1,h2⟩:=PQ s (d:=d) hn hs ht
  exact bc rfl (m_ (c:="NotTied") (ρ1:=D5 o "send" a b d) (Ω1:=Ω) ((aZ rfl (lY false)).trans ((aZ rfl (lZ false)).trans (ni ((fP rfl (l_ false)).trans (lq ((me s rfl (vz o) rfl).trans h1)))))) ((je rfl (lY false)).trans ((je rfl (lZ false)).trans (vq rfl (l_ false) (rme s rfl (vz o) rfl h2)))) (by decide +kernel) (lV (nG _ _)))
 ·obtain⟨h1,h2⟩:=KR s hn hs ht
  exact bc rfl (m_ (c:="NotTied") (ρ1:=D5 o "carry" a b d) (Ω1:=Ω) ((aZ rfl (gM false)).trans ((aZ rfl (fJ false)).trans ((aZ rfl (fK false)).trans (ni ((fP rfl (eN false)).trans (lq ((me s rfl (nj o) rfl).trans h1))))))) ((je rfl (gM false)).trans ((je rfl (fJ false)).trans ((je rfl (fK false)).trans (vq rfl (eN false) (rme s rfl (nj o) rfl h2))))) (by decide +kernel) (lV (nG _ _)))
 ·obtain⟨h1,h2⟩:=H_ s hn hs ht
  exact bc rfl (m_ (c:="NotTied") (ρ1:=D5 o "length" a b d) (Ω1:=Ω) ((aZ rfl (jJ false)).trans ((aZ rfl (jK false)).trans ((aZ rfl (jL false)).trans ((aZ rfl (ji false)).trans (ni ((fP rfl (iT false)).trans (lq ((me s rfl (rK o) rfl).trans h1)))))))) ((je rfl (jJ false)).trans ((je rfl (jK false)).trans ((je rfl (jL false)).trans ((je rfl (ji false)).trans (vq rfl (iT false) (rme s rfl (rK o) rfl h2)))))) (by decide +kernel) (lV (nG _ _)))
 ·obtain⟨h1,h2⟩:=KZ s hn hs ht
  exact bc rfl (m_ (c:="NotTied") (ρ1:=D5 o "notes" a b d) (Ω1:=Ω) ((aZ rfl (jY false)).trans ((aZ rfl (jZ false)).trans ((aZ rfl (j_ false)).trans ((aZ rfl (jM false)).trans ((aZ rfl (jj false)).trans (lq ((me s rfl (tE o) rfl).trans h1))))))) ((je rfl (jY false)).trans ((je rfl (jZ false)).trans ((je rfl (j_ false)).trans ((je rfl (jM false)).trans ((je rfl (jj false)).trans (rme s rfl (tE o) rfl h2)))))) (by decide +kernel) (lV (nG _ _)))
end
end Law
namespace Law
open PySem DL
noncomputable def jP(N:TyN)(k:Int×Int)(v:List D):TyN:=fun x=>if x=k then v else N x
theorem cW(N:TyN)(k:Int×Int)(v:List D):jP N k v k=v:=if_pos rfl
theorem b_(N:TyN){k x:Int×Int}(v:List D)(h:x≠k):jP N k v x=N x:=if_neg h
structure Ob(Ω:List OS)(T:TyO)(N:TyN):Prop where
 nd:(T.map (·.1)).Nodup
 at':∀k i,aF T k=some i->Ω[i]? = some (OS.mls (N k))
 inj:∀k k' i,aF T k=some i->aF T k'=some i->k=k'
 ge:∀k i,aF T k=some i->6<=i
theorem Ob.lt{Ω T N}(h:Ob Ω T N){k i}(q:aF T k=some i):i<Ω.length:=(List.getElem?_eq_some_iff.mp (h.at' k i q)).1
theorem Ob.app{Ω T N}(h:Ob Ω T N)(o:OS):Ob (Ω++[o]) T N:=⟨h.nd,fun k i q=>by rw[List.getElem?_append_left (h.lt q)];exact h.at' k i q,h.inj,h.ge⟩
theorem Ob.other{Ω T N}(h:Ob Ω T N){j:Nat}(hj:∀k,aF T k≠some j)(o:OS):Ob (Ω.set j o) T N:=⟨h.nd,fun k i q=>by
 rw[List.getElem?_set_ne (fun z=>hj k (by rw[z];exact q))];exact h.at' k i q,h.inj,h.ge⟩
theorem Ob.upd{Ω T N}(h:Ob Ω T N){k:Int×Int}{i:Nat}(q:aF T k=some i)(v:List D):Ob (Ω.set i (OS.mls v)) T (jP N k v):=by
 refine⟨h.nd,fun k' i' q'=>?_,h.inj,h.ge⟩
 by_cases e:k'=k
 ·subst e
  rw[q] at q'
  cases q'
  rw[List.getElem?_set_self (h.lt q),cW]
 ·rw[b_ _ _ e,List.getElem?_set_ne (fun z=>e (h.inj k' k i' q' (by rw[<-z];exact q)))]
  exact h.at' k' i' q'
theorem Ob.same{Ω T N N'}(h:Ob Ω T N)(e:∀k i,aF T k=some i->N' k=N k):Ob Ω T N':=⟨h.nd,fun k i q=>by rw[e k i q];exact h.at' k i q,h.inj,h.ge⟩
theorem Ob.put{Ω T N}(h:Ob Ω T N)(l11:6<=Ω.length){k:Int×Int}(v:List D)(hk:N k=v):Ob (Ω++[OS.mls v]) (aR T k Ω.length) N:=by
 refine⟨wI h.nd _ _,fun k' i' q'=>?_,fun k' k'' i h1 h2=>?_,fun k' i' q'=>?_⟩
 ·rw[cj] at q'
  by_cases e:k'=k
  ·rw[if_pos e] at q'
   cases q'
   rw[e,hk]
   simp
  ·rw[if_neg e] at q'
   rw[List.getElem?_append_left (h.lt q')]
   exact h.at' k' i' q'
 ·rw[cj] at h1 h2
  by_cases e1:k'=k
  ·by_cases e2:k''=k
   ·rw[e1,e2]
   ·rw[if_pos e1] at h1
    rw[if_neg e2] at h2
    cases h1
    exact absurd (h.lt h2) (Nat.lt_irrefl _)
  ·by_cases e2:k''=k
   ·rw[if_neg e1] at h1
    rw[if_pos e2] at h2
    cases h2
    exact absurd (h.lt h1) (Nat.lt_irrefl _)
   ·rw[if_neg e1] at h1
    rw[if_neg e2] at h2
    exact h.inj k' k'' i h1 h2
 ·rw[cj] at q'
  split at q'
  ·cases q';exact l11
  ·exact h.ge k' i' q'
theorem Ob.cut{Ω T N}(h:Ob Ω T N)(k:Int×Int):Ob Ω (bf T k) N:=by
 refine⟨wJ h.nd _,fun k' i' q'=>?_,fun k' k'' i h1 h2=>?_,fun k' i' q'=>?_⟩
 ·rw[cU] at q'
  split at q'
  ·cases q'
  ·exact h.at' k' i' q'
 ·rw[cU] at h1 h2
  split at h1
  ·cases h1
  ·split at h2
   ·cases h2
   ·exact h.inj k' k'' i h1 h2
 ·rw[cU] at q'
  split at q'
  ·cases q'
  ·exact h.ge k' i' q'
theorem Ob.fix{Ω T N}(h:Ob Ω T N){j:Nat}(hj:j<6)(x:OS):Ob (Ω.set j x) T N:=h.other (fun k z=>by have:=h.ge k j z;omega) x
noncomputable def Us(P T:TyO)(i:Nat):Prop:=∃k,aF P k=some i\/aF T k=some i
noncomputable def Sw(o:Nat)(P T:TyO)(n:Nat)(j:Nat):Prop:=(o<j/\j<o+5)\/Us P T j\/n<=j
structure Fr(S:Nat->Prop)(Ω Ω':List OS):Prop where
 ln:Ω.length<=Ω'.length
 at':∀j x,¬S j->Ω[j]? = some x->Ω'[j]? = some x
theorem Fr.refl(S:Nat->Prop)(Ω:List OS):Fr S Ω Ω:=⟨Nat.le_refl _,fun _ _ _ h=>h⟩
theorem Fr.set{S:Nat->Prop}{Ω Ω':List OS}(h:Fr S Ω Ω'){j:Nat}(hj:S j)(x:OS):Fr S Ω (Ω'.set j x):=⟨by rw[List.length_set];exact h.ln,fun i y hi e=>by
 rw[List.getElem?_set_ne (fun(z:j=i)=>hi (by rw[<-z];exact hj))]
 exact h.at' i y hi e⟩
theorem Fr.app{S:Nat->Prop}{Ω Ω':List OS}(h:Fr S Ω Ω')(x:OS):Fr S Ω (Ω'++[x]):=⟨by rw[List.length_append];have:=h.ln;omega,fun i y hi e=>iW (h.at' i y hi e)⟩
theorem Fr.trans{S:Nat->Prop}{Ω Ω' Ω'':List OS}(h:Fr S Ω Ω')(h':Fr S Ω' Ω''):Fr S Ω Ω'':=⟨Nat.le_trans h.ln h'.ln,fun i y hi e=>h'.at' i y hi (h.at' i y hi e)⟩
theorem jQ{o:Nat}{P T:TyO}{n j:Nat}(h:o<j/\j<o+5):Sw o P T n j:=.inl h
theorem RV{o:Nat}{P T:TyO}{n j:Nat}{k:Int×Int}(h:aF T k=some j):Sw o P T n j:=.inr (.inl ⟨k,.inr h⟩)
theorem Lb{o:Nat}{P T:TyO}{n j:Nat}{k:Int×Int}(h:aF P k=some j):Sw o P T n j:=.inr (.inl ⟨k,.inl h⟩)
structure Al(hs:List Int)(b o:Nat)(Ω:List OS)(L:TyL)(P T:TyO)(N:TyN):Prop where
 st:St o Ω L L P T
 o5:o<=0
 l11:6<=Ω.length
 nd:(L.map (·.1)).Nodup
 lt:∀r∈L,r.1.1<r.1.2
 ms:∀r∈L,r.1.1∈hs/\r.1.2∈hs
 sm:∀x y,(aF T (x,y)).isSome=(aF L (prr x y)).isSome
 ot:Ob Ω T N
 op:Ob Ω P N
 pn:∀k i,aF P k=some i->N k≠[]
 pe:∀k,aF P k=none->N k=[]
 nz:∀x y,aF L (prr x y)=none->N (x,y)=[]
 dj:∀k k' i,aF T k=some i->aF P k'≠some i
 ln:∀k,(N k).length<=b
 nt:∀k,∀n∈N k,Nt n
section
variable {hs:List Int} {m o:Nat} {Ω:List OS} {L:TyL} {P T:TyO} {N:TyN} {a b l:Int} {d:D}
theorem Al.app(h:Al hs m o Ω L P T N)(x:OS):Al hs m o (Ω++[x]) L P T N:=⟨h.st.app x,h.o5,by rw[List.length_append];have:=h.l11;omega,h.nd,h.lt,h.ms,h.sm,h.ot.app x,h.op.app x,h.pn,h.pe,h.nz,h.dj,h.ln,h.nt⟩
theorem Al.mono{m':Nat}(h:Al hs m o Ω L P T N)(e:m<=m'):Al hs m' o Ω L P T N:=⟨h.st,h.o5,h.l11,h.nd,h.lt,h.ms,h.sm,h.ot,h.op,h.pn,h.pe,h.nz,h.dj,fun k=>Nat.le_trans (h.ln k) e,h.nt⟩
theorem Al.frame{S:Nat->Prop}{Ω':List OS}(h:Al hs m o Ω L P T N)(f:Fr S Ω Ω')(h5:∀j,o<=j->j<o+5->¬S j)(hu:∀i,Us P T i->¬S i):Al hs m o Ω' L P T N :=
 ⟨⟨f.at' _ _ (h5 _ (by omega) (by omega)) h.st.h0,f.at' _ _ (h5 _ (by omega) (by omega)) h.st.h1,f.at' _ _ (h5 _ (by omega) (by omega)) h.st.h2,f.at' _ _ (h5 _ (by omega) (by omega)) h.st.h3,f.at' _ _ (h5 _ (by omega) (by omega)) h.st.h4⟩,h.o5,Nat.le_trans h.l11 f.ln,h.nd,h.lt,h.ms,h.sm,
  ⟨h.ot.nd,fun k i q=>f.at' _ _ (hu i ⟨k,.inr q⟩) (h.ot.at' k i q),h.ot.inj,h.ot.ge⟩,⟨h.op.nd,fun k i q=>f.at' _ _ (hu i ⟨k,.inl q⟩) (h.op.at' k i q),h.op.inj,h.op.ge⟩,h.pn,h.pe,h.nz,h.dj,h.ln,h.nt⟩
theorem Al.us_lt(h:Al hs m o Ω L P T N){i:Nat}(u:Us P T i):6<=i/\i<Ω.length:=by
 obtain⟨k,q |q⟩:=u
 ·exact⟨h.op.ge k i q,h.op.lt q⟩
 ·exact⟨h.ot.ge k i q,h.ot.lt q⟩
theorem Al.ne(h:Al hs m o Ω L P T N){x y:Int}(q:(aF L (prr x y)).isSome=true):x≠y:=by
 intro e
 cases q1:aF L (prr x y) with
 | none=>rw[q1] at q;cases q
 | some v =>
  have:=h.lt _ (rG q1)
  subst e
  simp[prr] at this
theorem Al.tied(h:Al hs m o Ω L P T N){x y v:Int}(q:aF L (prr x y)=some v):∃i,aF T (x,y)=some i:=by
 have:=h.sm x y
 rw[q] at this
 cases z:aF T (x,y) with
 | none=>rw[z] at this;cases this
 | some i=>exact⟨i,rfl⟩
theorem Al.free(h:Al hs m o Ω L P T N){x y:Int}(q:aF L (prr x y)=none):aF T (x,y)=none:=by
 have:=h.sm x y
 rw[q] at this
 cases z:aF T (x,y) with
 | none=>rfl
 | some i=>rw[z] at this;cases this
theorem Al.pT(h:Al hs m o Ω L P T N){k:Int×Int}{i:Nat}(q:aF P k=some i):∃j,aF T k=some j:=by
 cases z:aF L (prr k.1 k.2) with
 | none=>exact absurd (h.nz k.1 k.2 z) (h.pn k i q)
 | some v=>exact h.tied z
theorem Mp(n:Nat):∀l:List Int,(l.map fun _=>n).sum=l.length*n
 | []=>by simp
 | x::l=>by
  rw[List.map_cons,List.sum_cons,Mp n l,List.length_cons,Nat.succ_mul,Nat.add_comm]
theorem sub_len{hs:List Int}(h6:hs.length<=6){ks:List (Int×Int)}(nd:ks.Nodup)(hm:∀k∈ks,k.1∈hs/\k.2∈hs):ks.length<=36:=by
 have h1:ks.length<=(hs.flatMap fun x=>hs.map fun y=>(x,y)).length:=by
  refine nd.length_le_of_subset fun k hk=>?_
  obtain⟨a,b⟩:=hm k hk
  exact List.mem_flatMap.mpr ⟨k.1,a,List.mem_map.mpr ⟨k.2,b,rfl⟩⟩
 have h2:(hs.flatMap fun x=>hs.map fun y=>(x,y)).length=hs.length*hs.length:=by
  rw[List.length_flatMap]
  simp only[List.length_map]
  exact Mp _ hs
 rw[h2] at h1
 have:hs.length*hs.length<=6*6:=Nat.mul_le_mul h6 h6
 omega
theorem Al.lenL(h:Al hs m o Ω L P T N)(h6:hs.length<=6):L.length<=36:=by
 have:=sub_len h6 h.nd fun k hk=>by
  obtain⟨r,hr,rfl⟩:=List.mem_map.mp hk
  exact h.ms r hr
 simpa using this
theorem RW(h:Al hs m o Ω L P T N){k:Int×Int}(hk:k∈T.map (·.1)):k.1∈hs/\k.2∈hs:=by
 have q:aF T k≠none:=fun z=>jr.mp z hk
 cases z:aF L (prr k.1 k.2) with
 | none=>exact absurd (h.free (x:=k.1) (y:=k.2) z) q
 | some v =>
  have:=h.ms _ (rG z)
  unfold prr at this
  dsimp only at this
  by_cases c1:k.2<k.1
  ·rw[if_pos c1,if_neg (by omega:¬k.2>k.1)] at this
   exact⟨this.2,this.1⟩
  ·rw[if_neg c1] at this
   by_cases c2:k.2>k.1
   ·rw[if_pos c2] at this;exact this
   ·rw[if_neg c2] at this
    have e:k.2=k.1:=by omega
    rw[e];exact this
theorem Al.lenT(h:Al hs m o Ω L P T N)(h6:hs.length<=6):T.length<=36:=by
 have:=sub_len h6 h.ot.nd fun k hk=>RW h hk
 simpa using this
theorem RX(h:Al hs m o Ω L P T N){k:Int×Int}(hk:k∈P.map (·.1)):k∈T.map (·.1):=by
 cases z:aF P k with
 | none=>exact absurd hk (jr.mp z)
 | some i =>
  obtain⟨j,hj⟩:=h.pT z
  exact List.mem_map.mpr ⟨_,rG hj,rfl⟩
theorem Al.lenP(h:Al hs m o Ω L P T N)(h6:hs.length<=6):P.length<=36:=by
 have:=sub_len h6 h.op.nd fun k hk=>RW h (RX h hk)
 simpa using this
end
end Law
namespace Law
open PySem DL
section
variable {hs:List Int} {m o:Nat} {Ω:List OS} {L:TyL} {P T:TyO} {N:TyN} {a b l:Int} {d:D}
theorem Tw(ne:a≠b):¬((b,a):Int×Int)=(a,b):=fun z=>ne (by injection z with z1 z2)
theorem Al.come(h:Al hs m o Ω L P T N)(ha:a∈hs)(hb:b∈hs)(ne:a≠b)(q:aF L (prr a b)=none)(l:Int){Ω5:List OS}(e5:Ω5=((((Ω.set (o+3) (lD (aR L (prr a b) l)))++[OS.mls []]).set (o+4) (oD (aR T (a,b) Ω.length))++[OS.mls []]).set (o+4) (oD (aR (aR T (a,b) Ω.length) (b,a) (Ω.length+1)))))
  (s5:St o Ω5 L (aR L (prr a b) l) P (aR (aR T (a,b) Ω.length) (b,a) (Ω.length+1))):Al hs m o (Ω5.set (o+1) (lD (aR L (prr a b) l))) (aR L (prr a b) l) P (aR (aR T (a,b) Ω.length) (b,a) (Ω.length+1)) N:=by
 have n1:N (a,b)=[]:=h.nz a b q
 have n2:N (b,a)=[]:=h.nz b a (by rw[rJ];exact q)
 have o5:=h.o5
 have l11:=h.l11
 have f3:o+3<6:=by omega
 have f4:o+4<6:=by omega
 have f1:o+1<6:=by omega
 have o1:=(h.ot.fix f3 (lD (aR L (prr a b) l))).put (by rw[List.length_set];exact l11) (k:=(a,b)) [] n1
 rw[List.length_set] at o1
 have o2:=(o1.fix f4 (oD (aR T (a,b) Ω.length))).put (by rw[List.length_set,List.length_append,List.length_set];omega) (k:=(b,a)) [] n2
 have el:((Ω.set (o+3) (lD (aR L (prr a b) l))++[OS.mls []]).set (o+4) (oD (aR T (a,b) Ω.length))).length=Ω.length+1:=by simp
 rw[el] at o2
 have o3:=(o2.fix f4 (oD (aR (aR T (a,b) Ω.length) (b,a) (Ω.length+1)))).fix f1 (lD (aR L (prr a b) l))
 have p3:=(((((h.op.fix f3 (lD (aR L (prr a b) l))).app (.mls [])).fix f4 (oD (aR T (a,b) Ω.length))).app (.mls [])).fix f4 (oD (aR (aR T (a,b) Ω.length) (b,a) (Ω.length+1)))).fix f1 (lD (aR L (prr a b) l))
 rw[<-e5] at o3 p3
 refine⟨s5.set1 _,h.o5,?_,wI h.nd _ _,fun r hr=>?_,fun r hr=>?_,fun x y=>?_,o3,p3,h.pn,h.pe,fun x y z=>?_,fun k k' i h1 h2=>?_,h.ln,h.nt⟩
 ·rw[e5]
  simp
  omega
 ·rcases Bk hr with z |z
  ·exact h.lt r z
  ·rw[z]
   show(prr a b).1<(prr a b).2
   unfold prr
   split<;>split<;>omega
 ·rcases Bk hr with z |z
  ·exact h.ms r z
  ·rw[z]
   show(prr a b).1∈hs/\(prr a b).2∈hs
   unfold prr
   dsimp only
   constructor
   ·split<;>assumption
   ·split<;>assumption
 ·rw[cj,cj,cj]
  by_cases h1:(x,y)=(b,a)
  ·rw[if_pos h1,if_pos ((lU x y a b).mpr (.inr h1))];rfl
  ·rw[if_neg h1]
   by_cases h2:(x,y)=(a,b)
   ·rw[if_pos h2,if_pos ((lU x y a b).mpr (.inl h2))];rfl
   ·rw[if_neg h2,if_neg (fun z=>by rcases (lU x y a b).mp z with z |z<;>contradiction)]
    exact h.sm x y
 ·rw[cj] at z
  split at z
  ·cases z
  ·exact h.nz x y z
 ·have lt:=h.op.lt h2
  rw[cj] at h1
  split at h1
  ·cases h1;omega
  ·rw[cj] at h1
   split at h1
   ·cases h1;omega
   ·exact h.dj k k' i h1 h2
theorem mL{T:TyO}{k:Int×Int}{i:Nat}(q:aF (bf (bf T (a,b)) (b,a)) k=some i):aF T k=some i/\k≠(a,b)/\k≠(b,a):=by
 rw[cU] at q
 split at q
 ·cases q
 ·rename_i h1
  rw[cU] at q
  split at q
  ·cases q
  ·rename_i h2
   exact⟨q,h2,h1⟩
theorem Al.fall(h:Al hs m o Ω L P T N)(a b:Int){Ω':List OS}(s:St o Ω' (bf L (prr a b)) (bf L (prr a b)) (bf (bf P (a,b)) (b,a)) (bf (bf T (a,b)) (b,a)))(hl:6<=Ω'.length)(oT:Ob Ω' T N)(oP:Ob Ω' P N):Al hs m o Ω' (bf L (prr a b)) (bf (bf P (a,b)) (b,a)) (bf (bf T (a,b)) (b,a)) (jP (jP N (a,b) []) (b,a) []):=by
 have nn:∀k,k≠(a,b)->k≠(b,a)->jP (jP N (a,b) []) (b,a) [] k=N k:=fun k h1 h2=>by rw[b_ _ _ h2,b_ _ _ h1]
 have ne0:∀k,k=(a,b)\/k=(b,a)->jP (jP N (a,b) []) (b,a) [] k=[]:=fun k h=>by
  by_cases h1:k=(b,a)
  ·rw[h1,cW]
  ·rcases h with h |h
   ·rw[b_ _ _ h1,h,cW]
   ·exact absurd h h1
 have cs:∀k:Int×Int,(k=(a,b)\/k=(b,a))\/(k≠(a,b)/\k≠(b,a)):=fun k=>by
  by_cases h1:k=(a,b)
  ·exact .inl (.inl h1)
  ·by_cases h2:k=(b,a)
   ·exact .inl (.inr h2)
   ·exact .inr ⟨h1,h2⟩
 refine⟨s,h.o5,hl,wJ h.nd _,fun r hr=>h.lt r ((List.mem_filter.mp hr).1),fun r hr=>h.ms r ((List.mem_filter.mp hr).1),fun x y=>?_,((oT.cut _).cut _).same fun k i q=>nn k (mL q).2.1 (mL q).2.2,((oP.cut _).cut _).same fun k i q=>nn k (mL q).2.1 (mL q).2.2,fun k i q=>?_,fun k q=>?_,fun x y z=>?_,fun k k' i h1 h2=>h.dj k k' i (mL h1).1 (mL h2).1,fun k=>?_,fun k=>?_⟩
 ·rw[cU,cU,cU]
  by_cases h1:(x,y)=(b,a)
  ·rw[if_pos h1,if_pos ((lU x y a b).mpr (.inr h1))];rfl
  ·rw[if_neg h1]
   by_cases h2:(x,y)=(a,b)
   ·rw[if_pos h2,if_pos ((lU x y a b).mpr (.inl h2))];rfl
   ·rw[if_neg h2,if_neg (fun z=>by rcases (lU x y a b).mp z with z |z<;>contradiction)]
    exact h.sm x y
 ·obtain⟨q1,q2,q3⟩:=mL q
  rw[nn k q2 q3]
  exact h.pn k i q1
 ·rcases cs k with z |⟨h2,h1⟩
  ·exact ne0 k z
  ·rw[nn k h2 h1]
   rw[cU,if_neg h1,cU,if_neg h2] at q
   exact h.pe k q
 ·rcases cs (x,y) with w |⟨h2,h1⟩
  ·exact ne0 _ w
  ·rw[nn _ h2 h1]
   rw[cU,if_neg (fun z=>by rcases (lU x y a b).mp z with z |z<;>contradiction)] at z
   exact h.nz x y z
 ·rcases cs k with z |⟨h2,h1⟩
  ·rw[ne0 k z];exact Nat.zero_le _
  ·rw[nn k h2 h1];exact h.ln k
 ·rcases cs k with z |⟨h2,h1⟩
  ·rw[ne0 k z];exact fun n hn=>(nomatch hn)
  ·rw[nn k h2 h1];exact h.nt k
theorem Al.sendOld(h:Al hs m o Ω L P T N)(hd:Nt d){v:Int}(q:aF L (prr a b)=some v){i j:Nat}(hi:aF T (a,b)=some i)(hj:aF P (a,b)=some j):Al hs (m+1) o (((Ω.set i (.mls (N (a,b)++[d])))++[OS.mls []]).set j (.mls (N (a,b)++[d]))) L P T (jP N (a,b) (N (a,b)++[d])):=by
 have gi:=h.ot.ge _ _ hi
 have gj:=h.op.ge _ _ hj
 have o5:=h.o5
 have l11:=h.l11
 have o1:=((h.ot.upd hi (N (a,b)++[d])).app (.mls [])).other (j:=j) (fun k z=>h.dj k _ j z hj) (.mls (N (a,b)++[d]))
 have o2:=((h.op.other (j:=i) (fun k z=>h.dj _ k i hi z) (.mls (N (a,b)++[d]))).app (.mls [])).upd hj (N (a,b)++[d])
 refine⟨((h.st.other (.inr (by omega)) _).app _).other (.inr (by omega)) _,h.o5,by simp;omega,h.nd,h.lt,h.ms,h.sm,o1,o2,fun k i q=>?_,fun k q=>?_,fun x y z=>?_,h.dj,fun k=>?_,fun k=>?_⟩
 ·by_cases e:k=(a,b)
  ·rw[e,cW];simp
  ·rw[b_ _ _ e];exact h.pn k i q
 ·by_cases e:k=(a,b)
  ·rw[e,hj] at q;cases q
  ·rw[b_ _ _ e];exact h.pe k q
 ·by_cases e:(x,y)=(a,b)
  ·cases e;rw[q] at z;cases z
  ·rw[b_ _ _ e];exact h.nz x y z
 ·by_cases e:k=(a,b)
  ·rw[e,cW]
   have:=h.ln (a,b)
   simp
   omega
  ·rw[b_ _ _ e]
   have:=h.ln k
   omega
 ·by_cases e:k=(a,b)
  ·rw[e,cW]
   intro n hn
   rcases List.mem_append.mp hn with z |z
   ·exact h.nt _ n z
   ·rw[List.mem_singleton.mp z];exact hd
  ·rw[b_ _ _ e]
   exact h.nt k
theorem Al.sendNew(h:Al hs m o Ω L P T N)(hd:Nt d){v:Int}(q:aF L (prr a b)=some v){i:Nat}(hi:aF T (a,b)=some i)(hj:aF P (a,b)=none):Al hs (m+1) o ((((Ω.set i (.mls (N (a,b)++[d])))++[OS.mls []]).set (o+2) (oD (aR P (a,b) (Ω.set i (OS.mls (N (a,b)++[d]))).length))).set (Ω.set i (OS.mls (N (a,b)++[d]))).length (.mls [d])) L (aR P (a,b) (Ω.set i (OS.mls (N (a,b)++[d]))).length) T (jP N (a,b) (N (a,b)++[d])):=by
 have n0:N (a,b)=[]:=h.pe _ hj
 have gi:=h.ot.ge _ _ hi
 have o5:=h.o5
 have l11:=h.l11
 have li:=h.ot.lt hi
 have f2:o+2<6:=by omega
 obtain⟨Ω1,e1⟩:∃Ω1,Ω1=Ω.set i (.mls (N (a,b)++[d])):=⟨_,rfl⟩
 have l1:Ω1.length=Ω.length:=by rw[e1,List.length_set]
 have b1:=h.ot.upd hi (N (a,b)++[d])
 have b2:=(h.op.other (j:=i) (fun k z=>h.dj _ k i hi z) (.mls (N (a,b)++[d]))).same (N':=jP N (a,b) (N (a,b)++[d])) fun k j z=>b_ _ _ fun e=>by rw[e,hj] at z;cases z
 have s1:=h.st.other (i:=i) (.inr (by omega)) (.mls (N (a,b)++[d]))
 rw[<-e1] at b1 b2 s1 ⊢
 have ex:((Ω1++[OS.mls []]).set (o+2) (oD (aR P (a,b) Ω1.length))).set Ω1.length (.mls [d])=(Ω1++[OS.mls [d]]).set (o+2) (oD (aR P (a,b) Ω1.length)):=by
  rw[List.set_comm _ _ (by omega:o+2≠Ω1.length)]
  congr 1
  rw[List.set_append_right _ _ (Nat.le_refl _)]
  simp
 rw[ex]
 have o1:=(b1.app (.mls [d])).fix f2 (oD (aR P (a,b) Ω1.length))
 have o2:=(b2.put (by omega) (k:=(a,b)) [d] (by rw[cW,n0];rfl)).fix f2 (oD (aR P (a,b) Ω1.length))
 refine⟨(s1.app _).set2 _,h.o5,by simp;omega,h.nd,h.lt,h.ms,h.sm,o1,o2,fun k i q=>?_,fun k q=>?_,fun x y z=>?_,fun k k' i' h1 h2=>?_,fun k=>?_,fun k=>?_⟩
 ·by_cases e:k=(a,b)
  ·rw[e,cW];simp
  ·rw[b_ _ _ e]
   rw[cj,if_neg e] at q
   exact h.pn k i q
 ·by_cases e:k=(a,b)
  ·rw[e,cj,if_pos rfl] at q;cases q
  ·rw[b_ _ _ e]
   rw[cj,if_neg e] at q
   exact h.pe k q
 ·by_cases e:(x,y)=(a,b)
  ·cases e;rw[q] at z;cases z
  ·rw[b_ _ _ e];exact h.nz x y z
 ·rw[cj] at h2
  split at h2
  ·cases h2
   have:=h.ot.lt h1
   omega
  ·exact h.dj k k' i' h1 h2
 ·by_cases e:k=(a,b)
  ·rw[e,cW]
   have:=h.ln (a,b)
   simp
   omega
  ·rw[b_ _ _ e]
   have:=h.ln k
   omega
 ·by_cases e:k=(a,b)
  ·rw[e,cW]
   intro n hn
   rcases List.mem_append.mp hn with z |z
   ·exact h.nt _ n z
   ·rw[List.mem_singleton.mp z];exact hd
  ·rw[b_ _ _ e]
   exact h.nt k
theorem Al.carry(h:Al hs m o Ω L P T N){v:Int}{n:D}{ns:List D}(q:aF L (prr a b)=some v)(hn:N (a,b)=n::ns){i j:Nat}(hi:aF T (a,b)=some i)(hj:aF P (a,b)=some j){Ω':List OS}(hc:ns=[]/\Ω'=((Ω.set i (.mls ns)).set j (.mls ns)).set (o+2) (oD (bf P (a,b)))\/ns≠[]/\Ω'=(Ω.set i (.mls ns)).set j (.mls ns)):∃P',(∀k i,aF P' k=some i->aF P k=some i)/\Al hs m o Ω' L P' T (jP N (a,b) ns):=by
 have gi:=h.ot.ge _ _ hi
 have gj:=h.op.ge _ _ hj
 have o5:=h.o5
 have l11:=h.l11
 have f2:o+2<6:=by omega
 have o1:=(h.ot.upd hi ns).other (j:=j) (fun k z=>h.dj k _ j z hj) (.mls ns)
 have o2:=(h.op.other (j:=i) (fun k z=>h.dj _ k i hi z) (.mls ns)).upd hj ns
 have s1:=(h.st.other (i:=i) (.inr (by omega)) (.mls ns)).other (i:=j) (.inr (by omega)) (.mls ns)
 have lnn:∀k,(jP N (a,b) ns k).length<=m:=fun k=>by
  by_cases e:k=(a,b)
  ·rw[e,cW]
   have:=h.ln (a,b)
   rw[hn] at this
   simp at this
   omega
  ·rw[b_ _ _ e];exact h.ln k
 have ntt:∀k,∀x∈jP N (a,b) ns k,Nt x:=fun k=>by
  by_cases e:k=(a,b)
  ·rw[e,cW]
   intro x hx
   exact h.nt (a,b) x (by rw[hn];exact List.mem_cons_of_mem _ hx)
  ·rw[b_ _ _ e];exact h.nt k
 have nzz:∀x y,aF L (prr x y)=none->jP N (a,b) ns (x,y)=[]:=fun x y z=>by
  by_cases e:(x,y)=(a,b)
  ·cases e;rw[q] at z;cases z
  ·rw[b_ _ _ e];exact h.nz x y z
 rcases hc with⟨hc,rfl⟩ |⟨hc,rfl⟩
 ·refine⟨bf P (a,b),fun k i q=>?_,s1.set2 _,h.o5,by simp;omega,h.nd,h.lt,h.ms,h.sm,o1.fix f2 _,(o2.fix f2 _).cut _,fun k i q=>?_,fun k q=>?_,nzz,fun k k' i' h1 h2=>?_,lnn,ntt⟩
  ·rw[cU] at q
   split at q
   ·cases q
   ·exact q
  ·rw[cU] at q
   split at q
   ·cases q
   ·rename_i e
    rw[b_ _ _ e];exact h.pn k i q
  ·by_cases e:k=(a,b)
   ·rw[e,cW];exact hc
   ·rw[b_ _ _ e]
    rw[cU,if_neg e] at q
    exact h.pe k q
  ·rw[cU] at h2
   split at h2
   ·cases h2
   ·exact h.dj k k' i' h1 h2
 ·refine⟨P,fun _ _ q=>q,s1,h.o5,by simp;omega,h.nd,h.lt,h.ms,h.sm,o1,o2,fun k i q=>?_,fun k q=>?_,nzz,h.dj,lnn,ntt⟩
  ·by_cases e:k=(a,b)
   ·rw[e,cW];exact hc
   ·rw[b_ _ _ e];exact h.pn k i q
  ·by_cases e:k=(a,b)
   ·rw[e,hj] at q;cases q
   ·rw[b_ _ _ e];exact h.pe k q
end
end Law
namespace Law
open PySem DL
section
variable {hs:List Int} {m o:Nat} {Ω:List OS} {L:TyL} {P T:TyO} {N:TyN} {a b l:Int} {d:D}
theorem wL:∀{ns:List D},(∀n∈ns,Nt n)->plL ns=true/\dM ns<=2
 | [],_=>⟨rfl,by simp[dM]⟩
 | n::ns,h=>by
  obtain⟨i1,i2⟩:=wL fun x hx=>h x (List.mem_cons_of_mem _ hx)
  obtain⟨j1,j2⟩:=(h n List.mem_cons_self).pl
  refine⟨by simp[plL,i1,j1],?_⟩
  rw[dM]
  omega
theorem Fo(neg:Bool){ns:List D}(h:∀n∈ns,Nt n):eqD neg (.lst ns) (.lst [])=some (.bl (if neg then !decide (ns=[]) else decide (ns=[]))):=by
 obtain⟨i1,i2⟩:=wL h
 cases ns with
 | nil =>
  rw[jF neg (p:=.lst []) rfl (by simp[dep,dM])]
  cases neg<;>rfl
 | cons n ns =>
  rw[Aj neg (p:=.lst (n::ns)) (q:=.lst []) (by rw[DL.pl];exact i1) rfl (by rw[dep];omega) (by simp[dep,dM]) (by simp)]
  cases neg<;>simp
noncomputable def Rs(r:D):Prop:=(∃x,r=.str x/\(PyData.str x).canLay0=true)\/∃ds,r=.lst ds/\plL ds=true/\dM ds<=50/\ds.length<=1000
theorem wM{x:Str}(h:(PyData.str x).canLay0=true):Rs (.str x):=.inl ⟨x,rfl,h⟩
theorem wN:Rs (.lst [.non]):=.inr ⟨_,rfl,rfl,by simp[dM,dep],by simp⟩
theorem Ie{Ω Ω':List OS}{T:TyO}{N:TyN}{j:Nat}{x:OS}{p:Prop}(h:Ob Ω T N)(hj:j<6)(c:Ω'=Ω/\p\/Ω'=Ω.set j x):Ob Ω' T N:=by
 rcases c with⟨rfl,_⟩ |rfl
 ·exact h
 ·exact h.fix hj _
theorem Ig{S:Nat->Prop}{Ω0 Ω Ω':List OS}{j:Nat}{x:OS}{p:Prop}(h:Fr S Ω0 Ω)(hj:S j)(c:Ω'=Ω/\p\/Ω'=Ω.set j x):Fr S Ω0 Ω':=by
 rcases c with⟨rfl,_⟩ |rfl
 ·exact h
 ·exact h.set hj _
theorem Qa{k k':Int×Int}{n:Nat}{i:Nat}(u:Us P (aR (aR T k n) k' (n+1)) i):Us P T i\/n<=i:=by
 obtain⟨x,q |q⟩:=u
 ·exact .inl ⟨x,.inl q⟩
 ·rw[cj] at q
  split at q
  ·cases q;exact .inr (Nat.le_succ _)
  ·rw[cj] at q
   split at q
   ·cases q;exact .inr (Nat.le_refl _)
   ·exact .inl ⟨x,.inr q⟩
theorem Qc{i:Nat}(u:Us (bf (bf P (a,b)) (b,a)) (bf (bf T (a,b)) (b,a)) i):Us P T i:=by
 obtain⟨x,q |q⟩:=u
 ·exact⟨x,.inl (mL q).1⟩
 ·exact⟨x,.inr (mL q).1⟩
theorem R_{k:Int×Int}{n i:Nat}(u:Us (aR P k n) T i):Us P T i\/n<=i:=by
 obtain⟨x,q |q⟩:=u
 ·rw[cj] at q
  split at q
  ·cases q;exact .inr (Nat.le_refl _)
  ·exact .inl ⟨x,.inl q⟩
 ·exact .inl ⟨x,.inr q⟩
theorem deed(h:Al hs m o Ω L P T N)(h6:hs.length<=6)(hr:∀n∈hs,0<=n/\n<32)(hm:m<900){w:Str}(hw:Wy w)(hc:w = "come" -> ∃l,d=.int l)(hd:Nt d)(ha:a∈hs)(hb:b∈hs):∃r L' P' T' Ωm Ω' N',Rs r/\Al hs (m+1) o Ω' L' P' T' N'/\Fr (Sw o P T Ω.length) Ω Ω'/\(∀i,Us P' T' i->Us P T i\/Ω.length<=i) /\
  cF [.str w,.obj (o+3),.obj (o+4),.int a,.int b,d] Ω=some (r,Ωm)/\cT [.str w,.obj o,.int a,.int b,d] Ωm=some (r,Ω'):=by
 have sa:bH a:=Dv (by have:=hr a ha;omega) (by have:=hr a ha;omega)
 have sb:bH b:=Dv (by have:=hr b hb;omega) (by have:=hr b hb;omega)
 have lL:=h.lenL h6
 have lT:=h.lenT h6
 have lP:=h.lenP h6
 have h1:=h.mono (Nat.le_succ m)
 have o5:=h.o5
 have l11:=h.l11
 have F0:=Fr.refl (Sw o P T Ω.length) Ω
 have U0:∀i,Us P T i->Us P T i\/Ω.length<=i:=fun i u=>.inl u
 rcases hw with rfl |hw
 ·by_cases ne:a=b
  ·subst ne
   exact⟨_,L,P,T,Ω,_,N,wM (by decide +kernel),h1.app _,F0.app _,U0,KC _,RP h.st sa⟩
  ·cases q:aF L (prr a b) with
   | some v =>
    obtain⟨i,hi⟩:=h.tied q
    exact⟨_,L,P,T,Ω,_,N,wM (by decide +kernel),h1.app _,F0.app _,U0,KD h.st ne hi,RQ h.st ne q sa sb⟩
   | none =>
    obtain⟨l,rfl⟩:=hc rfl
    obtain⟨Ω5,e5,s5,e6⟩:=vC h.st (l:=l) ne (h.free q) (by omega) (by omega)
    refine⟨_,_,P,_,Ω5,_,N,wN,h1.come ha hb ne q l e5 s5,?_,fun i u=>Qa u,e6,RM s5 (DG s5 ne q (by omega))⟩
    rw[e5]
    exact(((((F0.set (jQ ⟨by omega,by omega⟩) _).app _).set (jQ ⟨by omega,by omega⟩) _).app _).set (jQ ⟨by omega,by omega⟩) _).set (jQ ⟨by omega,by omega⟩) _
 ·cases q:aF L (prr a b) with
  | none=>exact⟨_,L,P,T,Ω,_,N,wM (by decide +kernel),h1.app _,F0.app _,U0,PJ h.st hw (h.free q),w_not h.st hw q sa sb⟩
  | some v =>
   obtain⟨i,hi⟩:=h.tied q
   have hRi:=h.ot.at' _ _ hi
   have hln:=h.ln (a,b)
   have gi:=h.ot.ge _ _ hi
   rcases hw with rfl |rfl |rfl |rfl |rfl
   ·have ne:=h.ne (by rw[q];rfl:(aF L (prr a b)).isSome=true)
    obtain⟨j,hj⟩:=h.tied (x:=b) (y:=a) (by rw[rJ];exact q)
    have q3:aF (bf T (a,b)) (b,a)=some j:=by rw[cU,if_neg (Tw ne),hj]
    obtain⟨Ω1,e1,s1,d1⟩:=KH (d:=d) h.st q hi q3
    obtain⟨Ω2,Ω3,c2,c3,d2⟩:=PL s1 q
    have s3:=((s1.set1 _).mL c2).mL c3
    have f1:o+1<6:=by omega
    have f2:o+2<6:=by omega
    have f3:o+3<6:=by omega
    have f4:o+4<6:=by omega
    have F1:Fr (Sw o P T Ω.length) Ω Ω1:=by
     rw[e1]
     exact((F0.set (jQ ⟨by omega,by omega⟩) _).set (jQ ⟨by omega,by omega⟩) _).set (jQ ⟨by omega,by omega⟩) _
    have F3:=Ig (Ig (F1.set (j:=o+1) (jQ ⟨by omega,by omega⟩) _) (j:=o+2) (jQ ⟨by omega,by omega⟩) c2) (j:=o+2) (jQ ⟨by omega,by omega⟩) c3
    have ob:∀{X:TyO},Ob Ω X N->Ob Ω3 X N:=fun {X} k=>by
     have k1:Ob Ω1 X N:=by
      rw[e1]
      exact((k.fix f3 _).fix f4 _).fix f4 _
     exact Ie (Ie (k1.fix f1 _) f2 c2) f2 c3
    exact⟨_,_,_,_,Ω1,Ω3,_,wN,h1.fall a b s3 (Nat.le_trans l11 F3.ln) (ob h.ot) (ob h.op),F3,fun i u=>.inl (Qc u),d1,RN s1 d2⟩
   ·have sm:=h.st.other (i:=i) (.inr (by omega)) (.mls (N (a,b)++[d]))
    have Fm:=F0.set (RV hi) (.mls (N (a,b)++[d]))
    cases hj:aF P (a,b) with
    | some j =>
     have ij:j≠i:=fun z=>h.dj _ _ i hi (by rw[<-z];exact hj)
     have hRj:(Ω.set i (.mls (N (a,b)++[d])))[j]? = some (.mls (N (a,b))):=by rw[List.getElem?_set_ne (Ne.symm ij)];exact h.op.at' _ _ hj
     exact⟨_,L,P,T,_,_,_,wN,h.sendOld hd q hi hj,(Fm.app _).set (Lb hj) _,U0,By h.st hi hRi (by omega),Ib sm (KJ sm hd q hj (by omega) hRj (by omega))⟩
    | none =>
     refine⟨_,L,_,T,_,_,_,wN,h.sendNew hd q hi hj,?_,fun i u=>?_,By h.st hi hRi (by omega),Ib sm (KN sm hd q hj (by omega))⟩
     ·exact((Fm.app _).set (jQ ⟨by omega,by omega⟩) _).set (.inr (.inr (by rw[List.length_set];exact Nat.le_refl _))) _
     ·have:=R_ u
      rw[List.length_set] at this
      exact this
   ·cases hN:N (a,b) with
    | nil =>
     rw[hN] at hRi
     have hj:aF P (a,b)=none:=by
      cases z:aF P (a,b) with
      | none=>rfl
      | some j=>exact absurd hN (h.pn _ _ z)
     exact⟨_,L,P,T,Ω,_,N,wM (by decide +kernel),h1.app _,F0.app _,U0,Fi h.st hi hRi,La h.st q hj sa sb⟩
    | cons n ns =>
     rw[hN] at hRi
     have nts:=h.nt (a,b)
     rw[hN] at nts
     obtain⟨j,hj⟩:∃j,aF P (a,b)=some j:=by
      cases z:aF P (a,b) with
      | none=>have:=h.pe _ z;rw[hN] at this;cases this
      | some j=>exact⟨j,rfl⟩
     have gj:=h.op.ge _ _ hj
     have ij:j≠i:=fun z=>h.dj _ _ i hi (by rw[<-z];exact hj)
     have hRj:(Ω.set i (.mls ns))[j]? = some (.mls (n::ns)):=by rw[List.getElem?_set_ne (Ne.symm ij),h.op.at' _ _ hj,hN]
     have sm:=h.st.other (i:=i) (.inr (by omega)) (.mls ns)
     have Fm:=F0.set (RV hi) (.mls ns)
     have q0:=Fo false nts
     have q1:=Fo false (ns:=ns) fun x hx=>nts x (List.mem_cons_of_mem _ hx)
     obtain⟨Ω',cc,e2⟩:=KQ sm q hj hRj (.inr (by omega)) q1
     obtain⟨P',hP',al⟩:=h1.carry q hN hi hj cc
     have np:=(nts n List.mem_cons_self).pl
     refine⟨_,L,P',T,_,Ω',_,.inr ⟨[n],rfl,by simp[plL,np.1],by rw[dM,dM];omega,by simp⟩,al,?_,fun i u=>?_,HR h.st hi hRi (by simpa using q0),PX sm e2⟩
     ·rcases cc with⟨_,rfl⟩ |⟨_,rfl⟩
      ·exact(Fm.set (Lb hj) _).set (jQ ⟨by omega,by omega⟩) _
      ·exact Fm.set (Lb hj) _
     ·obtain⟨x,z |z⟩:=u
      ·exact .inl ⟨x,.inl (hP' x i z)⟩
      ·exact .inl ⟨x,.inr z⟩
   ·exact⟨_,L,P,T,Ω,Ω,N,.inr ⟨_,rfl,rfl,by simp[dM,dep],by simp⟩,h1,F0,U0,Fj h.st q hi,K_ h.st q⟩
   ·have hp:(∃j,aF P (a,b)=some j/\Ω[j]? = some (.mls (N (a,b))))\/(aF P (a,b)=none/\N (a,b)=[]):=by
     cases z:aF P (a,b) with
     | none=>exact .inr ⟨rfl,h.pe _ z⟩
     | some j=>exact .inl ⟨j,rfl,h.op.at' _ _ z⟩
    obtain⟨p1,p2⟩:=wL (h.nt (a,b))
    exact⟨_,L,P,T,Ω,_,N,.inr ⟨[.lst (N (a,b))],rfl,by simp[plL,DL.pl,p1],by rw[dM,dM,dep];omega,by simp⟩,h1.app _,F0.app _,U0,HS h.st hi hRi,P_ h.st (KY h.st q (by omega) (h.nt _) hp)⟩
end
end Law
namespace Law
open PySem DL L2
noncomputable def kk(k:Int×Int):List Int:=[k.1,k.2]
noncomputable def kD(k:Int×Int):D:=.tup [.int k.1,.int k.2]
noncomputable def leQ(r q:Int×Int):Bool:=!HT.lexLt (kk q) (kk r)
noncomputable def yh(ks:List (Int×Int)):List (Int×Int):=ks.mergeSort leQ
theorem yW(ks:List (Int×Int)):(yh ks).Perm ks:=List.mergeSort_perm _ _
theorem Qd(ks:List (Int×Int)):(yh ks).Pairwise fun a b=>HT.lexLt (kk b) (kk a)=false:=by
 refine(List.pairwise_mergeSort (fun a b c h1 h2=>sS (kk a,.non) (kk b,.non) (kk c,.non) h1 h2) (fun a b=>sU (kk a,.non) (kk b,.non)) ks).imp fun {a b} h=>?_
 have h':(!HT.lexLt (kk b) (kk a))=true:=h
 simpa using h'
theorem Ih(a b:Int×Int)(h:kk a=kk b):a=b:=by
 unfold kk at h
 injection h with h1 h2
 injection h2 with h2
 exact Prod.ext h1 h2
theorem Fp{xs ys:List (Int×Int)}(hp:ys.Perm xs)(h:xs.length<64):wz (xs.map kk) (xs.map kD)=some (.lst ((yh ys).map kD)):=by
 unfold wz
 have one:wy (xs.map kk) (xs.map kD):=by
  unfold wy
  rw[List.zip_map']
  intro a ha b hb e
  obtain⟨x,hx,rfl⟩:=List.mem_map.mp ha
  obtain⟨y,hy,rfl⟩:=List.mem_map.mp hb
  rw[Ih x y e]
 rw[fu ⟨by simpa using h,by simp,one⟩,Py kk kD ((yW ys).trans hp) (Qd ys) fun a _ b _ e=>Ih a b e]
theorem yj:∀T:TyO,wG (mpA pK oV T)=some ((T.map (·.1)).map kk)
 | []=>rfl
 | r::T=>by
  show(zH (pK r.1)).bind (fun ns=>if ns=[] then none else(wG (mpA pK oV T)).bind fun nss=>some (ns::nss))=_
  rw[yj T]
  rfl
theorem BL(T:TyO):((mpA pK oV T).map fun x=>D.tup (x.1.map ofK))=(T.map (·.1)).map kD:=by
 unfold mpA
 rw[List.map_map,List.map_map]
 rfl
theorem DK:∀ks:List (Int×Int),rn (ks.map kD)=some (ks.map kk)
 | []=>rfl
 | r::ks=>by
  rw[List.map_cons,List.map_cons]
  unfold rn
  rw[DK ks]
  rfl
section
variable {hs:List Int} {m o:Nat} {Ω:List OS} {L M:TyL} {P T:TyO} {N:TyN} {a b l:Int}
theorem Cu(s:St o Ω L M P T)(h:P.length<64):eG [.obj o] Ω=some (.lst ((yh (P.map (·.1))).map kD),Ω):=by
 have es:=Fp (List.Perm.refl (P.map (·.1))) (by simpa using h)
 have ek:=yj P
 have et:=BL P
 refine bc rfl ?_
 show bw (mX _) _ _=_
 rw[jU]
 unfold mX
 simp[ek,et,es,s.h0,s.h2,-List.map_map]
theorem yX(s:St o Ω L M P T)(ob:Ob Ω T N)(nt:∀k,∀n∈N k,Nt n):∀(ks:List (Int×Int)) (x:Sl),(∀k∈ks,k∈T.map (·.1))->gB (bO 0) (gT (jO true (eQ (aj 1) (aj 0)) (bV aA))) (aj 0) (ks.map kD) [x,.dat (.obj (o+4))] Ω=some ((ks.filter fun k=>!decide (N k=[])).map kD,Ω)
 | [],x,_=>rfl
 | k::ks,x,h=>by
  have ih:=yX s ob nt ks (.dat (kD k)) fun q hq=>h q (List.mem_cons_of_mem _ hq)
  obtain⟨i,hi⟩:∃i,aF T k=some i:=by
   cases z:aF T k with
   | none=>exact absurd (h k List.mem_cons_self) (jr.mp z)
   | some i=>exact⟨i,rfl⟩
  have hR:=ob.at' k i hi
  have hi':aF T (k.1,k.2)=some i:=hi
  have e0:=Fo true (nt k)
  rw[if_pos rfl] at e0
  have eg:gT (jO true (eQ (aj 1) (aj 0)) (bV aA)) [.dat (kD k),.dat (.obj (o+4))] Ω=some (!decide (N k=[]),Ω):=by
   unfold kD
   simp[jO,hi',oV,hR,e0,s.h4]
  rw[List.map_cons,pM,List.filter_cons]
  have eb:bO 0 (kD k) [x,.dat (.obj (o+4))]=some [.dat (kD k),.dat (.obj (o+4))]:=rfl
  rw[eb]
  dsimp only
  rw[eg]
  by_cases hc:N k=[]
  ·simp only[hc,decide_true,Bool.not_true,Bool.false_eq_true,if_false]
   exact ih
  ·simp only[hc,decide_false,Bool.not_false,if_true,List.map_cons]
   simp[ih]
theorem Ii(h:Al hs m o Ω L P T N):(P.map (·.1)).Perm ((T.map (·.1)).filter fun k=>!decide (N k=[])):=by
 rw[List.perm_ext_iff_of_nodup h.op.nd (h.ot.nd.filter _)]
 intro k
 rw[List.mem_filter]
 constructor
 ·intro hk
  cases z:aF P k with
  | none=>exact absurd hk (jr.mp z)
  | some i=>exact⟨RX h hk,by simpa using h.pn k i z⟩
 ·intro⟨_,h2⟩
  cases z:aF P k with
  | none=>rw[h.pe k z] at h2;simp at h2
  | some i=>exact List.mem_map.mpr ⟨_,rG z,rfl⟩
noncomputable def Hs(ds:List D):Prop:=plL ds=true/\dM ds<=60/\ds.length<=1000
end
end Law
namespace Law
open PySem DL L2
theorem DN{n:Nat}{xs:List D}{Ω:List OS}(hn:Ω[n]? = some (.mls xs)):∀(ds:List D) (x:Sl) (ns:List D),gB (bO 0) cO (aW cg (ao (aj 0) aA)) ds [x] Ω=some (ns,Ω)->plL ds=true->jh n xs (bO 0) cO (aW cg (ao (aj 0) aA)) ds [x] Ω=some (ns,Ω)
 | [],x,ns,h,_=>by
  cases h
  show grd (Ω[n]? = some (.mls xs)) (some ([],Ω))=_
  rw[fu hn]
 | d::ds,x,ns,h,hp=>by
  rw[plL,Bool.and_eq_true] at hp
  obtain⟨k,hk⟩:=Bt hp.1 Ω
  obtain⟨ks,hl,e⟩:=nC Ω ds (.dat d) hp.2
  have ih:=DN hn ds (.dat d) _ e hp.2
  rw[pM] at h
  simp[hk,e] at h
  subst h
  unfold jh
  rw[fu hn]
  simp[hk,ih]
theorem yl{n i:Nat}{ds ns:List D}{Ω:List OS}{ρ:List Sl}(hn:Ω[n]? = some (.mls ds))(hi:ρ[i]? = some (.dat (.obj n)))(hl:ds.length<=1000)(hp:plL ds=true)(e:gB (bO 0) cO (aW cg (ao (aj 0) aA)) ds [.und] Ω=some (ns,Ω)):gq [none] (aj i) (bO 0) cO (aW cg (ao (aj 0) aA)) ρ Ω=some (.lst ns,Ω):=by
 have hb:ds.length<=big:=by have:big=100000:=rfl;omega
 have em:=DN hn ds .und ns e hp
 have ei:cI [none] ρ=[.und]:=rfl
 unfold gq
 rw[ei]
 simp only[oU,hi,Option.bind_some,qI,hn,iM,hb,if_true,em]
theorem Ij{n:Nat}{ds:List D}{Ω:List OS}(hs:Hs ds)(hn:Ω[n]? = some (.mls ds)):cJ [.obj n,.lst ds] Ω=some (.bl true,Ω):=by
 obtain⟨h,hd,hl⟩:=hs
 obtain⟨ns,hk,e⟩:=nC Ω ds .und h
 have e0:eqD true (.lst ds) (.lst ds)=some (.bl false):=jF true (by simpa [DL.pl] using h) (by simp only[dep];omega)
 have e1:eqD false (.lst (ns.map D.int)) (.lst (ns.map D.int))=some (.bl true):=by rw[xH];simp
 have g0:=yl (ρ:=[.dat (.obj n),.dat (.lst ds)]) (i:=0) hn rfl hl h e
 have hb:ds.length<=100000:=by omega
 have en:cI [none] [Sl.dat (.obj n),.dat (.lst ds)]=[.und]:=rfl
 have g1:gD [none] (iK (aj 1)) (bO 0) cO (aW cg (ao (aj 0) aA)) [.dat (.obj n),.dat (.lst ds)] Ω=some (.lst (ns.map D.int),Ω):=by
  rw[qp,show iK (aj 1) [.dat (.obj n),.dat (.lst ds)] Ω=some (ds,Ω) from rfl,en]
  dsimp only
  rw[if_pos hb,e]
 refine bc rfl ((aK (ρ':=[.dat (.obj n),.dat (.lst ds)]) (Ω':=Ω) (by simp[sY,uy,jO,hn,e0])).trans ?_)
 rw[jU,vW,g0]
 dsimp only
 rw[g1]
 dsimp only
 rw[e1]
theorem Qe{n k:Nat}{ds:List D}{Ω:List OS}(hs:Hs ds)(hn:Ω[n]? = some (.mls ds))(hk:Ω[k]? = some (.mls ds)):iw [.obj n,.obj k] Ω=some (.bl true,Ω):=by
 obtain⟨h,hd,hl⟩:=hs
 obtain⟨ns,hq,e⟩:=nC Ω ds .und h
 have e0:eqD true (.lst ds) (.lst ds)=some (.bl false):=jF true (by simpa [DL.pl] using h) (by simp only[dep];omega)
 have e1:eqD false (.lst (ns.map D.int)) (.lst (ns.map D.int))=some (.bl true):=by rw[xH];simp
 have g0:=yl (ρ:=[.dat (.obj n),.dat (.obj k)]) (i:=0) hn rfl hl h e
 have g1:=yl (ρ:=[.dat (.obj n),.dat (.obj k)]) (i:=1) hk rfl hl h e
 refine bc rfl ((aK (ρ':=[.dat (.obj n),.dat (.obj k)]) (Ω':=Ω) (by simp[sY,uy,zJ,hn,hk,e0])).trans ?_)
 rw[jU,vW,g0]
 dsimp only
 rw[g1]
 dsimp only
 rw[e1]
section
variable {hs:List Int} {m q:Nat} {Ω:List OS} {L M:TyL} {P T:TyO} {N:TyN} {a b:Int}
noncomputable def wtD(P:TyO):List D:=(yh (P.map (·.1))).map kD
theorem Mq(h:P.length<=36):Hs (wtD P):=by
 refine⟨Dw (fun r=>by simp[kD,DL.pl,plL]) _,?_,?_⟩
 ·have:=Bo (f:=kD) (fun r=>by simp[kD,dep,dM]) (yh (P.map (·.1)))
  unfold wtD
  omega
 ·unfold wtD
  rw[List.length_map,(yW _).length_eq,List.length_map];omega
theorem Ik(s:St 0 Ω L M P T)(h:P.length<64):cL [.obj 0] Ω=some (.obj Ω.length,Ω++[.mls (wtD P)]):=by
 have es:=Fp (List.Perm.refl (P.map (·.1))) (by simpa using h)
 have ek:=yj P
 have et:=BL P
 have h0:=s.h0
 have h2:=s.h2
 rw[Nat.zero_add] at h2
 refine bc rfl ?_
 show bw (uw (gLs (mX _))) _ _=_
 rw[jU]
 unfold uw gLs mX
 simp[ek,et,es,h0,h2,wtD,-List.map_map]
theorem Qf(s:St 0 Ω L M P T){v:Int}{ns:List D}(hn:aF L (prr a b)=some v)(hl:ns.length<1000)(hN:∀n∈ns,Nt n)(hi:(∃i,aF P (a,b)=some i/\Ω[i]? = some (.mls ns))\/(aF P (a,b)=none/\ns=[])):dz [.obj 0,.int a,.int b] Ω=some (.obj (Ω.length+1),Ω++[.mls []]++[.mls ns]):=by
 have hb:ns.length<=big:=by have:big=100000:=rfl;omega
 have s1:=s.app (.mls [])
 obtain⟨j,hj,hR⟩:∃j,((aF P (a,b)).map oV).getD (.obj Ω.length)=.obj j/\(Ω++[OS.mls []])[j]? = some (.mls ns):=by
  rcases hi with⟨i,h1,h2⟩ |⟨h1,h2⟩
  ·exact⟨i,by rw[h1];rfl,iW h2⟩
  ·exact⟨Ω.length,by rw[h1];rfl,by rw[h2];simp⟩
 have em:=tK hR ns .und hN
 have ei:cI [none] [Sl.dat (.obj 0),.dat (.int a),.dat (.int b)]=[.und]:=rfl
 have eg:oX (fG "Ties" "sent_on" (aj 0)) (bB (ao (aj 1) (ao (aj 2) aA))) (gV aA) [.dat (.obj 0),.dat (.int a),.dat (.int b)] Ω=some (.obj j,Ω++[.mls []]):=by
  have h0:=s.h0
  have h2:=s.h2
  have h2':=s1.h2
  rw[Nat.zero_add] at h2 h2'
  simp[hj,h0,h2,h2']
 refine bc rfl ?_
 refine(rH (ρ:=[.dat (.obj 0),.dat (.int a),.dat (.int b)]) (uH s rfl rfl rfl hn)).trans ?_
 rw[jU]
 unfold uw gLs gq
 rw[eg,ei]
 simp only[Option.bind_some,qI,hR,iM,hb,if_true,em]
 simp
noncomputable def RL(a b t:Int)(q:Nat)(x y:Sl):List Sl:=[.dat (.obj 0),.dat (.obj 4),.dat (.tup [.int a,.int b]),.dat (.int t),.dat (.obj q),x,y]
theorem Ld(h:Al hs m 0 Ω L P T N)(h6:hs.length<=6)(a b t:Int)(q:Nat)(x y:Sl):sX (gD [none,some 1] (iK (qu (aj 1))) (bO 0) (gT (jO true (eQ (aj 1) (aj 0)) (bV aA))) (aj 0)) (RL a b t q x y) Ω=some (.lst (wtD P),Ω):=by
 have lT:=h.lenT h6
 have c2:=yX h.st h.ot h.nt (T.map (·.1)) .und fun k hk=>hk
 rw[Nat.zero_add] at c2
 have wp:=Ii h
 have s2:=Fp wp (by
  have:=List.length_filter_le (fun k=>!decide (N k=[])) (T.map (·.1))
  rw[List.length_map] at this
  omega)
 have k2:=DK ((T.map (·.1)).filter fun k=>!decide (N k=[]))
 have o2:Em (oD T)=some ((T.map (·.1)).map kD):=by rw[<-BL T];rfl
 have h4:=h.st.h4
 rw[Nat.zero_add] at h4
 have g2:iK (qu (aj 1)) (RL a b t q x y) Ω=some ((T.map (·.1)).map kD,Ω):=by simp[RL,o2,h4]
 have i2:cI [none,some 1] (RL a b t q x y)=[.und,.dat (.obj 4)]:=rfl
 unfold sX
 rw[qp,g2,i2]
 dsimp only
 rw[if_pos (by simp;omega),c2]
 simp only[Option.bind_some,vm,k2,s2,wtD]
end
end Law
namespace Law
open PySem DL L2
theorem Fq{xs:List D}(x:Int)(n:Nat)(hn:xs.length=n)(h0:0<n):∃d∈xs,L2.atI xs (x%(n:Int))=some d:=by
 have i0:0<=x%(n:Int):=Int.emod_nonneg _ (by omega)
 have i1:x%(n:Int)<(n:Int):=Int.emod_lt_of_pos _ (by omega)
 have h:(x%(n:Int)).toNat<xs.length:=by omega
 exact⟨xs[(x%(n:Int)).toNat],List.getElem_mem h,Rr i0 h⟩
theorem Il(i:Int):Nt (.int i):=.inl trivial
theorem BP{xs:List D}(hl:xs.length<=10)(h:∀x∈xs,Nl x\/x=.tup []):Nt (.tup xs):=.inr ⟨xs,rfl,hl,h⟩
theorem Le(c:Int)(Ω:List OS):∃n,Nt n/\mK [.int c] Ω=some (n,Ω):=by
 obtain⟨k,hk⟩:∃k:Int,k=c / 6%1000:=⟨_,rfl⟩
 have ls:∀x:Str,(PyData.str x).canLay0=true->Nl (.str x):=fun x h=>h
 obtain⟨d,hd,e⟩:=Fq (xs:=[.tup [.str "news",.int (k%32),.int k],.tup [.str "way",.int (k%32),.int 1,.non,.tup []],.int k,.str "note",.non,.tup [.int k]]) c 6 rfl (by decide)
 refine⟨d,?_,bc rfl ?_⟩
 ·simp only[List.mem_cons,List.not_mem_nil,or_false] at hd
  rcases hd with rfl |rfl |rfl |rfl |rfl |rfl
  ·refine BP (by simp) fun x hx=>?_
   simp only[List.mem_cons,List.not_mem_nil,or_false] at hx
   rcases hx with rfl |rfl |rfl
   ·exact .inl (ls _ (by decide +kernel))
   ·exact .inl trivial
   ·exact .inl trivial
  ·refine BP (by simp) fun x hx=>?_
   simp only[List.mem_cons,List.not_mem_nil,or_false] at hx
   rcases hx with rfl |rfl |rfl |rfl |rfl
   ·exact .inl (ls _ (by decide +kernel))
   ·exact .inl trivial
   ·exact .inl trivial
   ·exact .inl trivial
   ·exact .inr rfl
  ·exact Il k
  ·exact .inl (ls _ (by decide +kernel))
  ·exact .inl trivial
  ·refine BP (by simp) fun x hx=>?_
   simp only[List.mem_cons,List.not_mem_nil,or_false] at hx
   rw[hx]
   exact .inl trivial
 ·have e':L2.atI [D.tup [.str "news",.int (k%32),.int k],.tup [.str "way",.int (k%32),.int 1,.non,.tup []],.int k,.str "note",.non,.tup [.int k]] (c%6)=some d:=e
  refine(aK (ρ':=[.dat (.int c),.dat (.int k),.und]) (Ω':=Ω) (by simp[hk])).trans ?_
  refine(aK (ρ':=[.dat (.int c),.dat (.int k),.dat (.lst [.tup [.str "news",.int (k%32),.int k],.tup [.str "way",.int (k%32),.int 1,.non,.tup []],.int k,.str "note",.non,.tup [.int k]])]) (Ω':=Ω) (by simp)).trans ?_
  simp[e']
noncomputable def wO:List D:=[.str "send",.str "send",.str "carry",.str "send",.str "carry",.str "fall",.str "come",.str "carry",.str "send",.str "carry",.str "send"]
theorem Qg(c:Int):∃w:Str,Wy w/\L2.atI wO (c%11)=some (.str w):=by
 obtain⟨d,hd,e⟩:=Fq (xs:=wO) c 11 rfl (by decide)
 have hs:Wy "send":=.inr (.inr (.inl rfl))
 have hc:Wy "carry":=.inr (.inr (.inr (.inl rfl)))
 simp only[wO,List.mem_cons,List.not_mem_nil,or_false] at hd
 rcases hd with rfl |rfl |rfl |rfl |rfl |rfl |rfl |rfl |rfl |rfl |rfl
 ·exact⟨_,hs,e⟩
 ·exact⟨_,hs,e⟩
 ·exact⟨_,hc,e⟩
 ·exact⟨_,hs,e⟩
 ·exact⟨_,hc,e⟩
 ·exact⟨_,.inr (.inl rfl),e⟩
 ·exact⟨_,.inl rfl,e⟩
 ·exact⟨_,hc,e⟩
 ·exact⟨_,hs,e⟩
 ·exact⟨_,hc,e⟩
 ·exact⟨_,hs,e⟩
end Law
namespace Law
open PySem DL L2
section
variable {hs:List Int} {m q:Nat} {Ω:List OS} {L:TyL} {P T:TyO} {N:TyN} {a b t:Int} {es:List D}
noncomputable def Sq(q:Nat):Nat->Prop:=fun j=>j=q
noncomputable def Nw(lo:Nat)(Ω:List OS)(es:List D):Prop:=∀e∈es,∃n ds,e=.tup [.obj n,.lst ds]/\Hs ds/\Ω[n]? = some (.mls ds)/\lo<=n
theorem Al.keepq{Ω':List OS}(h:Al hs m 0 Ω L P T N)(f:Fr (Sq q) Ω Ω')(q5:5<=q)(nu:¬Us P T q):Al hs m 0 Ω' L P T N:=h.frame f (fun j h1 h2 z=>by have:j=q:=z;omega) (fun i u z=>nu (by rw[<-(z:i=q)];exact u))
noncomputable def lk1:aQ:=sIf (gT (gOp (eqD false) (aj 3) (gC (.int 0)))) (aH (bK 6 (bT "Ties" "waiting" cL [] (aj 0) aA)) (aH (sIf (gA (gT (aW cJ (ao (aj 6) (ao (aj 5) aA))))) (bw (gC (.bl false))) aP) (gW (aj 4) (bB (ao (aj 6) (ao (gCB oK (ao (aj 5) aA)) aA)))))) aP
noncomputable def lk2:aQ:=sIf (gT (jc false (aj 2) (aj 1))) (aH (bK 6 (bT "Ties" "notes" dz [] (aj 0) (ao (gOp ixD (aj 2) (gC (.int 0))) (ao (gOp ixD (aj 2) (gC (.int 1))) aA)))) (aH (sIf (gA (gT (aW iw (ao (aj 6) (ao (eQ (aj 1) (aj 2)) aA))))) (bw (gC (.bl false))) aP) (gW (aj 4) (bB (ao (aj 6) (ao (mY (eQ (aj 1) (aj 2))) aA)))))) aP
theorem Qh(h:Al hs m 0 Ω L P T N)(h6:hs.length<=6)(hq:Ω[q]? = some (.mls es))(hl:es.length<10000)(a b t:Int)(y:Sl):∃y' Ω' new,Fr (Sq q) Ω Ω'/\Ω'[q]? = some (.mls (es++new))/\new.length<=1/\Nw Ω.length Ω' new/\lk1 (RL a b t q (.dat (.lst (wtD P))) y) Ω=some (.nx (RL a b t q (.dat (.lst (wtD P))) y') Ω'):=by
 have lP:=h.lenP h6
 by_cases ht:t=0
 ·have hw:=Ik h.st (by omega)
  have hh:=Mq lP
  have hlq:=rM hq
  have hn:(Ω++[OS.mls (wtD P)])[Ω.length]? = some (.mls (wtD P)):=by simp
  have hq1:(Ω++[OS.mls (wtD P)])[q]? = some (.mls es):=iW hq
  have es1:=Ij hh hn
  have hb:es.length<big:=by have:big=100000:=rfl;omega
  refine⟨.dat (.obj Ω.length),(Ω++[OS.mls (wtD P)]).set q (.mls (es++[.tup [.obj Ω.length,.lst (wtD P)]])),[.tup [.obj Ω.length,.lst (wtD P)]],((Fr.refl (Sq q) Ω).app _).set (show Sq q q from rfl) _,nq hq1,by simp,fun e he=>⟨Ω.length,wtD P,List.mem_singleton.mp he,hh,cA hn (by omega),Nat.le_refl _⟩,?_⟩
  unfold lk1
  refine(uD (Ω1:=Ω) (by unfold RL;simp[ht])).trans ?_
  refine(aK (ρ':=RL a b t q (.dat (.lst (wtD P))) (.dat (.obj Ω.length))) (Ω':=Ω++[OS.mls (wtD P)]) ?_).trans ?_
  ·have h0:=h.st.h0
   unfold RL
   simp[hw,h0]
  ·refine(aK (ρ':=RL a b t q (.dat (.lst (wtD P))) (.dat (.obj Ω.length))) (Ω':=Ω++[OS.mls (wtD P)]) (by unfold RL;simp[es1])).trans ?_
   unfold gW RL
   simp[hq1,hb,oK]
 ·refine⟨y,Ω,[],Fr.refl _ _,by simpa using hq,by simp,fun e he=>(nomatch he),?_⟩
  unfold lk1
  refine(uC (Ω1:=Ω) (by unfold RL;simp[ht])).trans rfl
theorem Qi(h:Al hs m 0 Ω L P T N)(hm:m<900)(hq:Ω[q]? = some (.mls es))(hl:es.length<10000)(a b t:Int)(x y:Sl):∃y' Ω' new,Fr (Sq q) Ω Ω'/\Ω'[q]? = some (.mls (es++new))/\new.length<=1/\Nw Ω.length Ω' new/\lk2 (RL a b t q x y) Ω=some (.nx (RL a b t q x y') Ω'):=by
 have h4:Ω[4]? = some (oD T):=h.st.h4
 have h0:Ω[0]? = some (.ins "Ties" (tfo 0)):=h.st.h0
 cases hi:aF T (a,b) with
 | none =>
  refine⟨y,Ω,[],Fr.refl _ _,by simpa using hq,by simp,fun e he=>(nomatch he),?_⟩
  unfold lk2
  refine(uC (Ω1:=Ω) (by unfold RL;simp[h4,hi])).trans rfl
 | some i =>
  obtain⟨v,hv⟩:∃v,aF L (prr a b)=some v:=by
   have:=h.sm a b
   rw[hi] at this
   cases z:aF L (prr a b) with
   | none=>rw[z] at this;cases this
   | some v=>exact⟨v,rfl⟩
  have hp:(∃j,aF P (a,b)=some j/\Ω[j]? = some (.mls (N (a,b))))\/(aF P (a,b)=none/\N (a,b)=[]):=by
   cases z:aF P (a,b) with
   | none=>exact .inr ⟨rfl,h.pe _ z⟩
   | some j=>exact .inl ⟨j,rfl,h.op.at' _ _ z⟩
  have hln:=h.ln (a,b)
  have no:=Qf h.st hv (by omega) (h.nt (a,b)) hp
  obtain⟨p1,p2⟩:=wL (h.nt (a,b))
  have hh:Hs (N (a,b)):=⟨p1,by omega,by omega⟩
  have hlq:=rM hq
  obtain⟨Ω1,e1⟩:∃Ω1,Ω1=Ω++[OS.mls []]++[OS.mls (N (a,b))]:=⟨_,rfl⟩
  rw[<-e1] at no
  have up:∀{j:Nat} {z:OS},Ω[j]? = some z->Ω1[j]? = some z:=fun hz=>by rw[e1];exact iW (iW hz)
  have hn:Ω1[Ω.length+1]? = some (.mls (N (a,b))):=by rw[e1];simp
  have hq1:=up hq
  have h41:=up h4
  have hi1:=up (h.ot.at' _ _ hi)
  have es1:=Qe hh hn hi1
  have hb:es.length<big:=by have:big=100000:=rfl;omega
  have ed:∀y,eQ (aj 1) (aj 2) (RL a b t q x y) Ω1=some (.obj i,Ω1):=fun y=>by unfold RL;simp[h41,hi,oV]
  refine⟨.dat (.obj (Ω.length+1)),Ω1.set q (.mls (es++[.tup [.obj (Ω.length+1),.lst (N (a,b))]])),[.tup [.obj (Ω.length+1),.lst (N (a,b))]],?_,nq hq1,by simp,fun e he=>⟨Ω.length+1,N (a,b),List.mem_singleton.mp he,hh,cA hn (by omega),Nat.le_succ _⟩,?_⟩
  ·rw[e1]
   exact(((Fr.refl (Sq q) Ω).app _).app _).set (show Sq q q from rfl) _
  unfold lk2
  refine(uD (Ω1:=Ω) (by unfold RL;simp[h4,hi])).trans ?_
  refine(aK (ρ':=RL a b t q x (.dat (.obj (Ω.length+1)))) (Ω':=Ω1) ?_).trans ?_
  ·unfold RL
   simp[no,h0]
  ·refine(aK (ρ':=RL a b t q x (.dat (.obj (Ω.length+1)))) (Ω':=Ω1) ?_).trans ?_
   ·refine uC (nt (b:=true) ?_)
    refine RK (ds:=[.obj (Ω.length+1),.obj i]) ?_ es1
    rw[jB,show aj 6 (RL a b t q x (.dat (.obj (Ω.length+1)))) Ω1=some (.obj (Ω.length+1),Ω1) from rfl]
    dsimp only
    rw[jB,ed]
    rfl
   ·have el:mY (eQ (aj 1) (aj 2)) (RL a b t q x (.dat (.obj (Ω.length+1)))) Ω1=some (.lst (N (a,b)),Ω1):=by
     unfold mY
     rw[ed]
     simp[hi1]
    have et:bB (ao (aj 6) (ao (mY (eQ (aj 1) (aj 2))) aA)) (RL a b t q x (.dat (.obj (Ω.length+1)))) Ω1=some (.tup [.obj (Ω.length+1),.lst (N (a,b))],Ω1):=by
     rw[GK,jB,show aj 6 (RL a b t q x (.dat (.obj (Ω.length+1)))) Ω1=some (.obj (Ω.length+1),Ω1) from rfl]
     dsimp only
     rw[jB,el]
     rfl
    unfold gW
    rw[show aj 4 (RL a b t q x (.dat (.obj (Ω.length+1)))) Ω1=some (.obj q,Ω1) from rfl]
    simp only[Option.bind_some,qI,hq1,HN,et,hb,if_true]
theorem Nw.keep{Ω':List OS}{lo:Nat}(h:Nw lo Ω es)(f:Fr (Sq q) Ω Ω')(hl:q<lo):Nw lo Ω' es:=fun e he=>by
 obtain⟨n,ds,h1,h2,h3,h4⟩:=h e he
 exact⟨n,ds,h1,h2,f.at' n _ (fun z=>by have:n=q:=z;omega) h3,h4⟩
theorem Nw.mono{lo lo':Nat}(h:Nw lo Ω es)(hl:lo'<=lo):Nw lo' Ω es:=fun e he=>by
 obtain⟨n,ds,h1,h2,h3,h4⟩:=h e he
 exact⟨n,ds,h1,h2,h3,Nat.le_trans hl h4⟩
theorem wQ(h:Al hs m 0 Ω L P T N)(h6:hs.length<=6)(hm:m<900)(hq:Ω[q]? = some (.mls es))(hl:es.length<9000)(q5:5<=q)(nu:¬Us P T q)(a b t:Int):∃Ω' new,Fr (Sq q) Ω Ω'/\Ω'[q]? = some (.mls (es++new))/\new.length<=2/\Nw Ω.length Ω' new/\iR [.obj 0,.obj 4,.tup [.int a,.int b],.int t,.obj q] Ω=some (.bl true,Ω'):=by
 have dw:=Ld h h6 a b t q .und .und
 have hlq:=rM hq
 obtain⟨y1,Ω1,n1,f1,q1,l1,w1,e1⟩:=Qh h h6 hq (by omega) a b t .und
 have h1:=h.keepq f1 q5 nu
 obtain⟨y2,Ω2,n2,f2,q2,l2,w2,e2⟩:=Qi h1 hm q1 (by simp;omega) a b t (.dat (.lst (wtD P))) y1
 have h2:=h1.keepq f2 q5 nu
 have lP:=h.lenP h6
 have wd:=Cu h2.st (by omega)
 have hh:=Mq lP
 have sd:=Bu hh.1 hh.2.1 hh.2.2 Ω2
 have h0:Ω2[0]? = some (.ins "Ties" (tfo 0)):=h2.st.h0
 refine⟨Ω2,n1++n2,f1.trans f2,by rw[q2,List.append_assoc],by simp;omega,fun e he=>?_,bc rfl ?_⟩
 ·rcases List.mem_append.mp he with z |z
  ·exact(w1.keep f2 hlq) e z
  ·exact(w2.mono f1.ln) e z
 refine(aK (ρ':=RL a b t q (.dat (.lst (wtD P))) .und) (Ω':=Ω) ?_).trans ((aK e1).trans ((aK e2).trans ?_))
 ·rw[vX]
  show(match sX _ (RL a b t q .und .und) Ω with |some (d,Ω1)=>_ |none=>_)=_
  rw[dw]
  rfl
 ·have wd':eG [.obj 0] Ω2=some (.lst (wtD P),Ω2):=wd
  unfold RL
  simp[wd',h0,sd]
end
end Law
namespace Law
open PySem DL L2
noncomputable def psL(u:Int):List (Int×Int):=[(u,u+1),(u,u+2),(u+1,u),(u+1,u+2),(u+2,u),(u+2,u+1)]
noncomputable def hsL(u:Int):List Int:=[u,u+1,u+2]
theorem Tz{u:Int}{k:Int×Int}(h:k∈psL u):k.1∈hsL u/\k.2∈hsL u:=by
 unfold psL at h
 unfold hsL
 simp only[List.mem_cons,List.not_mem_nil,or_false] at h
 rcases h with rfl |rfl |rfl |rfl |rfl |rfl<;>simp
theorem TJ{u:Int}(h0:0<=u)(h1:u<30):∀n∈hsL u,0<=n/\n<32:=by
 intro n hn
 unfold hsL at hn
 simp only[List.mem_cons,List.not_mem_nil,or_false] at hn
 omega
theorem Mr(u x:Int):∃k∈psL u,L2.atI ((psL u).map kD) (x%6)=some (kD k):=by
 obtain⟨d,hd,e⟩:=Fq (xs:=(psL u).map kD) x 6 rfl (by decide)
 obtain⟨k,hk,rfl⟩:=List.mem_map.mp hd
 exact⟨k,hk,e⟩
noncomputable def RT(x0 x1 x2 x3:Sl)(u c:Int)(x9 x11 x12 x13 x14:Sl):List Sl:=[x0,x1,x2,x3,.dat (.lst ((psL u).map kD)),.dat (.obj 0),.dat (.obj 3),.dat (.obj 4),.dat (.obj 5),x9,.dat (.int c),x11,x12,x13,x14]
noncomputable def u1:aQ:=bK 11 (gOp ixD (bV (ao (gC (.str "send")) (ao (gC (.str "send")) (ao (gC (.str "carry")) (ao (gC (.str "send")) (ao (gC (.str "carry")) (ao (gC (.str "fall")) (ao (gC (.str "come")) (ao (gC (.str "carry")) (ao (gC (.str "send")) (ao (gC (.str "carry")) (ao (gC (.str "send")) aA)))))))))))) (gOp dD (aj 10) (gC (.int 11))))
noncomputable def u2:aQ:=bK 9 (gOp ixD (aj 4) (gOp dD (gOp jb (aj 10) (gC (.int 11))) (gC (.int 6))))
noncomputable def u3:aQ:=bK 12 (aW mK (ao (gOp jb (aj 10) (gC (.int 66))) aA))
noncomputable def u4:aQ:=sIf (gT (gOp (eqD false) (aj 11) (gC (.str "come")))) (bK 12 (gOp fM (gC (.int 1)) (gOp dD (gOp jb (aj 10) (gC (.int 66))) (gC (.int 99))))) aP
noncomputable def u5:aQ:=bK 13 (aW cF (ao (aj 11) (ao (aj 6) (ao (aj 7) (ao (gOp ixD (aj 9) (gC (.int 0))) (ao (gOp ixD (aj 9) (gC (.int 1))) (ao (aj 12) aA)))))))
noncomputable def u6:aQ:=bK 14 (aW cT (ao (aj 11) (ao (aj 5) (ao (gOp ixD (aj 9) (gC (.int 0))) (ao (gOp ixD (aj 9) (gC (.int 1))) (ao (aj 12) aA))))))
noncomputable def u7:aQ:=sIf (gT (gUn (jf "str") (aj 13))) (sIf (gT (gOp (eqD true) (aj 14) (aj 13))) (bw (gC (.bl false))) aP) (sIf (gA (gT (aW jq (ao (aj 14) (ao (aj 13) aA))))) (bw (gC (.bl false))) aP)
noncomputable def u8:aQ:=sIf (gA (gT (aW iR (ao (aj 5) (ao (aj 7) (ao (gOp ixD (aj 4) (gOp dD (gOp jb (aj 10) (gC (.int 400))) (gC (.int 6)))) (ao (gOp dD (gOp jb (aj 10) (gC (.int 2400))) (gC (.int 2))) (ao (aj 8) aA)))))))) (bw (gC (.bl false))) aP
noncomputable def uB:aQ:=aH u1 (aH u2 (aH u3 (aH u4 (aH u5 (aH u6 (aH u7 u8))))))
noncomputable def Kp(hs:List Int)(m:Nat)(Ω:List OS):Prop:=∃L P T N es,Al hs m 0 Ω L P T N/\Ω[5]? = some (.mls es)/\(∀e∈es,∃n ds,e=.tup [.obj n,.lst ds]/\Hs ds/\Ω[n]? = some (.mls ds)/\6<=n/\¬Us P T n)/\es.length<=2*m
section
variable {hs:List Int} {m:Nat} {Ω:List OS} {u c:Int} {x0 x1 x2 x3:Sl}
theorem u34{w:Str}(hw:Wy w)(c:Int)(x9 x12 x13 x14:Sl)(t:aQ)(Ω:List OS):∃d,Nt d/\(w = "come" -> ∃l,d=.int l)/\aH u3 (aH u4 t) (RT x0 x1 x2 x3 u c x9 (.dat (.str w)) x12 x13 x14) Ω=t (RT x0 x1 x2 x3 u c x9 (.dat (.str w)) (.dat d) x13 x14) Ω:=by
 obtain⟨n,hn,en⟩:=Le (c / 66) Ω
 have s3:u3 (RT x0 x1 x2 x3 u c x9 (.dat (.str w)) x12 x13 x14) Ω=some (.nx (RT x0 x1 x2 x3 u c x9 (.dat (.str w)) (.dat n) x13 x14) Ω):=by
  unfold u3 RT
  simp[en]
 rcases hw with rfl |hw
 ·refine⟨.int (1+c / 66%99),Il _,fun _=>⟨_,rfl⟩,(aK s3).trans (aK ?_)⟩
  unfold u4 RT
  simp
 ·refine⟨n,hn,fun z=>?_,(aK s3).trans (aK ?_)⟩
  ·rcases hw with rfl |rfl |rfl |rfl |rfl<;>exact absurd z (by decide +kernel)
  ·have q:=tG hw false
   unfold u4 RT
   simp[q]
theorem Sd{r:D}(h:Rs r)(x9 x11 x12:Sl)(Ω:List OS):u7 (RT x0 x1 x2 x3 u c x9 x11 x12 (.dat r) (.dat r)) Ω=some (.nx (RT x0 x1 x2 x3 u c x9 x11 x12 (.dat r) (.dat r)) Ω):=by
 rcases h with⟨x,rfl,hx⟩ |⟨ds,rfl,h1,h2,h3⟩
 ·have q:=eqS true hx hx
  rw[if_pos rfl] at q
  unfold u7 RT
  simp[jf,tyD,q]
 ·have q:=Bu h1 (by omega) h3 Ω
  unfold u7 RT
  simp[jf,tyD,q]
theorem Lf(hw:Kp (hsL u) m Ω)(hm:m<200)(h0:0<=u)(h1:u<30)(c:Int)(x9 x11 x12 x13 x14:Sl):∃y9 y11 y12 y13 y14 Ω',Kp (hsL u) (m+1) Ω'/\uB (RT x0 x1 x2 x3 u c x9 x11 x12 x13 x14) Ω=some (.nx (RT x0 x1 x2 x3 u c y9 y11 y12 y13 y14) Ω'):=by
 obtain⟨L,P,T,N,es,A,hh,hd,hl⟩:=hw
 obtain⟨w,hw,ew⟩:=Qg c
 obtain⟨k,hk,ek⟩:=Mr u (c / 11)
 obtain⟨k2,hk2,ek2⟩:=Mr u (c / 400)
 obtain⟨ma,mb⟩:=Tz hk
 have bd:=TJ h0 h1
 have h6:(hsL u).length<=6:=by simp[hsL]
 have s1:u1 (RT x0 x1 x2 x3 u c x9 x11 x12 x13 x14) Ω=some (.nx (RT x0 x1 x2 x3 u c x9 (.dat (.str w)) x12 x13 x14) Ω):=by
  unfold wO at ew
  unfold u1 RT
  simp[ew]
 have s2:u2 (RT x0 x1 x2 x3 u c x9 (.dat (.str w)) x12 x13 x14) Ω=some (.nx (RT x0 x1 x2 x3 u c (.dat (kD k)) (.dat (.str w)) x12 x13 x14) Ω):=by
  unfold u2 RT
  generalize (psL u).map kD=ps at *
  simp[ek]
 obtain⟨d,nd,hc,s34⟩:=u34 (x0:=x0) (x1:=x1) (x2:=x2) (x3:=x3) (u:=u) hw c (.dat (kD k)) x12 x13 x14 (aH u5 (aH u6 (aH u7 u8))) Ω
 obtain⟨r,L',P',T',Ωm,Ω',N',g1,g2,g3,g4,g5,g6⟩:=deed A h6 bd (by omega) hw hc nd ma mb
 have n5:¬Sw 0 P T Ω.length 5:=fun s=>by
  rcases s with s |s |s
  ·omega
  ·have:=(A.us_lt s).1
   omega
  ·have:=A.l11
   omega
 have hh':=g3.at' 5 _ n5 hh
 have nu5:¬Us P' T' 5:=fun s=>by
  have:=(g2.us_lt s).1
  omega
 have hd':∀e∈es,∃n ds,e=.tup [.obj n,.lst ds]/\Hs ds/\Ω'[n]? = some (.mls ds)/\6<=n/\¬Us P' T' n:=fun e he=>by
  obtain⟨n,ds,e1,e2,e3,e4,e5⟩:=hd e he
  have ln:=rM e3
  refine⟨n,ds,e1,e2,g3.at' n _ (fun s=>?_) e3,e4,fun s=>?_⟩
  ·rcases s with s |s |s
   ·omega
   ·exact e5 s
   ·omega
  ·rcases g4 n s with s |s
   ·exact e5 s
   ·omega
 have s5:u5 (RT x0 x1 x2 x3 u c (.dat (kD k)) (.dat (.str w)) (.dat d) x13 x14) Ω=some (.nx (RT x0 x1 x2 x3 u c (.dat (kD k)) (.dat (.str w)) (.dat d) (.dat r) x14) Ωm):=by
  have g5':cF [.str w,.obj 3,.obj 4,.int k.1,.int k.2,d] Ω=some (r,Ωm):=g5
  unfold u5 RT kD
  simp[g5']
 have s6:u6 (RT x0 x1 x2 x3 u c (.dat (kD k)) (.dat (.str w)) (.dat d) (.dat r) x14) Ωm=some (.nx (RT x0 x1 x2 x3 u c (.dat (kD k)) (.dat (.str w)) (.dat d) (.dat r) (.dat r)) Ω'):=by
  unfold u6 RT kD
  simp[g6]
 have s7:=Sd (x0:=x0) (x1:=x1) (x2:=x2) (x3:=x3) (u:=u) (c:=c) g1 (.dat (kD k)) (.dat (.str w)) (.dat d) Ω'
 obtain⟨Ω2,new,f2,q2,l2,w2,e2⟩:=wQ g2 h6 (by omega) hh' (by omega) (Nat.le_refl 5) nu5 k2.1 k2.2 (c / 2400%2)
 have A2:=g2.keepq f2 (Nat.le_refl 5) nu5
 have s8:u8 (RT x0 x1 x2 x3 u c (.dat (kD k)) (.dat (.str w)) (.dat d) (.dat r) (.dat r)) Ω'=some (.nx (RT x0 x1 x2 x3 u c (.dat (kD k)) (.dat (.str w)) (.dat d) (.dat r) (.dat r)) Ω2):=by
  have ek2':L2.atI ((psL u).map kD) (c / 400%6)=some (.tup [.int k2.1,.int k2.2]):=ek2
  unfold u8 RT
  generalize (psL u).map kD=ps at *
  simp[ek2',e2]
 refine⟨_,_,_,_,_,Ω2,⟨L',P',T',N',es++new,A2,q2,fun e he=>?_,by simp;omega⟩,(aK s1).trans ((aK s2).trans (s34.trans ((aK s5).trans ((aK s6).trans ((aK s7).trans s8)))))⟩
 rcases List.mem_append.mp he with z |z
 ·obtain⟨n,ds,e1,e2,e3,e4,e5⟩:=hd' e z
  exact⟨n,ds,e1,e2,f2.at' n _ (fun s=>by have:n=5:=s;omega) e3,e4,e5⟩
 ·obtain⟨n,ds,e1,e2,e3,e4⟩:=w2 e z
  have:=g2.l11
  refine⟨n,ds,e1,e2,e3,by omega,fun s=>?_⟩
  have:=(g2.us_lt s).2
  omega
theorem turns(h0:0<=u)(h1:u<30)(x0 x1 x2 x3:Sl):∀(cs:List Int) (m:Nat) (Ω:List OS) (x9 x10 x11 x12 x13 x14:Sl),Kp (hsL u) m Ω->m+cs.length<200->∃y9 y10 y11 y12 y13 y14 Ω',Kp (hsL u) (m+cs.length) Ω' /\
  jm (bO 10) uB (cs.map D.int) [x0,x1,x2,x3,.dat (.lst ((psL u).map kD)),.dat (.obj 0),.dat (.obj 3),.dat (.obj 4),.dat (.obj 5),x9,x10,x11,x12,x13,x14] Ω=some (.nx [x0,x1,x2,x3,.dat (.lst ((psL u).map kD)),.dat (.obj 0),.dat (.obj 3),.dat (.obj 4),.dat (.obj 5),y9,y10,y11,y12,y13,y14] Ω')
 | [],m,Ω,x9,x10,x11,x12,x13,x14,h,_=>⟨x9,x10,x11,x12,x13,x14,Ω,h,rfl⟩
 | i::cs,m,Ω,x9,x10,x11,x12,x13,x14,h,hl=>by
  rw[List.length_cons] at hl
  obtain⟨y9,y11,y12,y13,y14,Ω',h',e⟩:=Lf (x0:=x0) (x1:=x1) (x2:=x2) (x3:=x3) h (by omega) h0 h1 i x9 x11 x12 x13 x14
  obtain⟨z9,z10,z11,z12,z13,z14,Ω2,h2,e2⟩:=turns h0 h1 x0 x1 x2 x3 cs (m+1) Ω' y9 (.dat (.int i)) y11 y12 y13 y14 h' (by omega)
  refine⟨z9,z10,z11,z12,z13,z14,Ω2,by rw[List.length_cons,show m+(cs.length+1)=m+1+cs.length by omega];exact h2,?_⟩
  have st:bO 10 (.int i) [x0,x1,x2,x3,.dat (.lst ((psL u).map kD)),.dat (.obj 0),.dat (.obj 3),.dat (.obj 4),.dat (.obj 5),x9,x10,x11,x12,x13,x14]=some (RT x0 x1 x2 x3 u i x9 x11 x12 x13 x14):=rfl
  rw[List.map_cons,km,st]
  dsimp only
  rw[e]
  exact e2
end
end Law
namespace Law
open PySem DL L2
section
variable {hs:List Int} {m:Nat} {Ω:List OS} {L:TyL} {P T:TyO} {N:TyN} {a b u:Int}
theorem Qj{Ω:List OS}(h:6<=Ω.length)(X A B C:OS):((((Ω.set 1 X).set 3 A++[OS.mls []]).set 4 B++[OS.mls []]).set 4 C)=((((Ω.set 3 A)++[OS.mls []]).set 4 B++[OS.mls []]).set 4 C).set 1 X:=by
 have h1:(Ω.set 3 A++[OS.mls []]).set 1 X=(Ω.set 1 X).set 3 A++[OS.mls []]:=by
  rw[List.set_append_left _ _ (by simp;omega),List.set_comm _ _ (by decide)]
 have h2:∀Z:List OS,6<=Z.length->((Z.set 4 B++[OS.mls []]).set 4 C).set 1 X=((Z.set 1 X).set 4 B++[OS.mls []]).set 4 C:=fun Z hz=>by
  rw[List.set_comm _ _ (by decide:(4:Nat)≠1),List.set_append_left 1 X (by simp;omega),List.set_comm _ _ (by decide:(4:Nat)≠1)]
 rw[h2 _ (by simp;omega),h1]
theorem Ft(h:Al hs m 0 Ω L P T N)(h6:hs.length<=6)(ha:a∈hs)(hb:b∈hs)(ne:a≠b)(q:aF L (prr a b)=none)(hh:Ω[5]? = some (.mls [])):∃Ω1 Ω' T',bY [.obj 0,.int b,.int a,.int 5] Ω=some (.non,Ω1)/\cF [.str "come",.obj 3,.obj 4,.int a,.int b,.int 5] Ω1=some (.lst [.non],Ω')/\Al hs m 0 Ω' (aR L (prr a b) 5) P T' N/\Ω'[5]? = some (.mls []):=by
 have lL:=h.lenL h6
 have lT:=h.lenT h6
 have l6:=h.l11
 have c:=DG h.st (l:=5) (a:=b) (b:=a) (Ne.symm ne) (by rw[rJ];exact q) (by omega)
 rw[rJ] at c
 have sp:=h.st.set1 (aR L (prr a b) 5)
 obtain⟨Ω5,e5,s5,_⟩:=vC h.st (l:=5) ne (h.free q) (by omega) (by omega)
 obtain⟨Ω6,e6,s6,d6⟩:=vC sp (l:=5) ne (h.free q) (by omega) (by omega)
 have al:=h.come ha hb ne q 5 e5 s5
 have e:Ω6=Ω5.set 1 (lD (aR L (prr a b) 5)):=by
  rw[e6,e5,List.length_set]
  exact Qj l6 _ _ _ _
 have al':Al hs m 0 Ω6 (aR L (prr a b) 5) P (aR (aR T (a,b) Ω.length) (b,a) (Ω.length+1)) N:=by rw[e];exact al
 refine⟨_,Ω6,_,c,d6,al',?_⟩
 have F:Fr (Sw 0 P T Ω.length) Ω Ω6:=by
  rw[e,e5]
  exact((((((Fr.refl _ _).set (jQ ⟨by omega,by omega⟩) _).app _).set (jQ ⟨by omega,by omega⟩) _).app _).set (jQ ⟨by omega,by omega⟩) _).set (jQ ⟨by omega,by omega⟩) _
 refine F.at' 5 _ (fun s=>?_) hh
 rcases s with s |s |s
 ·omega
 ·have:=(h.us_lt s).1
  omega
 ·omega
noncomputable def iB:aQ:=aH (cC (bT "Ties" "come" bY [] (aj 5) (ao (gOp ixD (aj 9) (gC (.int 1))) (ao (gOp ixD (aj 9) (gC (.int 0))) (ao (gC (.int 5)) aA))))) (cC (aW cF (ao (gC (.str "come")) (ao (aj 6) (ao (aj 7) (ao (gOp ixD (aj 9) (gC (.int 0))) (ao (gOp ixD (aj 9) (gC (.int 1))) (ao (gC (.int 5)) aA))))))))
noncomputable def RI(x0 x1 x2 x3 x4 x9:Sl):List Sl:=[x0,x1,x2,x3,x4,.dat (.obj 0),.dat (.obj 3),.dat (.obj 4),.dat (.obj 5),x9,.und,.und,.und,.und,.und]
theorem BR(h:Al hs m 0 Ω L P T N)(h6:hs.length<=6)(ha:a∈hs)(hb:b∈hs)(ne:a≠b)(q:aF L (prr a b)=none)(hh:Ω[5]? = some (.mls []))(x0 x1 x2 x3 x4:Sl):∃Ω' T',iB (RI x0 x1 x2 x3 x4 (.dat (kD (a,b)))) Ω=some (.nx (RI x0 x1 x2 x3 x4 (.dat (kD (a,b)))) Ω')/\Al hs m 0 Ω' (aR L (prr a b) 5) P T' N/\Ω'[5]? = some (.mls []):=by
 obtain⟨Ω1,Ω',T',c,d,al,h5⟩:=Ft h h6 ha hb ne q hh
 refine⟨Ω',T',?_,al,h5⟩
 have h0:Ω[0]? = some (.ins "Ties" (tfo 0)):=h.st.h0
 unfold iB
 refine(rH (d:=.non) (Ω1:=Ω1) ?_).trans ?_
 ·unfold RI kD
  simp[c,h0]
 ·unfold RI kD
  simp[d]
noncomputable def Ω0:List OS:=[.ins "Ties" (tfo 0),.dT [],.dT [],.dT [],.dT [],.mls []]
theorem Al.nil(hs:List Int):Al hs 0 0 Ω0 [] [] [] (fun _=>[]):=by
 have ob:Ob Ω0 [] (fun _=>[]):=⟨List.nodup_nil,fun k i q=>(by cases q),fun k k' i q=>(by cases q),fun k i q=>(by cases q)⟩
 have st:St 0 Ω0 [] [] [] []:=⟨rfl,rfl,rfl,rfl,rfl⟩
 exact⟨st,Nat.le_refl _,by decide,List.nodup_nil,fun r hr=>(nomatch hr),fun r hr=>(nomatch hr),fun x y=>rfl,ob,ob,fun k i q=>(by cases q),fun k _=>rfl,fun _ _ _=>rfl,fun k k' i q=>(by cases q),fun k=>Nat.le_refl _,fun k n hn=>(nomatch hn)⟩
theorem inits(u:Int)(x0 x1 x2 x3 x4:Sl):∃Ω',Kp (hsL u) 0 Ω'/\jm (bO 9) iB [kD (u,u+1),kD (u,u+2),kD (u+1,u+2)] (RI x0 x1 x2 x3 x4 .und) Ω0=some (.nx (RI x0 x1 x2 x3 x4 (.dat (kD (u+1,u+2)))) Ω'):=by
 have h6:(hsL u).length<=6:=by simp[hsL]
 have m0:u∈hsL u:=by simp[hsL]
 have m1:u+1∈hsL u:=by simp[hsL]
 have m2:u+2∈hsL u:=by simp[hsL]
 have np:∀a b c d:Int,¬(a=c/\b=d)->¬(a=d/\b=c)->prr a b≠prr c d:=fun a b c d z1 z2 z=>by
  rcases (lU a b c d).mp z with e |e
  ·exact z1 ⟨congrArg Prod.fst e,congrArg Prod.snd e⟩
  ·exact z2 ⟨congrArg Prod.fst e,congrArg Prod.snd e⟩
 obtain⟨Ω1,T1,e1,a1,k1⟩:=BR (Al.nil (hsL u)) h6 m0 m1 (by omega) rfl rfl x0 x1 x2 x3 x4
 obtain⟨Ω2,T2,e2,a2,k2⟩:=BR a1 h6 m0 m2 (by omega) (by rw[cj,if_neg (np _ _ _ _ (by omega) (by omega))];rfl) k1 x0 x1 x2 x3 x4
 obtain⟨Ω3,T3,e3,a3,k3⟩:=BR a2 h6 m1 m2 (by omega) (by rw[cj,if_neg (np _ _ _ _ (by omega) (by omega)),cj,if_neg (np _ _ _ _ (by omega) (by omega))];rfl) k2 x0 x1 x2 x3 x4
 have st:∀(d:D) (x:Sl),bO 9 d (RI x0 x1 x2 x3 x4 x)=some (RI x0 x1 x2 x3 x4 (.dat d)):=fun _ _=>rfl
 refine⟨Ω3,⟨_,_,_,_,[],a3,k3,fun e he=>(nomatch he),Nat.le_refl _⟩,?_⟩
 rw[km,st]
 dsimp only
 rw[e1]
 dsimp only
 rw[km,st]
 dsimp only
 rw[e2]
 dsimp only
 rw[km,st]
 dsimp only
 rw[e3]
 rfl
theorem wR{Ω:List OS}{xs:List D}(hn:Ω[5]? = some (.mls xs)):∀(es:List D) (x y:Sl),(∀e∈es,∃n ds,e=.tup [.obj n,.lst ds]/\Hs ds/\Ω[n]? = some (.mls ds))->jh 5 xs (lH [0,1]) cO (aW cJ (ao (aj 0) (ao (aj 1) aA))) es [x,y] Ω=some (es.map (fun _=>D.bl true),Ω)
 | [],x,y,_=>by
  show grd (Ω[5]? = some (.mls xs)) (some ([],Ω))=_
  rw[fu hn]
  rfl
 | e::es,x,y,h=>by
  obtain⟨n,ds,rfl,hds,hn2⟩:=h e List.mem_cons_self
  have ih:=wR hn es (.dat (.obj n)) (.dat (.lst ds)) fun q hq=>h q (List.mem_cons_of_mem _ hq)
  have es':=Ij hds hn2
  unfold jh
  rw[fu hn]
  have eb:lH [0,1] (.tup [.obj n,.lst ds]) [x,y]=some [.dat (.obj n),.dat (.lst ds)]:=rfl
  rw[eb]
  simp[es',ih]
noncomputable def Sh(es:List D):Nat->Prop:=fun j=>∃ds,D.tup [.obj j,.lst ds]∈es
theorem grow{xs:List D}(all:List D)(r0 r1 r2 r3 r4 r5 r6 r7 r8 r9 r10 r11 r12:Sl):∀(es:List D) (Ω:List OS) (y13 y14:Sl) (k:Nat),(∀e∈es,e∈all)->Ω[5]? = some (.mls xs)->(∀e∈es,∃n ds vs,e=.tup [.obj n,.lst ds]/\6<=n/\Ω[n]? = some (.mls vs)/\vs.length<=k)->k+es.length<50000->∃z13 z14 Ω',Fr (Sh all) Ω Ω' /\
  DL.forM (lH [14,13]) (gW (aj 14) (gC (.int 5))) 5 xs es [r0,r1,r2,r3,r4,r5,r6,r7,r8,r9,r10,r11,r12,y13,y14] Ω=some (.nx [r0,r1,r2,r3,r4,r5,r6,r7,r8,r9,r10,r11,r12,z13,z14] Ω')
 | [],Ω,y13,y14,k,_,hn,_,_=>⟨y13,y14,Ω,Fr.refl _ _,by
  show grd (Ω[5]? = some (.mls xs)) (some _)=_
  rw[fu hn]⟩
 | e::es,Ω,y13,y14,k,ha,hn,h,hl=>by
  rw[List.length_cons] at hl
  obtain⟨n,ds,vs,rfl,h6,hv,hk⟩:=h _ List.mem_cons_self
  have n5:n≠5:=by omega
  have hb:vs.length<big:=by have:big=100000:=rfl;omega
  obtain⟨z13,z14,Ω',f,e'⟩:=grow all r0 r1 r2 r3 r4 r5 r6 r7 r8 r9 r10 r11 r12 es (Ω.set n (.mls (vs++[.int 5]))) (.dat (.lst ds)) (.dat (.obj n)) (k+1) (fun e he=>ha e (List.mem_cons_of_mem _ he)) (cA hn n5) (fun e he=>by
   obtain⟨n',ds',vs',e1,e2,e3,e4⟩:=h e (List.mem_cons_of_mem _ he)
   by_cases z:n'=n
   ·subst z
    exact⟨n',ds',_,e1,e2,nq hv,by simp;omega⟩
   ·exact⟨n',ds',vs',e1,e2,cA e3 (Ne.symm z),by omega⟩) (by omega)
  refine⟨z13,z14,Ω',((Fr.refl _ _).set ⟨ds,ha _ List.mem_cons_self⟩ _).trans f,?_⟩
  unfold DL.forM
  rw[fu hn]
  have eb:lH [14,13] (.tup [.obj n,.lst ds]) [r0,r1,r2,r3,r4,r5,r6,r7,r8,r9,r10,r11,r12,y13,y14]=some [r0,r1,r2,r3,r4,r5,r6,r7,r8,r9,r10,r11,r12,.dat (.lst ds),.dat (.obj n)]:=rfl
  rw[eb]
  have ea:gW (aj 14) (gC (.int 5)) [r0,r1,r2,r3,r4,r5,r6,r7,r8,r9,r10,r11,r12,.dat (.lst ds),.dat (.obj n)] Ω=some (.nx [r0,r1,r2,r3,r4,r5,r6,r7,r8,r9,r10,r11,r12,.dat (.lst ds),.dat (.obj n)] (Ω.set n (.mls (vs++[.int 5])))):=by
   unfold gW
   simp[hv,hb]
  dsimp only
  rw[ea]
  exact e'
theorem TQ:fC [.obj 0] [.ins "Ties" []]=some (.non,[.ins "Ties" (tfo 0),.dT [],.dT []]):=by
 refine qK (ρ':=[.dat (.obj 0)]) rfl ?_
 simp[qU,tfo,t21,t12]
theorem Qk(u:Int)(Ω:List OS)(x:Sl):gB (bO 0) cO (bB (ao (gOp ixD (aj 1) (gOp jb (aj 0) (gC (.int 2)))) (ao (gOp ixD (aj 1) (gOp ixD (bV (ao (gC (.int 1)) (ao (gC (.int 2)) (ao (gC (.int 0)) (ao (gC (.int 2)) (ao (gC (.int 0)) (ao (gC (.int 1)) aA))))))) (aj 0))) aA))) ([0,1,2,3,4,5].map D.int) [x,.dat (.lst [.int u,.int (u+1),.int (u+2)])] Ω=some ((psL u).map kD,Ω):=rfl
end
end Law
namespace Law
open PySem DL L2
noncomputable def RZ(ns cs:List Int)(x2 x3 x4 x5 x6 x7 x8:Sl):List Sl:=[.dat (.scr ns),.dat (.lst (cs.map D.int)),x2,x3,x4,x5,x6,x7,x8,.und,.und,.und,.und,.und,.und]
theorem holds(ns:List Int)(hn:ns.length<=63):∃Ω,uz [.scr ns] []=some (.bl true,Ω):=by
 obtain⟨c0,hc0⟩:=Mf ns 0 []
 have hc0':cX [.scr ns,.int 0] []=some (.int c0,[]):=hc0
 obtain⟨m,hm,hm1,hm2⟩:∃m:Nat,(m:Int)=2+(if(ns.length:Int)<40 then(ns.length:Int) else 40)+c0%30/\2<=m/\m<=71:=by
  refine⟨(2+(if(ns.length:Int)<40 then(ns.length:Int) else 40)+c0%30).toNat,?_⟩
  split<;>omega
 obtain⟨xs,x1,x2,ex⟩:=HJ ns (m:=m) (by omega) []
 obtain⟨c,cs,rfl⟩:∃c cs,xs=c::cs:=by
  match xs,x1 with
  | [],x1=>simp at x1;omega
  | c::cs,_=>exact⟨c,cs,rfl⟩
 rw[List.length_cons] at x1
 obtain⟨u,hu⟩:∃u,u=c%30:=⟨_,rfl⟩
 have u0:0<=u:=by omega
 have u1:u<30:=by omega
 have ga:ao (aj 0) (ao (gOp fM (gOp fM (gC (.int 2)) (gCB jz (ao (gC (.int 40)) (ao (gCB pU (ao (aj 0) aA)) aA)))) (gOp dD (aW cX (ao (aj 0) (ao (gC (.int 0)) aA))) (gC (.int 30)))) aA) [.dat (.scr ns),.und,.und,.und,.und,.und,.und,.und,.und,.und,.und,.und,.und,.und,.und] []=some ([.scr ns,.int m],[]):=by
  rw[hm]
  simp[hc0']
 have e1:=Kw (i:=1) ga ex
 have e2:bK 2 (gOp dD (gOp ixD (aj 1) (gC (.int 0))) (gC (.int 30))) (RZ ns (c::cs) .und .und .und .und .und .und .und) []=some (.nx (RZ ns (c::cs) (.dat (.int u)) .und .und .und .und .und .und) []):=by
  unfold RZ
  simp[hu]
 have e3:bK 3 (bV (ao (aj 2) (ao (gOp fM (aj 2) (gC (.int 1))) (ao (gOp fM (aj 2) (gC (.int 2))) aA)))) (RZ ns (c::cs) (.dat (.int u)) .und .und .und .und .und .und) []=some (.nx (RZ ns (c::cs) (.dat (.int u)) (.dat (.lst [.int u,.int (u+1),.int (u+2)])) .und .und .und .und .und) []):=by
  unfold RZ
  simp
 have r6:oM [.int 6]=some ([0,1,2,3,4,5].map D.int):=by rw[LK (by decide) (by decide)];rfl
 have e4:bK 4 (gD [none,some 3] (mz oM (ao (gC (.int 6)) aA)) (bO 0) cO (bB (ao (gOp ixD (aj 1) (gOp jb (aj 0) (gC (.int 2)))) (ao (gOp ixD (aj 1) (gOp ixD (bV (ao (gC (.int 1)) (ao (gC (.int 2)) (ao (gC (.int 0)) (ao (gC (.int 2)) (ao (gC (.int 0)) (ao (gC (.int 1)) aA))))))) (aj 0))) aA)))) (RZ ns (c::cs) (.dat (.int u)) (.dat (.lst [.int u,.int (u+1),.int (u+2)])) .und .und .und .und .und) []=some (.nx (RZ ns (c::cs) (.dat (.int u)) (.dat (.lst [.int u,.int (u+1),.int (u+2)])) (.dat (.lst ((psL u).map kD))) .und .und .und .und) []):=by
  have gr:mz oM (ao (gC (.int 6)) aA) (RZ ns (c::cs) (.dat (.int u)) (.dat (.lst [.int u,.int (u+1),.int (u+2)])) .und .und .und .und .und) []=some ([0,1,2,3,4,5].map D.int,[]):=by
   rw[Rp]
   show(match oM [.int 6] with |some es=>some (es,([]:List OS)) |none=>none)=_
   rw[r6]
  have ei:cI [none,some 3] (RZ ns (c::cs) (.dat (.int u)) (.dat (.lst [.int u,.int (u+1),.int (u+2)])) .und .und .und .und .und)=[.und,.dat (.lst [.int u,.int (u+1),.int (u+2)])]:=rfl
  rw[vX,qp,gr,ei]
  dsimp only
  rw[if_pos (by simp),Qk]
  rfl
 obtain⟨Ω1,kp1,i1⟩:=inits u (.dat (.scr ns)) (.dat (.lst ((c::cs).map D.int))) (.dat (.int u)) (.dat (.lst [.int u,.int (u+1),.int (u+2)])) (.dat (.lst ((psL u).map kD)))
 obtain⟨y9,y10,y11,y12,y13,y14,Ω2,kp2,i2⟩:=turns u0 u1 (.dat (.scr ns)) (.dat (.lst ((c::cs).map D.int))) (.dat (.int u)) (.dat (.lst [.int u,.int (u+1),.int (u+2)])) cs 0 Ω1 (.dat (kD (u+1,u+2))) .und .und .und .und .und kp1 (by omega)
 obtain⟨L,P,T,N,es,A,hh,hd,hl⟩:=kp2
 have em:=wR hh es .und .und fun e he=>by
  obtain⟨n,ds,h1,h2,h3,_⟩:=hd e he
  exact⟨n,ds,h1,h2,h3⟩
 have ea:=Mi es
 have hb:es.length<=big:=by have:big=100000:=rfl;omega
 obtain⟨z13,z14,Ω3,f3,g3⟩:=grow (xs:=es) es (.dat (.scr ns)) (.dat (.lst ((c::cs).map D.int))) (.dat (.int u)) (.dat (.lst [.int u,.int (u+1),.int (u+2)])) (.dat (.lst ((psL u).map kD))) (.dat (.obj 0)) (.dat (.obj 3)) (.dat (.obj 4)) (.dat (.obj 5)) y9 y10 y11 y12 es Ω2 y13 y14 1000 (fun e he=>he) hh (fun e he=>by
  obtain⟨n,ds,h1,h2,h3,h4,_⟩:=hd e he
  exact⟨n,ds,ds,h1,h4,h3,h2.2.2⟩) (by omega)
 have sh:∀j,Sh es j->6<=j/\¬Us P T j:=fun j ⟨ds,hj⟩=>by
  obtain⟨n,ds',h1,_,_,h4,h5⟩:=hd _ hj
  injection h1 with h1
  injection h1 with h1 _
  injection h1 with h1
  rw[h1]
  exact⟨h4,h5⟩
 have A3:Al (hsL u) (0+cs.length) 0 Ω3 L P T N:=A.frame f3 (fun j _ h2 s=>by have:=(sh j s).1;omega) fun i us s=>(sh i s).2 us
 have A4:=A3.app (.mls [])
 have q4:(Ω3++[OS.mls []])[Ω3.length]? = some (.mls []):=by simp
 obtain⟨Ω4,new,_,_,_,_,e13⟩:=wQ A4 (by simp[hsL]) (by omega) q4 (by simp) (by have:=A3.l11;omega) (fun s=>by have:=(A3.us_lt s).2;omega) u (u+1) 0
 refine⟨Ω4,bc rfl ?_⟩
 refine(aK e1).trans ((aK e2).trans ((aK e3).trans ((aK e4).trans ?_)))
 refine(aK (ρ':=RZ ns (c::cs) (.dat (.int u)) (.dat (.lst [.int u,.int (u+1),.int (u+2)])) (.dat (.lst ((psL u).map kD))) (.dat (.obj 0)) .und .und .und) (Ω':=[.ins "Ties" (tfo 0),.dT [],.dT []]) ?_).trans ?_
 ·have i0:=TQ
  unfold RZ
  simp[i0]
 refine(aK (ρ':=RZ ns (c::cs) (.dat (.int u)) (.dat (.lst [.int u,.int (u+1),.int (u+2)])) (.dat (.lst ((psL u).map kD))) (.dat (.obj 0)) (.dat (.obj 3)) .und .und) (Ω':=[.ins "Ties" (tfo 0),.dT [],.dT [],.dT []]) rfl).trans ?_
 refine(aK (ρ':=RZ ns (c::cs) (.dat (.int u)) (.dat (.lst [.int u,.int (u+1),.int (u+2)])) (.dat (.lst ((psL u).map kD))) (.dat (.obj 0)) (.dat (.obj 3)) (.dat (.obj 4)) .und) (Ω':=[.ins "Ties" (tfo 0),.dT [],.dT [],.dT [],.dT []]) rfl).trans ?_
 refine(aK (ρ':=RI (.dat (.scr ns)) (.dat (.lst ((c::cs).map D.int))) (.dat (.int u)) (.dat (.lst [.int u,.int (u+1),.int (u+2)])) (.dat (.lst ((psL u).map kD))) .und) (Ω':=Ω0) rfl).trans ?_
 refine(aK (ρ':=RI (.dat (.scr ns)) (.dat (.lst ((c::cs).map D.int))) (.dat (.int u)) (.dat (.lst [.int u,.int (u+1),.int (u+2)])) (.dat (.lst ((psL u).map kD))) (.dat (kD (u+1,u+2)))) (Ω':=Ω1) ?_).trans ?_
 ·show pX _ _ iB _ _=_
  rw[vY]
  rw[show iK (bV (ao (gOp ixD (aj 4) (gC (.int 0))) (ao (gOp ixD (aj 4) (gC (.int 1))) (ao (gOp ixD (aj 4) (gC (.int 3))) aA)))) (RI (.dat (.scr ns)) (.dat (.lst ((c::cs).map D.int))) (.dat (.int u)) (.dat (.lst [.int u,.int (u+1),.int (u+2)])) (.dat (.lst ((psL u).map kD))) .und) Ω0=some ([kD (u,u+1),kD (u,u+2),kD (u+1,u+2)],Ω0) from rfl]
  exact i1
 refine(aK (ρ':=[.dat (.scr ns),.dat (.lst ((c::cs).map D.int)),.dat (.int u),.dat (.lst [.int u,.int (u+1),.int (u+2)]),.dat (.lst ((psL u).map kD)),.dat (.obj 0),.dat (.obj 3),.dat (.obj 4),.dat (.obj 5),y9,y10,y11,y12,y13,y14]) (Ω':=Ω2) ?_).trans ?_
 ·show pX _ _ uB _ _=_
  rw[vY]
  have ec:su ((c::cs).map D.int) (some 1) none=cs.map D.int:=by
   have:=JG ((c::cs).map D.int) 1
   simpa using this
  have:iK (gSl (aj 1) (vP (gC (.int 1))) t_) (RI (.dat (.scr ns)) (.dat (.lst ((c::cs).map D.int))) (.dat (.int u)) (.dat (.lst [.int u,.int (u+1),.int (u+2)])) (.dat (.lst ((psL u).map kD))) (.dat (kD (u+1,u+2)))) Ω1=some (cs.map D.int,Ω1):=by
   have ev:aj 1 (RI (.dat (.scr ns)) (.dat (.lst ((c::cs).map D.int))) (.dat (.int u)) (.dat (.lst [.int u,.int (u+1),.int (u+2)])) (.dat (.lst ((psL u).map kD))) (.dat (kD (u+1,u+2)))) Ω1=some (.lst ((c::cs).map D.int),Ω1):=rfl
   rw[Ro,Tf,ev]
   generalize hz:(c::cs).map D.int=zs at *
   simp[ec]
  rw[this]
  exact i2
 refine(aK (ρ':=[.dat (.scr ns),.dat (.lst ((c::cs).map D.int)),.dat (.int u),.dat (.lst [.int u,.int (u+1),.int (u+2)]),.dat (.lst ((psL u).map kD)),.dat (.obj 0),.dat (.obj 3),.dat (.obj 4),.dat (.obj 5),y9,y10,y11,y12,y13,y14]) (Ω':=Ω2) ?_).trans ?_
 ·have ei:cI [none,none] [Sl.dat (.scr ns),.dat (.lst ((c::cs).map D.int)),.dat (.int u),.dat (.lst [.int u,.int (u+1),.int (u+2)]),.dat (.lst ((psL u).map kD)),.dat (.obj 0),.dat (.obj 3),.dat (.obj 4),.dat (.obj 5),y9,y10,y11,y12,y13,y14]=[.und,.und]:=rfl
  have eg:gq [none,none] (aj 8) (lH [0,1]) cO (aW cJ (ao (aj 0) (ao (aj 1) aA))) [Sl.dat (.scr ns),.dat (.lst ((c::cs).map D.int)),.dat (.int u),.dat (.lst [.int u,.int (u+1),.int (u+2)]),.dat (.lst ((psL u).map kD)),.dat (.obj 0),.dat (.obj 3),.dat (.obj 4),.dat (.obj 5),y9,y10,y11,y12,y13,y14] Ω2=some (.lst (es.map fun _=>D.bl true),Ω2):=by
   unfold gq
   rw[ei]
   simp only[oU,List.getElem?_cons_zero,List.getElem?_cons_succ,Option.bind_some,qI,hh,iM,hb,if_true,em]
  refine uC (nt (b:=true) ?_)
  have ev:gCB xP (ao (gq [none,none] (aj 8) (lH [0,1]) cO (aW cJ (ao (aj 0) (ao (aj 1) aA)))) aA) [Sl.dat (.scr ns),.dat (.lst ((c::cs).map D.int)),.dat (.int u),.dat (.lst [.int u,.int (u+1),.int (u+2)]),.dat (.lst ((psL u).map kD)),.dat (.obj 0),.dat (.obj 3),.dat (.obj 4),.dat (.obj 5),y9,y10,y11,y12,y13,y14] Ω2=some (.bl true,Ω2):=by
   rw[LC,jB,eg]
   dsimp only
   rw[GJ]
   dsimp only
   rw[ea]
  rw[Ek,ev]
 refine(aK (ρ':=[.dat (.scr ns),.dat (.lst ((c::cs).map D.int)),.dat (.int u),.dat (.lst [.int u,.int (u+1),.int (u+2)]),.dat (.lst ((psL u).map kD)),.dat (.obj 0),.dat (.obj 3),.dat (.obj 4),.dat (.obj 5),y9,y10,y11,y12,z13,z14]) (Ω':=Ω3) ?_).trans ?_
 ·unfold Ez
  simp only[oU,List.getElem?_cons_zero,List.getElem?_cons_succ,Option.bind_some,qI,hh,HN]
  exact g3
 ·rw[jU]
  have ev:ao (aj 5) (ao (aj 7) (ao (gOp ixD (aj 4) (gC (.int 0))) (ao (gC (.int 0)) (ao (gV aA) aA)))) [Sl.dat (.scr ns),.dat (.lst ((c::cs).map D.int)),.dat (.int u),.dat (.lst [.int u,.int (u+1),.int (u+2)]),.dat (.lst ((psL u).map kD)),.dat (.obj 0),.dat (.obj 3),.dat (.obj 4),.dat (.obj 5),y9,y10,y11,y12,z13,z14] Ω3=some ([.obj 0,.obj 4,.tup [.int u,.int (u+1)],.int 0,.obj Ω3.length],Ω3++[.mls []]):=rfl
  rw[ue,ev]
  dsimp only
  rw[e13]
end Law
namespace Law
open PySem PySem.Spec PyProof.Rows L2 DL
set_option maxHeartbeats 4000000
seal PD PDA PDS PDB PDT PDI PDG RD RDS RDB PV
noncomputable def top(i:Nat):Stmt:=PySem.Challenge.pw_posthouse_k32_notes_in_order.main.body.getD i (.Pass ⟨0,0,0,0⟩)
noncomputable abbrev jt:Stmt:=top 21
noncomputable abbrev dg:Stmt:=top 22
noncomputable abbrev fV:Stmt:=top 16
noncomputable abbrev iD:Stmt:=top 17
noncomputable abbrev dO:Stmt:=inClass (top 14) 0
noncomputable abbrev dh:Stmt:=top 22
noncomputable abbrev iG:Stmt:=top 12
noncomputable abbrev cM:Stmt:=inClass (top 14) 1
noncomputable abbrev eV:Stmt:=top 13
noncomputable abbrev cu:Stmt:=inClass (top 14) 9
noncomputable abbrev cN:Stmt:=inClass (top 14) 8
noncomputable abbrev gU:Stmt:=top 22
noncomputable abbrev eO:Stmt:=inClass (top 14) 8
noncomputable abbrev dR:Stmt:=inClass (top 14) 9
noncomputable abbrev fQ:Stmt:=top 23
noncomputable abbrev fW:Stmt:=inClass (top 14) 2
noncomputable abbrev lu:Stmt:=top 20
noncomputable abbrev ju:Stmt:=top 18
noncomputable abbrev fX:Stmt:=inClass (top 14) 3
noncomputable abbrev fY:Stmt:=inClass (top 14) 4
noncomputable abbrev e_:Stmt:=inClass (top 14) 5
noncomputable abbrev dX:Stmt:=inClass (top 14) 6
noncomputable abbrev jw:Stmt:=top 19
noncomputable abbrev kh:Stmt:=top 24
noncomputable abbrev nM:List Value:=[.type "ValueError",.type "Exception",.type "BaseException",.type "object"]
theorem yZ:∀{as:List Addr} {us:List Value},Vals (as.map V.ref) us->us=as.map Value.ref
 | [],_,.nil=>rfl
 | a::as,_,.cons r t=>by rw[yZ t];cases (show _=Value.ref a from r);rfl
section
variable {P:Program} {w:World} {K:PySem.W.Frag} {mg:Str->Option Value} {base:Heap} {C:Cl}
theorem Ql:∀t∈["NoneType","bool","int","str","tuple","list"],PySem.W.kitOne K (.type t) (.type "int")=some (decide (t = "int") || (decide (t = "bool") && decide ("int" = "int"))):=by
 intro t ht
 simp only[List.mem_cons,List.not_mem_nil,or_false] at ht
 rcases ht with rfl |rfl |rfl |rfl |rfl |rfl<;>rfl
theorem vD:∀t∈["NoneType","bool","int","str","tuple","list"],PySem.W.kitOne K (.type t) (.type "list")=some (decide (t = "list") || (decide (t = "bool") && decide ("list" = "int"))):=by
 intro t ht
 simp only[List.mem_cons,List.not_mem_nil,or_false] at ht
 rcases ht with rfl |rfl |rfl |rfl |rfl |rfl<;>rfl
theorem DP:∀t∈["NoneType","bool","int","str","tuple","list"],PySem.W.kitOne K (.type t) (.type "str")=some (decide (t = "str") || (decide (t = "bool") && decide ("str" = "int"))):=by
 intro t ht
 simp only[List.mem_cons,List.not_mem_nil,or_false] at ht
 rcases ht with rfl |rfl |rfl |rfl |rfl |rfl<;>rfl
theorem kit_tuple:∀t∈["NoneType","bool","int","str","tuple","list"],PySem.W.kitOne K (.type t) (.type "tuple")=some (decide (t = "tuple") || (decide (t = "bool") && decide ("tuple" = "int"))):=by
 intro t ht
 simp only[List.mem_cons,List.not_mem_nil,or_false] at ht
 rcases ht with rfl |rfl |rfl |rfl |rfl |rfl<;>rfl
theorem wU:∀t∈["NoneType","bool","int","str","tuple","list"],PySem.W.kitAny K (.type t) (["list","tuple"].map Value.type)=some (["list","tuple"].any fun T=>decide (t=T) || (decide (t = "bool") && decide (T = "int"))):=by
 intro t ht
 simp only[List.mem_cons,List.not_mem_nil,or_false] at ht
 rcases ht with rfl |rfl |rfl |rfl |rfl |rfl<;>rfl
theorem y_:FnScope ["_law_thing"] ["_law_thing"] (aB jt):=⟨rfl,rfl,rfl,by decide +kernel,rfl,by decide +kernel,by decide +kernel⟩
theorem Im(T:TF K mg "_law_kind" jt)(b_int:mg "int" = none)(b_isinstance:mg "isinstance" = none)(b_str:mg "str" = none)(b_tuple:mg "tuple" = none):Fn P w K mg base C 1 "_law_kind" cg :=
 nJ T y_ rfl rfl (fun _ _ _ _ _ _ us hl=>vd us hl (fun _=>rfl)) fun f cdv A outer sh H E hr =>
  have nd:(bJ CX0 P w K mg base ["_law_thing"] "_law_kind" (aB jt) f cdv A outer sh H E).nox.N.Nodup:=y_.nd
  (aD (bj (bu Rk (ak (pv 0)) qm (a_ _)) (aG (aN aL)) aU) (aD (bj (eE (kY (ak (pv 0)) (gZ rfl b_int boot_int rfl) rfl b_isinstance boot_isinstance Ql)) (aG (aN aL)) aU) (aD (bj (eE (kY (ak (pv 0)) (gZ rfl b_str boot_str rfl) rfl b_isinstance boot_isinstance DP)) (aG (aN aL)) aU) (aG (aN (bN jx aL (sy Gw rfl b_int boot_int (aq (kY (ak (pv 0)) (gZ rfl b_tuple boot_tuple rfl) rfl b_isinstance boot_isinstance kit_tuple) az))))))))
theorem rP:FnScope ["_law_found","_law_due_here"] ["_law_found","_law_due_here"] (aB dg):=⟨rfl,rfl,rfl,by decide +kernel,rfl,by decide +kernel,by decide +kernel⟩
theorem zx(T:TF K mg "_law_same" dg)(b_isinstance:mg "isinstance" = none)(b_len:mg "len" = none)(b_list:mg "list" = none)(G_l_kind:Fn P w K mg base C 1 "_law_kind" cg):Fn P w K mg base C 2 "_law_same" cJ :=
 nJ T rP rfl rfl (fun _ _ _ _ _ _ us hl=>vf us hl (fun _ _=>rfl)) fun f cdv A outer sh H E hr =>
  have nd:(bJ CX0 P w K mg base ["_law_found","_law_due_here"] "_law_same" (aB dg) f cdv A outer sh H E).nox.N.Nodup:=rP.nd
  (aD (bj (PDW.pt (mV (jy (eE (Bd (ak (pv 0)) (gZ (v:=.ty "list") rfl b_list boot_list rfl) rfl b_isinstance boot_isinstance vD))) (mV (bu (oJ hr.units) (xT rfl b_len PySem.boot_len (ak (pv 0))) (cH kW rfl b_len PySem.boot_len (aq (ak (pv 1)) az)) (a_ _)) (tZ (Ds hr.units (ak (pv 0)) (ak (pv 1)) (a_ _)))))) (aG (aN lC)) aU) (aG (aN (zU (bL hr.units) (pA rfl (dU (oN:=["_law_found","_law_due_here"]) (osc:=aB dg) (N:=["_law_one"]) (μ:=[none]) rfl rfl (by decide +kernel)) (ak (pv 0)) (fun _ _ _ _=>(dJ (show List.Nodup (["_law_one"]:List Str) by decide +kernel) rfl (by first |exact Or.inl rfl |exact Or.inr rfl))) (fun _ _ _ _=>gm) (fun _ _ _ _=>(bz G_l_kind (hr.mono (by decide)) rfl (aq (ak (pv 0)) az)))) (oR rfl (dU (oN:=["_law_found","_law_due_here"]) (osc:=aB dg) (N:=["_law_one"]) (μ:=[none]) rfl rfl (by decide +kernel)) (kj (ak (pv 1))) (fun _ _ _ _=>(dJ (show List.Nodup (["_law_one"]:List Str) by decide +kernel) rfl (by first |exact Or.inl rfl |exact Or.inr rfl))) (fun _ _ _ _=>gm) (fun _ _ _ _=>(bz G_l_kind (hr.mono (by decide)) rfl (aq (ak (pv 0)) az)))) (a_ _)))))
theorem tL:FnScope ["_law_script","_law_k"] ["_law_script","_law_k"] (aB fV):=⟨rfl,rfl,rfl,by decide +kernel,rfl,by decide +kernel,by decide +kernel⟩
theorem BV(T:TF K mg "_law_cell_at" fV)(b_len:mg "len" = none):Fn P w K mg base C 1 "_law_cell_at" cX :=
 nJ T tL rfl rfl (fun _ _ _ _ _ _ us hl=>vf us hl (fun _ _=>rfl)) fun f cdv A outer sh H E hr =>
  have nd:(bJ CX0 P w K mg base ["_law_script","_law_k"] "_law_cell_at" (aB fV) f cdv A outer sh H E).nox.N.Nodup:=tL.nd
  (aD (bj (bu Gs (ak (pv 1)) (cH kW rfl b_len PySem.boot_len (aq (ak (pv 0)) az)) (a_ _)) (aG (aN (di (ak (pv 0)) (ak (pv 1))))) aU) (aG (aN aL)))
theorem wV:FnScope ["_law_script","_law_many","_law_found","_law_kept","_law_k"] ["_law_script","_law_many"] (aB iD):=⟨rfl,rfl,rfl,by decide +kernel,rfl,by decide +kernel,by decide +kernel⟩
theorem Fv(T:TF K mg "_law_draws" iD)(b_len:mg "len" = none)(b_range:mg "range" = none)(G_l_cell_at:Fn P w K mg base C 1 "_law_cell_at" cX):Fn P w K mg base C 2 "_law_draws" mZ :=
 nJ T wV rfl rfl (fun _ _ _ _ _ _ us hl=>vf us hl (fun _ _=>rfl)) fun f cdv A outer sh H E hr =>
  have nd:(bJ CX0 P w K mg base ["_law_script","_law_many","_law_found","_law_kept","_law_k"] "_law_draws" (aB iD) f cdv A outer sh H E).nox.N.Nodup:=wV.nd
  (aD (xr (i:=2) nd rfl (by first |exact Or.inl rfl |exact Or.inr rfl) az) (aD (bQ (i:=3) nd rfl (by first |exact Or.inl rfl |exact Or.inr rfl) (cH kW rfl b_len PySem.boot_len (aq (ak (pv 0)) az))) (aD (ud PassesOwn.never rfl (vV rfl b_range (aq (ak (pv 1)) az)) (dJ nd rfl (by first |exact Or.inl rfl |exact Or.inr rfl)) (aD (bQ (i:=3) nd rfl (by first |exact Or.inl rfl |exact Or.inr rfl) (bN fB (bN jx (bN jx (bN jx (bN oh (ak (pv 3)) aL) (bz G_l_cell_at (hr.mono (by decide)) rfl (aq (ak (pv 0)) (aq (ak (pv 4)) az)))) (bN oh aL (ak (pv 4)))) (bN oh (bN oh aL (ak (pv 4))) (ak (pv 4)))) aL)) (aG (xF (pv 2) (bN kO (bN fB (bN oh (bN fB (bN oh (ak (pv 3)) (ak (pv 3))) aL) aL) aL) aL))))) (yE (yF 2) (aG (aN (ak (pv 2))))))))
theorem pD:FnScope ["self"] ["self"] (aB dO):=⟨rfl,rfl,rfl,by decide +kernel,rfl,by decide +kernel,by decide +kernel⟩
theorem vG{dV:Value}{f:Addr}{fd:FuncData}(F:FunV K "__init__" "Ties.__init__" dO dV f fd)(T_Ties:ClD K C "Ties")(n_Ties_length_by:NoA K C "Ties" "length_by")(n_Ties_sent_on:NoA K C "Ties" "sent_on"):FnOk P w K mg base CX0 1 f fd ["self"] (spD K C fC) :=
 En F pD rfl rfl fun cdv A outer sh H E hr =>
  have nd:(bJ CX0 P w K mg base ["self"] "Ties.__init__" (aB dO) f cdv A outer sh H E).nox.N.Nodup:=pD.nd
  (aD (Df T_Ties n_Ties_length_by (ak (pv 0)) uh) (aG (Df T_Ties n_Ties_sent_on (ak (pv 0)) uh)))
theorem rQ:FnScope ["_law_found","_law_due_here"] ["_law_found","_law_due_here"] (aB dh):=⟨rfl,rfl,rfl,by decide +kernel,rfl,by decide +kernel,by decide +kernel⟩
theorem zy(T:TF K mg "_law_same" dh)(b_isinstance:mg "isinstance" = none)(b_len:mg "len" = none)(b_list:mg "list" = none)(G_l_kind:Fn P w K mg base C 1 "_law_kind" cg):Fn P w K mg base C 2 "_law_same" iw :=
 nJ T rQ rfl rfl (fun _ _ _ _ _ _ us hl=>vf us hl (fun _ _=>rfl)) fun f cdv A outer sh H E hr =>
  have nd:(bJ CX0 P w K mg base ["_law_found","_law_due_here"] "_law_same" (aB dh) f cdv A outer sh H E).nox.N.Nodup:=rQ.nd
  (aD (bj (PDW.pt (mV (jy (eE (Bd (ak (pv 0)) (gZ (v:=.ty "list") rfl b_list boot_list rfl) rfl b_isinstance boot_isinstance vD))) (mV (bu (oJ hr.units) (xT rfl b_len PySem.boot_len (ak (pv 0))) (xT rfl b_len PySem.boot_len (ak (pv 1))) (a_ _)) (tZ (Kr hr.units (ak (pv 0)) (ak (pv 1)) (a_ _)))))) (aG (aN lC)) aU) (aG (aN (zU (bL hr.units) (pA rfl (dU (oN:=["_law_found","_law_due_here"]) (osc:=aB dh) (N:=["_law_one"]) (μ:=[none]) rfl rfl (by decide +kernel)) (ak (pv 0)) (fun _ _ _ _=>(dJ (show List.Nodup (["_law_one"]:List Str) by decide +kernel) rfl (by first |exact Or.inl rfl |exact Or.inr rfl))) (fun _ _ _ _=>gm) (fun _ _ _ _=>(bz G_l_kind (hr.mono (by decide)) rfl (aq (ak (pv 0)) az)))) (pA rfl (dU (oN:=["_law_found","_law_due_here"]) (osc:=aB dh) (N:=["_law_one"]) (μ:=[none]) rfl rfl (by decide +kernel)) (ak (pv 1)) (fun _ _ _ _=>(dJ (show List.Nodup (["_law_one"]:List Str) by decide +kernel) rfl (by first |exact Or.inl rfl |exact Or.inr rfl))) (fun _ _ _ _=>gm) (fun _ _ _ _=>(bz G_l_kind (hr.mono (by decide)) rfl (aq (ak (pv 0)) az)))) (a_ _)))))
theorem wW:FnScope ["one","other"] ["one","other"] (aB iG):=⟨rfl,rfl,rfl,by decide +kernel,rfl,by decide +kernel,by decide +kernel⟩
theorem Fw(T:TF K mg "in_pair" iG)(b_max:mg "max" = none)(b_min:mg "min" = none):Fn P w K mg base C 1 "in_pair" cV :=
 nJ T wW rfl rfl (fun _ _ _ _ _ _ us hl=>vf us hl (fun _ _=>rfl)) fun f cdv A outer sh H E hr =>
  have nd:(bJ CX0 P w K mg base ["one","other"] "in_pair" (aB iG) f cdv A outer sh H E).nox.N.Nodup:=wW.nd
  (aG (aN (bM (aq (cH (mW rfl) rfl b_min boot_min (aq (ak (pv 0)) (aq (ak (pv 1)) az))) (aq (cH (pJ rfl) rfl b_max boot_max (aq (ak (pv 0)) (aq (ak (pv 1)) az))) az)))))
theorem jR:FnScope ["self","one","other"] ["self","one","other"] (aB cM):=⟨rfl,rfl,rfl,by decide +kernel,rfl,by decide +kernel,by decide +kernel⟩
theorem uI{dV:Value}{f:Addr}{fd:FuncData}(F:FunV K "need_pair" "Ties.need_pair" cM dV f fd)(T_Ties:ClD K C "Ties")(n_Ties_length_by:NoA K C "Ties" "length_by"){C_NotTied:Addr}(hC_NotTied:C "NotTied" = some C_NotTied)(O_NotTied:OwnCls "NotTied" C_NotTied nM "ValueError.__new__" mg base)(G_in_pair:Fn P w K mg base C 1 "in_pair" cV):FnOk P w K mg base (CXr P w) 2 f fd ["self","one","other"] (spX K C aO aV) :=
 pO F jR rfl rfl (fun cdv A outer sh H E hr =>
  have nd:(bJ (CXr P w) P w K mg base ["self","one","other"] "Ties.need_pair" (aB cM) f cdv A outer sh H E).nox.N.Nodup:=jR.nd
  (aG (bj (lJ (bU hr) (bz G_in_pair (hr.mono (by decide)) rfl (aq (ak (pv 1)) (aq (ak (pv 2)) az))) (d_ T_Ties n_Ties_length_by (ak (pv 0)))) (aG jl) aU)))
  fun cdv A outer sh H E hr =>
  have nd:(bJ (CXr P w) P w K mg base ["self","one","other"] "Ties.need_pair" (aB cM) f cdv A outer sh H E).N.Nodup:=jR.nd
  (ie (lO (lJ (bU hr) (bz G_in_pair (hr.mono (by decide)) rfl (aq (ak (pv 1)) (aq (ak (pv 2)) az))) (d_ T_Ties n_Ties_length_by (ak (pv 0)))) (ie (nU mQ hC_NotTied O_NotTied PySem.F.excBase_ValueError hr.hd rfl (Hl (ak (pv 1)) (ak (pv 2))))) gQ))
theorem tM:FnScope ["thing","nests","spots","at","nest","place","part","spot"] ["thing"] (aB eV):=⟨rfl,rfl,rfl,by decide +kernel,rfl,by decide +kernel,by decide +kernel⟩
theorem BW(T:TF K mg "made_anew" eV)(b_all:mg "all" = none)(b_enumerate:mg "enumerate" = none)(b_isinstance:mg "isinstance" = none)(b_len:mg "len" = none)(b_list:mg "list" = none)(b_tuple:mg "tuple" = none):Fn P w K mg base C 1 "made_anew" cY :=
 nJ T tM rfl rfl (fun _ _ _ _ _ _ us hl=>vd us hl (fun _=>rfl)) fun f cdv A outer sh H E hr =>
  have nd:(bJ CX0 P w K mg base ["thing","nests","spots","at","nest","place","part","spot"] "made_anew" (aB eV) f cdv A outer sh H E).nox.N.Nodup:=tM.nd
  (aD (xr (i:=1) nd rfl (by first |exact Or.inl rfl |exact Or.inr rfl) (aq (bZ (aq (ak (pv 0)) az)) az)) (aD (xr (i:=2) nd rfl (by first |exact Or.inl rfl |exact Or.inr rfl) az) (aD (bQ (i:=3) nd rfl (by first |exact Or.inl rfl |exact Or.inr rfl) aL) (aD (Gy 1000 PassesOwn.never (bu Gs (ak (pv 3)) (Rv rfl b_len PySem.boot_len (Di (pv 1))) (a_ _)) (aD (bQ (i:=4) nd rfl (by first |exact Or.inl rfl |exact Or.inr rfl) (Th (Di (pv 1)) (ak (pv 3)))) (aD (ud PassesOwn.never rfl (Kq rfl b_enumerate (aq (ak (pv 4)) az)) (xu rfl (kZ (i:=5) nd rfl (by first |exact Or.inl rfl |exact Or.inr rfl) (kZ (i:=6) nd rfl (by first |exact Or.inl rfl |exact Or.inr rfl) uV))) (aG (bj (eE (Ey (Ts:=["list","tuple"]) (ak (pv 6)) (bF (gZ (v:=.ty "list") rfl b_list boot_list rfl) (bF (gZ (v:=.ty "tuple") rfl b_tuple boot_tuple rfl) cQ)) (fun _ _ _ q=>q) (by show 2<=sizeLine;rw[sizeLine_eq];decide) rfl b_isinstance boot_isinstance wU)) (aD (xF (pv 2) (bM (aq (ak (pv 3)) (aq (ak (pv 5)) (aq (kY (ak (pv 6)) (gZ rfl b_tuple boot_tuple rfl) rfl b_isinstance boot_isinstance kit_tuple) az))))) (aG (xF (pv 1) (sy vQ rfl b_list boot_list (aq (ak (pv 6)) az))))) aU))) (aG (Pr (i:=3) nd rfl (by first |exact Or.inl rfl |exact Or.inr rfl) aL))))) (yE (yF 2) (aD (bj (eE (cH (yQ hr.hd) rfl b_all boot_all (aq (oR rfl (dU (oN:=["thing","nests","spots","at","nest","place","part","spot"]) (osc:=aB eV) (N:=["spot"]) (μ:=[none]) rfl rfl (by decide +kernel)) (kj (ak (pv 2))) (fun _ _ _ _=>(dJ (show List.Nodup (["spot"]:List Str) by decide +kernel) rfl (by first |exact Or.inl rfl |exact Or.inr rfl))) (fun _ _ _ _=>gm) (fun _ _ _ _=>(di (ak (pv 0)) aL))) az))) (aG (aN (ak (pv 0)))) aU) (aD jl (aG jl))))))))
theorem jT:FnScope ["self","one","other"] ["self","one","other"] (aB cu):=⟨rfl,rfl,rfl,by decide +kernel,rfl,by decide +kernel,by decide +kernel⟩
theorem uJ{dV:Value}{f:Addr}{fd:FuncData}(F:FunV K "notes" "Ties.notes" cu dV f fd)(T_Ties:ClD K C "Ties")(n_Ties_sent_on:NoA K C "Ties" "sent_on")(M_Ties_need_pair_0:MtX P w K mg base C 2 "Ties" "need_pair" aO aV [])(G_made_anew:Fn P w K mg base C 1 "made_anew" cY):FnOk P w K mg base (CXr P w) 3 f fd ["self","one","other"] (spX K C dz iQ) :=
 pO F jT rfl rfl (fun cdv A outer sh H E hr =>
  have nd:(bJ (CXr P w) P w K mg base ["self","one","other"] "Ties.notes" (aB cu) f cdv A outer sh H E).nox.N.Nodup:=jT.nd
  (aD (cR (bW M_Ties_need_pair_0 (hr.mono (by decide)) (ak (pv 0)) (aq (ak (pv 1)) (aq (ak (pv 2)) az)))) (aG (aN (Dq (Ht rfl (dU (oN:=["self","one","other"]) (osc:=aB cu) (N:=["note"]) (μ:=[none]) rfl rfl (by decide +kernel)) (Ad (bU hr) (d_ T_Ties n_Ties_sent_on (ak (pv 0))) (bM (aq (ak (pv 1)) (aq (ak (pv 2)) az))) (mJ az) ⟨rfl,rfl,rfl,rfl⟩) (fun _ _ _ _=>(dJ (show List.Nodup (["note"]:List Str) by decide +kernel) rfl (by first |exact Or.inl rfl |exact Or.inr rfl))) (fun _ _ _ _=>gm) (fun _ _ _ _=>(bz G_made_anew (hr.mono (by decide)) rfl (aq (ak (pv 0)) az)))))))))
  fun cdv A outer sh H E hr =>
  have nd:(bJ (CXr P w) P w K mg base ["self","one","other"] "Ties.notes" (aB cu) f cdv A outer sh H E).N.Nodup:=jT.nd
  (dN (mF (gJ lg M_Ties_need_pair_0 (hr.mono (by decide)) (ak (pv 0)) (aq (ak (pv 1)) (aq (ak (pv 2)) az)))))
theorem mj:FnScope ["self"] ["self"] (aB cN):=⟨rfl,rfl,rfl,by decide +kernel,rfl,by decide +kernel,by decide +kernel⟩
theorem rR{dV:Value}{f:Addr}{fd:FuncData}(F:FunV K "waiting" "Ties.waiting" cN dV f fd)(T_Ties:ClD K C "Ties")(n_Ties_sent_on:NoA K C "Ties" "sent_on")(b_sorted:mg "sorted" = none):FnOk P w K mg base CX0 1 f fd ["self"] (spD K C cL) :=
 En F mj rfl rfl fun cdv A outer sh H E hr =>
  have nd:(bJ CX0 P w K mg base ["self"] "Ties.waiting" (aB cN) f cdv A outer sh H E).nox.N.Nodup:=mj.nd
  (aG (aN (Dq (Hu hr rfl b_sorted boot_sorted (d_ T_Ties n_Ties_sent_on (ak (pv 0)))))))
theorem za:FnScope ["_law_found","_law_due_here"] ["_law_found","_law_due_here"] (aB gU):=⟨rfl,rfl,rfl,by decide +kernel,rfl,by decide +kernel,by decide +kernel⟩
theorem Io(T:TF K mg "_law_same" gU)(b_isinstance:mg "isinstance" = none)(b_len:mg "len" = none)(b_list:mg "list" = none)(G_l_kind:Fn P w K mg base C 1 "_law_kind" cg):Fn P w K mg base C 2 "_law_same" jq :=
 nJ T za rfl rfl (fun _ _ _ _ _ _ us hl=>vf us hl (fun _ _=>rfl)) fun f cdv A outer sh H E hr =>
  have nd:(bJ CX0 P w K mg base ["_law_found","_law_due_here"] "_law_same" (aB gU) f cdv A outer sh H E).nox.N.Nodup:=za.nd
  (aD (bj (PDW.pt (mV (jy (eE (kY (ak (pv 0)) (gZ rfl b_list boot_list rfl) rfl b_isinstance boot_isinstance vD))) (mV (bu (oJ hr.units) (cH kW rfl b_len PySem.boot_len (aq (ak (pv 0)) az)) (cH kW rfl b_len PySem.boot_len (aq (ak (pv 1)) az)) (a_ _)) (tZ (bu (oJ hr.units) (ak (pv 0)) (ak (pv 1)) (a_ _)))))) (aG (aN lC)) aU) (aG (aN (zU (bL hr.units) (oR rfl (dU (oN:=["_law_found","_law_due_here"]) (osc:=aB gU) (N:=["_law_one"]) (μ:=[none]) rfl rfl (by decide +kernel)) (kj (ak (pv 0))) (fun _ _ _ _=>(dJ (show List.Nodup (["_law_one"]:List Str) by decide +kernel) rfl (by first |exact Or.inl rfl |exact Or.inr rfl))) (fun _ _ _ _=>gm) (fun _ _ _ _=>(bz G_l_kind (hr.mono (by decide)) rfl (aq (ak (pv 0)) az)))) (oR rfl (dU (oN:=["_law_found","_law_due_here"]) (osc:=aB gU) (N:=["_law_one"]) (μ:=[none]) rfl rfl (by decide +kernel)) (kj (ak (pv 1))) (fun _ _ _ _=>(dJ (show List.Nodup (["_law_one"]:List Str) by decide +kernel) rfl (by first |exact Or.inl rfl |exact Or.inr rfl))) (fun _ _ _ _=>gm) (fun _ _ _ _=>(bz G_l_kind (hr.mono (by decide)) rfl (aq (ak (pv 0)) az)))) (a_ _)))))
theorem pQ:FnScope ["self"] ["self"] (aB eO):=⟨rfl,rfl,rfl,by decide +kernel,rfl,by decide +kernel,by decide +kernel⟩
theorem wX{dV:Value}{f:Addr}{fd:FuncData}(F:FunV K "waiting" "Ties.waiting" eO dV f fd)(T_Ties:ClD K C "Ties")(n_Ties_sent_on:NoA K C "Ties" "sent_on")(b_sorted:mg "sorted" = none):FnOk P w K mg base CX0 1 f fd ["self"] (spD K C eG) :=
 En F pQ rfl rfl fun cdv A outer sh H E hr =>
  have nd:(bJ CX0 P w K mg base ["self"] "Ties.waiting" (aB eO) f cdv A outer sh H E).nox.N.Nodup:=pQ.nd
  (aG (aN (Kg hr rfl b_sorted boot_sorted (d_ T_Ties n_Ties_sent_on (ak (pv 0))))))
theorem nO:FnScope ["self","one","other"] ["self","one","other"] (aB dR):=⟨rfl,rfl,rfl,by decide +kernel,rfl,by decide +kernel,by decide +kernel⟩
theorem zA{dV:Value}{f:Addr}{fd:FuncData}(F:FunV K "notes" "Ties.notes" dR dV f fd)(T_Ties:ClD K C "Ties")(n_Ties_sent_on:NoA K C "Ties" "sent_on")(M_Ties_need_pair_0:MtX P w K mg base C 2 "Ties" "need_pair" aO aV [])(G_made_anew:Fn P w K mg base C 1 "made_anew" cY):FnOk P w K mg base (CXr P w) 3 f fd ["self","one","other"] (spX K C eX iz) :=
 pO F nO rfl rfl (fun cdv A outer sh H E hr =>
  have nd:(bJ (CXr P w) P w K mg base ["self","one","other"] "Ties.notes" (aB dR) f cdv A outer sh H E).nox.N.Nodup:=nO.nd
  (aD (cR (bW M_Ties_need_pair_0 (hr.mono (by decide)) (ak (pv 0)) (aq (ak (pv 1)) (aq (ak (pv 2)) az)))) (aG (aN (pA rfl (dU (oN:=["self","one","other"]) (osc:=aB dR) (N:=["note"]) (μ:=[none]) rfl rfl (by decide +kernel)) (Ad (bU hr) (d_ T_Ties n_Ties_sent_on (ak (pv 0))) (bM (aq (ak (pv 1)) (aq (ak (pv 2)) az))) (mJ az) ⟨rfl,rfl,rfl,rfl⟩) (fun _ _ _ _=>(dJ (show List.Nodup (["note"]:List Str) by decide +kernel) rfl (by first |exact Or.inl rfl |exact Or.inr rfl))) (fun _ _ _ _=>gm) (fun _ _ _ _=>(bz G_made_anew (hr.mono (by decide)) rfl (aq (ak (pv 0)) az))))))))
  fun cdv A outer sh H E hr =>
  have nd:(bJ (CXr P w) P w K mg base ["self","one","other"] "Ties.notes" (aB dR) f cdv A outer sh H E).N.Nodup:=nO.nd
  (dN (mF (gJ lg M_Ties_need_pair_0 (hr.mono (by decide)) (ak (pv 0)) (aq (ak (pv 1)) (aq (ak (pv 2)) az)))))
theorem uM:FnScope ["_law_ties","_law_sent","_law_pair","_law_turn","_law_held","_law_due_here","_law_found"] ["_law_ties","_law_sent","_law_pair","_law_turn","_law_held"] (aB fQ):=⟨rfl,rfl,rfl,by decide +kernel,rfl,by decide +kernel,by decide +kernel⟩
theorem Cw(T:TF K mg "_law_looked" fQ)(M_Ties_waiting_r71_0:Mt P w K mg base C 1 "Ties" "waiting" cL [])(M_Ties_notes_r71_0:MtX P w K mg base C 3 "Ties" "notes" dz iQ [])(M_Ties_waiting_0:Mt P w K mg base C 1 "Ties" "waiting" eG [])(b_list:mg "list" = none)(b_sorted:mg "sorted" = none)(G_l_same_r71:Fn P w K mg base C 2 "_law_same" cJ)(G_l_same_r72:Fn P w K mg base C 2 "_law_same" iw)(G_l_same:Fn P w K mg base C 2 "_law_same" jq):Fn P w K mg base C 4 "_law_looked" iR :=
 nJ T uM rfl rfl (fun _ _ _ _ _ _ us hl=>Ka us hl (fun _ _ _ _ _=>rfl)) fun f cdv A outer sh H E hr =>
  have nd:(bJ CX0 P w K mg base ["_law_ties","_law_sent","_law_pair","_law_turn","_law_held","_law_due_here","_law_found"] "_law_looked" (aB fQ) f cdv A outer sh H E).nox.N.Nodup:=uM.nd
  (aD (bQ (i:=5) nd rfl (by first |exact Or.inl rfl |exact Or.inr rfl) (Kf hr rfl b_sorted boot_sorted (oR rfl (dU (oN:=["_law_ties","_law_sent","_law_pair","_law_turn","_law_held","_law_due_here","_law_found"]) (osc:=aB fQ) (N:=["_law_direction","_law_sent"]) (μ:=[none,some 1]) rfl rfl (by decide +kernel)) (kj (JP hr.hd rfl b_list boot_list (ak (pv 1)))) (fun _ _ _ _=>(dJ (show List.Nodup (["_law_direction","_law_sent"]:List Str) by decide +kernel) rfl (by first |exact Or.inl rfl |exact Or.inr rfl))) (fun _ _ _ _=>(JB (Ds hr.units (iY (bU hr) (ak (pv 1)) (ak (pv 0)) (fun _ _=>rfl)) (bZ az) (a_ _)))) (fun _ _ _ _=>(ak (pv 0)))))) (aD (bj (bu (bL hr.units) (ak (pv 3)) aL (a_ _)) (aD (bQ (i:=6) nd rfl (by first |exact Or.inl rfl |exact Or.inr rfl) (Ag M_Ties_waiting_r71_0 (hr.mono (by decide)) (ak (pv 0)))) (aD (bj (jy (eE (bz G_l_same_r71 (hr.mono (by decide)) rfl (aq (ak (pv 6)) (aq (ak (pv 5)) az))))) (aG (aN lC)) aU) (aG (pq (ak (pv 4)) (bM (aq (ak (pv 6)) (aq (sy vQ rfl b_list boot_list (aq (ak (pv 5)) az)) az))))))) aU) (aD (bj (um (bU hr) (ak (pv 2)) (ak (pv 1))) (aD (bQ (i:=6) nd rfl (by first |exact Or.inl rfl |exact Or.inr rfl) (bW M_Ties_notes_r71_0 (hr.mono (by decide)) (ak (pv 0)) (aq (di (ak (pv 2)) aL) (aq (di (ak (pv 2)) aL) az)))) (aD (bj (jy (eE (bz G_l_same_r72 (hr.mono (by decide)) rfl (aq (ak (pv 6)) (aq (iY (bU hr) (ak (pv 1)) (ak (pv 2)) (fun _ _=>rfl)) az))))) (aG (aN lC)) aU) (aG (pq (ak (pv 4)) (bM (aq (ak (pv 6)) (aq (Bg rfl b_list boot_list (iY (bU hr) (ak (pv 1)) (ak (pv 2)) (fun _ _=>rfl))) az))))))) aU) (aG (aN (bz G_l_same (hr.mono (by decide)) rfl (aq (Ag M_Ties_waiting_0 (hr.mono (by decide)) (ak (pv 0))) (aq (ak (pv 5)) az))))))))
theorem pF:FnScope ["self","one","other","length"] ["self","one","other","length"] (aB fW):=⟨rfl,rfl,rfl,by decide +kernel,rfl,by decide +kernel,by decide +kernel⟩
theorem BX{dV:Value}{f:Addr}{fd:FuncData}(F:FunV K "come" "Ties.come" fW dV f fd)(T_Ties:ClD K C "Ties")(n_Ties_length_by:NoA K C "Ties" "length_by"){C_NoHouse C_Tied:Addr}(hC_NoHouse:C "NoHouse" = some C_NoHouse)(O_NoHouse:OwnCls "NoHouse" C_NoHouse nM "ValueError.__new__" mg base)(hC_Tied:C "Tied" = some C_Tied)(O_Tied:OwnCls "Tied" C_Tied nM "ValueError.__new__" mg base)(G_in_pair:Fn P w K mg base C 1 "in_pair" cV):FnOk P w K mg base (CXr P w) 2 f fd ["self","one","other","length"] (spX K C bY fU) :=
 pO F pF rfl rfl (fun cdv A outer sh H E hr =>
  have nd:(bJ (CXr P w) P w K mg base ["self","one","other","length"] "Ties.come" (aB fW) f cdv A outer sh H E).nox.N.Nodup:=pF.nd
  (aD (bj (bu (bL hr.units) (ak (pv 1)) (ak (pv 2)) (a_ _)) (aG jl) aU) (aD (bj (um (bU hr) (bz G_in_pair (hr.mono (by decide)) rfl (aq (ak (pv 1)) (aq (ak (pv 2)) az))) (d_ T_Ties n_Ties_length_by (ak (pv 0)))) (aG jl) aU) (aG (qX (bU hr) (d_ T_Ties n_Ties_length_by (ak (pv 0))) (bz G_in_pair (hr.mono (by decide)) rfl (aq (ak (pv 1)) (aq (ak (pv 2)) az))) (ak (pv 3)))))))
  fun cdv A outer sh H E hr =>
  have nd:(bJ (CXr P w) P w K mg base ["self","one","other","length"] "Ties.come" (aB fW) f cdv A outer sh H E).N.Nodup:=pF.nd
  (o_ (dN (lO (bu (bL hr.units) (ak (pv 1)) (ak (pv 2)) (a_ _)) (ie (nU mQ hC_NoHouse O_NoHouse PySem.F.excBase_ValueError hr.hd rfl (Tj (ak (pv 1))))) gQ)) (kE (bj (bu (bL hr.units) (ak (pv 1)) (ak (pv 2)) (a_ _)) (aG jl) aU) (dN (lO (um (bU hr) (bz G_in_pair (hr.mono (by decide)) rfl (aq (ak (pv 1)) (aq (ak (pv 2)) az))) (d_ T_Ties n_Ties_length_by (ak (pv 0)))) (ie (nU mQ hC_Tied O_Tied PySem.F.excBase_ValueError hr.hd rfl (Hl (ak (pv 1)) (ak (pv 2))))) gQ))))
theorem BZ:FnScope ["_law_way","_law_lengths","_law_sent","_law_one","_law_other","_law_thing"] ["_law_way","_law_lengths","_law_sent","_law_one","_law_other","_law_thing"] (aB lu):=⟨rfl,rfl,rfl,by decide +kernel,rfl,by decide +kernel,by decide +kernel⟩
theorem Lg(T:TF K mg "_law_due" lu)(b_list:mg "list" = none)(b_max:mg "max" = none)(b_min:mg "min" = none):Fn P w K mg base C 1 "_law_due" cF :=
 nJ T BZ rfl rfl (fun _ _ _ _ _ _ us hl=>UT us hl (fun _ _ _ _ _ _=>rfl)) fun f cdv A outer sh H E hr =>
  have nd:(bJ CX0 P w K mg base ["_law_way","_law_lengths","_law_sent","_law_one","_law_other","_law_thing"] "_law_due" (aB lu) f cdv A outer sh H E).nox.N.Nodup:=BZ.nd
  (aD (bj (PDW.pt (xm (bu (bL hr.units) (ak (pv 0)) aX (a_ _)) (uT (bu (bL hr.units) (ak (pv 3)) (ak (pv 4)) (a_ _))))) (aG (aN aX)) aU) (aD (bj (PDW.pt (xm (bu (bL hr.units) (ak (pv 0)) aX (a_ _)) (uT (um (bU hr) (bM (aq (ak (pv 3)) (aq (ak (pv 4)) az))) (ak (pv 2)))))) (aG (aN aX)) aU) (aD (bj (PDW.pt (xm (bu (oJ hr.units) (ak (pv 0)) aX (a_ _)) (uT (lJ (bU hr) (bM (aq (ak (pv 3)) (aq (ak (pv 4)) az))) (ak (pv 2)))))) (aG (aN aX)) aU) (aD (bj (bu (bL hr.units) (ak (pv 0)) aX (a_ _)) (aD (qX (bU hr) (ak (pv 1)) (bM (aq (cH (mW rfl) rfl b_min boot_min (aq (ak (pv 3)) (aq (ak (pv 4)) az))) (aq (cH (pJ rfl) rfl b_max boot_max (aq (ak (pv 3)) (aq (ak (pv 4)) az))) az))) (ak (pv 5))) (aD (qX (bU hr) (ak (pv 2)) (bM (aq (ak (pv 3)) (aq (ak (pv 4)) az))) (mJ az)) (aG (qX (bU hr) (ak (pv 2)) (bM (aq (ak (pv 4)) (aq (ak (pv 3)) az))) (mJ az))))) aU) (aD (bj (bu (bL hr.units) (ak (pv 0)) aX (a_ _)) (aD (cR (qw (bU hr) (ak (pv 1)) (bM (aq (cH (mW rfl) rfl b_min boot_min (aq (ak (pv 3)) (aq (ak (pv 4)) az))) (aq (cH (pJ rfl) rfl b_max boot_max (aq (ak (pv 3)) (aq (ak (pv 4)) az))) az))) ⟨rfl,rfl,rfl,rfl⟩)) (aD (cR (qw (bU hr) (ak (pv 2)) (bM (aq (ak (pv 3)) (aq (ak (pv 4)) az))) ⟨rfl,rfl,rfl,rfl⟩)) (aG (cR (qw (bU hr) (ak (pv 2)) (bM (aq (ak (pv 4)) (aq (ak (pv 3)) az))) ⟨rfl,rfl,rfl,rfl⟩))))) aU) (aD (bj (bu (bL hr.units) (ak (pv 0)) aX (a_ _)) (aG (pq (iY (bU hr) (ak (pv 2)) (bM (aq (ak (pv 3)) (aq (ak (pv 4)) az))) (fun _ _=>rfl)) (ak (pv 5)))) aU) (aD (bj (bu (bL hr.units) (ak (pv 0)) aX (a_ _)) (aD (bj (Dr hr.units (iY (bU hr) (ak (pv 2)) (bM (aq (ak (pv 3)) (aq (ak (pv 4)) az))) (fun _ _=>rfl)) (bZ az) (a_ _)) (aG (aN aX)) aU) (aG (aN (bZ (aq (Dt (iY (bU hr) (ak (pv 2)) (bM (aq (ak (pv 3)) (aq (ak (pv 4)) az))) (fun _ _=>rfl)) aL) az))))) aU) (aD (bj (bu (bL hr.units) (ak (pv 0)) aX (a_ _)) (aG (aN (bZ (aq (iY (bU hr) (ak (pv 1)) (bM (aq (cH (mW rfl) rfl b_min boot_min (aq (ak (pv 3)) (aq (ak (pv 4)) az))) (aq (cH (pJ rfl) rfl b_max boot_max (aq (ak (pv 3)) (aq (ak (pv 4)) az))) az))) (fun _ _=>rfl)) az)))) aU) (aD (bj (bu (bL hr.units) (ak (pv 0)) aX (a_ _)) (aG (aN (bZ (aq (Bg rfl b_list boot_list (iY (bU hr) (ak (pv 2)) (bM (aq (ak (pv 3)) (aq (ak (pv 4)) az))) (fun _ _=>rfl))) az)))) aU) (aG (aN (bZ (aq qm az)))))))))))))
theorem zb:FnScope ["_law_cell","_law_number","_law_some"] ["_law_cell"] (aB ju):=⟨rfl,rfl,rfl,by decide +kernel,rfl,by decide +kernel,by decide +kernel⟩
theorem Ip(T:TF K mg "_law_note" ju):Fn P w K mg base C 1 "_law_note" mK :=
 nJ T zb rfl rfl (fun _ _ _ _ _ _ us hl=>vd us hl (fun _=>rfl)) fun f cdv A outer sh H E hr =>
  have nd:(bJ CX0 P w K mg base ["_law_cell","_law_number","_law_some"] "_law_note" (aB ju) f cdv A outer sh H E).nox.N.Nodup:=zb.nd
  (aD (bQ (i:=1) nd rfl (by first |exact Or.inl rfl |exact Or.inr rfl) (bN fB (bN kO (ak (pv 0)) aL) aL)) (aD (bQ (i:=2) nd rfl (by first |exact Or.inl rfl |exact Or.inr rfl) (bZ (aq (bM (aq aX (aq (bN fB (ak (pv 1)) aL) (aq (ak (pv 1)) az)))) (aq (bM (aq aX (aq (bN fB (ak (pv 1)) aL) (aq aL (aq qm (aq (bM az) az)))))) (aq (ak (pv 1)) (aq aX (aq qm (aq (bM (aq (ak (pv 1)) az)) az)))))))) (aG (aN (di (ak (pv 2)) (bN fB (ak (pv 0)) aL))))))
theorem pG:FnScope ["self","one","other"] ["self","one","other"] (aB fX):=⟨rfl,rfl,rfl,by decide +kernel,rfl,by decide +kernel,by decide +kernel⟩
theorem B_{dV:Value}{f:Addr}{fd:FuncData}(F:FunV K "fall" "Ties.fall" fX dV f fd)(T_Ties:ClD K C "Ties")(n_Ties_length_by:NoA K C "Ties" "length_by")(n_Ties_sent_on:NoA K C "Ties" "sent_on")(M_Ties_need_pair_0:MtX P w K mg base C 2 "Ties" "need_pair" aO aV [])(G_in_pair:Fn P w K mg base C 1 "in_pair" cV):FnOk P w K mg base (CXr P w) 3 f fd ["self","one","other"] (spX K C eU iZ) :=
 pO F pG rfl rfl (fun cdv A outer sh H E hr =>
  have nd:(bJ (CXr P w) P w K mg base ["self","one","other"] "Ties.fall" (aB fX) f cdv A outer sh H E).nox.N.Nodup:=pG.nd
  (aD (cR (bW M_Ties_need_pair_0 (hr.mono (by decide)) (ak (pv 0)) (aq (ak (pv 1)) (aq (ak (pv 2)) az)))) (aD (cR (qw (bU hr) (d_ T_Ties n_Ties_length_by (ak (pv 0))) (bz G_in_pair (hr.mono (by decide)) rfl (aq (ak (pv 1)) (aq (ak (pv 2)) az))) ⟨rfl,rfl,rfl,rfl⟩)) (aD (cR (Bf (bU hr) (d_ T_Ties n_Ties_sent_on (ak (pv 0))) (bM (aq (ak (pv 1)) (aq (ak (pv 2)) az))) qm ⟨rfl,rfl,rfl,rfl⟩)) (aG (cR (Bf (bU hr) (d_ T_Ties n_Ties_sent_on (ak (pv 0))) (bM (aq (ak (pv 2)) (aq (ak (pv 1)) az))) qm ⟨rfl,rfl,rfl,rfl⟩)))))))
  fun cdv A outer sh H E hr =>
  have nd:(bJ (CXr P w) P w K mg base ["self","one","other"] "Ties.fall" (aB fX) f cdv A outer sh H E).N.Nodup:=pG.nd
  (dN (mF (gJ lg M_Ties_need_pair_0 (hr.mono (by decide)) (ak (pv 0)) (aq (ak (pv 1)) (aq (ak (pv 2)) az)))))
theorem pH:FnScope ["self","one","other","note"] ["self","one","other","note"] (aB fY):=⟨rfl,rfl,rfl,by decide +kernel,rfl,by decide +kernel,by decide +kernel⟩
theorem Cd{dV:Value}{f:Addr}{fd:FuncData}(F:FunV K "send" "Ties.send" fY dV f fd)(T_Ties:ClD K C "Ties")(n_Ties_sent_on:NoA K C "Ties" "sent_on")(M_Ties_need_pair_0:MtX P w K mg base C 2 "Ties" "need_pair" aO aV [])(G_made_anew:Fn P w K mg base C 1 "made_anew" cY):FnOk P w K mg base (CXr P w) 3 f fd ["self","one","other","note"] (spX K C dG i_) :=
 pO F pH rfl rfl (fun cdv A outer sh H E hr =>
  have nd:(bJ (CXr P w) P w K mg base ["self","one","other","note"] "Ties.send" (aB fY) f cdv A outer sh H E).nox.N.Nodup:=pH.nd
  (aD (cR (bW M_Ties_need_pair_0 (hr.mono (by decide)) (ak (pv 0)) (aq (ak (pv 1)) (aq (ak (pv 2)) az)))) (aG (pq (Pk (bU hr) (d_ T_Ties n_Ties_sent_on (ak (pv 0))) (bM (aq (ak (pv 1)) (aq (ak (pv 2)) az))) (mJ az) ⟨rfl,rfl,rfl,rfl⟩) (bz G_made_anew (hr.mono (by decide)) rfl (aq (ak (pv 3)) az))))))
  fun cdv A outer sh H E hr =>
  have nd:(bJ (CXr P w) P w K mg base ["self","one","other","note"] "Ties.send" (aB fY) f cdv A outer sh H E).N.Nodup:=pH.nd
  (dN (mF (gJ lg M_Ties_need_pair_0 (hr.mono (by decide)) (ak (pv 0)) (aq (ak (pv 1)) (aq (ak (pv 2)) az)))))
theorem nP:FnScope ["self","one","other","sent","note"] ["self","one","other"] (aB e_):=⟨rfl,rfl,rfl,by decide +kernel,rfl,by decide +kernel,by decide +kernel⟩
theorem zB{dV:Value}{f:Addr}{fd:FuncData}(F:FunV K "carry" "Ties.carry" e_ dV f fd)(T_Ties:ClD K C "Ties")(n_Ties_sent_on:NoA K C "Ties" "sent_on")(M_Ties_need_pair_0:MtX P w K mg base C 2 "Ties" "need_pair" aO aV []){C_NoNote:Addr}(hC_NoNote:C "NoNote" = some C_NoNote)(O_NoNote:OwnCls "NoNote" C_NoNote nM "ValueError.__new__" mg base):FnOk P w K mg base (CXr P w) 3 f fd ["self","one","other"] (spX K C cZ gw) :=
 pO F nP rfl rfl (fun cdv A outer sh H E hr =>
  have nd:(bJ (CXr P w) P w K mg base ["self","one","other","sent","note"] "Ties.carry" (aB e_) f cdv A outer sh H E).nox.N.Nodup:=nP.nd
  (aD (cR (bW M_Ties_need_pair_0 (hr.mono (by decide)) (ak (pv 0)) (aq (ak (pv 1)) (aq (ak (pv 2)) az)))) (aD (bj (lJ (bU hr) (bM (aq (ak (pv 1)) (aq (ak (pv 2)) az))) (d_ T_Ties n_Ties_sent_on (ak (pv 0)))) (aG jl) aU) (aD (bQ (i:=3) nd rfl (by first |exact Or.inl rfl |exact Or.inr rfl) (iY (bU hr) (d_ T_Ties n_Ties_sent_on (ak (pv 0))) (bM (aq (ak (pv 1)) (aq (ak (pv 2)) az))) (fun _ _=>rfl))) (aD (bQ (i:=4) nd rfl (by first |exact Or.inl rfl |exact Or.inr rfl) (Dt (ak (pv 3)) aL)) (aD (bj (Dr hr.units (ak (pv 3)) (bZ az) (a_ _)) (aG (cR (qw (bU hr) (d_ T_Ties n_Ties_sent_on (ak (pv 0))) (bM (aq (ak (pv 1)) (aq (ak (pv 2)) az))) ⟨rfl,rfl,rfl,rfl⟩))) aU) (aG (aN (ak (pv 4))))))))))
  fun cdv A outer sh H E hr =>
  have nd:(bJ (CXr P w) P w K mg base ["self","one","other","sent","note"] "Ties.carry" (aB e_) f cdv A outer sh H E).N.Nodup:=nP.nd
  (o_ (dN (mF (gJ lg M_Ties_need_pair_0 (hr.mono (by decide)) (ak (pv 0)) (aq (ak (pv 1)) (aq (ak (pv 2)) az))))) (kE (cR (bW M_Ties_need_pair_0 (hr.mono (by decide)) (ak (pv 0)) (aq (ak (pv 1)) (aq (ak (pv 2)) az)))) (dN (lO (lJ (bU hr) (bM (aq (ak (pv 1)) (aq (ak (pv 2)) az))) (d_ T_Ties n_Ties_sent_on (ak (pv 0)))) (ie (nU mQ hC_NoNote O_NoNote PySem.F.excBase_ValueError hr.hd rfl (RJ (ak (pv 1)) (ak (pv 2))))) gQ))))
theorem mO:FnScope ["self","one","other"] ["self","one","other"] (aB dX):=⟨rfl,rfl,rfl,by decide +kernel,rfl,by decide +kernel,by decide +kernel⟩
theorem ym{dV:Value}{f:Addr}{fd:FuncData}(F:FunV K "length" "Ties.length" dX dV f fd)(T_Ties:ClD K C "Ties")(n_Ties_length_by:NoA K C "Ties" "length_by")(M_Ties_need_pair_0:MtX P w K mg base C 2 "Ties" "need_pair" aO aV [])(G_in_pair:Fn P w K mg base C 1 "in_pair" cV):FnOk P w K mg base (CXr P w) 3 f fd ["self","one","other"] (spX K C dW gK) :=
 pO F mO rfl rfl (fun cdv A outer sh H E hr =>
  have nd:(bJ (CXr P w) P w K mg base ["self","one","other"] "Ties.length" (aB dX) f cdv A outer sh H E).nox.N.Nodup:=mO.nd
  (aD (cR (bW M_Ties_need_pair_0 (hr.mono (by decide)) (ak (pv 0)) (aq (ak (pv 1)) (aq (ak (pv 2)) az)))) (aG (aN (iY (bU hr) (d_ T_Ties n_Ties_length_by (ak (pv 0))) (bz G_in_pair (hr.mono (by decide)) rfl (aq (ak (pv 1)) (aq (ak (pv 2)) az))) (fun _ _=>rfl))))))
  fun cdv A outer sh H E hr =>
  have nd:(bJ (CXr P w) P w K mg base ["self","one","other"] "Ties.length" (aB dX) f cdv A outer sh H E).N.Nodup:=mO.nd
  (dN (mF (gJ lg M_Ties_need_pair_0 (hr.mono (by decide)) (ak (pv 0)) (aq (ak (pv 1)) (aq (ak (pv 2)) az)))))
theorem zc:FnScope ["_law_way","_law_ties","_law_one","_law_other","_law_thing","e","_law_marks"] ["_law_way","_law_ties","_law_one","_law_other","_law_thing"] (aB jw):=⟨rfl,rfl,rfl,by decide +kernel,rfl,by decide +kernel,by decide +kernel⟩
theorem Ir(T:TF K mg "_law_word" jw)(M_Ties_come_0:MtX P w K mg base C 2 "Ties" "come" bY fU [])(M_Ties_fall_0:MtX P w K mg base C 3 "Ties" "fall" eU iZ [])(M_Ties_send_0:MtX P w K mg base C 3 "Ties" "send" dG i_ [])(M_Ties_carry_0:MtX P w K mg base C 3 "Ties" "carry" cZ gw [])(M_Ties_length_0:MtX P w K mg base C 3 "Ties" "length" dW gK [])(M_Ties_notes_0:MtX P w K mg base C 3 "Ties" "notes" eX iz []){C_BadDeed C_BadText C_NoHouse C_NoNote C_NoRow C_NotTied C_Owned C_PostError C_Tied:Addr}(m_BadDeed:mg "BadDeed" = some (.ref C_BadDeed))(m_BadText:mg "BadText" = some (.ref C_BadText))(m_NoHouse:mg "NoHouse" = some (.ref C_NoHouse))(m_NoNote:mg "NoNote" = some (.ref C_NoNote))(m_NoRow:mg "NoRow" = some (.ref C_NoRow))(m_NotTied:mg "NotTied" = some (.ref C_NotTied))(m_Owned:mg "Owned" = some (.ref C_Owned))(m_PostError:mg "PostError" = some (.ref C_PostError))(m_Tied:mg "Tied" = some (.ref C_Tied))(tc_PostError:∀c,jX c=true->∃Ca,C c=some Ca/\PySem.W.exmOne K (.ref Ca) (.ref C_PostError)=some true)(x_0:∀c Ca b,xU c=some b->C c=some Ca->PySem.W.ExcLook K Ca/\PySem.W.kitOne K (.ref Ca) (.ref C_NoNote)=some b)(x_1:∀c Ca b,xV c=some b->C c=some Ca->PySem.W.ExcLook K Ca/\PySem.W.kitOne K (.ref Ca) (.ref C_NotTied)=some b)(x_2:∀c Ca b,xW c=some b->C c=some Ca->PySem.W.ExcLook K Ca/\PySem.W.kitOne K (.ref Ca) (.ref C_Tied)=some b)(x_3:∀c Ca b,xX c=some b->C c=some Ca->PySem.W.ExcLook K Ca/\PySem.W.kitOne K (.ref Ca) (.ref C_NoHouse)=some b)(x_4:∀c Ca b,xY c=some b->C c=some Ca->PySem.W.ExcLook K Ca/\PySem.W.kitAny K (.ref Ca) [.ref C_BadText,.ref C_NoRow,.ref C_Owned,.ref C_BadDeed]=some b)(x_5:∀c Ca b,xZ c=some b->C c=some Ca->PySem.W.ExcLook K Ca/\PySem.W.kitOne K (.ref Ca) (.type "ValueError")=some b)(b_ValueError:mg "ValueError" = none)(b_isinstance:mg "isinstance" = none):Fn P w K mg base C 4 "_law_word" cT :=
 nJ T zc rfl rfl (fun _ _ _ _ _ _ us hl=>Ka us hl (fun _ _ _ _ _=>rfl)) fun f cdv A outer sh H E hr =>
  have nd:(bJ CX0 P w K mg base ["_law_way","_law_ties","_law_one","_law_other","_law_thing","e","_law_marks"] "_law_word" (aB jw) f cdv A outer sh H E).nox.N.Nodup:=zc.nd
  (aG (Ou (i:=5) (fun pn E=>(aD (bj (bu (bL hr.units) (ak (pv 0)) aX (a_ _)) (aG (aN (bZ (aq (bW M_Ties_come_0 (hr.mono (by decide)) (ak (pv 1)) (aq (ak (pv 2)) (aq (ak (pv 3)) (aq (ak (pv 4)) az)))) az)))) aU) (aD (bj (bu (bL hr.units) (ak (pv 0)) aX (a_ _)) (aG (aN (bZ (aq (bW M_Ties_fall_0 (hr.mono (by decide)) (ak (pv 1)) (aq (ak (pv 2)) (aq (ak (pv 3)) az))) az)))) aU) (aD (bj (bu (bL hr.units) (ak (pv 0)) aX (a_ _)) (aG (aN (bZ (aq (bW M_Ties_send_0 (hr.mono (by decide)) (ak (pv 1)) (aq (ak (pv 2)) (aq (ak (pv 3)) (aq (ak (pv 4)) az)))) az)))) aU) (aD (bj (bu (bL hr.units) (ak (pv 0)) aX (a_ _)) (aG (aN (bZ (aq (bW M_Ties_carry_0 (hr.mono (by decide)) (ak (pv 1)) (aq (ak (pv 2)) (aq (ak (pv 3)) az))) az)))) aU) (aD (bj (bu (bL hr.units) (ak (pv 0)) aX (a_ _)) (aG (aN (bZ (aq (bW M_Ties_length_0 (hr.mono (by decide)) (ak (pv 1)) (aq (ak (pv 2)) (aq (ak (pv 3)) az))) az)))) aU) (aG (aN (bZ (aq (bW M_Ties_notes_0 (hr.mono (by decide)) (ak (pv 1)) (aq (ak (pv 2)) (aq (ak (pv 3)) az))) az)))))))))) (fun pn E XW hX=>(o_ (dN (lO (bu (bL hr.units) (ak (pv 0)) aX (a_ _)) (ie (oE (oG (gJ hX M_Ties_come_0 (hr.mono (by decide)) (ak (pv 1)) (aq (ak (pv 2)) (aq (ak (pv 3)) (aq (ak (pv 4)) az))))))) gQ)) (kE (bj (bu (bL hr.units) (ak (pv 0)) aX (a_ _)) (aG (aN (bZ (aq (bW M_Ties_come_0 (hr.mono (by decide)) (ak (pv 1)) (aq (ak (pv 2)) (aq (ak (pv 3)) (aq (ak (pv 4)) az)))) az)))) aU) (o_ (dN (lO (bu (bL hr.units) (ak (pv 0)) aX (a_ _)) (ie (oE (oG (gJ hX M_Ties_fall_0 (hr.mono (by decide)) (ak (pv 1)) (aq (ak (pv 2)) (aq (ak (pv 3)) az)))))) gQ)) (kE (bj (bu (bL hr.units) (ak (pv 0)) aX (a_ _)) (aG (aN (bZ (aq (bW M_Ties_fall_0 (hr.mono (by decide)) (ak (pv 1)) (aq (ak (pv 2)) (aq (ak (pv 3)) az))) az)))) aU) (o_ (dN (lO (bu (bL hr.units) (ak (pv 0)) aX (a_ _)) (ie (oE (oG (gJ hX M_Ties_send_0 (hr.mono (by decide)) (ak (pv 1)) (aq (ak (pv 2)) (aq (ak (pv 3)) (aq (ak (pv 4)) az))))))) gQ)) (kE (bj (bu (bL hr.units) (ak (pv 0)) aX (a_ _)) (aG (aN (bZ (aq (bW M_Ties_send_0 (hr.mono (by decide)) (ak (pv 1)) (aq (ak (pv 2)) (aq (ak (pv 3)) (aq (ak (pv 4)) az)))) az)))) aU) (o_ (dN (lO (bu (bL hr.units) (ak (pv 0)) aX (a_ _)) (ie (oE (oG (gJ hX M_Ties_carry_0 (hr.mono (by decide)) (ak (pv 1)) (aq (ak (pv 2)) (aq (ak (pv 3)) az)))))) gQ)) (kE (bj (bu (bL hr.units) (ak (pv 0)) aX (a_ _)) (aG (aN (bZ (aq (bW M_Ties_carry_0 (hr.mono (by decide)) (ak (pv 1)) (aq (ak (pv 2)) (aq (ak (pv 3)) az))) az)))) aU) (o_ (dN (lO (bu (bL hr.units) (ak (pv 0)) aX (a_ _)) (ie (oE (oG (gJ hX M_Ties_length_0 (hr.mono (by decide)) (ak (pv 1)) (aq (ak (pv 2)) (aq (ak (pv 3)) az)))))) gQ)) (kE (bj (bu (bL hr.units) (ak (pv 0)) aX (a_ _)) (aG (aN (bZ (aq (bW M_Ties_length_0 (hr.mono (by decide)) (ak (pv 1)) (aq (ak (pv 2)) (aq (ak (pv 3)) az))) az)))) aU) (ie (oE (oG (gJ hX M_Ties_notes_0 (hr.mono (by decide)) (ak (pv 1)) (aq (ak (pv 2)) (aq (ak (pv 3)) az))))))))))))))))) (fun v pn=>(aD (bQ (i:=6) nd rfl (by first |exact Or.inl rfl |exact Or.inr rfl) (bZ (aq (sV (ak (pv 5)) (kJ (v:=.ref C_NoHouse) rfl m_NoHouse rfl) (fun u h=>h) rfl b_isinstance boot_isinstance x_3) (aq (sV (ak (pv 5)) (kJ (v:=.ref C_Tied) rfl m_Tied rfl) (fun u h=>h) rfl b_isinstance boot_isinstance x_2) (aq (sV (ak (pv 5)) (kJ (v:=.ref C_NotTied) rfl m_NotTied rfl) (fun u h=>h) rfl b_isinstance boot_isinstance x_1) (aq (sV (ak (pv 5)) (kJ (v:=.ref C_NoNote) rfl m_NoNote rfl) (fun u h=>h) rfl b_isinstance boot_isinstance x_0) az)))))) (aD (bj (PDW.pt (mV (bu (oJ hr.units) (O_ hr.u65 (ak (pv 6)) lC) aL (a_ _)) (mV (eE (Oq (vs:=[C_BadText,C_NoRow,C_Owned,C_BadDeed].map V.ref) (cvs:=[C_BadText,C_NoRow,C_Owned,C_BadDeed].map Value.ref) (ak (pv 5)) (bF (kJ (v:=.ref C_BadText) rfl m_BadText rfl) (bF (kJ (v:=.ref C_NoRow) rfl m_NoRow rfl) (bF (kJ (v:=.ref C_Owned) rfl m_Owned rfl) (bF (kJ (v:=.ref C_BadDeed) rfl m_BadDeed rfl) cQ)))) (fun _ _ _ q=>q) (fun us h=>yZ h) (by show 4<=sizeLine;rw[sizeLine_eq];decide) rfl b_isinstance boot_isinstance x_4)) (tZ (jy (eE (sV (ak (pv 5)) (gZ (v:=.ty "ValueError") rfl b_ValueError (by decide +kernel) rfl) (fun u h=>h) rfl b_isinstance boot_isinstance x_5))))))) (aG (aN aX)) aU) (aG (aN (di (bZ (aq aX (aq aX (aq aX (aq aX az))))) (Pa hr.u65 (ak (pv 6)) lC))))))) tc_PostError rfl rfl rfl m_PostError nd rfl rfl rfl))
theorem Iu:FnScope ["_law_script","_law_draws_here","_law_one","_law_houses","_law_pairs","_law_ties","_law_lengths","_law_sent","_law_held","_law_pair","_law_cell","_law_way","_law_thing","_law_due_here","_law_found"] ["_law_script"] (aB kh):=⟨rfl,rfl,rfl,by decide +kernel,rfl,by decide +kernel,by decide +kernel⟩
end
theorem Ce{P:Program}{w:World}{K:PySem.W.Frag}{mg:Str->Option Value}{base:Heap}{C:Cl}{f:Addr}{fd:FuncData}(F:Fun K "law" "law" kh f fd)(M_Ties_come_0:MtX P w K mg base C 2 "Ties" "come" bY fU [])(K_Ties:MkD P w K mg base C 1 "Ties" fC [])(b_all:mg "all" = none)(b_isinstance:mg "isinstance" = none)(b_len:mg "len" = none)(b_min:mg "min" = none)(b_range:mg "range" = none)(b_str:mg "str" = none)(G_l_draws:Fn P w K mg base C 2 "_law_draws" mZ)(G_l_cell_at:Fn P w K mg base C 1 "_law_cell_at" cX)(G_l_due:Fn P w K mg base C 1 "_law_due" cF)(G_l_note:Fn P w K mg base C 1 "_law_note" mK)(G_l_word:Fn P w K mg base C 4 "_law_word" cT)(G_l_same:Fn P w K mg base C 2 "_law_same" jq)(G_l_looked:Fn P w K mg base C 4 "_law_looked" iR)(G_l_same_r71:Fn P w K mg base C 2 "_law_same" cJ):FnOk P w K mg base CX0 5 f fd ["_law_script"] (spD K C uz) :=
 Rm F Iu rfl rfl fun cdv A outer sh H E hr =>
  have nd:(bJ CX0 P w K mg base ["_law_script","_law_draws_here","_law_one","_law_houses","_law_pairs","_law_ties","_law_lengths","_law_sent","_law_held","_law_pair","_law_cell","_law_way","_law_thing","_law_due_here","_law_found"] "law" (aB kh) f cdv A outer sh H E).nox.N.Nodup:=Iu.nd
  (aD (bQ (i:=1) nd rfl (by first |exact Or.inl rfl |exact Or.inr rfl) (bz G_l_draws (hr.mono (by decide)) rfl (aq (ak (pv 0)) (aq (bN jx (bN jx aL (cH (mW rfl) rfl b_min boot_min (aq aL (aq (cH kW rfl b_len PySem.boot_len (aq (ak (pv 0)) az)) az)))) (bN fB (bz G_l_cell_at (hr.mono (by decide)) rfl (aq (ak (pv 0)) (aq aL az))) aL)) az)))) (aD (bQ (i:=2) nd rfl (by first |exact Or.inl rfl |exact Or.inr rfl) (bN fB (di (ak (pv 1)) aL) aL)) (aD (bQ (i:=3) nd rfl (by first |exact Or.inl rfl |exact Or.inr rfl) (bZ (aq (ak (pv 2)) (aq (bN jx (ak (pv 2)) aL) (aq (bN jx (ak (pv 2)) aL) az))))) (aD (GF (i:=4) nd rfl (by first |exact Or.inl rfl |exact Or.inr rfl) rfl (dU (oN:=["_law_script","_law_draws_here","_law_one","_law_houses","_law_pairs","_law_ties","_law_lengths","_law_sent","_law_held","_law_pair","_law_cell","_law_way","_law_thing","_law_due_here","_law_found"]) (osc:=aB kh) (N:=["_law_k","_law_houses"]) (μ:=[none,some 3]) rfl rfl (by decide +kernel)) (vV rfl b_range (aq aL az)) (fun _ _ _ _=>(dJ (show List.Nodup (["_law_k","_law_houses"]:List Str) by decide +kernel) rfl (by first |exact Or.inl rfl |exact Or.inr rfl))) (fun _ _ _ _=>gm) (fun _ _ _ _=>(bM (aq (di (ak (pv 1)) (bN kO (ak (pv 0)) aL)) (aq (di (ak (pv 1)) (di (bZ (aq aL (aq aL (aq aL (aq aL (aq aL (aq aL az))))))) (ak (pv 0)))) az))))) (aD (bQ (i:=5) nd rfl (by first |exact Or.inl rfl |exact Or.inr rfl) (JQ K_Ties (hr.mono (by decide)) rfl)) (aD (bQ (i:=6) nd rfl (by first |exact Or.inl rfl |exact Or.inr rfl) uh) (aD (bQ (i:=7) nd rfl (by first |exact Or.inl rfl |exact Or.inr rfl) uh) (aD (bQ (i:=8) nd rfl (by first |exact Or.inl rfl |exact Or.inr rfl) (mJ az)) (aD (ud PassesOwn.never rfl (kj (bZ (aq (di (ak (pv 4)) aL) (aq (di (ak (pv 4)) aL) (aq (di (ak (pv 4)) aL) az))))) (dJ nd rfl (by first |exact Or.inl rfl |exact Or.inr rfl)) (aD (cR (bW M_Ties_come_0 (hr.mono (by decide)) (ak (pv 5)) (aq (di (ak (pv 9)) aL) (aq (di (ak (pv 9)) aL) (aq aL az))))) (aG (cR (bz G_l_due (hr.mono (by decide)) rfl (aq aX (aq (ak (pv 6)) (aq (ak (pv 7)) (aq (di (ak (pv 9)) aL) (aq (di (ak (pv 9)) aL) (aq aL az))))))))))) (aD (ud PassesOwn.never rfl (kj (Tc (ak (pv 1)) (Jx aL) Jw)) (dJ nd rfl (by first |exact Or.inl rfl |exact Or.inr rfl)) (aD (bQ (i:=11) nd rfl (by first |exact Or.inl rfl |exact Or.inr rfl) (di (bZ (aq aX (aq aX (aq aX (aq aX (aq aX (aq aX (aq aX (aq aX (aq aX (aq aX (aq aX az)))))))))))) (bN fB (ak (pv 10)) aL))) (aD (bQ (i:=9) nd rfl (by first |exact Or.inl rfl |exact Or.inr rfl) (di (ak (pv 4)) (bN fB (bN kO (ak (pv 10)) aL) aL))) (aD (bQ (i:=12) nd rfl (by first |exact Or.inl rfl |exact Or.inr rfl) (bz G_l_note (hr.mono (by decide)) rfl (aq (bN kO (ak (pv 10)) aL) az))) (aD (bj (bu (bL hr.units) (ak (pv 11)) aX (a_ _)) (aG (bQ (i:=12) nd rfl (by first |exact Or.inl rfl |exact Or.inr rfl) (bN jx aL (bN fB (bN kO (ak (pv 10)) aL) aL)))) aU) (aD (bQ (i:=13) nd rfl (by first |exact Or.inl rfl |exact Or.inr rfl) (bz G_l_due (hr.mono (by decide)) rfl (aq (ak (pv 11)) (aq (ak (pv 6)) (aq (ak (pv 7)) (aq (di (ak (pv 9)) aL) (aq (di (ak (pv 9)) aL) (aq (ak (pv 12)) az)))))))) (aD (bQ (i:=14) nd rfl (by first |exact Or.inl rfl |exact Or.inr rfl) (bz G_l_word (hr.mono (by decide)) rfl (aq (ak (pv 11)) (aq (ak (pv 5)) (aq (di (ak (pv 9)) aL) (aq (di (ak (pv 9)) aL) (aq (ak (pv 12)) az))))))) (aD (bj (eE (kY (ak (pv 13)) (gZ rfl b_str boot_str rfl) rfl b_isinstance boot_isinstance DP)) (aG (bj (bu (oJ hr.units) (ak (pv 14)) (ak (pv 13)) (a_ _)) (aG (aN lC)) aU)) (aG (bj (jy (eE (bz G_l_same (hr.mono (by decide)) rfl (aq (ak (pv 14)) (aq (ak (pv 13)) az))))) (aG (aN lC)) aU))) (aG (bj (jy (eE (bz G_l_looked (hr.mono (by decide)) rfl (aq (ak (pv 5)) (aq (ak (pv 7)) (aq (di (ak (pv 4)) (bN fB (bN kO (ak (pv 10)) aL) aL)) (aq (bN fB (bN kO (ak (pv 10)) aL) aL) (aq (ak (pv 8)) az)))))))) (aG (aN lC)) aU)))))))))) (aD (bj (jy (eE (cH (yQ hr.hd) rfl b_all boot_all (aq (pA rfl (dU (oN:=["_law_script","_law_draws_here","_law_one","_law_houses","_law_pairs","_law_ties","_law_lengths","_law_sent","_law_held","_law_pair","_law_cell","_law_way","_law_thing","_law_due_here","_law_found"]) (osc:=aB kh) (N:=["_law_found","_law_due_here"]) (μ:=[none,none]) rfl rfl (by decide +kernel)) (ak (pv 8)) (fun _ _ _ _=>(xu rfl (kZ (i:=0) (show List.Nodup (["_law_found","_law_due_here"]:List Str) by decide +kernel) rfl (by first |exact Or.inl rfl |exact Or.inr rfl) (kZ (i:=1) (show List.Nodup (["_law_found","_law_due_here"]:List Str) by decide +kernel) rfl (by first |exact Or.inl rfl |exact Or.inr rfl) uV)))) (fun _ _ _ _=>gm) (fun _ _ _ _=>(bz G_l_same_r71 (hr.mono (by decide)) rfl (aq (ak (pv 0)) (aq (ak (pv 1)) az))))) az)))) (aG (aN lC)) aU) (aD (Kc PassesOwn.never rfl (ak (pv 8)) (xu rfl (kZ (i:=14) nd rfl (by first |exact Or.inl rfl |exact Or.inr rfl) (kZ (i:=13) nd rfl (by first |exact Or.inl rfl |exact Or.inr rfl) uV))) (aG (pq (ak (pv 14)) aL))) (aG (aN (bz G_l_looked (hr.mono (by decide)) rfl (aq (ak (pv 5)) (aq (ak (pv 7)) (aq (di (ak (pv 4)) aL) (aq aL (aq (mJ az) az))))))))))))))))))))
theorem all_mk{P:Program}{w:World}{K:PySem.W.Frag}{h:Heap}{mg:Str->Option Value}{fa f_l_kind f_l_same_r71 f_l_cell_at f_l_draws f_Ties___init__ f_l_same_r72 f_in_pair f_Ties_need_pair f_made_anew f_Ties_notes_r71 f_Ties_waiting_r71 f_l_same f_Ties_waiting f_Ties_notes f_l_looked f_Ties_come f_l_due f_l_note f_Ties_fall f_Ties_send f_Ties_carry f_Ties_length f_l_word f_law C_Ties C_BadDeed C_BadText C_NoHouse C_NoNote C_NoRow C_NotTied C_Owned C_PostError C_Tied:Addr}(X:K.In h)(G:h.Ns mainGlobals mg)(hfa:mg "law" = some (.ref fa))
  {od_l_kind an_l_kind:Option Addr} {sl_l_kind:Array (Option Value)} {oc_l_kind kV_l_kind dc_l_kind pm_l_kind cd_l_kind ct_l_kind:Value}
  {od_l_same_r71 an_l_same_r71:Option Addr} {sl_l_same_r71:Array (Option Value)} {oc_l_same_r71 kV_l_same_r71 dc_l_same_r71 pm_l_same_r71 cd_l_same_r71 ct_l_same_r71:Value}
  {od_l_cell_at an_l_cell_at:Option Addr} {sl_l_cell_at:Array (Option Value)} {oc_l_cell_at kV_l_cell_at dc_l_cell_at pm_l_cell_at cd_l_cell_at ct_l_cell_at:Value}
  {od_l_draws an_l_draws:Option Addr} {sl_l_draws:Array (Option Value)} {oc_l_draws kV_l_draws dc_l_draws pm_l_draws cd_l_draws ct_l_draws:Value}
  {od_Ties___init__ an_Ties___init__:Option Addr} {sl_Ties___init__:Array (Option Value)} {oc_Ties___init__ kV_Ties___init__ dc_Ties___init__ pm_Ties___init__ cd_Ties___init__ ct_Ties___init__:Value}
  {od_l_same_r72 an_l_same_r72:Option Addr} {sl_l_same_r72:Array (Option Value)} {oc_l_same_r72 kV_l_same_r72 dc_l_same_r72 pm_l_same_r72 cd_l_same_r72 ct_l_same_r72:Value}
  {od_in_pair an_in_pair:Option Addr} {sl_in_pair:Array (Option Value)} {oc_in_pair kV_in_pair dc_in_pair pm_in_pair cd_in_pair ct_in_pair:Value}
  {od_Ties_need_pair an_Ties_need_pair:Option Addr} {sl_Ties_need_pair:Array (Option Value)} {oc_Ties_need_pair kV_Ties_need_pair dc_Ties_need_pair pm_Ties_need_pair cd_Ties_need_pair ct_Ties_need_pair:Value}
  {od_made_anew an_made_anew:Option Addr} {sl_made_anew:Array (Option Value)} {oc_made_anew kV_made_anew dc_made_anew pm_made_anew cd_made_anew ct_made_anew:Value}
  {od_Ties_notes_r71 an_Ties_notes_r71:Option Addr} {sl_Ties_notes_r71:Array (Option Value)} {oc_Ties_notes_r71 kV_Ties_notes_r71 dc_Ties_notes_r71 pm_Ties_notes_r71 cd_Ties_notes_r71 ct_Ties_notes_r71:Value}
  {od_Ties_waiting_r71 an_Ties_waiting_r71:Option Addr} {sl_Ties_waiting_r71:Array (Option Value)} {oc_Ties_waiting_r71 kV_Ties_waiting_r71 dc_Ties_waiting_r71 pm_Ties_waiting_r71 cd_Ties_waiting_r71 ct_Ties_waiting_r71:Value}
  {od_l_same an_l_same:Option Addr} {sl_l_same:Array (Option Value)} {oc_l_same kV_l_same dc_l_same pm_l_same cd_l_same ct_l_same:Value}
  {od_Ties_waiting an_Ties_waiting:Option Addr} {sl_Ties_waiting:Array (Option Value)} {oc_Ties_waiting kV_Ties_waiting dc_Ties_waiting pm_Ties_waiting cd_Ties_waiting ct_Ties_waiting:Value}
  {od_Ties_notes an_Ties_notes:Option Addr} {sl_Ties_notes:Array (Option Value)} {oc_Ties_notes kV_Ties_notes dc_Ties_notes pm_Ties_notes cd_Ties_notes ct_Ties_notes:Value}
  {od_l_looked an_l_looked:Option Addr} {sl_l_looked:Array (Option Value)} {oc_l_looked kV_l_looked dc_l_looked pm_l_looked cd_l_looked ct_l_looked:Value}
  {od_Ties_come an_Ties_come:Option Addr} {sl_Ties_come:Array (Option Value)} {oc_Ties_come kV_Ties_come dc_Ties_come pm_Ties_come cd_Ties_come ct_Ties_come:Value}
  {od_l_due an_l_due:Option Addr} {sl_l_due:Array (Option Value)} {oc_l_due kV_l_due dc_l_due pm_l_due cd_l_due ct_l_due:Value}
  {od_l_note an_l_note:Option Addr} {sl_l_note:Array (Option Value)} {oc_l_note kV_l_note dc_l_note pm_l_note cd_l_note ct_l_note:Value}
  {od_Ties_fall an_Ties_fall:Option Addr} {sl_Ties_fall:Array (Option Value)} {oc_Ties_fall kV_Ties_fall dc_Ties_fall pm_Ties_fall cd_Ties_fall ct_Ties_fall:Value}
  {od_Ties_send an_Ties_send:Option Addr} {sl_Ties_send:Array (Option Value)} {oc_Ties_send kV_Ties_send dc_Ties_send pm_Ties_send cd_Ties_send ct_Ties_send:Value}
  {od_Ties_carry an_Ties_carry:Option Addr} {sl_Ties_carry:Array (Option Value)} {oc_Ties_carry kV_Ties_carry dc_Ties_carry pm_Ties_carry cd_Ties_carry ct_Ties_carry:Value}
  {od_Ties_length an_Ties_length:Option Addr} {sl_Ties_length:Array (Option Value)} {oc_Ties_length kV_Ties_length dc_Ties_length pm_Ties_length cd_Ties_length ct_Ties_length:Value}
  {od_l_word an_l_word:Option Addr} {sl_l_word:Array (Option Value)} {oc_l_word kV_l_word dc_l_word pm_l_word cd_l_word ct_l_word:Value}
  {od_law an_law:Option Addr} {sl_law:Array (Option Value)} {oc_law kV_law dc_law pm_law cd_law ct_law:Value}
  (a_l_kind:PySem.W.nsIn K mainGlobals "_law_kind" = some (some (.ref f_l_kind)))
  (l_l_kind:K.lookup f_l_kind=some ⟨oc_l_kind,od_l_kind,.func (PySem.W.fnOf "_law_kind" "_law_kind" (bA jt) (bh jt) (aB jt) .none kV_l_kind dc_l_kind pm_l_kind an_l_kind cd_l_kind ct_l_kind),sl_l_kind⟩) (cc_l_kind:PySem.W.codeIn K cd_l_kind "_law_kind" = true) (k_l_kind:PySem.W.keepIn K (.ref f_l_kind)=true)
  (a_l_same_r71:PySem.W.nsIn K mainGlobals "_law_same" = some (some (.ref f_l_same_r71)))
  (l_l_same_r71:K.lookup f_l_same_r71=some ⟨oc_l_same_r71,od_l_same_r71,.func (PySem.W.fnOf "_law_same" "_law_same" (bA dg) (bh dg) (aB dg) .none kV_l_same_r71 dc_l_same_r71 pm_l_same_r71 an_l_same_r71 cd_l_same_r71 ct_l_same_r71),sl_l_same_r71⟩) (cc_l_same_r71:PySem.W.codeIn K cd_l_same_r71 "_law_same" = true) (k_l_same_r71:PySem.W.keepIn K (.ref f_l_same_r71)=true)
  (a_l_cell_at:PySem.W.nsIn K mainGlobals "_law_cell_at" = some (some (.ref f_l_cell_at)))
  (l_l_cell_at:K.lookup f_l_cell_at=some ⟨oc_l_cell_at,od_l_cell_at,.func (PySem.W.fnOf "_law_cell_at" "_law_cell_at" (bA fV) (bh fV) (aB fV) .none kV_l_cell_at dc_l_cell_at pm_l_cell_at an_l_cell_at cd_l_cell_at ct_l_cell_at),sl_l_cell_at⟩) (cc_l_cell_at:PySem.W.codeIn K cd_l_cell_at "_law_cell_at" = true) (k_l_cell_at:PySem.W.keepIn K (.ref f_l_cell_at)=true)
  (a_l_draws:PySem.W.nsIn K mainGlobals "_law_draws" = some (some (.ref f_l_draws)))
  (l_l_draws:K.lookup f_l_draws=some ⟨oc_l_draws,od_l_draws,.func (PySem.W.fnOf "_law_draws" "_law_draws" (bA iD) (bh iD) (aB iD) .none kV_l_draws dc_l_draws pm_l_draws an_l_draws cd_l_draws ct_l_draws),sl_l_draws⟩) (cc_l_draws:PySem.W.codeIn K cd_l_draws "_law_draws" = true) (k_l_draws:PySem.W.keepIn K (.ref f_l_draws)=true)
  (a_Ties___init__:PySem.W.findIn K (.ref C_Ties) "__init__" = some (some (.ref f_Ties___init__))) (i_Ties___init__:PySem.W.isFn K (.ref f_Ties___init__)=true)
  (l_Ties___init__:K.lookup f_Ties___init__=some ⟨oc_Ties___init__,od_Ties___init__,.func (PySem.W.fnOf "__init__" "Ties.__init__" (bA dO) (bh dO) (aB dO) .none kV_Ties___init__ dc_Ties___init__ pm_Ties___init__ an_Ties___init__ cd_Ties___init__ ct_Ties___init__),sl_Ties___init__⟩) (cc_Ties___init__:PySem.W.codeIn K cd_Ties___init__ "Ties.__init__" = true) (k_Ties___init__:PySem.W.keepIn K (.ref f_Ties___init__)=true)
  (a_l_same_r72:PySem.W.nsIn K mainGlobals "_law_same" = some (some (.ref f_l_same_r72)))
  (l_l_same_r72:K.lookup f_l_same_r72=some ⟨oc_l_same_r72,od_l_same_r72,.func (PySem.W.fnOf "_law_same" "_law_same" (bA dh) (bh dh) (aB dh) .none kV_l_same_r72 dc_l_same_r72 pm_l_same_r72 an_l_same_r72 cd_l_same_r72 ct_l_same_r72),sl_l_same_r72⟩) (cc_l_same_r72:PySem.W.codeIn K cd_l_same_r72 "_law_same" = true) (k_l_same_r72:PySem.W.keepIn K (.ref f_l_same_r72)=true)
  (a_in_pair:PySem.W.nsIn K mainGlobals "in_pair" = some (some (.ref f_in_pair)))
  (l_in_pair:K.lookup f_in_pair=some ⟨oc_in_pair,od_in_pair,.func (PySem.W.fnOf "in_pair" "in_pair" (bA iG) (bh iG) (aB iG) .none kV_in_pair dc_in_pair pm_in_pair an_in_pair cd_in_pair ct_in_pair),sl_in_pair⟩) (cc_in_pair:PySem.W.codeIn K cd_in_pair "in_pair" = true) (k_in_pair:PySem.W.keepIn K (.ref f_in_pair)=true)
  (a_Ties_need_pair:PySem.W.findIn K (.ref C_Ties) "need_pair" = some (some (.ref f_Ties_need_pair))) (i_Ties_need_pair:PySem.W.isFn K (.ref f_Ties_need_pair)=true)
  (l_Ties_need_pair:K.lookup f_Ties_need_pair=some ⟨oc_Ties_need_pair,od_Ties_need_pair,.func (PySem.W.fnOf "need_pair" "Ties.need_pair" (bA cM) (bh cM) (aB cM) .none kV_Ties_need_pair dc_Ties_need_pair pm_Ties_need_pair an_Ties_need_pair cd_Ties_need_pair ct_Ties_need_pair),sl_Ties_need_pair⟩) (cc_Ties_need_pair:PySem.W.codeIn K cd_Ties_need_pair "Ties.need_pair" = true) (k_Ties_need_pair:PySem.W.keepIn K (.ref f_Ties_need_pair)=true)
  (a_made_anew:PySem.W.nsIn K mainGlobals "made_anew" = some (some (.ref f_made_anew)))
  (l_made_anew:K.lookup f_made_anew=some ⟨oc_made_anew,od_made_anew,.func (PySem.W.fnOf "made_anew" "made_anew" (bA eV) (bh eV) (aB eV) .none kV_made_anew dc_made_anew pm_made_anew an_made_anew cd_made_anew ct_made_anew),sl_made_anew⟩) (cc_made_anew:PySem.W.codeIn K cd_made_anew "made_anew" = true) (k_made_anew:PySem.W.keepIn K (.ref f_made_anew)=true)
  (a_Ties_notes_r71:PySem.W.findIn K (.ref C_Ties) "notes" = some (some (.ref f_Ties_notes_r71))) (i_Ties_notes_r71:PySem.W.isFn K (.ref f_Ties_notes_r71)=true)
  (l_Ties_notes_r71:K.lookup f_Ties_notes_r71=some ⟨oc_Ties_notes_r71,od_Ties_notes_r71,.func (PySem.W.fnOf "notes" "Ties.notes" (bA cu) (bh cu) (aB cu) .none kV_Ties_notes_r71 dc_Ties_notes_r71 pm_Ties_notes_r71 an_Ties_notes_r71 cd_Ties_notes_r71 ct_Ties_notes_r71),sl_Ties_notes_r71⟩) (cc_Ties_notes_r71:PySem.W.codeIn K cd_Ties_notes_r71 "Ties.notes" = true) (k_Ties_notes_r71:PySem.W.keepIn K (.ref f_Ties_notes_r71)=true)
  (a_Ties_waiting_r71:PySem.W.findIn K (.ref C_Ties) "waiting" = some (some (.ref f_Ties_waiting_r71))) (i_Ties_waiting_r71:PySem.W.isFn K (.ref f_Ties_waiting_r71)=true)
  (l_Ties_waiting_r71:K.lookup f_Ties_waiting_r71=some ⟨oc_Ties_waiting_r71,od_Ties_waiting_r71,.func (PySem.W.fnOf "waiting" "Ties.waiting" (bA cN) (bh cN) (aB cN) .none kV_Ties_waiting_r71 dc_Ties_waiting_r71 pm_Ties_waiting_r71 an_Ties_waiting_r71 cd_Ties_waiting_r71 ct_Ties_waiting_r71),sl_Ties_waiting_r71⟩) (cc_Ties_waiting_r71:PySem.W.codeIn K cd_Ties_waiting_r71 "Ties.waiting" = true) (k_Ties_waiting_r71:PySem.W.keepIn K (.ref f_Ties_waiting_r71)=true)
  (a_l_same:PySem.W.nsIn K mainGlobals "_law_same" = some (some (.ref f_l_same)))
  (l_l_same:K.lookup f_l_same=some ⟨oc_l_same,od_l_same,.func (PySem.W.fnOf "_law_same" "_law_same" (bA gU) (bh gU) (aB gU) .none kV_l_same dc_l_same pm_l_same an_l_same cd_l_same ct_l_same),sl_l_same⟩) (cc_l_same:PySem.W.codeIn K cd_l_same "_law_same" = true) (k_l_same:PySem.W.keepIn K (.ref f_l_same)=true)
  (a_Ties_waiting:PySem.W.findIn K (.ref C_Ties) "waiting" = some (some (.ref f_Ties_waiting))) (i_Ties_waiting:PySem.W.isFn K (.ref f_Ties_waiting)=true)
  (l_Ties_waiting:K.lookup f_Ties_waiting=some ⟨oc_Ties_waiting,od_Ties_waiting,.func (PySem.W.fnOf "waiting" "Ties.waiting" (bA eO) (bh eO) (aB eO) .none kV_Ties_waiting dc_Ties_waiting pm_Ties_waiting an_Ties_waiting cd_Ties_waiting ct_Ties_waiting),sl_Ties_waiting⟩) (cc_Ties_waiting:PySem.W.codeIn K cd_Ties_waiting "Ties.waiting" = true) (k_Ties_waiting:PySem.W.keepIn K (.ref f_Ties_waiting)=true)
  (a_Ties_notes:PySem.W.findIn K (.ref C_Ties) "notes" = some (some (.ref f_Ties_notes))) (i_Ties_notes:PySem.W.isFn K (.ref f_Ties_notes)=true)
  (l_Ties_notes:K.lookup f_Ties_notes=some ⟨oc_Ties_notes,od_Ties_notes,.func (PySem.W.fnOf "notes" "Ties.notes" (bA dR) (bh dR) (aB dR) .none kV_Ties_notes dc_Ties_notes pm_Ties_notes an_Ties_notes cd_Ties_notes ct_Ties_notes),sl_Ties_notes⟩) (cc_Ties_notes:PySem.W.codeIn K cd_Ties_notes "Ties.notes" = true) (k_Ties_notes:PySem.W.keepIn K (.ref f_Ties_notes)=true)
  (a_l_looked:PySem.W.nsIn K mainGlobals "_law_looked" = some (some (.ref f_l_looked)))
  (l_l_looked:K.lookup f_l_looked=some ⟨oc_l_looked,od_l_looked,.func (PySem.W.fnOf "_law_looked" "_law_looked" (bA fQ) (bh fQ) (aB fQ) .none kV_l_looked dc_l_looked pm_l_looked an_l_looked cd_l_looked ct_l_looked),sl_l_looked⟩) (cc_l_looked:PySem.W.codeIn K cd_l_looked "_law_looked" = true) (k_l_looked:PySem.W.keepIn K (.ref f_l_looked)=true)
  (a_Ties_come:PySem.W.findIn K (.ref C_Ties) "come" = some (some (.ref f_Ties_come))) (i_Ties_come:PySem.W.isFn K (.ref f_Ties_come)=true)
  (l_Ties_come:K.lookup f_Ties_come=some ⟨oc_Ties_come,od_Ties_come,.func (PySem.W.fnOf "come" "Ties.come" (bA fW) (bh fW) (aB fW) .none kV_Ties_come dc_Ties_come pm_Ties_come an_Ties_come cd_Ties_come ct_Ties_come),sl_Ties_come⟩) (cc_Ties_come:PySem.W.codeIn K cd_Ties_come "Ties.come" = true) (k_Ties_come:PySem.W.keepIn K (.ref f_Ties_come)=true)
  (a_l_due:PySem.W.nsIn K mainGlobals "_law_due" = some (some (.ref f_l_due)))
  (l_l_due:K.lookup f_l_due=some ⟨oc_l_due,od_l_due,.func (PySem.W.fnOf "_law_due" "_law_due" (bA lu) (bh lu) (aB lu) .none kV_l_due dc_l_due pm_l_due an_l_due cd_l_due ct_l_due),sl_l_due⟩) (cc_l_due:PySem.W.codeIn K cd_l_due "_law_due" = true) (k_l_due:PySem.W.keepIn K (.ref f_l_due)=true)
  (a_l_note:PySem.W.nsIn K mainGlobals "_law_note" = some (some (.ref f_l_note)))
  (l_l_note:K.lookup f_l_note=some ⟨oc_l_note,od_l_note,.func (PySem.W.fnOf "_law_note" "_law_note" (bA ju) (bh ju) (aB ju) .none kV_l_note dc_l_note pm_l_note an_l_note cd_l_note ct_l_note),sl_l_note⟩) (cc_l_note:PySem.W.codeIn K cd_l_note "_law_note" = true) (k_l_note:PySem.W.keepIn K (.ref f_l_note)=true)
  (a_Ties_fall:PySem.W.findIn K (.ref C_Ties) "fall" = some (some (.ref f_Ties_fall))) (i_Ties_fall:PySem.W.isFn K (.ref f_Ties_fall)=true)
  (l_Ties_fall:K.lookup f_Ties_fall=some ⟨oc_Ties_fall,od_Ties_fall,.func (PySem.W.fnOf "fall" "Ties.fall" (bA fX) (bh fX) (aB fX) .none kV_Ties_fall dc_Ties_fall pm_Ties_fall an_Ties_fall cd_Ties_fall ct_Ties_fall),sl_Ties_fall⟩) (cc_Ties_fall:PySem.W.codeIn K cd_Ties_fall "Ties.fall" = true) (k_Ties_fall:PySem.W.keepIn K (.ref f_Ties_fall)=true)
  (a_Ties_send:PySem.W.findIn K (.ref C_Ties) "send" = some (some (.ref f_Ties_send))) (i_Ties_send:PySem.W.isFn K (.ref f_Ties_send)=true)
  (l_Ties_send:K.lookup f_Ties_send=some ⟨oc_Ties_send,od_Ties_send,.func (PySem.W.fnOf "send" "Ties.send" (bA fY) (bh fY) (aB fY) .none kV_Ties_send dc_Ties_send pm_Ties_send an_Ties_send cd_Ties_send ct_Ties_send),sl_Ties_send⟩) (cc_Ties_send:PySem.W.codeIn K cd_Ties_send "Ties.send" = true) (k_Ties_send:PySem.W.keepIn K (.ref f_Ties_send)=true)
  (a_Ties_carry:PySem.W.findIn K (.ref C_Ties) "carry" = some (some (.ref f_Ties_carry))) (i_Ties_carry:PySem.W.isFn K (.ref f_Ties_carry)=true)
  (l_Ties_carry:K.lookup f_Ties_carry=some ⟨oc_Ties_carry,od_Ties_carry,.func (PySem.W.fnOf "carry" "Ties.carry" (bA e_) (bh e_) (aB e_) .none kV_Ties_carry dc_Ties_carry pm_Ties_carry an_Ties_carry cd_Ties_carry ct_Ties_carry),sl_Ties_carry⟩) (cc_Ties_carry:PySem.W.codeIn K cd_Ties_carry "Ties.carry" = true) (k_Ties_carry:PySem.W.keepIn K (.ref f_Ties_carry)=true)
  (a_Ties_length:PySem.W.findIn K (.ref C_Ties) "length" = some (some (.ref f_Ties_length))) (i_Ties_length:PySem.W.isFn K (.ref f_Ties_length)=true)
  (l_Ties_length:K.lookup f_Ties_length=some ⟨oc_Ties_length,od_Ties_length,.func (PySem.W.fnOf "length" "Ties.length" (bA dX) (bh dX) (aB dX) .none kV_Ties_length dc_Ties_length pm_Ties_length an_Ties_length cd_Ties_length ct_Ties_length),sl_Ties_length⟩) (cc_Ties_length:PySem.W.codeIn K cd_Ties_length "Ties.length" = true) (k_Ties_length:PySem.W.keepIn K (.ref f_Ties_length)=true)
  (a_l_word:PySem.W.nsIn K mainGlobals "_law_word" = some (some (.ref f_l_word)))
  (l_l_word:K.lookup f_l_word=some ⟨oc_l_word,od_l_word,.func (PySem.W.fnOf "_law_word" "_law_word" (bA jw) (bh jw) (aB jw) .none kV_l_word dc_l_word pm_l_word an_l_word cd_l_word ct_l_word),sl_l_word⟩) (cc_l_word:PySem.W.codeIn K cd_l_word "_law_word" = true) (k_l_word:PySem.W.keepIn K (.ref f_l_word)=true)
  (a_law:PySem.W.nsIn K mainGlobals "law" = some (some (.ref f_law)))
  (l_law:K.lookup f_law=some ⟨oc_law,od_law,.func (PySem.W.fnOf "law" "law" (bA kh) (bh kh) (aB kh) .none kV_law dc_law pm_law an_law cd_law ct_law),sl_law⟩) (cc_law:PySem.W.codeIn K cd_law "law" = true) (k_law:PySem.W.keepIn K (.ref f_law)=true)
  (a_Ties:PySem.W.nsIn K mainGlobals "Ties" = some (some (.ref C_Ties))) (pg_Ties:PySem.W.plainGet K C_Ties Str.empty=true) (hd_Ties:PySem.W.hasDictIn K C_Ties=true) (po_Ties:PySem.W.plainOver K C_Ties=true) (sa_Ties:PySem.W.findIn K (.ref C_Ties) "__setattr__" = some (some (.builtin "object.__setattr__"))) (mk_Ties:PySem.W.makesIn K C_Ties=true) (kc_Ties:PySem.W.keepIn K (.ref C_Ties)=true)
  (a_BadDeed:PySem.W.nsIn K mainGlobals "BadDeed" = some (some (.ref C_BadDeed)))
  (a_BadText:PySem.W.nsIn K mainGlobals "BadText" = some (some (.ref C_BadText)))
  (a_NoHouse:PySem.W.nsIn K mainGlobals "NoHouse" = some (some (.ref C_NoHouse)))
  (a_NoNote:PySem.W.nsIn K mainGlobals "NoNote" = some (some (.ref C_NoNote)))
  (a_NoRow:PySem.W.nsIn K mainGlobals "NoRow" = some (some (.ref C_NoRow)))
  (a_NotTied:PySem.W.nsIn K mainGlobals "NotTied" = some (some (.ref C_NotTied)))
  (a_Owned:PySem.W.nsIn K mainGlobals "Owned" = some (some (.ref C_Owned)))
  (a_PostError:PySem.W.nsIn K mainGlobals "PostError" = some (some (.ref C_PostError)))
  (a_Tied:PySem.W.nsIn K mainGlobals "Tied" = some (some (.ref C_Tied)))
  (lk_hn:PySem.W.specialIn K (.builtin "object.__class__") "__get__" = some (some (.builtin "getset_descriptor.__get__")))
  (lk_tk:PySem.W.takesIn K (.builtin "object.__class__")=some true)
  (ow_NoHouse:ownIn K C_NoHouse nM "ValueError.__new__" = true)
  (lk_cl_NoHouse:(PySem.W.clsIn K C_NoHouse).isSome=true)
  (lk_ga_NoHouse:PySem.W.findIn K (.ref C_NoHouse) "__getattribute__" = some (some (.builtin "BaseException.__getattribute__")))
  (lk_hk_NoHouse:PySem.W.findIn K (.ref C_NoHouse) "__getattr__" = some none)
  (lk_sub_NoHouse:PySem.W.subIn K (.ref C_NoHouse) (.type "BaseException")=some true)
  (lk_ha_NoHouse:PySem.W.findIn K (.ref C_NoHouse) "__class__" = some (some (.builtin "object.__class__")))
  (lk_hm_NoHouse:PySem.W.mroIn K C_NoHouse (.type "object")=some true)
  (ex_NoHouse_PostError:PySem.W.exmOne K (.ref C_NoHouse) (.ref C_PostError)=some true)
  (y_0_NoHouse:PySem.W.kitOne K (.ref C_NoHouse) (.ref C_NoNote)=some false)
  (y_1_NoHouse:PySem.W.kitOne K (.ref C_NoHouse) (.ref C_NotTied)=some false)
  (y_2_NoHouse:PySem.W.kitOne K (.ref C_NoHouse) (.ref C_Tied)=some false)
  (y_3_NoHouse:PySem.W.kitOne K (.ref C_NoHouse) (.ref C_NoHouse)=some true)
  (y_4_NoHouse:PySem.W.kitAny K (.ref C_NoHouse) [.ref C_BadText,.ref C_NoRow,.ref C_Owned,.ref C_BadDeed]=some false)
  (y_5_NoHouse:PySem.W.kitOne K (.ref C_NoHouse) (.type "ValueError")=some true)
  (ow_NoNote:ownIn K C_NoNote nM "ValueError.__new__" = true)
  (lk_cl_NoNote:(PySem.W.clsIn K C_NoNote).isSome=true)
  (lk_ga_NoNote:PySem.W.findIn K (.ref C_NoNote) "__getattribute__" = some (some (.builtin "BaseException.__getattribute__")))
  (lk_hk_NoNote:PySem.W.findIn K (.ref C_NoNote) "__getattr__" = some none)
  (lk_sub_NoNote:PySem.W.subIn K (.ref C_NoNote) (.type "BaseException")=some true)
  (lk_ha_NoNote:PySem.W.findIn K (.ref C_NoNote) "__class__" = some (some (.builtin "object.__class__")))
  (lk_hm_NoNote:PySem.W.mroIn K C_NoNote (.type "object")=some true)
  (ex_NoNote_PostError:PySem.W.exmOne K (.ref C_NoNote) (.ref C_PostError)=some true)
  (y_0_NoNote:PySem.W.kitOne K (.ref C_NoNote) (.ref C_NoNote)=some true)
  (y_1_NoNote:PySem.W.kitOne K (.ref C_NoNote) (.ref C_NotTied)=some false)
  (y_2_NoNote:PySem.W.kitOne K (.ref C_NoNote) (.ref C_Tied)=some false)
  (y_3_NoNote:PySem.W.kitOne K (.ref C_NoNote) (.ref C_NoHouse)=some false)
  (y_4_NoNote:PySem.W.kitAny K (.ref C_NoNote) [.ref C_BadText,.ref C_NoRow,.ref C_Owned,.ref C_BadDeed]=some false)
  (y_5_NoNote:PySem.W.kitOne K (.ref C_NoNote) (.type "ValueError")=some true)
  (ow_NotTied:ownIn K C_NotTied nM "ValueError.__new__" = true)
  (lk_cl_NotTied:(PySem.W.clsIn K C_NotTied).isSome=true)
  (lk_ga_NotTied:PySem.W.findIn K (.ref C_NotTied) "__getattribute__" = some (some (.builtin "BaseException.__getattribute__")))
  (lk_hk_NotTied:PySem.W.findIn K (.ref C_NotTied) "__getattr__" = some none)
  (lk_sub_NotTied:PySem.W.subIn K (.ref C_NotTied) (.type "BaseException")=some true)
  (lk_ha_NotTied:PySem.W.findIn K (.ref C_NotTied) "__class__" = some (some (.builtin "object.__class__")))
  (lk_hm_NotTied:PySem.W.mroIn K C_NotTied (.type "object")=some true)
  (ex_NotTied_PostError:PySem.W.exmOne K (.ref C_NotTied) (.ref C_PostError)=some true)
  (y_0_NotTied:PySem.W.kitOne K (.ref C_NotTied) (.ref C_NoNote)=some false)
  (y_1_NotTied:PySem.W.kitOne K (.ref C_NotTied) (.ref C_NotTied)=some true)
  (y_2_NotTied:PySem.W.kitOne K (.ref C_NotTied) (.ref C_Tied)=some false)
  (y_3_NotTied:PySem.W.kitOne K (.ref C_NotTied) (.ref C_NoHouse)=some false)
  (y_4_NotTied:PySem.W.kitAny K (.ref C_NotTied) [.ref C_BadText,.ref C_NoRow,.ref C_Owned,.ref C_BadDeed]=some false)
  (y_5_NotTied:PySem.W.kitOne K (.ref C_NotTied) (.type "ValueError")=some true)
  (ow_Tied:ownIn K C_Tied nM "ValueError.__new__" = true)
  (lk_cl_Tied:(PySem.W.clsIn K C_Tied).isSome=true)
  (lk_ga_Tied:PySem.W.findIn K (.ref C_Tied) "__getattribute__" = some (some (.builtin "BaseException.__getattribute__")))
  (lk_hk_Tied:PySem.W.findIn K (.ref C_Tied) "__getattr__" = some none)
  (lk_sub_Tied:PySem.W.subIn K (.ref C_Tied) (.type "BaseException")=some true)
  (lk_ha_Tied:PySem.W.findIn K (.ref C_Tied) "__class__" = some (some (.builtin "object.__class__")))
  (lk_hm_Tied:PySem.W.mroIn K C_Tied (.type "object")=some true)
  (ex_Tied_PostError:PySem.W.exmOne K (.ref C_Tied) (.ref C_PostError)=some true)
  (y_0_Tied:PySem.W.kitOne K (.ref C_Tied) (.ref C_NoNote)=some false)
  (y_1_Tied:PySem.W.kitOne K (.ref C_Tied) (.ref C_NotTied)=some false)
  (y_2_Tied:PySem.W.kitOne K (.ref C_Tied) (.ref C_Tied)=some true)
  (y_3_Tied:PySem.W.kitOne K (.ref C_Tied) (.ref C_NoHouse)=some false)
  (y_4_Tied:PySem.W.kitAny K (.ref C_Tied) [.ref C_BadText,.ref C_NoRow,.ref C_Owned,.ref C_BadDeed]=some false)
  (y_5_Tied:PySem.W.kitOne K (.ref C_Tied) (.type "ValueError")=some true)
  (nf_Ties_length_by:PySem.W.findIn K (.ref C_Ties) "length_by" = some none)
  (nf_Ties_sent_on:PySem.W.findIn K (.ref C_Ties) "sent_on" = some none)
  (z_ValueError:PySem.W.nsIn K mainGlobals "ValueError" = some none)
  (z_all:PySem.W.nsIn K mainGlobals "all" = some none)
  (z_enumerate:PySem.W.nsIn K mainGlobals "enumerate" = some none)
  (z_int:PySem.W.nsIn K mainGlobals "int" = some none)
  (z_isinstance:PySem.W.nsIn K mainGlobals "isinstance" = some none)
  (z_len:PySem.W.nsIn K mainGlobals "len" = some none)
  (z_list:PySem.W.nsIn K mainGlobals "list" = some none)
  (z_max:PySem.W.nsIn K mainGlobals "max" = some none)
  (z_min:PySem.W.nsIn K mainGlobals "min" = some none)
  (z_range:PySem.W.nsIn K mainGlobals "range" = some none)
  (z_sorted:PySem.W.nsIn K mainGlobals "sorted" = some none)
  (z_str:PySem.W.nsIn K mainGlobals "str" = some none)
  (z_tuple:PySem.W.nsIn K mainGlobals "tuple" = some none) :
  ∃fd:FuncData,(∀(s:Shared) (v:Value),BindsTo s fd ⟨[v],[]⟩ [("_law_script",v)])/\∀base:Heap,K.In base->base.Ns mainGlobals mg->FnOk P w K mg base CX0 5 fa fd ["_law_script"] (spC K uz):=by
 have e:=hfa.symm.trans (PySem.W.mg_of X G a_law)
 cases e
 have hC_NoHouse:(au (au (au (au (au C0 "Ties" C_Ties) "NoHouse" C_NoHouse) "NoNote" C_NoNote) "NotTied" C_NotTied) "Tied" C_Tied) "NoHouse" = some C_NoHouse:=(gR (by decide +kernel) (gR (by decide +kernel) (gR (by decide +kernel) lM)))
 have L_NoHouse:PySem.W.ExcLook K C_NoHouse:=⟨lk_cl_NoHouse,lk_ga_NoHouse,lk_hk_NoHouse,lk_sub_NoHouse,lk_ha_NoHouse,lk_hn,lk_tk,lk_hm_NoHouse⟩
 have hC_NoNote:(au (au (au (au (au C0 "Ties" C_Ties) "NoHouse" C_NoHouse) "NoNote" C_NoNote) "NotTied" C_NotTied) "Tied" C_Tied) "NoNote" = some C_NoNote:=(gR (by decide +kernel) (gR (by decide +kernel) lM))
 have L_NoNote:PySem.W.ExcLook K C_NoNote:=⟨lk_cl_NoNote,lk_ga_NoNote,lk_hk_NoNote,lk_sub_NoNote,lk_ha_NoNote,lk_hn,lk_tk,lk_hm_NoNote⟩
 have hC_NotTied:(au (au (au (au (au C0 "Ties" C_Ties) "NoHouse" C_NoHouse) "NoNote" C_NoNote) "NotTied" C_NotTied) "Tied" C_Tied) "NotTied" = some C_NotTied:=(gR (by decide +kernel) lM)
 have L_NotTied:PySem.W.ExcLook K C_NotTied:=⟨lk_cl_NotTied,lk_ga_NotTied,lk_hk_NotTied,lk_sub_NotTied,lk_ha_NotTied,lk_hn,lk_tk,lk_hm_NotTied⟩
 have hC_Tied:(au (au (au (au (au C0 "Ties" C_Ties) "NoHouse" C_NoHouse) "NoNote" C_NoNote) "NotTied" C_NotTied) "Tied" C_Tied) "Tied" = some C_Tied:=lM
 have L_Tied:PySem.W.ExcLook K C_Tied:=⟨lk_cl_Tied,lk_ga_Tied,lk_hk_Tied,lk_sub_Tied,lk_ha_Tied,lk_hn,lk_tk,lk_hm_Tied⟩
 have tc_PostError:∀c,jX c=true->∃Ca,(au (au (au (au (au C0 "Ties" C_Ties) "NoHouse" C_NoHouse) "NoNote" C_NoNote) "NotTied" C_NotTied) "Tied" C_Tied) c=some Ca/\PySem.W.exmOne K (.ref Ca) (.ref C_PostError)=some true:=fun c hc=>by
  simp only[jX,Bool.or_eq_true,decide_eq_true_eq] at hc
  rcases hc with ((rfl |rfl) |rfl) |rfl
  ·exact⟨C_NoHouse,hC_NoHouse,ex_NoHouse_PostError⟩
  ·exact⟨C_NoNote,hC_NoNote,ex_NoNote_PostError⟩
  ·exact⟨C_NotTied,hC_NotTied,ex_NotTied_PostError⟩
  ·exact⟨C_Tied,hC_Tied,ex_Tied_PostError⟩
 have x_0:∀c Ca b,xU c=some b->(au (au (au (au (au C0 "Ties" C_Ties) "NoHouse" C_NoHouse) "NoNote" C_NoNote) "NotTied" C_NotTied) "Tied" C_Tied) c=some Ca->PySem.W.ExcLook K Ca/\PySem.W.kitOne K (.ref Ca) (.ref C_NoNote)=some b:=fun c Ca b h1 h2=>by
  unfold xU at h1
  by_cases e_NoHouse:c = "NoHouse"
  ·subst e_NoHouse;rw[if_pos rfl] at h1;cases h1;rw[hC_NoHouse] at h2;cases h2;exact⟨L_NoHouse,y_0_NoHouse⟩
  rw[if_neg e_NoHouse] at h1
  by_cases e_NoNote:c = "NoNote"
  ·subst e_NoNote;rw[if_pos rfl] at h1;cases h1;rw[hC_NoNote] at h2;cases h2;exact⟨L_NoNote,y_0_NoNote⟩
  rw[if_neg e_NoNote] at h1
  by_cases e_NotTied:c = "NotTied"
  ·subst e_NotTied;rw[if_pos rfl] at h1;cases h1;rw[hC_NotTied] at h2;cases h2;exact⟨L_NotTied,y_0_NotTied⟩
  rw[if_neg e_NotTied] at h1
  by_cases e_Tied:c = "Tied"
  ·subst e_Tied;rw[if_pos rfl] at h1;cases h1;rw[hC_Tied] at h2;cases h2;exact⟨L_Tied,y_0_Tied⟩
  rw[if_neg e_Tied] at h1
  cases h1
 have x_1:∀c Ca b,xV c=some b->(au (au (au (au (au C0 "Ties" C_Ties) "NoHouse" C_NoHouse) "NoNote" C_NoNote) "NotTied" C_NotTied) "Tied" C_Tied) c=some Ca->PySem.W.ExcLook K Ca/\PySem.W.kitOne K (.ref Ca) (.ref C_NotTied)=some b:=fun c Ca b h1 h2=>by
  unfold xV at h1
  by_cases e_NoHouse:c = "NoHouse"
  ·subst e_NoHouse;rw[if_pos rfl] at h1;cases h1;rw[hC_NoHouse] at h2;cases h2;exact⟨L_NoHouse,y_1_NoHouse⟩
  rw[if_neg e_NoHouse] at h1
  by_cases e_NoNote:c = "NoNote"
  ·subst e_NoNote;rw[if_pos rfl] at h1;cases h1;rw[hC_NoNote] at h2;cases h2;exact⟨L_NoNote,y_1_NoNote⟩
  rw[if_neg e_NoNote] at h1
  by_cases e_NotTied:c = "NotTied"
  ·subst e_NotTied;rw[if_pos rfl] at h1;cases h1;rw[hC_NotTied] at h2;cases h2;exact⟨L_NotTied,y_1_NotTied⟩
  rw[if_neg e_NotTied] at h1
  by_cases e_Tied:c = "Tied"
  ·subst e_Tied;rw[if_pos rfl] at h1;cases h1;rw[hC_Tied] at h2;cases h2;exact⟨L_Tied,y_1_Tied⟩
  rw[if_neg e_Tied] at h1
  cases h1
 have x_2:∀c Ca b,xW c=some b->(au (au (au (au (au C0 "Ties" C_Ties) "NoHouse" C_NoHouse) "NoNote" C_NoNote) "NotTied" C_NotTied) "Tied" C_Tied) c=some Ca->PySem.W.ExcLook K Ca/\PySem.W.kitOne K (.ref Ca) (.ref C_Tied)=some b:=fun c Ca b h1 h2=>by
  unfold xW at h1
  by_cases e_NoHouse:c = "NoHouse"
  ·subst e_NoHouse;rw[if_pos rfl] at h1;cases h1;rw[hC_NoHouse] at h2;cases h2;exact⟨L_NoHouse,y_2_NoHouse⟩
  rw[if_neg e_NoHouse] at h1
  by_cases e_NoNote:c = "NoNote"
  ·subst e_NoNote;rw[if_pos rfl] at h1;cases h1;rw[hC_NoNote] at h2;cases h2;exact⟨L_NoNote,y_2_NoNote⟩
  rw[if_neg e_NoNote] at h1
  by_cases e_NotTied:c = "NotTied"
  ·subst e_NotTied;rw[if_pos rfl] at h1;cases h1;rw[hC_NotTied] at h2;cases h2;exact⟨L_NotTied,y_2_NotTied⟩
  rw[if_neg e_NotTied] at h1
  by_cases e_Tied:c = "Tied"
  ·subst e_Tied;rw[if_pos rfl] at h1;cases h1;rw[hC_Tied] at h2;cases h2;exact⟨L_Tied,y_2_Tied⟩
  rw[if_neg e_Tied] at h1
  cases h1
 have x_3:∀c Ca b,xX c=some b->(au (au (au (au (au C0 "Ties" C_Ties) "NoHouse" C_NoHouse) "NoNote" C_NoNote) "NotTied" C_NotTied) "Tied" C_Tied) c=some Ca->PySem.W.ExcLook K Ca/\PySem.W.kitOne K (.ref Ca) (.ref C_NoHouse)=some b:=fun c Ca b h1 h2=>by
  unfold xX at h1
  by_cases e_NoHouse:c = "NoHouse"
  ·subst e_NoHouse;rw[if_pos rfl] at h1;cases h1;rw[hC_NoHouse] at h2;cases h2;exact⟨L_NoHouse,y_3_NoHouse⟩
  rw[if_neg e_NoHouse] at h1
  by_cases e_NoNote:c = "NoNote"
  ·subst e_NoNote;rw[if_pos rfl] at h1;cases h1;rw[hC_NoNote] at h2;cases h2;exact⟨L_NoNote,y_3_NoNote⟩
  rw[if_neg e_NoNote] at h1
  by_cases e_NotTied:c = "NotTied"
  ·subst e_NotTied;rw[if_pos rfl] at h1;cases h1;rw[hC_NotTied] at h2;cases h2;exact⟨L_NotTied,y_3_NotTied⟩
  rw[if_neg e_NotTied] at h1
  by_cases e_Tied:c = "Tied"
  ·subst e_Tied;rw[if_pos rfl] at h1;cases h1;rw[hC_Tied] at h2;cases h2;exact⟨L_Tied,y_3_Tied⟩
  rw[if_neg e_Tied] at h1
  cases h1
 have x_4:∀c Ca b,xY c=some b->(au (au (au (au (au C0 "Ties" C_Ties) "NoHouse" C_NoHouse) "NoNote" C_NoNote) "NotTied" C_NotTied) "Tied" C_Tied) c=some Ca->PySem.W.ExcLook K Ca/\PySem.W.kitAny K (.ref Ca) [.ref C_BadText,.ref C_NoRow,.ref C_Owned,.ref C_BadDeed]=some b:=fun c Ca b h1 h2=>by
  unfold xY at h1
  by_cases e_NoHouse:c = "NoHouse"
  ·subst e_NoHouse;rw[if_pos rfl] at h1;cases h1;rw[hC_NoHouse] at h2;cases h2;exact⟨L_NoHouse,y_4_NoHouse⟩
  rw[if_neg e_NoHouse] at h1
  by_cases e_NoNote:c = "NoNote"
  ·subst e_NoNote;rw[if_pos rfl] at h1;cases h1;rw[hC_NoNote] at h2;cases h2;exact⟨L_NoNote,y_4_NoNote⟩
  rw[if_neg e_NoNote] at h1
  by_cases e_NotTied:c = "NotTied"
  ·subst e_NotTied;rw[if_pos rfl] at h1;cases h1;rw[hC_NotTied] at h2;cases h2;exact⟨L_NotTied,y_4_NotTied⟩
  rw[if_neg e_NotTied] at h1
  by_cases e_Tied:c = "Tied"
  ·subst e_Tied;rw[if_pos rfl] at h1;cases h1;rw[hC_Tied] at h2;cases h2;exact⟨L_Tied,y_4_Tied⟩
  rw[if_neg e_Tied] at h1
  cases h1
 have x_5:∀c Ca b,xZ c=some b->(au (au (au (au (au C0 "Ties" C_Ties) "NoHouse" C_NoHouse) "NoNote" C_NoNote) "NotTied" C_NotTied) "Tied" C_Tied) c=some Ca->PySem.W.ExcLook K Ca/\PySem.W.kitOne K (.ref Ca) (.type "ValueError")=some b:=fun c Ca b h1 h2=>by
  unfold xZ at h1
  by_cases e_NoHouse:c = "NoHouse"
  ·subst e_NoHouse;rw[if_pos rfl] at h1;cases h1;rw[hC_NoHouse] at h2;cases h2;exact⟨L_NoHouse,y_5_NoHouse⟩
  rw[if_neg e_NoHouse] at h1
  by_cases e_NoNote:c = "NoNote"
  ·subst e_NoNote;rw[if_pos rfl] at h1;cases h1;rw[hC_NoNote] at h2;cases h2;exact⟨L_NoNote,y_5_NoNote⟩
  rw[if_neg e_NoNote] at h1
  by_cases e_NotTied:c = "NotTied"
  ·subst e_NotTied;rw[if_pos rfl] at h1;cases h1;rw[hC_NotTied] at h2;cases h2;exact⟨L_NotTied,y_5_NotTied⟩
  rw[if_neg e_NotTied] at h1
  by_cases e_Tied:c = "Tied"
  ·subst e_Tied;rw[if_pos rfl] at h1;cases h1;rw[hC_Tied] at h2;cases h2;exact⟨L_Tied,y_5_Tied⟩
  rw[if_neg e_Tied] at h1
  cases h1
 have hC_Ties:(au (au (au (au (au C0 "Ties" C_Ties) "NoHouse" C_NoHouse) "NoNote" C_NoNote) "NotTied" C_NotTied) "Tied" C_Tied) "Ties" = some C_Ties:=(gR (by decide +kernel) (gR (by decide +kernel) (gR (by decide +kernel) (gR (by decide +kernel) lM))))
 have T_Ties:ClD K (au (au (au (au (au C0 "Ties" C_Ties) "NoHouse" C_NoHouse) "NoNote" C_NoNote) "NotTied" C_NotTied) "Tied" C_Tied) "Ties":=⟨C_Ties,hC_Ties,⟨pg_Ties,hd_Ties,po_Ties,sa_Ties⟩⟩
 have n_Ties_length_by:NoA K (au (au (au (au (au C0 "Ties" C_Ties) "NoHouse" C_NoHouse) "NoNote" C_NoNote) "NotTied" C_NotTied) "Tied" C_Tied) "Ties" "length_by":=GX hC_Ties nf_Ties_length_by
 have n_Ties_sent_on:NoA K (au (au (au (au (au C0 "Ties" C_Ties) "NoHouse" C_NoHouse) "NoNote" C_NoNote) "NotTied" C_NotTied) "Tied" C_Tied) "Ties" "sent_on":=GX hC_Ties nf_Ties_sent_on
 have T_l_kind:TF K mg "_law_kind" jt:=⟨f_l_kind,_,PySem.W.mg_of X G a_l_kind,g_ (st:=jt) l_l_kind cc_l_kind k_l_kind⟩
 have T_l_same_r71:TF K mg "_law_same" dg:=⟨f_l_same_r71,_,PySem.W.mg_of X G a_l_same_r71,g_ (st:=dg) l_l_same_r71 cc_l_same_r71 k_l_same_r71⟩
 have T_l_cell_at:TF K mg "_law_cell_at" fV:=⟨f_l_cell_at,_,PySem.W.mg_of X G a_l_cell_at,g_ (st:=fV) l_l_cell_at cc_l_cell_at k_l_cell_at⟩
 have T_l_draws:TF K mg "_law_draws" iD:=⟨f_l_draws,_,PySem.W.mg_of X G a_l_draws,g_ (st:=iD) l_l_draws cc_l_draws k_l_draws⟩
 have T_l_same_r72:TF K mg "_law_same" dh:=⟨f_l_same_r72,_,PySem.W.mg_of X G a_l_same_r72,g_ (st:=dh) l_l_same_r72 cc_l_same_r72 k_l_same_r72⟩
 have T_in_pair:TF K mg "in_pair" iG:=⟨f_in_pair,_,PySem.W.mg_of X G a_in_pair,g_ (st:=iG) l_in_pair cc_in_pair k_in_pair⟩
 have T_made_anew:TF K mg "made_anew" eV:=⟨f_made_anew,_,PySem.W.mg_of X G a_made_anew,g_ (st:=eV) l_made_anew cc_made_anew k_made_anew⟩
 have T_l_same:TF K mg "_law_same" gU:=⟨f_l_same,_,PySem.W.mg_of X G a_l_same,g_ (st:=gU) l_l_same cc_l_same k_l_same⟩
 have T_l_looked:TF K mg "_law_looked" fQ:=⟨f_l_looked,_,PySem.W.mg_of X G a_l_looked,g_ (st:=fQ) l_l_looked cc_l_looked k_l_looked⟩
 have T_l_due:TF K mg "_law_due" lu:=⟨f_l_due,_,PySem.W.mg_of X G a_l_due,g_ (st:=lu) l_l_due cc_l_due k_l_due⟩
 have T_l_note:TF K mg "_law_note" ju:=⟨f_l_note,_,PySem.W.mg_of X G a_l_note,g_ (st:=ju) l_l_note cc_l_note k_l_note⟩
 have T_l_word:TF K mg "_law_word" jw:=⟨f_l_word,_,PySem.W.mg_of X G a_l_word,g_ (st:=jw) l_l_word cc_l_word k_l_word⟩
 refine⟨PySem.W.fnOf "law" "law" (bA kh) (bh kh) (aB kh) .none kV_law dc_law pm_law an_law cd_law ct_law,fun s v=>.of_eq rfl,fun base KB _=>?_⟩
 have O_NoHouse:OwnCls "NoHouse" C_NoHouse nM "ValueError.__new__" mg base:=wD KB ow_NoHouse (PySem.W.mg_of X G a_NoHouse)
 have O_NoNote:OwnCls "NoNote" C_NoNote nM "ValueError.__new__" mg base:=wD KB ow_NoNote (PySem.W.mg_of X G a_NoNote)
 have O_NotTied:OwnCls "NotTied" C_NotTied nM "ValueError.__new__" mg base:=wD KB ow_NotTied (PySem.W.mg_of X G a_NotTied)
 have O_Tied:OwnCls "Tied" C_Tied nM "ValueError.__new__" mg base:=wD KB ow_Tied (PySem.W.mg_of X G a_Tied)
 have G_l_kind:Fn P w K mg base (au (au (au (au (au C0 "Ties" C_Ties) "NoHouse" C_NoHouse) "NoNote" C_NoNote) "NotTied" C_NotTied) "Tied" C_Tied) 1 "_law_kind" cg:=Im T_l_kind (PySem.W.mg_none_of X G z_int) (PySem.W.mg_none_of X G z_isinstance) (PySem.W.mg_none_of X G z_str) (PySem.W.mg_none_of X G z_tuple)
 have G_l_same_r71:Fn P w K mg base (au (au (au (au (au C0 "Ties" C_Ties) "NoHouse" C_NoHouse) "NoNote" C_NoNote) "NotTied" C_NotTied) "Tied" C_Tied) 2 "_law_same" cJ:=zx T_l_same_r71 (PySem.W.mg_none_of X G z_isinstance) (PySem.W.mg_none_of X G z_len) (PySem.W.mg_none_of X G z_list) G_l_kind
 have G_l_cell_at:Fn P w K mg base (au (au (au (au (au C0 "Ties" C_Ties) "NoHouse" C_NoHouse) "NoNote" C_NoNote) "NotTied" C_NotTied) "Tied" C_Tied) 1 "_law_cell_at" cX:=BV T_l_cell_at (PySem.W.mg_none_of X G z_len)
 have G_l_draws:Fn P w K mg base (au (au (au (au (au C0 "Ties" C_Ties) "NoHouse" C_NoHouse) "NoNote" C_NoNote) "NotTied" C_NotTied) "Tied" C_Tied) 2 "_law_draws" mZ:=Fv T_l_draws (PySem.W.mg_none_of X G z_len) (PySem.W.mg_none_of X G z_range) G_l_cell_at
 have O_Ties___init__:FnOk P w K mg base CX0 1 f_Ties___init__ _ ["self"] (spD K (au (au (au (au (au C0 "Ties" C_Ties) "NoHouse" C_NoHouse) "NoNote" C_NoNote) "NotTied" C_NotTied) "Tied" C_Tied) fC):=vG (h_ (st:=dO) l_Ties___init__ cc_Ties___init__) T_Ties n_Ties_length_by n_Ties_sent_on
 have K_Ties:MkD P w K mg base (au (au (au (au (au C0 "Ties" C_Ties) "NoHouse" C_NoHouse) "NoNote" C_NoNote) "NotTied" C_NotTied) "Tied" C_Tied) 1 "Ties" fC []:=⟨C_Ties,f_Ties___init__,_,_,[],[],hC_Ties,PySem.W.mg_of X G a_Ties,⟨mk_Ties,a_Ties___init__,i_Ties___init__,kc_Ties⟩,(jn (ps:=["self"]) fun us hl=>vd us hl (fun _=>rfl)),.nil,fun _ _=>.nil,O_Ties___init__⟩
 have G_l_same_r72:Fn P w K mg base (au (au (au (au (au C0 "Ties" C_Ties) "NoHouse" C_NoHouse) "NoNote" C_NoNote) "NotTied" C_NotTied) "Tied" C_Tied) 2 "_law_same" iw:=zy T_l_same_r72 (PySem.W.mg_none_of X G z_isinstance) (PySem.W.mg_none_of X G z_len) (PySem.W.mg_none_of X G z_list) G_l_kind
 have G_in_pair:Fn P w K mg base (au (au (au (au (au C0 "Ties" C_Ties) "NoHouse" C_NoHouse) "NoNote" C_NoNote) "NotTied" C_NotTied) "Tied" C_Tied) 1 "in_pair" cV:=Fw T_in_pair (PySem.W.mg_none_of X G z_max) (PySem.W.mg_none_of X G z_min)
 have O_Ties_need_pair:FnOk P w K mg base (CXr P w) 2 f_Ties_need_pair _ ["self","one","other"] (spX K (au (au (au (au (au C0 "Ties" C_Ties) "NoHouse" C_NoHouse) "NoNote" C_NoNote) "NotTied" C_NotTied) "Tied" C_Tied) aO aV):=uI (h_ (st:=cM) l_Ties_need_pair cc_Ties_need_pair) T_Ties n_Ties_length_by hC_NotTied O_NotTied G_in_pair
 have M_Ties_need_pair_0:MtX P w K mg base (au (au (au (au (au C0 "Ties" C_Ties) "NoHouse" C_NoHouse) "NoNote" C_NoNote) "NotTied" C_NotTied) "Tied" C_Tied) 2 "Ties" "need_pair" aO aV []:=⟨C_Ties,f_Ties_need_pair,_,_,[],[],hC_Ties,⟨pg_Ties,hd_Ties,po_Ties,sa_Ties⟩,⟨a_Ties_need_pair,i_Ties_need_pair,k_Ties_need_pair⟩,(jn (ps:=["self","one","other"]) fun us hl=>vg us hl (fun _ _ _=>rfl)),.nil,fun _ _=>.nil,O_Ties_need_pair⟩
 have G_made_anew:Fn P w K mg base (au (au (au (au (au C0 "Ties" C_Ties) "NoHouse" C_NoHouse) "NoNote" C_NoNote) "NotTied" C_NotTied) "Tied" C_Tied) 1 "made_anew" cY:=BW T_made_anew (PySem.W.mg_none_of X G z_all) (PySem.W.mg_none_of X G z_enumerate) (PySem.W.mg_none_of X G z_isinstance) (PySem.W.mg_none_of X G z_len) (PySem.W.mg_none_of X G z_list) (PySem.W.mg_none_of X G z_tuple)
 have O_Ties_notes_r71:FnOk P w K mg base (CXr P w) 3 f_Ties_notes_r71 _ ["self","one","other"] (spX K (au (au (au (au (au C0 "Ties" C_Ties) "NoHouse" C_NoHouse) "NoNote" C_NoNote) "NotTied" C_NotTied) "Tied" C_Tied) dz iQ):=uJ (h_ (st:=cu) l_Ties_notes_r71 cc_Ties_notes_r71) T_Ties n_Ties_sent_on M_Ties_need_pair_0 G_made_anew
 have M_Ties_notes_r71_0:MtX P w K mg base (au (au (au (au (au C0 "Ties" C_Ties) "NoHouse" C_NoHouse) "NoNote" C_NoNote) "NotTied" C_NotTied) "Tied" C_Tied) 3 "Ties" "notes" dz iQ []:=⟨C_Ties,f_Ties_notes_r71,_,_,[],[],hC_Ties,⟨pg_Ties,hd_Ties,po_Ties,sa_Ties⟩,⟨a_Ties_notes_r71,i_Ties_notes_r71,k_Ties_notes_r71⟩,(jn (ps:=["self","one","other"]) fun us hl=>vg us hl (fun _ _ _=>rfl)),.nil,fun _ _=>.nil,O_Ties_notes_r71⟩
 have O_Ties_waiting_r71:FnOk P w K mg base CX0 1 f_Ties_waiting_r71 _ ["self"] (spD K (au (au (au (au (au C0 "Ties" C_Ties) "NoHouse" C_NoHouse) "NoNote" C_NoNote) "NotTied" C_NotTied) "Tied" C_Tied) cL):=rR (h_ (st:=cN) l_Ties_waiting_r71 cc_Ties_waiting_r71) T_Ties n_Ties_sent_on (PySem.W.mg_none_of X G z_sorted)
 have M_Ties_waiting_r71_0:Mt P w K mg base (au (au (au (au (au C0 "Ties" C_Ties) "NoHouse" C_NoHouse) "NoNote" C_NoNote) "NotTied" C_NotTied) "Tied" C_Tied) 1 "Ties" "waiting" cL []:=⟨C_Ties,f_Ties_waiting_r71,_,_,[],[],hC_Ties,⟨pg_Ties,hd_Ties,po_Ties,sa_Ties⟩,⟨a_Ties_waiting_r71,i_Ties_waiting_r71,k_Ties_waiting_r71⟩,(jn (ps:=["self"]) fun us hl=>vd us hl (fun _=>rfl)),.nil,fun _ _=>.nil,O_Ties_waiting_r71⟩
 have G_l_same:Fn P w K mg base (au (au (au (au (au C0 "Ties" C_Ties) "NoHouse" C_NoHouse) "NoNote" C_NoNote) "NotTied" C_NotTied) "Tied" C_Tied) 2 "_law_same" jq:=Io T_l_same (PySem.W.mg_none_of X G z_isinstance) (PySem.W.mg_none_of X G z_len) (PySem.W.mg_none_of X G z_list) G_l_kind
 have O_Ties_waiting:FnOk P w K mg base CX0 1 f_Ties_waiting _ ["self"] (spD K (au (au (au (au (au C0 "Ties" C_Ties) "NoHouse" C_NoHouse) "NoNote" C_NoNote) "NotTied" C_NotTied) "Tied" C_Tied) eG):=wX (h_ (st:=eO) l_Ties_waiting cc_Ties_waiting) T_Ties n_Ties_sent_on (PySem.W.mg_none_of X G z_sorted)
 have M_Ties_waiting_0:Mt P w K mg base (au (au (au (au (au C0 "Ties" C_Ties) "NoHouse" C_NoHouse) "NoNote" C_NoNote) "NotTied" C_NotTied) "Tied" C_Tied) 1 "Ties" "waiting" eG []:=⟨C_Ties,f_Ties_waiting,_,_,[],[],hC_Ties,⟨pg_Ties,hd_Ties,po_Ties,sa_Ties⟩,⟨a_Ties_waiting,i_Ties_waiting,k_Ties_waiting⟩,(jn (ps:=["self"]) fun us hl=>vd us hl (fun _=>rfl)),.nil,fun _ _=>.nil,O_Ties_waiting⟩
 have O_Ties_notes:FnOk P w K mg base (CXr P w) 3 f_Ties_notes _ ["self","one","other"] (spX K (au (au (au (au (au C0 "Ties" C_Ties) "NoHouse" C_NoHouse) "NoNote" C_NoNote) "NotTied" C_NotTied) "Tied" C_Tied) eX iz):=zA (h_ (st:=dR) l_Ties_notes cc_Ties_notes) T_Ties n_Ties_sent_on M_Ties_need_pair_0 G_made_anew
 have M_Ties_notes_0:MtX P w K mg base (au (au (au (au (au C0 "Ties" C_Ties) "NoHouse" C_NoHouse) "NoNote" C_NoNote) "NotTied" C_NotTied) "Tied" C_Tied) 3 "Ties" "notes" eX iz []:=⟨C_Ties,f_Ties_notes,_,_,[],[],hC_Ties,⟨pg_Ties,hd_Ties,po_Ties,sa_Ties⟩,⟨a_Ties_notes,i_Ties_notes,k_Ties_notes⟩,(jn (ps:=["self","one","other"]) fun us hl=>vg us hl (fun _ _ _=>rfl)),.nil,fun _ _=>.nil,O_Ties_notes⟩
 have G_l_looked:Fn P w K mg base (au (au (au (au (au C0 "Ties" C_Ties) "NoHouse" C_NoHouse) "NoNote" C_NoNote) "NotTied" C_NotTied) "Tied" C_Tied) 4 "_law_looked" iR:=Cw T_l_looked M_Ties_waiting_r71_0 M_Ties_notes_r71_0 M_Ties_waiting_0 (PySem.W.mg_none_of X G z_list) (PySem.W.mg_none_of X G z_sorted) G_l_same_r71 G_l_same_r72 G_l_same
 have O_Ties_come:FnOk P w K mg base (CXr P w) 2 f_Ties_come _ ["self","one","other","length"] (spX K (au (au (au (au (au C0 "Ties" C_Ties) "NoHouse" C_NoHouse) "NoNote" C_NoNote) "NotTied" C_NotTied) "Tied" C_Tied) bY fU):=BX (h_ (st:=fW) l_Ties_come cc_Ties_come) T_Ties n_Ties_length_by hC_NoHouse O_NoHouse hC_Tied O_Tied G_in_pair
 have M_Ties_come_0:MtX P w K mg base (au (au (au (au (au C0 "Ties" C_Ties) "NoHouse" C_NoHouse) "NoNote" C_NoNote) "NotTied" C_NotTied) "Tied" C_Tied) 2 "Ties" "come" bY fU []:=⟨C_Ties,f_Ties_come,_,_,[],[],hC_Ties,⟨pg_Ties,hd_Ties,po_Ties,sa_Ties⟩,⟨a_Ties_come,i_Ties_come,k_Ties_come⟩,(jn (ps:=["self","one","other","length"]) fun us hl=>J_ us hl (fun _ _ _ _=>rfl)),.nil,fun _ _=>.nil,O_Ties_come⟩
 have G_l_due:Fn P w K mg base (au (au (au (au (au C0 "Ties" C_Ties) "NoHouse" C_NoHouse) "NoNote" C_NoNote) "NotTied" C_NotTied) "Tied" C_Tied) 1 "_law_due" cF:=Lg T_l_due (PySem.W.mg_none_of X G z_list) (PySem.W.mg_none_of X G z_max) (PySem.W.mg_none_of X G z_min)
 have G_l_note:Fn P w K mg base (au (au (au (au (au C0 "Ties" C_Ties) "NoHouse" C_NoHouse) "NoNote" C_NoNote) "NotTied" C_NotTied) "Tied" C_Tied) 1 "_law_note" mK:=Ip T_l_note
 have O_Ties_fall:FnOk P w K mg base (CXr P w) 3 f_Ties_fall _ ["self","one","other"] (spX K (au (au (au (au (au C0 "Ties" C_Ties) "NoHouse" C_NoHouse) "NoNote" C_NoNote) "NotTied" C_NotTied) "Tied" C_Tied) eU iZ):=B_ (h_ (st:=fX) l_Ties_fall cc_Ties_fall) T_Ties n_Ties_length_by n_Ties_sent_on M_Ties_need_pair_0 G_in_pair
 have M_Ties_fall_0:MtX P w K mg base (au (au (au (au (au C0 "Ties" C_Ties) "NoHouse" C_NoHouse) "NoNote" C_NoNote) "NotTied" C_NotTied) "Tied" C_Tied) 3 "Ties" "fall" eU iZ []:=⟨C_Ties,f_Ties_fall,_,_,[],[],hC_Ties,⟨pg_Ties,hd_Ties,po_Ties,sa_Ties⟩,⟨a_Ties_fall,i_Ties_fall,k_Ties_fall⟩,(jn (ps:=["self","one","other"]) fun us hl=>vg us hl (fun _ _ _=>rfl)),.nil,fun _ _=>.nil,O_Ties_fall⟩
 have O_Ties_send:FnOk P w K mg base (CXr P w) 3 f_Ties_send _ ["self","one","other","note"] (spX K (au (au (au (au (au C0 "Ties" C_Ties) "NoHouse" C_NoHouse) "NoNote" C_NoNote) "NotTied" C_NotTied) "Tied" C_Tied) dG i_):=Cd (h_ (st:=fY) l_Ties_send cc_Ties_send) T_Ties n_Ties_sent_on M_Ties_need_pair_0 G_made_anew
 have M_Ties_send_0:MtX P w K mg base (au (au (au (au (au C0 "Ties" C_Ties) "NoHouse" C_NoHouse) "NoNote" C_NoNote) "NotTied" C_NotTied) "Tied" C_Tied) 3 "Ties" "send" dG i_ []:=⟨C_Ties,f_Ties_send,_,_,[],[],hC_Ties,⟨pg_Ties,hd_Ties,po_Ties,sa_Ties⟩,⟨a_Ties_send,i_Ties_send,k_Ties_send⟩,(jn (ps:=["self","one","other","note"]) fun us hl=>J_ us hl (fun _ _ _ _=>rfl)),.nil,fun _ _=>.nil,O_Ties_send⟩
 have O_Ties_carry:FnOk P w K mg base (CXr P w) 3 f_Ties_carry _ ["self","one","other"] (spX K (au (au (au (au (au C0 "Ties" C_Ties) "NoHouse" C_NoHouse) "NoNote" C_NoNote) "NotTied" C_NotTied) "Tied" C_Tied) cZ gw):=zB (h_ (st:=e_) l_Ties_carry cc_Ties_carry) T_Ties n_Ties_sent_on M_Ties_need_pair_0 hC_NoNote O_NoNote
 have M_Ties_carry_0:MtX P w K mg base (au (au (au (au (au C0 "Ties" C_Ties) "NoHouse" C_NoHouse) "NoNote" C_NoNote) "NotTied" C_NotTied) "Tied" C_Tied) 3 "Ties" "carry" cZ gw []:=⟨C_Ties,f_Ties_carry,_,_,[],[],hC_Ties,⟨pg_Ties,hd_Ties,po_Ties,sa_Ties⟩,⟨a_Ties_carry,i_Ties_carry,k_Ties_carry⟩,(jn (ps:=["self","one","other"]) fun us hl=>vg us hl (fun _ _ _=>rfl)),.nil,fun _ _=>.nil,O_Ties_carry⟩
 have O_Ties_length:FnOk P w K mg base (CXr P w) 3 f_Ties_length _ ["self","one","other"] (spX K (au (au (au (au (au C0 "Ties" C_Ties) "NoHouse" C_NoHouse) "NoNote" C_NoNote) "NotTied" C_NotTied) "Tied" C_Tied) dW gK):=ym (h_ (st:=dX) l_Ties_length cc_Ties_length) T_Ties n_Ties_length_by M_Ties_need_pair_0 G_in_pair
 have M_Ties_length_0:MtX P w K mg base (au (au (au (au (au C0 "Ties" C_Ties) "NoHouse" C_NoHouse) "NoNote" C_NoNote) "NotTied" C_NotTied) "Tied" C_Tied) 3 "Ties" "length" dW gK []:=⟨C_Ties,f_Ties_length,_,_,[],[],hC_Ties,⟨pg_Ties,hd_Ties,po_Ties,sa_Ties⟩,⟨a_Ties_length,i_Ties_length,k_Ties_length⟩,(jn (ps:=["self","one","other"]) fun us hl=>vg us hl (fun _ _ _=>rfl)),.nil,fun _ _=>.nil,O_Ties_length⟩
 have G_l_word:Fn P w K mg base (au (au (au (au (au C0 "Ties" C_Ties) "NoHouse" C_NoHouse) "NoNote" C_NoNote) "NotTied" C_NotTied) "Tied" C_Tied) 4 "_law_word" cT:=Ir T_l_word M_Ties_come_0 M_Ties_fall_0 M_Ties_send_0 M_Ties_carry_0 M_Ties_length_0 M_Ties_notes_0 (PySem.W.mg_of X G a_BadDeed) (PySem.W.mg_of X G a_BadText) (PySem.W.mg_of X G a_NoHouse) (PySem.W.mg_of X G a_NoNote) (PySem.W.mg_of X G a_NoRow) (PySem.W.mg_of X G a_NotTied) (PySem.W.mg_of X G a_Owned) (PySem.W.mg_of X G a_PostError) (PySem.W.mg_of X G a_Tied) tc_PostError x_0 x_1 x_2 x_3 x_4 x_5 (PySem.W.mg_none_of X G z_ValueError) (PySem.W.mg_none_of X G z_isinstance)
 exact(Ce (C:=(au (au (au (au (au C0 "Ties" C_Ties) "NoHouse" C_NoHouse) "NoNote" C_NoNote) "NotTied" C_NotTied) "Tied" C_Tied)) (g_ (st:=kh) l_law cc_law k_law) M_Ties_come_0 K_Ties (PySem.W.mg_none_of X G z_all) (PySem.W.mg_none_of X G z_isinstance) (PySem.W.mg_none_of X G z_len) (PySem.W.mg_none_of X G z_min) (PySem.W.mg_none_of X G z_range) (PySem.W.mg_none_of X G z_str) G_l_draws G_l_cell_at G_l_due G_l_note G_l_word G_l_same G_l_looked G_l_same_r71).imp fun vs H Q E h=>h _
theorem walk{l:PySem.W.OpenLaw}{q:Program}{loose:List Str}{XP:(Str->Option Value)->Heap->Prop}{YP:World->Heap->Prop}{d:DefRec}{K:Params->PySem.W.Frag}(hn:l.most=some 63)(hdf:d.params.defaults=[])
  (hY:∀(w:World) (h:Heap),YP w h->(K w.params).In h) (holds:∀ns:List Int,ns.length<=63->∃Ω,uz [.scr ns] []=some (.bl true,Ω))
  (F:∀(w:World) (mg:Str->Option Value) (fa:Addr) (h:Heap),(K w.params).In h->h.Ns mainGlobals mg->mg d.name=some (.ref fa) ->
   ∃fd:FuncData,(∀(s:Shared) (u:Value),BindsTo s fd ⟨[u],[]⟩ [("_law_script",u)])/\∀base:Heap,(K w.params).In base->base.Ns mainGlobals mg->FnOk l.prog w (K w.params) mg base CX0 5 fa fd ["_law_script"] (spC (K w.params) uz)) :
  PySem.W.WalkO q loose XP YP l.row.toRowW d [] (fun f vs=>PySem.call f vs) :=
 L2.CN (n:=63) (k:=5) (x:="_law_script") (CX:=fun _=>CX0) (sp:=fun w=>spC (K w.params) uz) hn (by decide) hdf ⟨rfl,by decide,by decide,rfl⟩ hY F (fun _ _ a ns hl _ hS=>Oh hS (holds ns hl)) fun _ _ _ _ _ z=>z
end Law
namespace PySem.W.Fast
theorem tw10005099954534318181:True:=⟨⟩
theorem tw10043390390108887864:True:=⟨⟩
theorem tw10091695260769080092:True:=⟨⟩
theorem tw10181050380965051415:True:=⟨⟩
theorem tw1024042488780386061:True:=⟨⟩
theorem tw10352106161463009988:True:=⟨⟩
theorem tw105076209943296823:True:=⟨⟩
theorem tw10736212135074565934:True:=⟨⟩
theorem tw1106164577130402456:True:=⟨⟩
theorem tw11319603516104980754:True:=⟨⟩
theorem tw11609976749435488438:True:=⟨⟩
theorem tw11633595035803013042:True:=⟨⟩
theorem tw11727871375873793726:True:=⟨⟩
theorem tw11744244102720653934:True:=⟨⟩
theorem tw11815280373651420689:True:=⟨⟩
theorem tw1192953847118093062:True:=⟨⟩
theorem tw12288587867547811431:True:=⟨⟩
theorem tw12566038894814565063:True:=⟨⟩
theorem tw12761737941758335400:True:=⟨⟩
theorem tw13735209243255224740:True:=⟨⟩
theorem tw13822256485030637677:True:=⟨⟩
theorem tw1400955666055770590:True:=⟨⟩
theorem tw14035847175019716629:True:=⟨⟩
theorem tw14256756841914694579:True:=⟨⟩
theorem tw14266770262781915372:True:=⟨⟩
theorem tw14413999465198442818:True:=⟨⟩
theorem tw14550344783442050238:True:=⟨⟩
theorem tw1484023536088994315:True:=⟨⟩
theorem tw15050558285331154328:True:=⟨⟩
theorem tw15063040452285022793:True:=⟨⟩
theorem tw15102456897078825751:True:=⟨⟩
theorem tw15139314103321408265:True:=⟨⟩
theorem tw15407921683281091794:True:=⟨⟩
theorem tw1611584027185713804:True:=⟨⟩
theorem tw16954979307356960119:True:=⟨⟩
theorem tw17205802311818290628:True:=⟨⟩
theorem tw17244752652821283171:True:=⟨⟩
theorem tw17577832366997338685:True:=⟨⟩
theorem tw17623711108825586813:True:=⟨⟩
theorem tw17872796486584324631:True:=⟨⟩
theorem tw18058693264708352821:True:=⟨⟩
theorem tw18085610661169928475:True:=⟨⟩
theorem tw1896725907529912116:True:=⟨⟩
theorem tw1935410485292943346:True:=⟨⟩
theorem tw1935867841760260628:True:=⟨⟩
theorem tw1968081535691699394:True:=⟨⟩
theorem tw2056369297627842406:True:=⟨⟩
theorem tw2508310067999048731:True:=⟨⟩
theorem tw2855034563308911975:True:=⟨⟩
theorem tw3204411773462334486:True:=⟨⟩
theorem tw3348070881319768272:True:=⟨⟩
theorem tw3444190949817606774:True:=⟨⟩
theorem tw345268148550561276:True:=⟨⟩
theorem tw35419304138400008:True:=⟨⟩
theorem tw382079667108536366:True:=⟨⟩
theorem tw4405802436295577846:True:=⟨⟩
theorem tw4425438847792617078:True:=⟨⟩
theorem tw4473040244694223000:True:=⟨⟩
theorem tw4709855139444839900:True:=⟨⟩
theorem tw500670751221355374:True:=⟨⟩
theorem tw5052460271519423189:True:=⟨⟩
theorem tw5089642285215525377:True:=⟨⟩
theorem tw5261425785335490510:True:=⟨⟩
theorem tw5283458456963030158:True:=⟨⟩
theorem tw5663266321354503979:True:=⟨⟩
theorem tw5816188856902942335:True:=⟨⟩
theorem tw6012821788499148350:True:=⟨⟩
theorem tw6016947286672072178:True:=⟨⟩
theorem tw6098727910840401367:True:=⟨⟩
theorem tw6115471115100444187:True:=⟨⟩
theorem tw6264248376030864438:True:=⟨⟩
theorem tw6692545366010633226:True:=⟨⟩
theorem tw6834779752231817068:True:=⟨⟩
theorem tw7250480583206546641:True:=⟨⟩
theorem tw7333728364004114487:True:=⟨⟩
theorem tw7357533638014175351:True:=⟨⟩
theorem tw7496992570596887382:True:=⟨⟩
theorem tw7575585840001137419:True:=⟨⟩
theorem tw7895805885412928536:True:=⟨⟩
theorem tw8071346502969168935:True:=⟨⟩
theorem tw8161996594114535735:True:=⟨⟩
theorem tw8400404873263380665:True:=⟨⟩
theorem tw844499367975259194:True:=⟨⟩
theorem tw8476614644944203739:True:=⟨⟩
theorem tw8572149692581985238:True:=⟨⟩
theorem tw8702882843181486119:True:=⟨⟩
theorem tw8721785629762577586:True:=⟨⟩
theorem tw8840830410115801350:True:=⟨⟩
theorem tw8937156152720070805:True:=⟨⟩
theorem tw9500311277219637191:True:=⟨⟩
theorem tw9524025006287722603:True:=⟨⟩
theorem tw9938529939606333314:True:=⟨⟩
theorem tw9950311343411021099:True:=⟨⟩
theorem tw9968342024261815240:True:=⟨⟩
end PySem.W.Fast
open PySem PySem.W PyProof.Rows
set_option maxRecDepth 100000 in
set_option maxHeartbeats 0 in
theorem PySem.Challenge.cw_posthouse_k32_notes_in_order_holds : PySem.Challenge.rw_posthouse_k32_notes_in_order.Holds := by
 w_on;o_law;k_head;(case hw=>w_witness2)
 k_fill
 refine Law.walk (l:=PySem.Challenge.rw_posthouse_k32_notes_in_order) rfl rfl (fun w h Y=>PySem.W.kIn_of Y) Law.holds ?F
 case F =>
  intro w mg fa h KX G hmg
  refine' Law.all_mk KX G hmg ?a_l_kind ?l_l_kind ?cc_l_kind ?k_l_kind ?a_l_same_r71 ?l_l_same_r71 ?cc_l_same_r71 ?k_l_same_r71 ?a_l_cell_at ?l_l_cell_at ?cc_l_cell_at ?k_l_cell_at ?a_l_draws ?l_l_draws ?cc_l_draws ?k_l_draws ?a_Ties___init__ ?i_Ties___init__ ?l_Ties___init__ ?cc_Ties___init__ ?k_Ties___init__ ?a_l_same_r72 ?l_l_same_r72 ?cc_l_same_r72 ?k_l_same_r72 ?a_in_pair ?l_in_pair ?cc_in_pair ?k_in_pair ?a_Ties_need_pair ?i_Ties_need_pair ?l_Ties_need_pair ?cc_Ties_need_pair ?k_Ties_need_pair ?a_made_anew ?l_made_anew ?cc_made_anew ?k_made_anew ?a_Ties_notes_r71 ?i_Ties_notes_r71 ?l_Ties_notes_r71 ?cc_Ties_notes_r71 ?k_Ties_notes_r71 ?a_Ties_waiting_r71 ?i_Ties_waiting_r71 ?l_Ties_waiting_r71 ?cc_Ties_waiting_r71 ?k_Ties_waiting_r71 ?a_l_same ?l_l_same ?cc_l_same ?k_l_same ?a_Ties_waiting ?i_Ties_waiting ?l_Ties_waiting ?cc_Ties_waiting ?k_Ties_waiting ?a_Ties_notes ?i_Ties_notes ?l_Ties_notes ?cc_Ties_notes ?k_Ties_notes ?a_l_looked ?l_l_looked ?cc_l_looked ?k_l_looked ?a_Ties_come ?i_Ties_come ?l_Ties_come ?cc_Ties_come ?k_Ties_come ?a_l_due ?l_l_due ?cc_l_due ?k_l_due ?a_l_note ?l_l_note ?cc_l_note ?k_l_note ?a_Ties_fall ?i_Ties_fall ?l_Ties_fall ?cc_Ties_fall ?k_Ties_fall ?a_Ties_send ?i_Ties_send ?l_Ties_send ?cc_Ties_send ?k_Ties_send ?a_Ties_carry ?i_Ties_carry ?l_Ties_carry ?cc_Ties_carry ?k_Ties_carry ?a_Ties_length ?i_Ties_length ?l_Ties_length ?cc_Ties_length ?k_Ties_length ?a_l_word ?l_l_word ?cc_l_word ?k_l_word ?a_law ?l_law ?cc_law ?k_law ?a_Ties ?pg_Ties ?hd_Ties ?po_Ties ?sa_Ties ?mk_Ties ?kc_Ties ?a_BadDeed ?a_BadText ?a_NoHouse ?a_NoNote ?a_NoRow ?a_NotTied ?a_Owned ?a_PostError ?a_Tied ?lk_hn ?lk_tk ?ow_NoHouse ?lk_cl_NoHouse ?lk_ga_NoHouse ?lk_hk_NoHouse ?lk_sub_NoHouse ?lk_ha_NoHouse ?lk_hm_NoHouse ?ex_NoHouse_PostError ?y_0_NoHouse ?y_1_NoHouse ?y_2_NoHouse ?y_3_NoHouse ?y_4_NoHouse ?y_5_NoHouse ?ow_NoNote ?lk_cl_NoNote ?lk_ga_NoNote ?lk_hk_NoNote ?lk_sub_NoNote ?lk_ha_NoNote ?lk_hm_NoNote ?ex_NoNote_PostError ?y_0_NoNote ?y_1_NoNote ?y_2_NoNote ?y_3_NoNote ?y_4_NoNote ?y_5_NoNote ?ow_NotTied ?lk_cl_NotTied ?lk_ga_NotTied ?lk_hk_NotTied ?lk_sub_NotTied ?lk_ha_NotTied ?lk_hm_NotTied ?ex_NotTied_PostError ?y_0_NotTied ?y_1_NotTied ?y_2_NotTied ?y_3_NotTied ?y_4_NotTied ?y_5_NotTied ?ow_Tied ?lk_cl_Tied ?lk_ga_Tied ?lk_hk_Tied ?lk_sub_Tied ?lk_ha_Tied ?lk_hm_Tied ?ex_Tied_PostError ?y_0_Tied ?y_1_Tied ?y_2_Tied ?y_3_Tied ?y_4_Tied ?y_5_Tied ?nf_Ties_length_by ?nf_Ties_sent_on ?z_ValueError ?z_all ?z_enumerate ?z_int ?z_isinstance ?z_len ?z_list ?z_max ?z_min ?z_range ?z_sorted ?z_str ?z_tuple
  (case a_Ties=>k_is)
  (case a_BadDeed=>k_is)
  (case a_BadText=>k_is)
  (case a_NoHouse=>k_is)
  (case a_NoNote=>k_is)
  (case a_NoRow=>k_is)
  (case a_NotTied=>k_is)
  (case a_Owned=>k_is)
  (case a_PostError=>k_is)
  (case a_Tied=>k_is)
  (case a_l_kind=>k_is)
  (case l_l_kind=>k_is)
  (case cc_l_kind=>k_is)
  (case k_l_kind=>k_is)
  (case a_l_same_r71=>k_is)
  (case l_l_same_r71=>k_is)
  (case cc_l_same_r71=>k_is)
  (case k_l_same_r71=>k_is)
  (case a_l_cell_at=>k_is)
  (case l_l_cell_at=>k_is)
  (case cc_l_cell_at=>k_is)
  (case k_l_cell_at=>k_is)
  (case a_l_draws=>k_is)
  (case l_l_draws=>k_is)
  (case cc_l_draws=>k_is)
  (case k_l_draws=>k_is)
  (case a_Ties___init__=>k_is)
  (case i_Ties___init__=>k_is)
  (case l_Ties___init__=>k_is)
  (case cc_Ties___init__=>k_is)
  (case k_Ties___init__=>k_is)
  (case a_l_same_r72=>k_is)
  (case l_l_same_r72=>k_is)
  (case cc_l_same_r72=>k_is)
  (case k_l_same_r72=>k_is)
  (case a_in_pair=>k_is)
  (case l_in_pair=>k_is)
  (case cc_in_pair=>k_is)
  (case k_in_pair=>k_is)
  (case a_Ties_need_pair=>k_is)
  (case i_Ties_need_pair=>k_is)
  (case l_Ties_need_pair=>k_is)
  (case cc_Ties_need_pair=>k_is)
  (case k_Ties_need_pair=>k_is)
  (case a_made_anew=>k_is)
  (case l_made_anew=>k_is)
  (case cc_made_anew=>k_is)
  (case k_made_anew=>k_is)
  (case a_Ties_notes_r71=>k_is)
  (case i_Ties_notes_r71=>k_is)
  (case l_Ties_notes_r71=>k_is)
  (case cc_Ties_notes_r71=>k_is)
  (case k_Ties_notes_r71=>k_is)
  (case a_Ties_waiting_r71=>k_is)
  (case i_Ties_waiting_r71=>k_is)
  (case l_Ties_waiting_r71=>k_is)
  (case cc_Ties_waiting_r71=>k_is)
  (case k_Ties_waiting_r71=>k_is)
  (case a_l_same=>k_is)
  (case l_l_same=>k_is)
  (case cc_l_same=>k_is)
  (case k_l_same=>k_is)
  (case a_Ties_waiting=>k_is)
  (case i_Ties_waiting=>k_is)
  (case l_Ties_waiting=>k_is)
  (case cc_Ties_waiting=>k_is)
  (case k_Ties_waiting=>k_is)
  (case a_Ties_notes=>k_is)
  (case i_Ties_notes=>k_is)
  (case l_Ties_notes=>k_is)
  (case cc_Ties_notes=>k_is)
  (case k_Ties_notes=>k_is)
  (case a_l_looked=>k_is)
  (case l_l_looked=>k_is)
  (case cc_l_looked=>k_is)
  (case k_l_looked=>k_is)
  (case a_Ties_come=>k_is)
  (case i_Ties_come=>k_is)
  (case l_Ties_come=>k_is)
  (case cc_Ties_come=>k_is)
  (case k_Ties_come=>k_is)
  (case a_l_due=>k_is)
  (case l_l_due=>k_is)
  (case cc_l_due=>k_is)
  (case k_l_due=>k_is)
  (case a_l_note=>k_is)
  (case l_l_note=>k_is)
  (case cc_l_note=>k_is)
  (case k_l_note=>k_is)
  (case a_Ties_fall=>k_is)
  (case i_Ties_fall=>k_is)
  (case l_Ties_fall=>k_is)
  (case cc_Ties_fall=>k_is)
  (case k_Ties_fall=>k_is)
  (case a_Ties_send=>k_is)
  (case i_Ties_send=>k_is)
  (case l_Ties_send=>k_is)
  (case cc_Ties_send=>k_is)
  (case k_Ties_send=>k_is)
  (case a_Ties_carry=>k_is)
  (case i_Ties_carry=>k_is)
  (case l_Ties_carry=>k_is)
  (case cc_Ties_carry=>k_is)
  (case k_Ties_carry=>k_is)
  (case a_Ties_length=>k_is)
  (case i_Ties_length=>k_is)
  (case l_Ties_length=>k_is)
  (case cc_Ties_length=>k_is)
  (case k_Ties_length=>k_is)
  (case a_l_word=>k_is)
  (case l_l_word=>k_is)
  (case cc_l_word=>k_is)
  (case k_l_word=>k_is)
  (case a_law=>k_is)
  (case l_law=>k_is)
  (case cc_law=>k_is)
  (case k_law=>k_is)
  (case pg_Ties=>k_is)
  (case hd_Ties=>k_is)
  (case po_Ties=>k_is)
  (case sa_Ties=>k_is)
  (case mk_Ties=>k_is)
  (case kc_Ties=>k_is)
  (case lk_hn=>k_is)
  (case lk_tk=>k_is)
  (case ow_NoHouse=>kernel_rfl)
  (case lk_cl_NoHouse=>kernel_rfl)
  (case lk_ga_NoHouse=>k_is)
  (case lk_hk_NoHouse=>k_is)
  (case lk_sub_NoHouse=>k_is)
  (case lk_ha_NoHouse=>k_is)
  (case lk_hm_NoHouse=>k_is)
  (case ex_NoHouse_PostError=>kernel_rfl)
  (case y_0_NoHouse=>kernel_rfl)
  (case y_1_NoHouse=>kernel_rfl)
  (case y_2_NoHouse=>kernel_rfl)
  (case y_3_NoHouse=>kernel_rfl)
  (case y_4_NoHouse=>kernel_rfl)
  (case y_5_NoHouse=>kernel_rfl)
  (case ow_NoNote=>kernel_rfl)
  (case lk_cl_NoNote=>kernel_rfl)
  (case lk_ga_NoNote=>k_is)
  (case lk_hk_NoNote=>k_is)
  (case lk_sub_NoNote=>k_is)
  (case lk_ha_NoNote=>k_is)
  (case lk_hm_NoNote=>k_is)
  (case ex_NoNote_PostError=>kernel_rfl)
  (case y_0_NoNote=>kernel_rfl)
  (case y_1_NoNote=>kernel_rfl)
  (case y_2_NoNote=>kernel_rfl)
  (case y_3_NoNote=>kernel_rfl)
  (case y_4_NoNote=>kernel_rfl)
  (case y_5_NoNote=>kernel_rfl)
  (case ow_NotTied=>kernel_rfl)
  (case lk_cl_NotTied=>kernel_rfl)
  (case lk_ga_NotTied=>k_is)
  (case lk_hk_NotTied=>k_is)
  (case lk_sub_NotTied=>k_is)
  (case lk_ha_NotTied=>k_is)
  (case lk_hm_NotTied=>k_is)
  (case ex_NotTied_PostError=>kernel_rfl)
  (case y_0_NotTied=>kernel_rfl)
  (case y_1_NotTied=>kernel_rfl)
  (case y_2_NotTied=>kernel_rfl)
  (case y_3_NotTied=>kernel_rfl)
  (case y_4_NotTied=>kernel_rfl)
  (case y_5_NotTied=>kernel_rfl)
  (case ow_Tied=>kernel_rfl)
  (case lk_cl_Tied=>kernel_rfl)
  (case lk_ga_Tied=>k_is)
  (case lk_hk_Tied=>k_is)
  (case lk_sub_Tied=>k_is)
  (case lk_ha_Tied=>k_is)
  (case lk_hm_Tied=>k_is)
  (case ex_Tied_PostError=>kernel_rfl)
  (case y_0_Tied=>kernel_rfl)
  (case y_1_Tied=>kernel_rfl)
  (case y_2_Tied=>kernel_rfl)
  (case y_3_Tied=>kernel_rfl)
  (case y_4_Tied=>kernel_rfl)
  (case y_5_Tied=>kernel_rfl)
  (case nf_Ties_length_by=>k_is)
  (case nf_Ties_sent_on=>k_is)
  (case z_ValueError=>k_is)
  (case z_all=>k_is)
  (case z_enumerate=>k_is)
  (case z_int=>k_is)
  (case z_isinstance=>k_is)
  (case z_len=>k_is)
  (case z_list=>k_is)
  (case z_max=>k_is)
  (case z_min=>k_is)
  (case z_range=>k_is)
  (case z_sorted=>k_is)
  (case z_str=>k_is)
  (case z_tuple=>k_is)

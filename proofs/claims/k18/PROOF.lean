import PyProof.Rows.All
import Wide.All
import OpenK.AllK
import Wide.FinOn
import Lean
import PyProof.EqAt
import PyProof.EqKinds
import PyProof.TupleCall
import KE.KNest
import KE.KSortTup
import KE.KIntText
import KE.KTryMore
import PyProof.ExcArgs
import KE.KIsAll
import PyProof.ReprNest
import PyProof.NsMap
import PyProof.Rows.Own
import PyProof.ReprStr
import PyProof.ExcBaseAll.ValueError
import PyProof.FitsInt
import PyProof.ZipIter
import KE.KDictOf
import PyProof.AttrMissHeap
import PyProof.WalksEnum
import PyProof.EnumMake
import PySem.Challenge.RW_posthouse_k18_whole_stairs
set_option Elab.async false
set_option linter.all false
set_option maxRecDepth 100000
set_option genSizeOf false
set_option bootstrap.genMatcherCode false
namespace L2
open PySem PySem.Spec PyProof.Rows
noncomputable abbrev Key:=Sum Int Str
noncomputable def ou:Key->Value->Bool
 | .inl k,v=>Value.isInt k v
 | .inr x,v=>Value.isStrOf x v
noncomputable def KH(w:World):Key->Int
 | .inl k=>hashInt k
 | .inr x=>hashStr w x
theorem cU:∀{k:Key} {v:Value},ou k v=true->(∃i t,k=Sum.inl i/\v=Value.int i t)\/(∃x t,k=Sum.inr x/\v=Value.str x t)
 | .inl i,v,h=>by
  obtain⟨t,e⟩:=Value.isInt_shape (k:=i) (v:=v) h
  exact .inl ⟨i,t,rfl,e⟩
 | .inr x,v,h=>by
  obtain⟨t,e⟩:=Value.isStrOf_shape (x:=x) (v:=v) h
  exact .inr ⟨x,t,rfl,e⟩
theorem zq(i:Int)(t:Tok):ou (.inl i) (.int i t)=true:=by simp[ou,Value.isInt]
theorem zr(x:Str)(t:Tok):ou (.inr x) (.str x t)=true:=by simp[ou,Value.isStrOf]
theorem Ho(a b:Int):decide ((Sum.inl a:Key)=Sum.inl b)=(a==b):=by
 by_cases e:a=b
 ·subst e;simp
 ·have h:¬(Sum.inl a:Key)=Sum.inl b:=fun q=>e (Sum.inl.inj q)
  rw[decide_eq_false h]
  exact(beq_eq_false_iff_ne.mpr e).symm
theorem Hq(a b:Str):decide ((Sum.inr a:Key)=Sum.inr b)=decide (a=b):=by
 by_cases e:a=b
 ·subst e;simp
 ·have h:¬(Sum.inr a:Key)=Sum.inr b:=fun q=>e (Sum.inr.inj q)
  rw[decide_eq_false h,decide_eq_false e]
theorem Hr(a:Int)(b:Str):decide ((Sum.inl a:Key)=Sum.inr b)=false:=decide_eq_false (fun q=>nomatch q)
theorem Hs(a:Str)(b:Int):decide ((Sum.inr a:Key)=Sum.inl b)=false:=decide_eq_false (fun q=>nomatch q)
noncomputable def cD(prog:Program)(w:World):PySem.KeyKind prog w Key where
 is:=ou
 hash:=KH w
 inj:=fun v a b ha hb=>by
  rcases cU ha with⟨i,t,rfl,rfl⟩ |⟨x,t,rfl,rfl⟩
  ·rcases cU hb with⟨j,u,rfl,e⟩ |⟨y,u,rfl,e⟩
   ·injection e with e1 _;rw[e1]
   ·exact nomatch e
  ·rcases cU hb with⟨j,u,rfl,e⟩ |⟨y,u,rfl,e⟩
   ·exact nomatch e
   ·injection e with e1 _;rw[e1]
 byValue:=fun k v h=>by
  rcases cU h with⟨i,t,rfl,rfl⟩ |⟨x,t,rfl,rfl⟩<;>rfl
 pyHash:=fun hv h=>by
  rcases cU hv with⟨i,t,rfl,rfl⟩ |⟨x,t,rfl,rfl⟩
  ·exact wpAny_pyHash_int h
  ·exact wpAny_pyHash_str h
 eqBool:=fun hu hv h=>by
  rcases cU hu with⟨i,t,rfl,rfl⟩ |⟨x,t,rfl,rfl⟩
  ·rcases cU hv with⟨j,u,rfl,rfl⟩ |⟨y,u,rfl,rfl⟩
   ·rw[Ho] at h;exact wpAny_eqBool_int h
   ·rw[Hr] at h;exact SeqAt.EqAt.int_str i t y u _ _ _ _ h
  ·rcases cU hv with⟨j,u,rfl,rfl⟩ |⟨y,u,rfl,rfl⟩
   ·rw[Hs] at h;exact SeqAt.EqAt.str_int x t j u _ _ _ _ h
   ·rw[Hq] at h;exact wpAny_eqBool_str h
 «strs»:=fun k x t v h=>by
  rcases cU h with⟨i,u,rfl,e⟩ |⟨y,u,rfl,e⟩
  ·exact nomatch e
  ·injection e with e1 _
   subst e1
   cases v<;>rfl
theorem wJ(prog:Program)(w:World)(i:Int)(t:Tok):(cD prog w).is (.inl i) (.int i t)=true:=zq i t
theorem wK(prog:Program)(w:World)(x:Str)(t:Tok):(cD prog w).is (.inr x) (.str x t)=true:=zr x t
end L2
namespace L2
open PySem PySem.Spec PyProof.Rows
inductive V where
 | non |bl (b:Bool) |int (i:Int) |str (x:Str) |byt (b:Array UInt8) |flt (b:UInt64) |ref (a:Addr) |ty (n:String)
 deriving DecidableEq
noncomputable def RelV:V->Value->Prop
 | .non,u=>u=Value.none
 | .bl b,u=>u=Value.bool b
 | .int i,u=>∃t,u=Value.int i t
 | .str x,u=>∃t,u=Value.str x t
 | .byt b,u=>∃t,u=Value.bytes b t
 | .flt b,u=>∃t,u=Value.float b t
 | .ref a,u=>u=Value.ref a
 | .ty n,u=>u=Value.type n
noncomputable abbrev Vals:List V->List Value->Prop:=Paired RelV
theorem Vals.length{xs:List V}{us:List Value}(r:Vals xs us):xs.length=us.length:=Paired.length r
theorem Vals.get:∀{xs:List V} {us:List Value} {i:Nat} {x:V},Vals xs us->xs[i]? = some x->∃u,us[i]? = some u/\RelV x u
 | _,_,_,_,.nil,e=>by simp at e
 | _,_,0,_,.cons r _,e=>by simp at e;subst e;exact⟨_,rfl,r⟩
 | _,_,i+1,x,.cons _ t,e=>by
  obtain⟨u,h1,h2⟩:=Vals.get (i:=i) (x:=x) t (by simpa using e)
  exact⟨u,by simpa using h1,h2⟩
theorem Vals.set{x:V}{u:Value}(r:RelV x u):∀{xs:List V} {us:List Value} (i:Nat),Vals xs us->Vals (xs.set i x) (us.set i u)
 | _,_,_,.nil=>.nil
 | _,_,0,.cons _ t=>.cons r t
 | _,_,i+1,.cons q t=>.cons q (Vals.set r i t)
theorem Vals.append:∀{xs ys:List V} {us ws:List Value},Vals xs us->Vals ys ws->Vals (xs++ys) (us++ws)
 | _,_,_,_,.nil,s=>s
 | _,_,_,_,.cons r t,s=>.cons r (Vals.append t s)
noncomputable def fJ:Option V->Option Value->Prop
 | some v,some u=>RelV v u
 | none,none=>True
 | _,_=>False
noncomputable def KV{κ:Type}:List (κ×V)->List (κ×Value)->Prop:=Paired fun(p:κ×V) (q:κ×Value)=>p.1=q.1/\RelV p.2 q.2
noncomputable def kV:Key->V
 | .inl i=>.int i
 | .inr x=>.str x
inductive HO where
  | lst (xs:List V)
  | tup (xs:List V)
  | dK (kvs:List (Key×V)) |dT (kvs:List (List Key×V))
  | set (S:Int->Bool) (n:Nat)
  | ins (C dx:Addr) (fs:List (Str×V))
  | own (x:Addr)
  | xd (fs:List (Str×V))
  | met (f x:Addr)
  | rng (lo hi:Int)
  | frz (o:Obj) (u:HO)
  | tbl (ps:Array Value)
  | ext (φ:Heap->Prop)
noncomputable abbrev Hp:=Addr->Option HO
noncomputable def upd(H:Hp)(a:Addr)(o:HO):Hp:=fun b=>if b=a then some o else H b
theorem aK{H:Hp}{a:Addr}{o:HO}:upd H a o a=some o:=by unfold upd;rw[if_pos rfl]
theorem aB{H:Hp}{a b:Addr}{o:HO}(h:b≠a):upd H a o b=H b:=by unfold upd;rw[if_neg h]
theorem Ed{H:Hp}{a b:Addr}{o u:HO}(h:H a=some o)(h':H b=some u)(d:o≠u):a≠b:=by
 intro e;subst e;rw[h] at h';exact d (Option.some.inj h')
theorem aM{H:Hp}{a b:Addr}{o:HO}(h:H a=some o)(h':H b=none):a≠b:=by
 intro e;subst e;rw[h] at h';cases h'
section
variable (P:Program) (w:World)
noncomputable def b_(H:Hp)(h:Heap)(a:Addr):HO->Prop
 | .lst xs=>xs.length<=sizeLine/\∃(its:List Value) (n:Nat),Vals xs its/\h.get? a=some { cls:=.type "list",data:=.seq its.toArray n }
 | .tup xs=>xs.length<=sizeLine/\∃its:List Value,Vals xs its/\IsTup h a its.toArray
 | .dK kvs=>kvs.length<=sizeLine/\(a==sysModules)=false/\∃vs,KV kvs vs/\h.DictOf (cD P w) a vs
 | .dT kvs=>kvs.length<=sizeLine/\(a==sysModules)=false/\∃xs:List (List Key×Addr×Value),
   Paired (fun(p:List Key×V) (q:List Key×Addr×Value)=>p.1=q.1/\H q.2.1=some (.tup (p.1.map kV))/\RelV p.2 q.2.2) kvs xs /\
   ∃o es ep,h.get? a=some o/\o.ExactDict/\o.data=.dict es ep/\es.toList=xs.map (entryOfKey (tupleKind (cD P w)))/\(xs.map (·.1)).Nodup
 | .set S n=>h.SetOf (intKind P w) a S n
 | .ins C dx fs=>H dx=some (.own a)/\fs.length<=1000/\dx≠a/\h.get? a=some (PySem.W.instObj C dx) /\
   ∃mA,h.Ns1 dx mA/\(∀f,fJ (fs.lookup f) (mA f))/\PySem.Within mA (fs.map (·.1))
 | .own _=>∃o,h.get? a=some o
 | .xd fs=>∃mA,h.Ns1 a mA/\∀f,fJ (fs.lookup f) (mA f)
 | .rng lo hi=>∃t u v,h.get? a=some { cls:=.type "range",data:=.fields #[.int lo t,.int hi u,.int 1 v] }
 | .frz o u=>h.get? a=some o/\b_ H h a u
 | .tbl ps=>h.get? a=some { cls:=.none,data:=.fields ps }
 | .met f x=>h.get? a=some (PySem.W.methodObj (.ref f) (.ref x))
 | .ext φ=>φ h/\(∃o,h.get? a=some o)/\∀h1 h2:Heap,φ h1->(∀o,h1.get? a=some o->h2.get? a=some o)->φ h2
noncomputable def HOk(H:Hp)(h:Heap):Prop:=∀a o,H a=some o->b_ P w H h a o
end
section
variable {P:Program} {w:World} {H H':Hp} {h h':Heap} {a:Addr} {o:HO}
theorem b_.lt(x:b_ P w H h a o):a<h.objs.size:=by
 cases o with
 | lst xs=>obtain⟨_,_,_,_,e⟩:=x;exact Heap.lt_size e
 | tup xs=>obtain⟨_,_,_,p⟩:=x;exact p.lt
 | dK kvs=>obtain⟨_,_,_,_,o,_,_,e,_⟩:=x;exact Heap.lt_size e
 | dT kvs=>obtain⟨_,_,_,_,o,_,_,e,_⟩:=x;exact Heap.lt_size e
 | set S n=>obtain⟨o,_,_,_,e,_⟩:=x;exact Heap.lt_size e
 | ins C dx fs=>obtain⟨_,_,_,e,_⟩:=x;exact Heap.lt_size e
 | own y=>obtain⟨_,e⟩:=x;exact Heap.lt_size e
 | xd fs=>obtain⟨_,⟨_,_,_,e,_⟩,_⟩:=x;exact Heap.lt_size e
 | rng lo hi=>obtain⟨_,_,_,e⟩:=x;exact Heap.lt_size e
 | frz ob u=>obtain⟨e,_⟩:=x;exact Heap.lt_size e
 | tbl ps=>exact Heap.lt_size (show h.get? a=some _ from x)
 | met f y=>exact Heap.lt_size (show h.get? a=some _ from x)
 | ext φ=>obtain⟨_,⟨_,e⟩,_⟩:=x;exact Heap.lt_size e
theorem Paired.mapP{α β:Type}{F G:α->β->Prop}:∀{l₁:List α} {l₂:List β},Paired F l₁ l₂->(∀a b,F a b->G a b)->Paired G l₁ l₂
 | _,_,.nil,_=>.nil
 | _,_,.cons r t,f=>.cons (f _ _ r) (Paired.mapP t f)
theorem b_.stay(x:b_ P w H h a o)(k:∀b u,(b=a\/H b=some (.own a))->h.get? b=some u->h'.get? b=some u)
  (ho:∀b,H b=some (.own a)->H' b=some (.own a)) (ht:∀b xs,H b=some (.tup xs)->H' b=some (.tup xs)):b_ P w H' h' a o:=by
 induction o with
 | lst xs=>obtain⟨z,its,n,r,e⟩:=x;exact⟨z,its,n,r,k _ _ (.inl rfl) e⟩
 | tup xs=>obtain⟨z,its,r,ob,e,c⟩:=x;exact⟨z,its,r,ob,k _ _ (.inl rfl) e,c⟩
 | dK kvs=>obtain⟨z,y,vs,r,ob,es,ep,e,c⟩:=x;exact⟨z,y,vs,r,ob,es,ep,k _ _ (.inl rfl) e,c⟩
 | dT kvs =>
  obtain⟨z,y,xs,r,ob,es,ep,e,c⟩:=x
  exact⟨z,y,xs,Paired.mapP r fun p q z=>⟨z.1,ht _ _ z.2.1,z.2.2⟩,ob,es,ep,k _ _ (.inl rfl) e,c⟩
 | set S n=>obtain⟨ob,es,ep,t,e,c⟩:=x;exact⟨ob,es,ep,t,k _ _ (.inl rfl) e,c⟩
 | ins C dx fs =>
  obtain⟨d,z,ne,e,mA,⟨od,es,ep,e2,c⟩,r⟩:=x
  exact⟨ho _ d,z,ne,k _ _ (.inl rfl) e,mA,⟨od,es,ep,k _ _ (.inr d) e2,c⟩,r⟩
 | own y=>obtain⟨ob,e⟩:=x;exact⟨ob,k _ _ (.inl rfl) e⟩
 | xd fs=>obtain⟨mA,⟨od,es,ep,e,c⟩,r⟩:=x;exact⟨mA,⟨od,es,ep,k _ _ (.inl rfl) e,c⟩,r⟩
 | rng lo hi=>obtain⟨t,u,v,e⟩:=x;exact⟨t,u,v,k _ _ (.inl rfl) e⟩
 | frz ob u ih=>obtain⟨e,q⟩:=x;exact⟨k _ _ (.inl rfl) e,ih q⟩
 | tbl ps =>
  have e:h.get? a=some { cls:=.none,data:=.fields ps }:=x
  show h'.get? a=some { cls:=.none,data:=.fields ps }
  exact k a _ (.inl rfl) e
 | met f y =>
  have e:h.get? a=some (PySem.W.methodObj (.ref f) (.ref y)):=x
  show h'.get? a=some (PySem.W.methodObj (.ref f) (.ref y))
  exact k a _ (.inl rfl) e
 | ext φ=>obtain⟨p,⟨o,e⟩,st⟩:=x;exact⟨st _ _ p fun o q=>k _ _ (.inl rfl) q,⟨o,k _ _ (.inl rfl) e⟩,st⟩
theorem HOk.lt(x:HOk P w H h)(e:H a=some o):a<h.objs.size:=(x a o e).lt
theorem HOk.fresh(x:HOk P w H h)(e:h.objs.size<=a):H a=none:=by
 cases q:H a with
 | none=>rfl
 | some u=>exact absurd (Nat.lt_of_lt_of_le (x.lt q) e) (Nat.lt_irrefl _)
theorem HOk.kept(x:HOk P w H h)(k:∀b u,h.get? b=some u->h'.get? b=some u):HOk P w H h':=fun a o e =>
 (x a o e).stay (fun b u _ q=>k b u q) (fun _ q=>q) fun _ _ q=>q
theorem HOk.laid(x:HOk P w H h)(k:∀b u,h.get? b=some u->h'.get? b=some u)(hp:h.objs.size<=a)(new:b_ P w (upd H a o) h' a o):HOk P w (upd H a o) h':=fun b u e=>by
 have hn:=x.fresh hp
 by_cases hb:b=a
 ·subst hb;rw[aK] at e;cases e;exact new
 ·rw[aB hb] at e
  exact(x b u e).stay (fun c v _ q=>k c v q) (fun c q=>by rw[aB (aM q hn)];exact q) fun c xs q=>by rw[aB (aM q hn)];exact q
end
noncomputable def Rd(H:Hp)(a:Addr)(u:HO):Prop:=H a=some u\/∃o,H a=some (.frz o u)
theorem Rd.ok{P:Program}{w:World}{H:Hp}{h:Heap}{a:Addr}{u:HO}(r:Rd H a u)(x:HOk P w H h):b_ P w H h a u:=by
 rcases r with r |⟨o,r⟩
 ·exact x a u r
 ·obtain⟨_,q⟩:=x a _ r
  exact q
noncomputable def Mut:Option HO->Prop
 | some (.lst _)=>True
 | some (.dK _)=>True
 | some (.dT _)=>True
 | some (.set _ _)=>True
 | some (.ins _ _ _)=>True
 | some (.ext _)=>True
 | _=>False
section
variable {P:Program} {w:World} {H:Hp} {h h':Heap} {x e:Addr} {o':HO}
theorem HOk.write(ok:HOk P w H h)(mu:Mut (H x))(he:e=x\/H e=some (.own x))(k:∀b u,b≠e->h.get? b=some u->h'.get? b=some u)(heo:∃u,h'.get? e=some u)
  (new:b_ P w (upd H x o') h' x o'):HOk P w (upd H x o') h':=fun b u q=>by
 have nown:∀c y,H c=some (.own y)->c≠x:=fun c y r z=>by subst z;rw[r] at mu;exact mu
 have ntup:∀c xs,H c=some (.tup xs)->c≠x:=fun c xs r z=>by subst z;rw[r] at mu;exact mu
 by_cases hb:b=x
 ·subst hb;rw[aK] at q;cases q;exact new
 ·rw[aB hb] at q
  by_cases hbe:b=e
  ·have q':H b=some (.own x):=by
    rcases he with z |z
    ·exact absurd (hbe.trans z) hb
    ·rw[hbe];exact z
   rw[q] at q';cases q'
   obtain⟨v,hv⟩:=heo
   exact⟨v,by rw[hbe];exact hv⟩
  ·refine(ok b u q).stay (fun c v hc r=>k c v ?_ r) (fun c r=>by rw[aB (nown c b r)];exact r) fun c xs r=>by rw[aB (ntup c xs r)];exact r
   rcases hc with rfl |hc
   ·exact hbe
   ·rintro rfl
    rcases he with z |z
    ·exact nown c b hc z
    ·rw[hc] at z;cases z;exact hb rfl
end
structure Un(fs ex:List Addr)(H H':Hp)(h h':Heap):Prop where
 keep:∀b o,h.get? b=some o->H b=none->b∉fs->b∉ex->h'.get? b=some o
 slot:∀b o,h.get? b=some o->H b=none->b∈fs->b∉ex->∃sl,h'.get? b=some { o with slots:=sl }
 free:∀b o,h.get? b=some o->H b=none->b∉ex->H' b=none
 there:∀b o,h.get? b=some o->b∉ex->∃o',h'.get? b=some o'
 tups:∀b xs,H b=some (.tup xs)->H' b=some (.tup xs)
 frzs:∀b o u,H b=some (.frz o u)->H' b=some (.frz o u)
 tbls:∀b ps,H b=some (.tbl ps)->∃more,H' b=some (.tbl (ps++more))
section
variable {fs fs' ex ex':List Addr} {H H1 H2:Hp} {h h1 h2 h':Heap} {a x e:Addr} {o:HO}
theorem Un.any(u:Un fs ex H H1 h h1){b:Addr}{ob:Obj}(q:h.get? b=some ob)(n:H b=none)(hx:b∉ex):∃sl,h1.get? b=some { ob with slots:=sl }:=by
 by_cases hb:b∈fs
 ·exact u.slot b ob q n hb hx
 ·exact⟨ob.slots,u.keep b ob q n hb hx⟩
theorem Un.kept(k:∀b u,h.get? b=some u->h'.get? b=some u):Un fs ex H H h h' :=
 ⟨fun b ob q _ _ _=>k b ob q,fun b ob q _ _ _=>⟨ob.slots,k b ob q⟩,fun _ _ _ n _=>n,fun b ob q _=>⟨ob,k b ob q⟩,fun _ _ q=>q,fun _ _ _ q=>q,fun _ ps q=>⟨#[],by rw[q];simp⟩⟩
theorem Un.refl:Un fs ex H H h h:=Un.kept fun _ _ q=>q
theorem Un.laid(k:∀b u,h.get? b=some u->h'.get? b=some u)(hp:h.objs.size<=a)(hn:H a=none):Un fs ex H (upd H a o) h h' where
 keep:=fun b u q _ _ _=>k b u q
 slot:=fun b u q _ _ _=>⟨u.slots,k b u q⟩
 free:=fun b u q n _=>by rw[aB (Nat.ne_of_lt (Nat.lt_of_lt_of_le (Heap.lt_size q) hp))];exact n
 there:=fun b u q _=>⟨u,k b u q⟩
 tups:=fun b xs q=>by rw[aB (aM q hn)];exact q
 frzs:=fun b u xs q=>by rw[aB (aM q hn)];exact q
 tbls:=fun b ps q=>⟨#[],by rw[aB (aM q hn),q];simp⟩
theorem Un.write(mu:Mut (H x))(he:e=x\/H e=some (.own x))(k:∀b u,b≠e->h.get? b=some u->h'.get? b=some u)(heo:∃u,h'.get? e=some u):Un fs ex H (upd H x o) h h':=by
 have hx:∀b,H b=none->b≠x:=fun b n z=>by subst z;rw[n] at mu;exact mu
 have hb:∀b,H b=none->b≠e:=fun b n z=>by
  subst z
  rcases he with r |r
  ·exact hx b n r
  ·rw[n] at r;cases r
 have hm:∀b u,H b=some u->¬Mut (some u)->b≠x:=fun b u q nm z=>by subst z;rw[q] at mu;exact nm mu
 refine⟨fun b u q n _ _=>k b u (hb b n) q,fun b u q n _ _=>⟨u.slots,k b u (hb b n) q⟩,fun b u q n _=>by rw[aB (hx b n)];exact n,fun b u q _=>?_,
  fun b xs q=>by rw[aB (hm b _ q fun z=>z)];exact q,fun b u xs q=>by rw[aB (hm b _ q fun z=>z)];exact q,fun b ps q=>⟨#[],by rw[aB (hm b _ q fun z=>z),q];simp⟩⟩
 by_cases hbe:b=e
 ·subst hbe;exact heo
 ·exact⟨u,k b u hbe q⟩
end
noncomputable def trk(h:Heap)(H:Hp):List Addr:=(List.range h.objs.size).filter fun a=>(H a).isSome
noncomputable def lN(h:Heap)(H:Hp):Heap:=PySem.W.hideAll h (trk h H)
theorem zu(h:Heap)(H:Hp):(lN h H).objs.size=h.objs.size:=PySem.W.hideAll_size _ _
theorem Bx{h:Heap}{H:Hp}{b:Addr}{o:Obj}(e:h.get? b=some o)(n:H b=none):(lN h H).get? b=some o :=
 PySem.W.hideAll_get _ e fun hm=>by
  have q:(H b).isSome=true:=(List.mem_filter.mp hm).2
  rw[n] at q;simp at q
theorem Ex{h:Heap}{H:Hp}{b:Addr}{o:Obj}(e:(lN h H).get? b=some o):h.get? b=some o/\H b=none:=by
 have e':h.get? b=some o:=PySem.W.of_hideAll (trk h H) e
 refine⟨e',?_⟩
 cases q:H b with
 | none=>rfl
 | some x =>
  have hm:b∈trk h H:=List.mem_filter.mpr ⟨List.mem_range.mpr (Heap.lt_size e'),by simp[q]⟩
  have z:(lN h H).get? b=none:=PySem.W.hideAll_none (trk h H) hm
  rw[z] at e;cases e
noncomputable def Ey(g h:Heap)(L:Addr):List (Addr×Obj):=(List.range h.objs.size).filterMap fun a=>if a=L\/(g.get? a).isSome=true then none else(h.get? a).map fun o=>(a,o)
noncomputable def rest(g h:Heap)(L d:Addr):List (Addr×Obj):=(Ey g h L).filter fun p=>decide (p.1≠d)
end L2
namespace L2
open PySem PySem.Spec PyProof.Rows
structure Mod(K:PySem.W.Frag)(mg:Str->Option Value)(base:Heap):Prop where
 kin:K.In base
 glob:base.Ns mainGlobals mg
 blt:∃mb,base.Ns builtinsNs mb/\∀x:Str,x ≠ "__name__" -> mb x=bootBuiltins x
 nolimit:base.NoLimit
structure Cx where
 prog:Program
 w:World
 K:PySem.W.Frag
 mg:Str->Option Value
 base:Heap
 A:Around
 N:List Str
 s₀:Shared
 H₀:Hp
 env:Env
 outer:List Env
 stack:List Env
 ex:List Addr
 fn:Str->Bool
 calm:Bool
 pn:List (Addr×Obj)
 xe:Value->Shared->Prop
noncomputable def frs(l:List Env):List Addr:=l.filterMap (·.frame)
noncomputable abbrev Cx.fs(X:Cx):List Addr:=frs X.outer
noncomputable def Vis(sc:Scope)(x:Str):Prop:=sc.names.lookup x=some .local\/sc.names.lookup x=some .cell\/sc.names.lookup x=some .free
noncomputable def Loc(sc:Scope)(x:Str):Prop:=sc.names.lookup x=some .local\/sc.names.lookup x=some .cell
noncomputable def Look(env:Env)(h:Heap)(m:Str->Option Value)(x:Str)(u:Value):Prop :=
 (env.kindOf x=some .local/\m x=some u)\/((env.kindOf x=some .cell\/env.kindOf x=some .free)/\∃c,env.cells.lookup x=some c/\h.IsCell c (some u))
structure Cx.Ok(X:Cx):Prop where
 mod:Mod X.K X.mg X.base
 kind:X.env.scope.kind=.function
 glob:X.env.globals=mainGlobals
 blt:X.env.builtins=builtinsNs
 above:X.s₀.heap.objs.size<=X.env.locals
 inj:∀x y c,X.env.cells.lookup x=some c->X.env.cells.lookup y=some c->x=y
 has:∀x,(X.env.kindOf x=some .cell\/X.env.kindOf x=some .free)->∃c,X.env.cells.lookup x=some c
 cab:∀x c,X.fn x=true->X.env.cells.lookup x=some c->X.s₀.heap.objs.size<=c
 hd:X.calm=true->X.A.handled=none
 frames:X.A.frames=some X.stack
 stk:X.stack=X.outer\/(X.stack=X.env::X.outer/\X.env.frame=some X.env.locals)
 exf:∀b∈X.ex,b≠X.env.locals/\∀x c,X.env.cells.lookup x=some c->c≠b
 bs:∀b o,X.base.get? b=some o->X.s₀.heap.get? b=some o/\X.H₀ b=none
 bsz:X.base.objs.size<=X.s₀.heap.objs.size
 noex:∀b o,X.base.get? b=some o->b∉X.ex
 exfs:∀b∈X.ex,b∉X.fs
 funs:X.s₀.heap.FunFrames X.base X.outer
 frf:∀b∈X.fs,X.H₀ b=none
structure Inv(X:Cx)(pins:List (Addr×Obj))(σ:List (Option V))(H:Hp)(s:Shared):Prop where
 ok:X.Ok
 os:s.os=X.s₀.os
 bare:AllBare s.gens
 base:Un X.fs X.ex X.H₀ H X.s₀.heap s.heap
 loc:∃m,s.heap.Ns X.env.locals m/\∀(i:Nat) (x:Str) (v:V),X.N[i]? = some x->σ[i]? = some (some v)->Vis X.env.scope x->∃u,RelV v u/\Look X.env s.heap m x u
 cell:∀x c,X.env.cells.lookup x=some c->∃v,s.heap.IsCell c v
 free:H X.env.locals=none
 freeC:∀x c,X.env.cells.lookup x=some c->H c=none\/(X.fn x=false/\∃o b,H c=some (.frz o (.own b)))
 pin:∀p∈X.pn++pins,s.heap.get? p.1=some p.2/\H p.1=none/\p.1≠X.env.locals/\p.1∉X.fs/\∀v,p.2.data ≠ .cell v
 hok:HOk X.prog X.w H s.heap
 len:σ.length=X.N.length
section
variable {X:Cx} {pins:List (Addr×Obj)} {σ:List (Option V)} {H H':Hp} {s:Shared} {h':Heap}
theorem Cx.Ok.nofr(ok:X.Ok){b:Addr}{o:Obj}(e:X.base.get? b=some o):b∉X.fs:=fun hb=>by
 have:=(ok.funs.mem hb).1
 rw[e] at this;cases this
theorem Inv.bs(I:Inv X pins σ H s):∀b o,X.base.get? b=some o->s.heap.get? b=some o/\H b=none:=fun b o e =>
 ⟨I.base.keep b o (I.ok.bs b o e).1 (I.ok.bs b o e).2 (I.ok.nofr e) (I.ok.noex b o e),I.base.free b o (I.ok.bs b o e).1 (I.ok.bs b o e).2 (I.ok.noex b o e)⟩
theorem Inv.bk(I:Inv X pins σ H s):∀b o,X.base.get? b=some o->s.heap.get? b=some o:=fun b o e=>(I.bs b o e).1
theorem Inv.mod(I:Inv X pins σ H s):Mod X.K X.mg X.base:=I.ok.mod
theorem Inv.kIn(I:Inv X pins σ H s):X.K.In s.heap:=I.ok.mod.kin.keeps I.bk
theorem Inv.lt(I:Inv X pins σ H s):X.env.locals<s.heap.objs.size:=let⟨_,hn,_⟩:=I.loc;hn.lt
theorem Inv.sz(I:Inv X pins σ H s):X.s₀.heap.objs.size<=s.heap.objs.size:=Nat.le_trans I.ok.above (Nat.le_of_lt I.lt)
theorem Inv.nofs(I:Inv X pins σ H s){a:Addr}(h:s.heap.objs.size<=a):a∉X.fs:=fun hb=>by
 obtain⟨_,o,ho,_⟩:=I.ok.funs.mem hb
 exact absurd (Nat.lt_of_lt_of_le (Heap.lt_size ho) (Nat.le_trans I.sz h)) (Nat.lt_irrefl _)
theorem Inv.cne(I:Inv X pins σ H s):∀x c,X.env.cells.lookup x=some c->c≠X.env.locals:=fun x c e z=>by
 obtain⟨v,o,ho,hd⟩:=I.cell x c e
 obtain⟨m,⟨o',es,ep,ho',hd',_⟩,_⟩:=I.loc
 rw[z,ho'] at ho;cases ho;rw[hd'] at hd;cases hd
theorem Inv.funs(I:Inv X pins σ H s):s.heap.FunFrames X.base X.outer:=by
 have all:∀(l:List Env),(∀b∈frs l,b∈X.fs)->X.s₀.heap.FunFrames X.base l->s.heap.FunFrames X.base l:=by
  intro l
  induction l with
  | nil=>intro _ _;trivial
  | cons env r ih =>
   intro hs hl
   obtain⟨hk,⟨L,o,hf,hn,ho,hd⟩,hr⟩:=hl
   have hL:L∈X.fs:=hs L (by unfold frs;rw[List.filterMap_cons,hf];exact List.mem_cons_self)
   obtain⟨sl,e⟩:=I.base.slot L o ho (I.ok.frf L hL) hL fun z=>I.ok.exfs L z hL
   exact⟨hk,⟨L,_,hf,hn,e,hd⟩,ih (fun b hb=>hs b (by unfold frs;rw[List.filterMap_cons,hf];exact List.mem_cons_of_mem _ hb)) hr⟩
 exact all X.outer (fun _ hb=>hb) I.ok.funs
theorem Inv.stack(I:Inv X pins σ H s):s.heap.FunFrames X.base X.stack:=by
 rcases I.ok.stk with e |⟨e,hf⟩
 ·rw[e];exact I.funs
 ·rw[e]
  obtain⟨m,hn,_⟩:=I.loc
  refine .cons (by rw[I.ok.kind];decide) hf hn ?_ I.funs
  exact Heap.get?_none_of_le (Nat.le_trans I.ok.bsz I.ok.above)
theorem Inv.stkSub(I:Inv X pins σ H s):∀b∈frs X.stack,b∈X.env.locals::X.fs:=fun b hb=>by
 rcases I.ok.stk with e |⟨e,hf⟩
 ·rw[e] at hb;exact List.mem_cons_of_mem _ hb
 ·rw[e] at hb
  unfold frs at hb
  rw[List.filterMap_cons,hf] at hb
  exact hb
theorem Inv.stkFree(I:Inv X pins σ H s):∀b∈frs X.stack,H b=none:=fun b hb=>by
 rcases List.mem_cons.mp (I.stkSub b hb) with e |hb
 ·rw[e];exact I.free
 ·obtain⟨_,o,ho,_⟩:=I.ok.funs.mem hb
  exact I.base.free b o ho (I.ok.frf b hb) fun z=>I.ok.exfs b z hb
theorem Inv.step{g':Array GenState}{t':Nat}{d':Drawn}{ch:List Addr}(I:Inv X pins σ H s)
  (hch:∀b∈ch,(b∈X.ex\/X.s₀.heap.objs.size<=b)/\b≠X.env.locals/\(∀x c,X.env.cells.lookup x=some c->c≠b)/\∀p∈X.pn++pins,p.1≠b)
  (keep:∀b o,b≠X.env.locals->b∉X.fs->b∉ch->s.heap.get? b=some o->H b=none->h'.get? b=some o)
  (slot:∀b o,b≠X.env.locals->b∈X.fs->b∉ch->s.heap.get? b=some o->H b=none->∃sl,h'.get? b=some { o with slots:=sl }) (free:∀b o,b∉ch->s.heap.get? b=some o->H b=none->H' b=none)
  (there:∀b o,b∉ch->s.heap.get? b=some o->∃o',h'.get? b=some o')
  (tups:∀b xs,H b=some (.tup xs)->H' b=some (.tup xs)) (frzs:∀b o u,H b=some (.frz o u)->H' b=some (.frz o u)) (tbls:∀b ps,H b=some (.tbl ps)->∃more,H' b=some (.tbl (ps++more)))
  (ns:∀m,s.heap.Ns X.env.locals m->h'.Ns X.env.locals m) (hok:HOk X.prog X.w H' h') (hg:AllBare g') :
  Inv X pins σ H' { s with heap:=h',gens:=g',drawn:=d',toks:=t' }:=by
 have neL:∀b o,X.s₀.heap.get? b=some o->b≠X.env.locals:=fun b o e=>Nat.ne_of_lt (Nat.lt_of_lt_of_le (Heap.lt_size e) I.ok.above)
 have neC:∀b o,X.s₀.heap.get? b=some o->b∉X.ex->b∉ch:=fun b o e hx hb=>by
  rcases (hch b hb).1 with z |z
  ·exact hx z
  ·exact absurd (Nat.lt_of_lt_of_le (Heap.lt_size e) z) (Nat.lt_irrefl _)
 have cellK:∀x c,X.env.cells.lookup x=some c->∀v,s.heap.IsCell c v->h'.IsCell c v:=fun x c e v hw'=>by
  obtain⟨o,ho,hd⟩:=hw'
  have nch:c∉ch:=fun z=>(hch c z).2.2.1 x c e rfl
  rcases I.freeC x c e with fc |⟨_,o1,b1,fc⟩
  ·by_cases hc:c∈X.fs
   ·obtain⟨sl,q⟩:=slot c o (I.cne x c e) hc nch ho fc
    exact⟨_,q,hd⟩
   ·exact⟨o,keep c o (I.cne x c e) hc nch ho fc,hd⟩
  ·obtain⟨e1,_⟩:=I.hok c _ fc
   obtain⟨e2,_⟩:=hok c _ (frzs c _ _ fc)
   rw[ho] at e1
   cases e1
   exact⟨o,e2,hd⟩
 refine⟨I.ok,I.os,hg,⟨fun b o e n hb hx=>?_,fun b o e n hb hx=>?_,fun b o e n hx=>?_,fun b o e hx=>?_,fun b xs e=>tups b xs (I.base.tups b xs e),fun b o xs e=>frzs b o xs (I.base.frzs b o xs e),fun b ps e=>?_⟩,?_,fun x c e=>?_,?_,fun x c e=>?_,fun p hp=>?_,hok,I.len⟩
 ·exact keep b o (neL b o e) hb (neC b o e hx) (I.base.keep b o e n hb hx) (I.base.free b o e n hx)
 ·obtain⟨sl,e1⟩:=I.base.slot b o e n hb hx
  obtain⟨sl',e2⟩:=slot b _ (neL b o e) hb (neC b o e hx) e1 (I.base.free b o e n hx)
  exact⟨sl',e2⟩
 ·obtain⟨o',e1⟩:=I.base.there b o e hx
  exact free b o' (neC b o e hx) e1 (I.base.free b o e n hx)
 ·obtain⟨o',e1⟩:=I.base.there b o e hx
  exact there b o' (neC b o e hx) e1
 ·obtain⟨m1,e1⟩:=I.base.tbls b ps e
  obtain⟨m2,e2⟩:=tbls b _ e1
  exact⟨m1++m2,by rw[e2,Array.append_assoc]⟩
 ·obtain⟨m,hn,hl⟩:=I.loc
  refine⟨m,ns m hn,fun i x v e1 e2 e3=>?_⟩
  obtain⟨u,r,l⟩:=hl i x v e1 e2 e3
  refine⟨u,r,?_⟩
  rcases l with l |⟨k,c,e,z⟩
  ·exact .inl l
  ·exact .inr ⟨k,c,e,cellK x c e _ z⟩
 ·obtain⟨v,z⟩:=I.cell x c e
  exact⟨v,cellK x c e v z⟩
 ·obtain⟨m,⟨o,_,_,ho,_⟩,_⟩:=I.loc
  exact free _ o (fun z=>(hch _ z).2.1 rfl) ho I.free
 ·obtain⟨v,o,ho,hd⟩:=I.cell x c e
  rcases I.freeC x c e with fc |⟨q1,o1,b1,fc⟩
  ·exact .inl (free c o (fun z=>(hch c z).2.2.1 x c e rfl) ho fc)
  ·exact .inr ⟨q1,o1,b1,frzs _ _ _ fc⟩
 ·obtain⟨e,n,ne,nf,d⟩:=I.pin p hp
  have nch:p.1∉ch:=fun z=>(hch p.1 z).2.2.2 p hp rfl
  exact⟨keep p.1 p.2 ne nf nch e n,free p.1 p.2 nch e n,ne,nf,d⟩
theorem Inv.un{t':Nat}(I:Inv X pins σ H s)(u:Un X.fs [] H H' s.heap h')(hok:HOk X.prog X.w H' h'):Inv X pins σ H' { s with heap:=h',toks:=t' }:=by
 obtain⟨m,⟨o,es,ep,ho,r⟩,_⟩:=id I.loc
 obtain⟨sl,hL⟩:=u.any ho I.free (by simp)
 exact I.step (g':=s.gens) (d':=s.drawn) (ch:=[]) (fun _ z=>nomatch z) (fun b o _ hb _ e n=>u.keep b o e n hb (by simp)) (fun b o _ hb _ e n=>u.slot b o e n hb (by simp)) (fun b o _ e n=>u.free b o e n (by simp)) (fun b o _ e=>u.there b o e (by simp)) u.tups u.frzs u.tbls (fun m' hm=>by
  obtain⟨o',es',ep',ho',r'⟩:=hm
  rw[ho] at ho';cases ho'
  exact⟨_,es',ep',hL,r'⟩) hok I.bare
theorem Inv.call{g':Array GenState}{t':Nat}{d':Drawn}{ch:List Addr}(I:Inv X pins σ H s)(u:Un (frs X.stack) ch H H' s.heap h')(hok:HOk X.prog X.w H' h')(hg:AllBare g')
  (hch:∀b∈ch,(b∈X.ex\/X.s₀.heap.objs.size<=b)/\b≠X.env.locals/\(∀x c,X.env.cells.lookup x=some c->c≠b)/\∀p∈X.pn++pins,p.1≠b) :
  Inv X pins σ H' { s with heap:=h',gens:=g',drawn:=d',toks:=t' }:=by
 obtain⟨m,⟨o,es,ep,ho,r⟩,_⟩:=id I.loc
 obtain⟨sl,hL⟩:=u.any ho I.free fun z=>(hch _ z).2.1 rfl
 exact I.step (ch:=ch) hch (fun b o hL hb hc e n=>u.keep b o e n (fun z=>(List.mem_cons.mp (I.stkSub b z)).elim hL hb) hc) (fun b o _ _ hc e n=>u.any e n hc) (fun b o hc e n=>u.free b o e n hc) (fun b o hc e=>u.there b o e hc) u.tups u.frzs u.tbls (fun m' hm=>by
  obtain⟨o',es',ep',ho',r'⟩:=hm
  rw[ho] at ho';cases ho'
  exact⟨_,es',ep',hL,r'⟩) hok hg
theorem Inv.turned{t':Nat}{it:Addr}(I:Inv X pins σ H s)(k:∀b o,b≠it->s.heap.get? b=some o->h'.get? b=some o)(hn:H it=none)(hL:it≠X.env.locals)
  (h1:it∈X.ex\/X.s₀.heap.objs.size<=it) (h2:∀x c,X.env.cells.lookup x=some c->c≠it) (h3:∀p∈X.pn++pins,p.1≠it):Inv X pins σ H { s with heap:=h',toks:=t' }:=by
 have nit:∀b u,H b=some u->b≠it:=fun b u e z=>by rw[z,hn] at e;cases e
 refine I.step (g':=s.gens) (d':=s.drawn) (ch:=[it]) (fun b hb=>?_) (fun b o _ _ hc e _=>k b o (fun z=>hc (by simp[z])) e) (fun b o _ _ hc e _=>⟨o.slots,k b o (fun z=>hc (by simp[z])) e⟩) (fun _ _ _ _ n=>n)
  (fun b o hc e=>⟨o,k b o (fun z=>hc (by simp[z])) e⟩) (fun _ _ e=>e) (fun _ _ _ e=>e) (fun b ps e=>⟨#[],by rw[e];simp⟩) (fun m hm=>?_) (fun b u e=>?_) I.bare
 ·have e:b=it:=by simpa using hb
  subst e
  exact⟨h1,hL,h2,h3⟩
 ·obtain⟨o,es,ep,ho,r⟩:=hm
  exact⟨o,es,ep,k _ o (Ne.symm hL) ho,r⟩
 ·refine(I.hok b u e).stay (fun c v hc q=>k c v ?_ q) (fun _ q=>q) fun _ _ q=>q
  rcases hc with z |z
  ·rw[z];exact nit b u e
  ·exact nit c _ z
theorem Inv.tok(I:Inv X pins σ H s)(t:Nat):Inv X pins σ H { s with toks:=t }:=I.un (h':=s.heap) (t':=t) Un.refl I.hok
theorem Inv.kept{t':Nat}(I:Inv X pins σ H s)(k:∀b u,s.heap.get? b=some u->h'.get? b=some u):Inv X pins σ H { s with heap:=h',toks:=t' }:=I.un (Un.kept k) (I.hok.kept k)
theorem Inv.laid{a:Addr}{o:HO}{t':Nat}(I:Inv X pins σ H s)(k:∀b u,s.heap.get? b=some u->h'.get? b=some u)(hp:s.heap.objs.size<=a)(new:b_ X.prog X.w (upd H a o) h' a o) :
  Inv X pins σ (upd H a o) { s with heap:=h',toks:=t' }:=I.un (Un.laid k hp (I.hok.fresh hp)) (I.hok.laid k hp new)
theorem Inv.write{x e:Addr}{o:HO}{t':Nat}(I:Inv X pins σ H s)(mu:Mut (H x))(he:e=x\/H e=some (.own x))(k:∀b u,b≠e->s.heap.get? b=some u->h'.get? b=some u)(heo:∃u,h'.get? e=some u)
  (new:b_ X.prog X.w (upd H x o) h' x o):Inv X pins σ (upd H x o) { s with heap:=h',toks:=t' }:=I.un (Un.write mu he k heo) (I.hok.write mu he k heo new)
theorem Inv.pins_of{pins':List (Addr×Obj)}(I:Inv X pins σ H s)(h:∀p∈pins',s.heap.get? p.1=some p.2/\H p.1=none/\p.1≠X.env.locals/\p.1∉X.fs/\∀v,p.2.data ≠ .cell v):Inv X pins' σ H s :=
 ⟨I.ok,I.os,I.bare,I.base,I.loc,I.cell,I.free,I.freeC,fun p hp=>(List.mem_append.mp hp).elim (fun z=>I.pin p (List.mem_append_left _ z)) (h p),I.hok,I.len⟩
theorem uK{N:List Str}(hN:N.Nodup){i j:Nat}{x:Str}(a:N[i]? = some x)(b:N[j]? = some x):i=j:=by
 obtain⟨h1,e1⟩:=List.getElem?_eq_some_iff.mp a
 obtain⟨h2,e2⟩:=List.getElem?_eq_some_iff.mp b
 exact(List.getElem_inj hN).mp (e1.trans e2.symm)
theorem zx{M:Model}{A:Around}{E:Value->Shared->Prop}{i:Nat}{x:Str}{v:V}{u:Value}{Q:Unit->Shared->Prop}(I:Inv X pins σ H s)(hN:X.N.Nodup)(hi:X.N[i]? = some x)(hx:Loc X.env.scope x)(r:RelV v u)
  (h:∀s',Inv X pins (σ.set i (some v)) H s'->(∃a,Heap.SameBut a s.heap s'.heap/\(a=X.env.locals\/X.env.cells.lookup x=some a))->Q () s') (hf:X.fn x=true\/X.env.scope.names.lookup x=some .local:=by first |exact .inl rfl |exact .inr rfl |assumption):wpAny M A (storeName X.env x u) Q E s:=by
 obtain⟨m,hn,hl⟩:=id I.loc
 have hcls:(X.env.scope.kind == .class || (X.env.scope.kind == .module && X.env.locals != X.env.globals))=false:=by rw[I.ok.kind];rfl
 have hiσ:i<σ.length:=by rw[I.len];exact(List.getElem?_eq_some_iff.mp hi).1
 have cne:=I.cne
 have tracked:∀{a:Addr} {h':Heap},(∃o,s.heap.get? a=some o/\H a=none)->Heap.SameBut a s.heap h'->HOk X.prog X.w H h':=fun {a h'} ha hs b ob e=>by
  obtain⟨_,_,hfree⟩:=ha
  refine(I.hok b ob e).stay (fun c w' hc q=>(hs.2 c ?_).trans q) (fun _ q=>q) fun _ _ q=>q
  rintro rfl
  rcases hc with rfl |hc
  ·rw[hfree] at e;cases e
  ·rw[hfree] at hc;cases hc
 rcases hx with hk |hk
 ·refine wpAny_storeName_local hk hn (fun h' hn' hs=>?_) hcls
  obtain⟨oL,_,_,hoL,_⟩:=id hn
  refine h _ ⟨I.ok,I.os,I.bare,⟨fun b o e n hb hx=>?_,fun b o e n hb hx=>?_,I.base.free,fun b o e hx=>?_,I.base.tups,I.base.frzs,I.base.tbls⟩,⟨_,hn',fun j y v' e1 e2 e3=>?_⟩,fun y c e=>?_,I.free,I.freeC,fun p hp=>?_,tracked ⟨oL,hoL,I.free⟩ hs,by simpa using I.len⟩ ⟨_,hs,.inl rfl⟩
  ·exact(hs.2 b (Nat.ne_of_lt (Nat.lt_of_lt_of_le (Heap.lt_size e) I.ok.above))).trans (I.base.keep b o e n hb hx)
  ·obtain⟨sl,e1⟩:=I.base.slot b o e n hb hx
   exact⟨sl,(hs.2 b (Nat.ne_of_lt (Nat.lt_of_lt_of_le (Heap.lt_size e) I.ok.above))).trans e1⟩
  ·obtain⟨o',e1⟩:=I.base.there b o e hx
   exact⟨o',(hs.2 b (Nat.ne_of_lt (Nat.lt_of_lt_of_le (Heap.lt_size e) I.ok.above))).trans e1⟩
  ·by_cases hj:j=i
   ·subst hj
    rw[hi] at e1;cases e1
    rw[List.getElem?_set_self hiσ] at e2
    cases e2
    exact⟨u,r,.inl ⟨hk,by simp⟩⟩
   ·rw[List.getElem?_set_ne (Ne.symm hj)] at e2
    obtain⟨u',r',q⟩:=hl j y v' e1 e2 e3
    refine⟨u',r',?_⟩
    rcases q with⟨k,e⟩ |⟨k,c,e,z⟩
    ·refine .inl ⟨k,?_⟩
     have:y≠x:=fun e=>hj (uK hN e1 (e ▸ hi))
     simp[this,e]
    ·exact .inr ⟨k,c,e,z.sameBut hs (cne y c e)⟩
  ·obtain⟨w',z⟩:=I.cell y c e
   exact⟨w',z.sameBut hs (cne y c e)⟩
  ·obtain⟨e,n,ne,nf,d⟩:=I.pin p hp
   exact⟨(hs.2 p.1 ne).trans e,n,ne,nf,d⟩
 ·have hfn:X.fn x=true:=by
   rcases hf with z |z
   ·exact z
   ·rw[z] at hk;cases hk
  obtain⟨c,hc⟩:=I.ok.has x (.inl hk)
  obtain⟨w',z⟩:=I.cell x c hc
  refine wpAny_storeName_cell I.ok.kind hk hc z (fun h' hc' hs=>?_)
  obtain⟨oc,hoc,hocd⟩:=id z
  have hHc:H c=none:=(I.freeC x c hc).elim id fun z=>by rw[z.1] at hfn;cases hfn
  refine h { s with heap:=h' } ⟨I.ok,I.os,I.bare,⟨fun b o e n hb hx=>?_,fun b o e n hb hx=>?_,I.base.free,fun b o e hx=>?_,I.base.tups,I.base.frzs,I.base.tbls⟩,⟨m,hn.sameBut hs (Ne.symm (cne x c hc)),fun j y v' e1 e2 e3=>?_⟩,fun y c' e=>?_,I.free,I.freeC,fun p hp=>?_,tracked ⟨oc,hoc,hHc⟩ hs,by simpa using I.len⟩ ⟨c,hs,.inr hc⟩
  ·exact(hs.2 b (Nat.ne_of_lt (Nat.lt_of_lt_of_le (Heap.lt_size e) (I.ok.cab x c hfn hc)))).trans (I.base.keep b o e n hb hx)
  ·obtain⟨sl,e1⟩:=I.base.slot b o e n hb hx
   exact⟨sl,(hs.2 b (Nat.ne_of_lt (Nat.lt_of_lt_of_le (Heap.lt_size e) (I.ok.cab x c hfn hc)))).trans e1⟩
  ·obtain⟨o',e1⟩:=I.base.there b o e hx
   exact⟨o',(hs.2 b (Nat.ne_of_lt (Nat.lt_of_lt_of_le (Heap.lt_size e) (I.ok.cab x c hfn hc)))).trans e1⟩
  ·by_cases hj:j=i
   ·subst hj
    rw[hi] at e1;cases e1
    rw[List.getElem?_set_self hiσ] at e2
    cases e2
    exact⟨u,r,.inr ⟨.inl hk,c,hc,hc'⟩⟩
   ·rw[List.getElem?_set_ne (Ne.symm hj)] at e2
    obtain⟨u',r',q⟩:=hl j y v' e1 e2 e3
    refine⟨u',r',?_⟩
    rcases q with q |⟨k,c',e,z'⟩
    ·exact .inl q
    ·refine .inr ⟨k,c',e,z'.sameBut hs ?_⟩
     rintro rfl
     exact hj (uK hN e1 (I.ok.inj _ _ _ e hc ▸ hi))
  ·by_cases hcc:c'=c
   ·subst hcc;exact⟨_,hc'⟩
   ·obtain⟨w2,z2⟩:=I.cell y c' e
    exact⟨w2,z2.sameBut hs hcc⟩
  ·obtain⟨e,n,ne,nf,d⟩:=I.pin p hp
   refine⟨(hs.2 p.1 ?_).trans e,n,ne,nf,d⟩
   intro q
   rw[q,hoc] at e
   have q':oc=p.2:=Option.some.inj e
   exact d w' (by rw[<-q'];exact hocd)
theorem uL{M:Model}{A:Around}{E:Value->Shared->Prop}{i:Nat}{x:Str}{v:V}{u:Value}{Q:Unit->Shared->Prop}(I:Inv X pins σ H s)(hN:X.N.Nodup)(hi:X.N[i]? = some x)(hx:Loc X.env.scope x)(r:RelV v u)
  (h:∀s',Inv X pins (σ.set i (some v)) H s'->Q () s') (hf:X.fn x=true\/X.env.scope.names.lookup x=some .local:=by first |exact .inl rfl |exact .inr rfl |assumption):wpAny M A (storeName X.env x u) Q E s :=
 zx I hN hi hx r (fun s' I' _=>h s' I') hf
theorem Inv.call'{s':Shared}{ch:List Addr}(I:Inv X pins σ H s)(ho:s'.os=s.os)(u:Un (frs X.stack) ch H H' s.heap s'.heap)(hok:HOk X.prog X.w H' s'.heap)(hg:AllBare s'.gens)
  (hch:∀b∈ch,(b∈X.ex\/X.s₀.heap.objs.size<=b)/\b≠X.env.locals/\(∀x c,X.env.cells.lookup x=some c->c≠b)/\∀p∈X.pn++pins,p.1≠b):Inv X pins σ H' s':=by
 obtain⟨h',g',d',t',o'⟩:=s'
 have e:o'=s.os:=ho
 subst e
 exact I.call (g':=g') (t':=t') (d':=d') u hok hg hch
end
noncomputable abbrev XK:=Value->Option Addr->Hp->Prop
noncomputable abbrev St:=List (Option V)
noncomputable abbrev VK:=V->Hp->Prop
noncomputable abbrev TE:=St->Hp->VK->Prop
noncomputable abbrev TT:=St->Hp->(Bool->Hp->Prop)->Prop
noncomputable abbrev TA:=St->Hp->(List V->Hp->Prop)->Prop
structure Ends where
 nx:St->Hp->Prop
 rt:VK
 bk:St->Hp->Prop:=fun _ _=>False
 ct:St->Hp->Prop:=fun _ _=>False
noncomputable abbrev TS:=Ends->St->Hp->Prop
noncomputable def EP(X:Cx)(pins:List (Addr×Obj))(σ:St)(Q:VK)(u:Value)(s':Shared):Prop:=∃v H',Inv X pins σ H' s'/\RelV v u/\Q v H'
noncomputable def TP(X:Cx)(pins:List (Addr×Obj))(σ:St)(Q:Bool->Hp->Prop)(b:Bool)(s':Shared):Prop:=∃H',Inv X pins σ H' s'/\Q b H'
noncomputable def AP(X:Cx)(pins:List (Addr×Obj))(σ:St)(Q:List V->Hp->Prop)(us:List Value)(s':Shared):Prop:=∃vs H',Inv X pins σ H' s'/\Vals vs us/\Q vs H'
noncomputable def SP(X:Cx)(pins:List (Addr×Obj))(D:Ends)(f:Flow)(s':Shared):Prop :=
 match f with
 | .next=>∃σ' H',Inv X pins σ' H' s'/\D.nx σ' H'
 | .brk=>∃σ' H',Inv X pins σ' H' s'/\D.bk σ' H'
 | .cont=>∃σ' H',Inv X pins σ' H' s'/\D.ct σ' H'
 | .ret u=>∃v σ' H',Inv X pins σ' H' s'/\RelV v u/\D.rt v H'
noncomputable def PE(X:Cx)(e:Expr)(t:TE):Prop :=
 ∀(pins:List (Addr×Obj)) (s:Shared) (σ:St) (H:Hp) (Q:VK),Inv X pins σ H s->t σ H Q->wpAny (model X.prog X.w) X.A (eval e X.env) (EP X pins σ Q) X.xe s
noncomputable def PT(X:Cx)(e:Expr)(t:TT):Prop :=
 ∀(pins:List (Addr×Obj)) (s:Shared) (σ:St) (H:Hp) (Q:Bool->Hp->Prop),Inv X pins σ H s->t σ H Q->wpAny (model X.prog X.w) X.A (isTrue e X.env (eval e X.env)) (TP X pins σ Q) X.xe s
noncomputable def PW(X:Cx)(e:Expr)(t:TT):Prop :=
 ∀(whole:Sem Value) (pins:List (Addr×Obj)) (s:Shared) (σ:St) (H:Hp) (Q:Bool->Hp->Prop),Inv X pins σ H s->t σ H Q->wpAny (model X.prog X.w) X.A (isTrue e X.env whole) (TP X pins σ Q) X.xe s
theorem PW.pt{X:Cx}{e:Expr}{t:TT}(h:PW X e t):PT X e t:=h _
noncomputable def PA(X:Cx)(es:List Expr)(t:TA):Prop :=
 ∀(pos:Pos) (pins:List (Addr×Obj)) (s:Shared) (σ:St) (H:Hp) (Q:List V->Hp->Prop),Inv X pins σ H s->t σ H Q->wpAny (model X.prog X.w) X.A (spliced (backTo pos (starEach es X.env))) (AP X pins σ Q) X.xe s
noncomputable def PS(X:Cx)(st:Stmt)(t:TS):Prop :=
 ∀(pins:List (Addr×Obj)) (s:Shared) (σ:St) (H:Hp) (D:Ends),Inv X pins σ H s->t D σ H->wpAny (model X.prog X.w) X.A (exec st X.env) (SP X pins D) X.xe s
noncomputable def PSs(X:Cx)(st:List Stmt)(t:TS):Prop :=
 ∀(pins:List (Addr×Obj)) (s:Shared) (σ:St) (H:Hp) (D:Ends),Inv X pins σ H s->t D σ H->wpAny (model X.prog X.w) X.A (execs st X.env) (SP X pins D) X.xe s
theorem thn{α:Type}{t:Sem α}{Q Q':α->Shared->Prop}{M:Model}{A:Around}{E:Value->Shared->Prop}{s:Shared}(h:wpAny M A t Q E s)(hQ:∀a s,Q a s->Q' a s):wpAny M A t Q' E s:=wpAny_mono h hQ fun _ _ x=>x
end L2
namespace L2
open PySem PySem.Spec PyProof.Rows
section
variable {X:Cx}
noncomputable def rm(i:Nat):TE:=fun σ H Q=>∃v,σ[i]? = some (some v)/\Q v H
noncomputable def tC(v:V):TE:=fun _ H Q=>Q v H
theorem Ht{i:Nat}{x:Str}{pos:Pos}(hN:X.N[i]? = some x)(hv:Vis X.env.scope x)(hd:(x==("__debug__":Str))=false:=by decide)(hcd:(x==("__classdict__":Str))=false:=by decide):PE X (.Name x pos) (rm i):=by
 intro pins s σ H Q I h
 obtain⟨v,e,h⟩:=h
 obtain⟨m,hn,hl⟩:=I.loc
 obtain⟨u,r,l⟩:=hl i x v hN e hv
 have fin:EP X pins σ Q u s:=⟨v,H,I,r,h⟩
 rcases l with⟨hk,hm⟩ |⟨hk,c,hc,hcell⟩
 ·exact wpAny_Name (wpAny_loadName_local I.ok.kind hk hn hm fin) hd
 ·rcases hk with hk |hk
  ·exact wpAny_Name (wpAny_loadName_cell I.ok.kind hk hc hcell fin) hd
  ·exact wpAny_Name (wpAny_loadName_free I.ok.kind hk hc hcell fin hcd) hd
theorem Hu{i j pos}:PE X (.Constant (.int i) j pos) (tC (.int i)):=fun _ _ _ H _ I h=>wpAny_Constant_int ⟨.int i,H,I.tok _,⟨_,rfl⟩,h⟩
theorem JR{b j pos}:PE X (.Constant (.bool b) j pos) (tC (.bl b)):=fun _ _ _ H _ I h=>Constant_bool ⟨.bl b,H,I,rfl,h⟩
theorem zy{j pos}:PE X (.Constant .none j pos) (tC .non):=fun _ _ _ H _ I h=>Constant_none ⟨.non,H,I,rfl,h⟩
theorem zA{x j pos}:PE X (.Constant (.str x) j pos) (tC (.str x)):=fun _ _ _ H _ I h=>Calls.Constant_str ⟨.str x,H,I.tok _,⟨_,rfl⟩,h⟩
noncomputable def Gl(X:Cx)(x:Str):Prop:=X.env.kindOf x=some .globalImplicit
theorem rn{E:Value->Shared->Prop}{pins:List (Addr×Obj)}{s:Shared}{σ:St}{H:Hp}{x:Str}{u:Value}{pos:Pos}{Q:Value->Shared->Prop}(I:Inv X pins σ H s)(hg:Gl X x)(hm:X.mg x=some u)(h:Q u s)
  (hd:(x==("__debug__":Str))=false:=by decide):wpAny (model X.prog X.w) X.A (eval (.Name x pos) X.env) Q E s :=
 Calls.Name_function_global I.ok.kind hg (Calls.loadGlobal_global (by rw[I.ok.glob];exact I.mod.glob.keeps I.bk) hm h) hd
theorem pU{E:Value->Shared->Prop}{pins:List (Addr×Obj)}{s:Shared}{σ:St}{H:Hp}{x:Str}{u:Value}{pos:Pos}{Q:Value->Shared->Prop}(I:Inv X pins σ H s)(hg:Gl X x)(hm:X.mg x=none)(hv:bootBuiltins x=some u)(h:Q u s)
  (hn:x ≠ "__name__":=by decide) (hd:(x==("__debug__":Str))=false:=by decide):wpAny (model X.prog X.w) X.A (eval (.Name x pos) X.env) Q E s:=by
 obtain⟨mb,h1,h2⟩:=I.mod.blt
 exact Calls.Name_function_global I.ok.kind hg (Calls.loadGlobal_builtin (by rw[I.ok.glob];exact I.mod.glob.keeps I.bk) hm (by rw[I.ok.blt];exact h1.keeps I.bk) ((h2 x hn).trans hv) h) hd
theorem Ez{x:Str}{v:V}{u:Value}{pos:Pos}(hg:Gl X x)(hm:X.mg x=some u)(r:RelV v u)(hd:(x==("__debug__":Str))=false:=by decide):PE X (.Name x pos) (tC v) :=
 fun _ _ _ H _ I h=>rn I hg hm ⟨v,H,I,r,h⟩ hd
variable {a b:Expr} {ta tb:TE} {pos:Pos}
noncomputable def PC(X:Cx)(op:CmpOp)(a b:Expr)(t:TE):Prop :=
 ∀(pins:List (Addr×Obj)) (s:Shared) (σ:St) (H:Hp) (Q:VK),Inv X pins σ H s->t σ H Q ->
  wpAny (model X.prog X.w) X.A (eval a X.env) (fun v s₁=>wpAny (model X.prog X.w) X.A (eval b X.env) (fun u s₂=>wpAny (model X.prog X.w) X.A (compareOp op v u) (EP X pins σ Q) X.xe s₂) X.xe s₁) X.xe s
noncomputable def tB(t:TE):TT:=fun σ H Q=>t σ H fun x H1=>∃c,x=.bl c/\Q c H1
theorem zB{op:CmpOp}{t:TE}(h:PC X op a b t)(h1:behindInMarks op b=false:=by first |exact nobehind _ (by decide) (by decide) |rfl):PT X (.Compare a [op] [b] pos) (tB t):=by
 intro pins s σ H Q I hw
 refine wpAny_isTrue_Compare1 (thn (h pins s σ H _ I hw) fun v s1 h1=>thn h1 fun u s2 h2=>thn h2 fun c s3 hw'=>?_) h1
 obtain⟨x,H1,I1,r1,q1⟩:=hw'
 obtain⟨d,rfl,q⟩:=q1
 cases r1
 exact wpAny_truthy_bool ⟨H1,I1,q⟩
theorem Hv{e:Expr}{t:TE}(h:PE X e t)(he:∀whole,isTrue e X.env whole=(do let v <-whole;standAt e.pos;holding [v] (truthy v)):=by intro _;rfl):PT X e (tB t):=by
 intro pins s σ H Q I hw
 refine isTrue_plain (thn (h pins s σ H _ I hw) fun v s1 ⟨x,H1,I1,r1,q1⟩=>?_) (he _)
 obtain⟨d,rfl,q⟩:=q1
 cases r1
 exact wpAny_truthy_bool ⟨H1,I1,q⟩
variable {tA tB':TT} {rest:List Expr}
noncomputable def Hw(t u:TT):TT:=fun σ H Q=>t σ H fun c H1=>if c=true then u σ H1 Q else Q false H1
noncomputable def tOr(t u:TT):TT:=fun σ H Q=>t σ H fun c H1=>if c=true then Q true H1 else u σ H1 Q
noncomputable def KJ(t:TT):TT:=fun σ H Q=>t σ H fun c H1=>Q (!c) H1
theorem EY(ha:PT X a tA):PW X (.BoolOp .And [a] pos) tA:=by
 intro wh pins s σ H Q I h
 refine isTrue_and (thn (ha pins s σ H Q I h) fun c s1 e=>?_)
 cases c with
 | true=>exact isTrue_and_nil e
 | false=>exact e
theorem Hx(ha:PT X a tA):PW X (.BoolOp .Or [a] pos) tA:=by
 intro wh pins s σ H Q I h
 refine isTrue_or (thn (ha pins s σ H Q I h) fun c s1 e=>?_)
 cases c with
 | false=>exact isTrue_or_nil e
 | true=>exact e
theorem Hy(ha:PT X a tA)(hb:PW X (.BoolOp .And (b::rest) pos) tB'):PW X (.BoolOp .And (a::b::rest) pos) (Hw tA tB'):=by
 intro wh pins s σ H Q I h
 refine isTrue_and (thn (ha pins s σ H _ I h) fun c s1 ⟨H1,I1,q1⟩=>?_)
 cases c with
 | true=>exact hb wh pins s1 σ H1 Q I1 q1
 | false=>exact⟨H1,I1,q1⟩
theorem JS(ha:PT X a tA)(hb:PW X (.BoolOp .Or (b::rest) pos) tB'):PW X (.BoolOp .Or (a::b::rest) pos) (tOr tA tB'):=by
 intro wh pins s σ H Q I h
 refine isTrue_or (thn (ha pins s σ H _ I h) fun c s1 ⟨H1,I1,q1⟩=>?_)
 cases c with
 | true=>exact⟨H1,I1,q1⟩
 | false=>exact hb wh pins s1 σ H1 Q I1 q1
theorem Hz(ha:PT X a tA):PT X (.UnaryOp .Not a pos) (KJ tA):=by
 intro pins s σ H Q I h
 exact isTrue_not (ha pins s σ H (fun c H1=>Q (!c) H1) I h)
noncomputable def KN(ta tb:TE):TE:=fun σ H Q=>ta σ H fun x H1=>∃c,x=.bl c/\if c=true then Q (.bl true) H1 else tb σ H1 Q
theorem HB{op}{t:TE}(h:PE X a t):PE X (.BoolOp op [a] pos) t:=fun pins s σ H Q I hw=>BoolOp_one (h pins s σ H Q I hw)
theorem JT(ha:PE X a ta)(hb:PE X (.BoolOp .Or (b::rest) pos) tb):PE X (.BoolOp .Or (a::b::rest) pos) (KN ta tb):=by
 intro pins s σ H Q I h
 refine BoolOp_or (thn (ha pins s σ H _ I h) fun v s1 hw'=>?_)
 obtain⟨x,H1,I1,r1,q1⟩:=hw'
 obtain⟨c,rfl,q1⟩:=q1
 cases r1
 refine wpAny_truthy_bool ?_
 cases c with
 | false=>exact hb pins s1 σ H1 Q I1 q1
 | true=>exact⟨.bl true,H1,I1,rfl,q1⟩
end
end L2
namespace L2
open PySem PySem.Spec PyProof.Rows
noncomputable def SqL(K:PySem.W.Frag)(H:Hp)(a:Addr)(xs:List V):Prop :=
 Rd H a (.lst xs) \/
  ∃(o:Obj) (its:Array Value) (n:Nat),K.lookup a=some o/\o.cls=.type "list" /\ o.dict=none/\o.data=.seq its n/\its.size<=sizeLine/\Vals xs its.toList
noncomputable def SqT(K:PySem.W.Frag)(H:Hp)(a:Addr)(xs:List V):Prop :=
 Rd H a (.tup xs) \/
  ∃(o:Obj) (its:Array Value) (n:Nat),K.lookup a=some o/\o.cls=.type "tuple" /\ o.data=.seq its n/\its.size<=sizeLine/\Vals xs its.toList
noncomputable def KQ:Value->Option V
 | .none=>some .non
 | .bool b=>some (.bl b)
 | .int i _=>some (.int i)
 | .str x _=>some (.str x)
 | .bytes b _=>some (.byt b)
 | .float b _=>some (.flt b)
 | .ref a=>some (.ref a)
 | .type n=>some (.ty n)
 | _=>none
theorem RelV.abs{x:V}{u:Value}(r:RelV x u):KQ u=some x:=by
 cases x with
 | non=>cases r;rfl
 | bl _=>cases r;rfl
 | int _=>obtain⟨t,rfl⟩:=r;rfl
 | str _=>obtain⟨t,rfl⟩:=r;rfl
 | byt _=>obtain⟨t,rfl⟩:=r;rfl
 | flt _=>obtain⟨t,rfl⟩:=r;rfl
 | ref _=>cases r;rfl
 | ty _=>cases r;rfl
theorem RelV.inj{x y:V}{u:Value}(r:RelV x u)(q:RelV y u):x=y:=Option.some.inj (r.abs.symm.trans q.abs)
theorem Vals.inj{xs ys:List V}{us:List Value}(h:Vals xs us)(h':Vals ys us):xs=ys:=by
 induction h generalizing ys with
 | nil=>cases h';rfl
 | cons r t ih =>
  cases h' with
  | cons r' t'=>rw[r.inj r',ih t']
section
variable {X:Cx} {pins:List (Addr×Obj)} {σ:St} {H:Hp} {s:Shared} {a:Addr} {xs ys:List V}
theorem SqL.of{K:PySem.W.Frag}(h:H a=some (.lst xs)):SqL K H a xs:=.inl (.inl h)
theorem SqT.of{K:PySem.W.Frag}(h:H a=some (.tup xs)):SqT K H a xs:=.inl (.inl h)
theorem Inv.list(I:Inv X pins σ H s)(h:SqL X.K H a xs):∃its:List Value,Vals xs its/\PlainL s.heap a its.toArray/\xs.length<=sizeLine:=by
 rcases h with h |⟨o,its,n,hk,hc,hd,hs,hz,r⟩
 ·obtain⟨z,its,n,r,e⟩:=h.ok I.hok
  exact⟨its,r,⟨_,n,e,rfl,rfl,rfl⟩,z⟩
 ·refine⟨its.toList,r,⟨o,n,I.kIn a o hk,hc,hd,by simpa using hs⟩,?_⟩
  have e:=r.length
  simp only[Array.length_toList] at e
  omega
theorem Inv.tuple(I:Inv X pins σ H s)(h:SqT X.K H a xs):∃its:List Value,Vals xs its/\IsTup s.heap a its.toArray/\xs.length<=sizeLine:=by
 rcases h with h |⟨o,its,n,hk,hc,hs,hz,r⟩
 ·obtain⟨z,its,r,p⟩:=h.ok I.hok
  exact⟨its,r,p,z⟩
 ·refine⟨its.toList,r,⟨o,I.kIn a o hk,hc,n,by simpa using hs⟩,?_⟩
  have e:=r.length
  simp only[Array.length_toList] at e
  omega
theorem Inv.list_inj(I:Inv X pins σ H s)(h:SqL X.K H a xs)(h':SqL X.K H a ys):xs=ys:=by
 obtain⟨its,r,⟨o,n,e,_,_,d⟩,_⟩:=I.list h
 obtain⟨its',r',⟨o',n',e',_,_,d'⟩,_⟩:=I.list h'
 rw[e] at e';cases e'
 rw[d] at d'
 injection d' with d1 _
 have:its=its':=by simpa using congrArg Array.toList d1
 subst this
 exact r.inj r'
end
noncomputable abbrev Cx.wish(X:Cx)(E:Value->Shared->Prop):Cx:={ X with xe:=E }
noncomputable abbrev Cx.nox(X:Cx):Cx:=X.wish fun _ _=>False
theorem Cx.Ok.wish{X:Cx}(ok:X.Ok)(E:Value->Shared->Prop):(X.wish E).Ok :=
 ⟨ok.mod,ok.kind,ok.glob,ok.blt,ok.above,ok.inj,ok.has,ok.cab,ok.hd,ok.frames,ok.stk,ok.exf,ok.bs,ok.bsz,ok.noex,ok.exfs,ok.funs,ok.frf⟩
theorem Cx.Ok.unwish{X:Cx}{E:Value->Shared->Prop}(ok:(X.wish E).Ok):X.Ok :=
 ⟨ok.mod,ok.kind,ok.glob,ok.blt,ok.above,ok.inj,ok.has,ok.cab,ok.hd,ok.frames,ok.stk,ok.exf,ok.bs,ok.bsz,ok.noex,ok.exfs,ok.funs,ok.frf⟩
section
variable {X:Cx} {pins:List (Addr×Obj)} {σ:St} {H:Hp} {s:Shared} {E:Value->Shared->Prop}
theorem Inv.wish(I:Inv X pins σ H s)(E:Value->Shared->Prop):Inv (X.wish E) pins σ H s:=⟨I.ok.wish E,I.os,I.bare,I.base,I.loc,I.cell,I.free,I.freeC,I.pin,I.hok,I.len⟩
theorem Inv.unwish(I:Inv (X.wish E) pins σ H s):Inv X pins σ H s:=⟨I.ok.unwish,I.os,I.bare,I.base,I.loc,I.cell,I.free,I.freeC,I.pin,I.hok,I.len⟩
theorem SP.unwish{D:Ends}{f:Flow}{s':Shared}(h:SP (X.wish E) pins D f s'):SP X pins D f s':=by
 cases f with
 | next=>obtain⟨σ',H',I,q⟩:=h;exact⟨σ',H',I.unwish,q⟩
 | brk=>obtain⟨σ',H',I,q⟩:=h;exact⟨σ',H',I.unwish,q⟩
 | cont=>obtain⟨σ',H',I,q⟩:=h;exact⟨σ',H',I.unwish,q⟩
 | ret u=>obtain⟨v,σ',H',I,r,q⟩:=h;exact⟨v,σ',H',I.unwish,r,q⟩
theorem PSs.nox{st:List Stmt}{t:TS}(h:PSs X.nox st t):PSs X st t:=fun pins s σ H D I hw =>
 wpAny_mono (h pins s σ H D (I.wish _) hw) (fun _ _ q=>q.unwish) fun _ _ z=>False.elim z
end
section
variable {X:Cx} {st:Stmt} {rest:List Stmt} {t u:TS} {e:Expr} {te:TE} {pos:Pos}
noncomputable def JV:TS:=fun D σ H=>D.nx σ H
noncomputable def KY(t u:TS):TS:=fun D σ H=>t { D with nx:=u D } σ H
theorem E_:PSs X [] JV:=fun _ _ σ H _ I h=>wpAny_execs_nil ⟨σ,H,I,h⟩
theorem By(h1:PS X st t)(h2:PSs X rest u):PSs X (st::rest) (KY t u):=by
 intro pins s σ H D I h
 refine wpAny_execs_cons (thn (h1 pins s σ H { D with nx:=u D } I h) fun f s1 q=>?_)
 cases f with
 | next =>
  obtain⟨σ',H',I',q⟩:=q
  exact h2 pins s1 σ' H' D I' q
 | ret v=>exact q
 | brk=>exact q
 | cont=>exact q
theorem Fb(h1:PS X st t):PSs X [st] t:=by
 intro pins s σ H D I h
 refine wpAny_execs_cons (thn (h1 pins s σ H D I h) fun f s1 q=>?_)
 cases f with
 | next=>exact wpAny_execs_nil q
 | ret v=>exact q
 | brk=>exact q
 | cont=>exact q
noncomputable def HD:TS:=fun D σ H=>D.bk σ H
theorem BJ:PS X (.Break pos) HD:=fun _ _ σ H _ I h=>wpAny_Break ⟨σ,H,I,h⟩
theorem Inv.quiet{pins:List (Addr×Obj)}{σ:St}{H:Hp}{s:Shared}(I:Inv X pins σ H s):interactive X.env=false:=by simp[interactive,I.ok.kind]
noncomputable def Ef(te:TE):TS:=fun D σ H=>te σ H fun _ H1=>D.nx σ H1
theorem rz(he:PE X e te)(hs:swapsWith e none pos.line X.env=pure false:=by rfl):PS X (.Expr e pos) (Ef te):=by
 intro pins s σ H D I h
 exact wpAny_Expr_any (thn (he pins s σ H _ I h) fun v s1 ⟨x,H1,I1,r1,q1⟩=>⟨σ,H1,I1,q1⟩) I.quiet hs
noncomputable def KZ(te:TE):TS:=fun D σ H=>te σ H D.rt
theorem HF(he:PE X e te):PS X (.Return (some e) pos) (KZ te):=by
 intro pins s σ H D I h
 exact wpAny_Return_some (thn (he pins s σ H _ I h) fun v s1 ⟨x,H1,I1,r1,q1⟩=>⟨x,σ,H1,I1,r1,q1⟩)
noncomputable def JW:TS:=fun D _ H=>D.rt .non H
theorem Fd:PS X (.Return none pos) JW:=fun _ _ σ H _ I h=>wpAny_Return_none ⟨.non,σ,H,I,rfl,h⟩
noncomputable def K_(c:TT)(t u:TS):TS:=fun D σ H=>c σ H fun b H1=>if b=true then t D σ H1 else u D σ H1
theorem JX{c:Expr}{a b:List Stmt}{tc:TT}(hc:PT X c tc)(ha:PSs X a t)(hb:PSs X b u):PS X (.If c a b pos) (K_ tc t u):=by
 intro pins s σ H D I h
 refine wpAny_If (thn (hc pins s σ H _ I h) fun d s1 ⟨H1,I1,q1⟩=>?_)
 cases d with
 | true=>exact ha pins s1 σ H1 D I1 q1
 | false=>exact hb pins s1 σ H1 D I1 q1
noncomputable def HH:TS:=fun _ _ _=>False
theorem BK:PS X st HH:=fun _ _ _ _ _ _ h=>h.elim
end
noncomputable abbrev TG:=V->St->Hp->(St->Hp->Prop)->Prop
noncomputable abbrev TGs:=List V->St->Hp->(St->Hp->Prop)->Prop
noncomputable def PG(X:Cx)(target:Expr)(t:TG):Prop :=
 ∀(pins:List (Addr×Obj)) (s:Shared) (σ:St) (H:Hp) (v:V) (u:Value) (Q:St->Hp->Prop),Inv X pins σ H s->RelV v u->t v σ H Q ->
  wpAny (model X.prog X.w) X.A (assign target X.env u) (fun _ s'=>∃σ' H',Inv X pins σ' H' s'/\Q σ' H') X.xe s
noncomputable def PGs(X:Cx)(ts:List Expr)(t:TGs):Prop :=
 ∀(pins:List (Addr×Obj)) (s:Shared) (σ:St) (H:Hp) (vs:List V) (us:List Value) (Q:St->Hp->Prop),Inv X pins σ H s->Vals vs us->t vs σ H Q ->
  wpAny (model X.prog X.w) X.A (assignInOrder ((assignEach ts X.env).map (·.2)) us) (fun _ s'=>∃σ' H',Inv X pins σ' H' s'/\Q σ' H') X.xe s
section
variable {X:Cx} {pos:Pos}
noncomputable def yq(i:Nat):TG:=fun v σ H Q=>Q (σ.set i (some v)) H
theorem wW{i:Nat}{x:Str}(hN:X.N.Nodup)(hi:X.N[i]? = some x)(hx:Loc X.env.scope x)(hf:X.fn x=true\/X.env.scope.names.lookup x=some .local:=by first |exact .inl rfl |exact .inr rfl |assumption):PG X (.Name x pos) (yq i):=by
 intro pins s σ H v u Q I r h
 exact wpAny_assign_Name (uL I hN hi hx r (fun s' I'=>⟨_,H,I',h⟩) hf)
noncomputable def au:TGs:=fun vs σ H Q=>vs=[]/\Q σ H
noncomputable def ak(t:TG)(u:TGs):TGs:=fun vs σ H Q=>∃v r,vs=v::r/\t v σ H fun σ' H'=>u r σ' H' Q
theorem Fe:PGs X [] au:=by
 intro pins s σ H vs us Q I r h
 obtain⟨e,h⟩:=h
 subst e
 cases r
 exact assignInOrder_nil ⟨σ,H,I,h⟩
theorem BL{e:Expr}{es:List Expr}{t:TG}{u:TGs}(h1:PG X e t)(h2:PGs X es u)
  (hs:(assignEach (e::es) X.env).map (·.2)=assign e X.env::(assignEach es X.env).map (·.2):=by rfl):PGs X (e::es) (ak t u):=by
 intro pins s σ H vs us Q I r h
 obtain⟨v,vr,e1,h⟩:=h
 subst e1
 cases r with
 | cons r rr =>
  rw[hs]
  refine assignInOrder_cons (thn (h1 pins s σ H _ _ _ I r h) fun _ s1 hw'=>?_)
  obtain⟨σ1,H1,I1,q1⟩:=hw'
  exact h2 pins s1 σ1 H1 _ _ Q I1 rr q1
noncomputable def bD(K:PySem.W.Frag)(n:Nat)(t:TGs):TG:=fun v σ H Q=>∃a xs,v=.ref a/\SqT K H a xs/\xs.length=n/\t xs σ H Q
theorem HJ{es:List Expr}{k:Nat}{t:TGs}{n:Nat}(hc:X.calm=true)(h:PGs X es t)
  (hn:(assignEach es X.env).length=n:=by rfl) (hst:(assignEach es X.env).findIdx? (·.1)=none:=by rfl):PG X (.Tuple es k pos) (bD X.K n t):=by
 intro pins s σ H v u Q I r hw
 obtain⟨a,xs,e1,hq,hl,hw⟩:=hw
 subst e1
 cases r
 obtain⟨its,rv,ht,hz⟩:=I.tuple hq
 refine assign_Tuple_tuple (I.ok.hd hc) ht (by simp[hn,<-hl,rv.length]) hst fun h' hx=>?_
 have I1:Inv X pins σ H { s with heap:=h' }:=I.kept (t':=s.toks) fun b o e=>hx b o (Nat.ne_of_lt (Heap.lt_size e)) e
 exact h pins _ σ H xs _ Q I1 (by simpa using rv) hw
noncomputable def BP(te:TE)(g:TG):TS:=fun D σ H=>te σ H fun x H1=>g x σ H1 D.nx
theorem HN{tg e:Expr}{te:TE}{g:TG}(he:PE X e te)(hg:PG X tg g)(hs:swapsWithSole [tg] e pos.line X.env=pure false:=by rfl)(hw:swappedStores [tg] e X.env=pure none:=by rfl)
  (h1:(assignEach [tg] X.env).map (·.2)=[assign tg X.env]:=by rfl):PS X (.Assign [tg] e pos) (BP te g):=by
 intro pins s σ H D I h
 refine wpAny_Assign_stores (thn (he pins s σ H _ I h) fun v s1 hw'=>?_) hs hw
 obtain⟨x,H1,I1,r1,q1⟩:=hw'
 rw[h1]
 exact thn (hg pins s1 σ H1 x v _ I1 r1 q1) fun _ s2 q=>q
theorem zE{i:Nat}{x:Str}{e:Expr}{te:TE}{pos':Pos}(hN:X.N.Nodup)(hi:X.N[i]? = some x)(hx:Loc X.env.scope x)(he:PE X e te)(hs:swapsWith e (some (.Name x pos')) pos.line X.env=pure false:=by rfl)(hf:X.fn x=true\/X.env.scope.names.lookup x=some .local:=by first |exact .inl rfl |exact .inr rfl |assumption) :
  PS X (.Assign [.Name x pos'] e pos) (BP te (yq i)):=by
 intro pins s σ H D I h
 refine wpAny_Assign_Name (thn (he pins s σ H _ I h) fun v s1 hw'=>?_) hs
 obtain⟨y,H1,I1,r1,q1⟩:=hw'
 exact uL I1 hN hi hx r1 (fun s2 I2=>⟨_,H1,I2,q1⟩) hf
end
section
variable {X:Cx} {pos:Pos}
noncomputable def HQ(c:TT)(tb:TS):TS:=fun D σ H=>∃W:Nat->St->Hp->Prop,(∃m,W m σ H)/\∀m σ H,W m σ H ->
 c σ H fun b H1=>if b=true then ∃N:St->Hp->Prop,(∀σ' H',N σ' H'->∃m',m'<m/\W m' σ' H')/\tb { D with nx:=N,ct:=N,bk:=D.nx } σ H1 else D.nx σ H1
theorem BR{c:Expr}{body:List Stmt}{tc:TT}{tb:TS}(hp:PassesOwn (model X.prog X.w) X.A X.env X.xe)(hc:PT X c tc)(hb:PSs X body tb):PS X (.While c body [] pos) (HQ tc tb):=by
 intro pins s σ H D I h
 obtain⟨W,⟨m0,w0⟩,turn⟩:=h
 refine wpAny_While (codeAny_whileLoop (fun n s'=>∃σ' H',Inv X pins σ' H' s'/\W n σ' H') ?_ m0 ⟨σ,H,I,w0⟩)
 rintro n s1 ⟨σ1,H1,I1,w1⟩
 refine wpAny_passesOwn hp (thn (hc pins s1 σ1 H1 _ I1 (turn n σ1 H1 w1)) fun b s2 ⟨H2,I2,q2⟩=>?_)
 cases b with
 | true =>
  obtain⟨N,hN,q2⟩:=q2
  rw[if_pos rfl]
  refine wpAny_passesOwn hp (thn (hb pins s2 σ1 H2 _ I2 q2) fun f s3 q3=>?_)
  cases f with
  | next =>
   obtain⟨σ3,H3,I3,n3⟩:=q3
   obtain⟨m',hm,w3⟩:=hN σ3 H3 n3
   exact⟨m',hm,σ3,H3,I3,w3⟩
  | cont =>
   obtain⟨σ3,H3,I3,n3⟩:=q3
   obtain⟨m',hm,w3⟩:=hN σ3 H3 n3
   exact⟨m',hm,σ3,H3,I3,w3⟩
  | brk=>exact q3
  | ret v=>exact q3
 | false =>
  rw[if_neg Bool.false_ne_true]
  exact wpAny_execs_nil ⟨σ1,H2,I2,q2⟩
end
structure It where
 go:Nat->Hp->Prop
 yld:Nat->Hp->V->Hp->Prop
 stop:Nat->Hp->Prop
noncomputable def dJ(X:Cx)(pins:List (Addr×Obj))(H:Hp)(b:Addr):Prop :=
 H b=none/\b≠X.env.locals/\b∉X.fs/\(b∈X.ex\/X.s₀.heap.objs.size<=b)/\(∀x c,X.env.cells.lookup x=some c->c≠b)/\∀p∈X.pn++pins,p.1≠b
theorem Inv.fpOk{X:Cx}{pins:List (Addr×Obj)}{σ:St}{H H':Hp}{s:Shared}{b:Addr}(I:Inv X pins σ H s)(hb:s.heap.objs.size<=b)(hn:H' b=none):dJ X pins H' b:=by
 refine⟨hn,Nat.ne_of_gt (Nat.lt_of_lt_of_le I.lt hb),I.nofs hb,.inr (Nat.le_trans I.sz hb),fun x c e z=>?_,fun p hp z=>?_⟩
 ·obtain⟨v,q⟩:=I.cell x c e
  exact absurd (Nat.lt_of_lt_of_le q.lt (by rw[z];exact hb)) (Nat.lt_irrefl _)
 ·exact absurd (Nat.lt_of_lt_of_le (Heap.lt_size (I.pin p hp).1) (by rw[z];exact hb)) (Nat.lt_irrefl _)
structure Turn(P:Program)(w:World)(K:PySem.W.Frag)(tg:Expr)(J:It)(fp:List Addr)(it:Addr)(tn:Nat->Heap->Prop):Prop where
 mem:it∈fp
 obj:∀i h,tn i h->∀b∈fp,∃o,h.get? b=some o/\∀v,o.data ≠ .cell v
 keep:∀i h h',tn i h->(∀b∈fp,∀o,h.get? b=some o->h'.get? b=some o)->tn i h'
 item:∀(X:Cx),X.prog=P->X.w=w->X.K=K->X.calm=true->∀(i:Nat) (pins:List (Addr×Obj)) (s:Shared) (σ:St) (H:Hp) (E:Value->Shared->Prop),Inv X pins σ H s->(∀b∈fp,dJ X pins H b)->tn i s.heap->J.go i H ->
  wpAny (model P w) X.A (pyNext (.ref it)) (fun r s1=>∃u,r=some u /\
   wpAny (model P w) X.A (letOwnedTupleGo tg (.ref it) u) (fun _ s2=>∃x H',Inv X pins σ H' s2/\RelV x u/\J.yld i H x H'/\tn (i+1) s2.heap/\∀b∈fp,H' b=none) E s1) E s
 done:∀(X:Cx),X.prog=P->X.w=w->X.K=K->X.calm=true->∀(i:Nat) (pins:List (Addr×Obj)) (s:Shared) (σ:St) (H:Hp) (E:Value->Shared->Prop),Inv X pins σ H s->(∀b∈fp,dJ X pins H b)->tn i s.heap->J.stop i H ->
  wpAny (model P w) X.A (pyNext (.ref it)) (fun r s1=>r=none/\Inv X pins σ H s1) E s
 self:∀(A:Around) (i:Nat) (s:Shared) (Q:Value->Shared->Prop) (E:Value->Shared->Prop),tn i s.heap->Q (.ref it) s->wpAny (model P w) A (pyIter (.ref it)) Q E s
noncomputable abbrev TI:=St->Hp->(It->Hp->Prop)->Prop
noncomputable def PIE(X:Cx)(pins:List (Addr×Obj))(σ:St)(tg:Expr)(R:It->Hp->Prop)(itv:Value)(s2:Shared):Prop :=
 ∃(it:Addr) (fp:List Addr) (tn:Nat->Heap->Prop) (J:It) (H':Hp),itv=.ref it/\Inv X pins σ H' s2/\Turn X.prog X.w X.K tg J fp it tn/\tn 0 s2.heap/\(∀b∈fp,dJ X pins H' b)/\R J H'
noncomputable def PI(X:Cx)(tg iter:Expr)(wi:TI):Prop :=
 ∀(pins:List (Addr×Obj)) (s:Shared) (σ:St) (H:Hp) (R:It->Hp->Prop),Inv X pins σ H s->wi σ H R ->
  wpAny (model X.prog X.w) X.A (eval iter X.env) (fun v s1=>wpAny (model X.prog X.w) X.A (pyIter v) (PIE X pins σ tg R) X.xe s1) X.xe s
theorem uB{M : Model}{A : Around}{E : Value → Shared → Prop}{s : Shared}{tg : Expr}{it : Addr}{u : Value}{o : Obj}{n : String}{vs : Array Value}{Q : Unit → Shared → Prop}(ho : s.heap.get? it=some o)(hc : o.cls=.type n)(hd : o.data=.fields vs)
    (hn : ["enumerate", "zip", "dict_itemiterator", "dict_reverseitemiterator", "odict_iterator", "itertools.zip_longest", "itertools.pairwise"].contains n=false) (hQ : Q () s) : wpAny M A (letOwnedTupleGo tg (.ref it) u) Q E s := by
  unfold letOwnedTupleGo
  cases tg<;>first
    | exact wpAny_pure hQ
    | (cases u<;>first
        | exact wpAny_pure hQ
        | (refine wpAny_bind (wpAny_load ho ?_)
           rw[hc, hd]
           show wpAny M A (if(["enumerate", "zip", "dict_itemiterator", "dict_reverseitemiterator", "odict_iterator", "itertools.zip_longest", "itertools.pairwise"].contains n && vs[0]? == some (rawInt _))=true then _ else _) Q E s
           rw[if_neg (by intro h;rw[hn, Bool.false_and] at h;cases h)]
           exact wpAny_pure hQ))
noncomputable def Itl(K:PySem.W.Frag)(a:Addr):It :=
 ⟨fun i H=>∃xs x,SqL K H a xs/\xs[i]? = some x,fun i H x H'=>H'=H/\∀xs,SqL K H a xs->xs[i]? = some x,fun i H=>∃xs,SqL K H a xs/\xs.length<=i⟩
noncomputable def Itr(lo:Int)(n:Nat):It:=⟨fun i _=>i<n,fun i H x H'=>H'=H/\x=.int (lo+i),fun i _=>n<=i⟩
theorem zF{P:Program}{w:World}{K:PySem.W.Frag}{tg:Expr}(a it:Addr):Turn P w K tg (Itl K a) [it] it (fun i h=>h.IsListIter it a i) where
 mem:=by simp
 obj:=fun i h st b hb=>by
  have e:b=it:=by simpa using hb
  subst e
  obtain⟨o,e,c,d⟩:=st
  exact⟨o,e,fun v z=>by rw[d] at z;cases z⟩
 keep:=fun i h h' st k=>st.at fun o e=>k it (by simp) o e
 item:=by
  intro X hP hw hK hc i pins s σ H E I hf st hg
  subst hP hw hK
  obtain⟨xs,x,hq,hx⟩:=hg
  obtain⟨its,rv,p,hz⟩:=I.list hq
  obtain⟨u,hu,ru⟩:=rv.get hx
  obtain⟨f0,f1,f2,f3,f4,f5⟩:=hf it (by simp)
  refine wpAny_pyNext_list_item st p.isList (x:=u) (by simpa using hu) fun h' st' sb=>?_
  have I1:Inv X pins σ H { s with heap:=h' }:=I.turned (t':=s.toks) (fun b o hb e=>(sb.2 b hb).trans e) f0 f1 f3 f4 f5
  obtain⟨o,e,c,d⟩:=id st'
  exact⟨u,rfl,uB (s:={ s with heap:=h' }) e c d (by decide) ⟨x,H,I1,ru,⟨rfl,fun ys hy=>by rw[I.list_inj hy hq];exact hx⟩,st',fun b hb=>(hf b hb).1⟩⟩
 done:=by
  intro X hP hw hK hc i pins s σ H E I hf st hg
  subst hP hw hK
  obtain⟨xs,hq,hx⟩:=hg
  obtain⟨its,rv,p,hz⟩:=I.list hq
  obtain⟨f0,f1,f2,f3,f4,f5⟩:=hf it (by simp)
  have hl:=rv.length
  exact wpAny_pyNext_list_end (I.ok.hd hc) st p.isList (by simp;omega) fun h' eb=>⟨rfl,I.turned (t':=s.toks) (fun b o hb e=>eb b o hb e) f0 f1 f3 f4 f5⟩
 self:=fun _ _ _ _ _ st h=>wpAny_pyIter_listiter st h
theorem yr{P:Program}{w:World}{K:PySem.W.Frag}{tg:Expr}(it:Addr)(lo:Int)(n:Nat):Turn P w K tg (Itr lo n) [it] it (fun i h=>IsRangeIter h it (lo+(i:Nat)*1) ((n:Int)-(i:Nat)) 1) where
 mem:=by simp
 obj:=fun i h st b hb=>by
  have e:b=it:=by simpa using hb
  subst e
  exact⟨_,st,fun v z=>by
   have z':Data.fields _=Data.cell v:=z
   cases z'⟩
 keep:=fun i h h' st k=>k it (by simp) _ st
 item:=by
  intro X hP hw hK hc i pins s σ H E I hf st hg
  subst hP hw hK
  obtain⟨f0,f1,f2,f3,f4,f5⟩:=hf it (by simp)
  have W:=Walks.range (prog:=X.prog) (w:=X.w) (I.ok.hd hc) it lo 1 n
  refine W.item i s _ _ hg st fun v h' tk hv st' kk=>?_
  obtain⟨t,rfl⟩:=hv
  have I1:Inv X pins σ H { s with heap:=h',toks:=tk }:=I.turned (fun b o hb e=>kk b o (by simpa using hb) e) f0 f1 f3 f4 f5
  refine⟨_,rfl,uB (s:={ s with heap:=h',toks:=tk }) (n:="range_iterator") st' rfl rfl (by decide) ⟨.int (lo+i),H,I1,⟨t,?_⟩,⟨rfl,rfl⟩,st',fun b hb=>(hf b hb).1⟩⟩
  rw[Int.mul_one]
 done:=by
  intro X hP hw hK hc i pins s σ H E I hf st hg
  subst hP hw hK
  obtain⟨f0,f1,f2,f3,f4,f5⟩:=hf it (by simp)
  exact wpAny_pyNext_range_end (I.ok.hd hc) st (by have:n<=i:=hg;omega) fun h' eb=>⟨rfl,I.turned (t':=s.toks) (fun b o hb e=>eb b o hb e) f0 f1 f3 f4 f5⟩
 self:=fun _ _ _ _ _ st h=>wpAny_pyIter_rangeiter st h
end L2
namespace L2
open PySem PySem.Spec PyProof.Rows
section
variable {X:Cx} {tg:Expr}
noncomputable def JZ(K:PySem.W.Frag)(tl:TE):TI:=fun σ H R=>tl σ H fun x H1=>∃a,x=.ref a/\(∃xs,SqL K H1 a xs)/\R (Itl K a) H1
theorem Ff{l:Expr}{tl:TE}(hl:PE X l tl):PI X tg l (JZ X.K tl):=by
 intro pins s σ H R I h
 refine thn (hl pins s σ H _ I h) fun v s1 hw'=>?_
 obtain⟨x,H1,I1,r1,q1⟩:=hw'
 obtain⟨a,e,⟨xs,hq⟩,q⟩:=q1
 subst e
 cases r1
 obtain⟨its,rv,p,hz⟩:=I1.list hq
 refine wpAny_pyIter_list p.isList ?_
 refine⟨s1.heap.objs.size,[s1.heap.objs.size],_,_,H1,rfl,I1.kept (t':=s1.toks) fun b o e=>Heap.get?_push_of_some _ e,zF a _,⟨_,Heap.get?_push_size _ rfl,rfl,rfl⟩,fun b hb=>?_,q⟩
 have e:b=s1.heap.objs.size:=by simpa using hb
 subst e
 exact I1.fpOk (Nat.le_refl _) (I1.hok.fresh (Nat.le_refl _))
theorem uM{pins:List (Addr×Obj)}{σ:St}{H:Hp}{s:Shared}{R:It->Hp->Prop}{E:Value->Shared->Prop}{lo hi:Int}{t u v:Tok}{tk:Nat}(I:Inv X pins σ H s)(h1:-(2 ^ 62)<=lo)(h2:lo<2 ^ 62)(h3:-(2 ^ 62)<=hi)(h4:hi<2 ^ 62)
  (q:R (Itr lo (hi-lo).toNat) H):wpAny (model X.prog X.w) X.A (pyIter (.ref s.heap.objs.size)) (PIE X pins σ tg R) E { s with heap:=s.heap.push { cls:=.type "range",data:=.fields #[.int lo t,.int hi u,.int 1 v] },toks:=tk }:=by
 refine wpAny_pyIter_range (IsRange.new ..) (small_one h1 h2 h3 h4) ?_
 have I1:Inv X pins σ H { s with heap:=s.heap.push { cls:=.type "range",data:=.fields #[.int lo t,.int hi u,.int 1 v] },toks:=tk }:=I.kept fun b o e=>Heap.get?_push_of_some _ e
 refine⟨(s.heap.push { cls:=.type "range",data:=.fields #[.int lo t,.int hi u,.int 1 v] }).objs.size,[(s.heap.push { cls:=.type "range",data:=.fields #[.int lo t,.int hi u,.int 1 v] }).objs.size],_,_,H,rfl,
  I1.kept (t':=tk) fun b o e=>Heap.get?_push_of_some _ e,yr _ lo (hi-lo).toNat,?_,fun b hb=>?_,q⟩
 ·have e1:lo+((0:Nat):Int)*1=lo:=by simp
  have e2:(((hi-lo).toNat:Nat):Int)-((0:Nat):Int)=Builtin.Range.rangeSize lo hi 1:=by rw[rangeSize_one];split<;>omega
  show IsRangeIter _ _ (lo+((0:Nat):Int)*1) ((((hi-lo).toNat:Nat):Int)-((0:Nat):Int)) 1
  rw[e1,e2]
  exact Heap.get?_push_size _ rfl
 ·have e:b=(s.heap.push { cls:=.type "range",data:=.fields #[.int lo t,.int hi u,.int 1 v] }).objs.size:=by simpa using hb
  subst e
  exact I1.fpOk (Nat.le_refl _) (I1.hok.fresh (Nat.le_refl _))
noncomputable def J_(ta:TA):TI:=fun σ H R=>ta σ H fun vs H1=>∃j:Int,vs=[.int j] /\ -(2 ^ 62)<=j/\j<2 ^ 62/\R (Itr 0 j.toNat) H1
noncomputable def Ka(ta:TA):TI:=fun σ H R=>ta σ H fun vs H1=>∃i j:Int,vs=[.int i,.int j]/\(-(2 ^ 62)<=i/\i<2 ^ 62 /\ -(2 ^ 62)<=j/\j<2 ^ 62)/\R (Itr i (j-i).toNat) H1
theorem zG{a:Expr}{ta:TA}{p pos:Pos}(hg:Gl X "range")(hm:X.mg "range" = none)(ha:PA X [a] ta)(hs:starEach [a] X.env=[(false,eval a X.env)]:=by rfl):PI X tg (.Call (.Name "range" p) [a] [] pos) (J_ ta):=by
 intro pins s σ H R I h
 refine Call_ (pU I hg hm boot_range (PyProof.Rows.callWith_type1 (thn (ha pos pins s σ H _ I h) fun us s1 hw'=>?_) hs rfl))
 obtain⟨vs,H1,I1,r1,q1⟩:=hw'
 obtain⟨j,e,q1,q2,q⟩:=q1
 subst e
 cases r1 with
 | cons r rr =>
  cases rr
  obtain⟨t,rfl⟩:=r
  exact call_range_1 (uM I1 (by omega) (by omega) q1 q2 (by simpa using q))
theorem zH{a b:Expr}{ta:TA}{p pos:Pos}(hg:Gl X "range")(hm:X.mg "range" = none)(ha:PA X [a,b] ta)(hs:starEach [a,b] X.env=[(false,eval a X.env),(false,eval b X.env)]:=by rfl)(hs2:starEach [b] X.env=[(false,eval b X.env)]:=by rfl) :
  PI X tg (.Call (.Name "range" p) [a,b] [] pos) (Ka ta):=by
 intro pins s σ H R I h
 refine Call_ (pU I hg hm boot_range (PyProof.Rows.callWith_type1 (thn (ha pos pins s σ H _ I h) fun us s1 ⟨vs,H1,I1,r1,q1⟩=>?_) (by rw[hs,hs2]) (by rw[hs2];rfl)))
 obtain⟨i,j,e,⟨q1,q2,q3,q4⟩,q⟩:=q1
 subst e
 cases r1 with
 | cons r rr =>
  cases rr with
  | cons r' rr =>
   cases rr
   obtain⟨t,rfl⟩:=r
   obtain⟨t',rfl⟩:=r'
   exact call_range_2 (uM I1 q1 q2 q3 q4 q)
noncomputable def La(wi:TI)(g:TG)(tb:TS):TS:=fun D σ H=>wi σ H fun J H1=>∃W:Nat->Nat->St->Hp->Prop,(∃m,W 0 m σ H1)/\∀i m σ H,W i m σ H ->
 (J.stop i H/\D.nx σ H)\/(J.go i H/\∃N:St->Hp->Prop,(∀σ' H',N σ' H'->∃m',m'<m/\W (i+1) m' σ' H')/\∀x H',J.yld i H x H'->g x σ H' fun σ2 H2=>tb { D with nx:=N,ct:=N,bk:=D.nx } σ2 H2)
noncomputable def mJ(fp:List Addr)(h:Heap):List (Addr×Obj):=fp.filterMap fun b=>(h.get? b).map fun o=>(b,o)
theorem jy{fp:List Addr}{h:Heap}{b:Addr}{o:Obj}(hb:b∈fp)(e:h.get? b=some o):(b,o)∈mJ fp h:=List.mem_filterMap.mpr ⟨b,hb,by rw[e];rfl⟩
theorem zJ{fp:List Addr}{h:Heap}{p:Addr×Obj}(hp:p∈mJ fp h):p.1∈fp/\h.get? p.1=some p.2:=by
 obtain⟨b,hb,e⟩:=List.mem_filterMap.mp hp
 cases q:h.get? b with
 | none=>rw[q] at e;cases e
 | some o =>
  rw[q] at e
  have e':(b,o)=p:=Option.some.inj e
  subst e'
  exact⟨hb,q⟩
theorem Inv.pinned{pins:List (Addr×Obj)}{σ:St}{H:Hp}{s:Shared}{fp:List Addr}(I:Inv X pins σ H s)(hf:∀b∈fp,dJ X pins H b)(ho:∀b∈fp,∃o,s.heap.get? b=some o/\∀v,o.data ≠ .cell v):Inv X (pins++mJ fp s.heap) σ H s :=
 I.pins_of fun p hp=>(List.mem_append.mp hp).elim (fun z=>I.pin p (List.mem_append_right _ z)) fun z=>by
  obtain⟨hb,e⟩:=zJ z
  obtain⟨f0,f1,f2,_⟩:=hf p.1 hb
  obtain⟨o,e',d⟩:=ho p.1 hb
  rw[e] at e';cases e'
  exact⟨e,f0,f1,f2,d⟩
theorem Inv.unpinned{pins pl:List (Addr×Obj)}{σ:St}{H:Hp}{s:Shared}(I:Inv X (pins++pl) σ H s):Inv X pins σ H s:=I.pins_of fun p hp=>I.pin p (List.mem_append_right _ (List.mem_append_left _ hp))
theorem zK{iter:Expr}{body:List Stmt}{wi:TI}{g:TG}{tb:TS}{pos:Pos}(hp:PassesOwn (model X.prog X.w) X.A X.env X.xe)(hc:X.calm=true)(hi:PI X tg iter wi)(hg:PG X tg g)(hb:PSs X body tb)
  (hs:∀x,foldedSetIterable iter X.env x=pure x:=by intro _;rfl):PS X (.For tg iter body [] pos) (La wi g tb):=by
 intro pins s σ H D I h
 refine wpAny_For (thn (hi pins s σ H _ I h) fun v s1 h1=>thn h1 fun itv s2 h2=>?_) hs
 obtain⟨it,fp,tn,J,H2,e,I2,T,st2,f2,W,⟨m0,w0⟩,turn⟩:=h2
 subst e
 have stat:∀{H':Hp},(∀b∈fp,H' b=none)->∀b∈fp,dJ X pins H' b:=fun hn b hb=>⟨hn b hb,(f2 b hb).2⟩
 refine codeAny_forLoop_any (fun n s'=>∃i σ' H',Inv X pins σ' H' s'/\tn i s'.heap/\(∀b∈fp,H' b=none)/\W i n σ' H') ?_ m0 ⟨0,σ,H2,I2,st2,fun b hb=>(f2 b hb).1,w0⟩
 rintro n s3 ⟨i,σ3,H3,I3,st3,fr3,w3⟩
 rcases turn i n σ3 H3 w3 with⟨stop,qn⟩ |⟨go,N,hN,step⟩
 ·refine wpAny_passesOwn hp (thn (T.done X rfl rfl rfl hc i pins s3 σ3 H3 X.xe I3 (stat fr3) st3 stop) fun r s4 ⟨hr,I4⟩=>?_)
  subst hr
  exact wpAny_execs_nil ⟨σ3,H3,I4,qn⟩
 ·refine wpAny_passesOwn hp (thn (T.item X rfl rfl rfl hc i pins s3 σ3 H3 X.xe I3 (stat fr3) st3 go) fun r s4 ⟨u,hr,h4⟩=>?_)
  subst hr
  refine wpAny_passesOwn hp (thn h4 fun _ s5 hw'=>?_)
  obtain⟨x,H5,I5,r5,y5,st5,fr5⟩:=hw'
  have I5':=I5.pinned (stat fr5) (T.obj _ _ st5)
  refine wpAny_passesOwn hp (thn (hg _ s5 σ3 H5 x u _ I5' r5 (step x H5 y5)) fun _ s6 hw'=>?_)
  obtain⟨σ6,H6,I6,q6⟩:=hw'
  refine wpAny_passesOwn hp (thn (hb _ s6 σ6 H6 _ I6 q6) fun f s7 q7=>?_)
  have again:∀{σ7:St} {H7:Hp},Inv X (pins++mJ fp s5.heap) σ7 H7 s7->N σ7 H7->∃m,m<n/\∃i σ' H',Inv X pins σ' H' s7/\tn i s7.heap/\(∀b∈fp,H' b=none)/\W i m σ' H':=fun {σ7 H7} I7 n7=>by
   obtain⟨m',hm,w7⟩:=hN σ7 H7 n7
   refine⟨m',hm,i+1,σ7,H7,I7.unpinned,T.keep _ _ _ st5 fun b hb o e=>(I7.pin (b,o) (List.mem_append_right _ (List.mem_append_right _ (jy hb e)))).1,fun b hb=>?_,w7⟩
   obtain⟨o,e,d⟩:=T.obj _ _ st5 b hb
   exact(I7.pin (b,o) (List.mem_append_right _ (List.mem_append_right _ (jy hb e)))).2.1
  cases f with
  | next=>obtain⟨σ7,H7,I7,n7⟩:=q7;exact again I7 n7
  | cont=>obtain⟨σ7,H7,I7,n7⟩:=q7;exact again I7 n7
  | brk=>obtain⟨σ7,H7,I7,q7⟩:=q7;exact⟨σ7,H7,I7.unpinned,q7⟩
  | ret v=>obtain⟨x7,σ7,H7,I7,r7,q7⟩:=q7;exact⟨x7,σ7,H7,I7.unpinned,r7,q7⟩
end
end L2
namespace L2
open PySem PySem.Spec PyProof.Rows
noncomputable abbrev R2:=V->V->Hp->VK->Prop
noncomputable def OpR(X:Cx)(f:Value->Value->Sem Value)(r:R2):Prop :=
 ∀(pins:List (Addr×Obj)) (s:Shared) (σ:St) (H:Hp) (x y:V) (v u:Value) (Q:VK),Inv X pins σ H s->RelV x v->RelV y u->r x y H Q ->
  wpAny (model X.prog X.w) X.A (f v u) (EP X pins σ Q) X.xe s
noncomputable def UnR(X:Cx)(f:Value->Sem Value)(r:V->Hp->VK->Prop):Prop :=
 ∀(pins:List (Addr×Obj)) (s:Shared) (σ:St) (H:Hp) (x:V) (v:Value) (Q:VK),Inv X pins σ H s->RelV x v->r x H Q ->
  wpAny (model X.prog X.w) X.A (f v) (EP X pins σ Q) X.xe s
noncomputable def lO(X:Cx)(f:Value)(r:List V->Hp->VK->Prop):Prop :=
 ∀(pins:List (Addr×Obj)) (s:Shared) (σ:St) (H:Hp) (xs:List V) (us:List Value) (Q:VK),Inv X pins σ H s->Vals xs us->r xs H Q ->
  wpAny (model X.prog X.w) X.A (call f us) (EP X pins σ Q) X.xe s
noncomputable def tOp(r:R2)(ta tb:TE):TE:=fun σ H Q=>ta σ H fun x H1=>tb σ H1 fun y H2=>r x y H2 Q
noncomputable def tUn(r:V->Hp->VK->Prop)(ta:TE):TE:=fun σ H Q=>ta σ H fun x H1=>r x H1 Q
noncomputable def rI(C:Int->Int->Prop)(g:Int->Int->V):R2:=fun x y H Q=>∃i j,x=.int i/\y=.int j/\C i j/\Q (g i j) H
noncomputable def rI0(g:Int->Int->V):R2:=fun x y H Q=>∃i j,x=.int i/\y=.int j/\Q (g i j) H
noncomputable def rU(g:Int->V):V->Hp->VK->Prop:=fun x H Q=>∃i,x=.int i/\Q (g i) H
section
variable {X:Cx} {a b c:Expr} {ta tb tc:TE} {pos:Pos}
theorem BV(ha:PE X a ta)(hb:PE X b tb){pins:List (Addr×Obj)}{s:Shared}{σ:St}{H:Hp}{R:V->V->Hp->Prop}(I:Inv X pins σ H s)
  (h:ta σ H fun x H1=>tb σ H1 fun y H2=>R x y H2) {Q:Value->Shared->Prop} {f:Value->Value->Sem Value}
  (hf:∀v u s2 x y H2,Inv X pins σ H2 s2->RelV x v->RelV y u->R x y H2->wpAny (model X.prog X.w) X.A (f v u) Q X.xe s2) :
  wpAny (model X.prog X.w) X.A (eval a X.env) (fun v s₁=>wpAny (model X.prog X.w) X.A (eval b X.env) (fun u s₂=>wpAny (model X.prog X.w) X.A (f v u) Q X.xe s₂) X.xe s₁) X.xe s:=by
 refine thn (ha pins s σ H _ I h) fun v s1 hw'=>?_
 obtain⟨x,H1,I1,r1,q1⟩:=hw'
 refine thn (hb pins s1 σ H1 _ I1 q1) fun u s2 hw'=>?_
 obtain⟨y,H2,I2,r2,q2⟩:=hw'
 exact hf v u s2 x y H2 I2 r1 r2 q2
theorem Kc{op:Operator}{r:R2}(ho:OpR X (binaryOp op) r)(ha:PE X a ta)(hb:PE X b tb):PE X (.BinOp a op b pos) (tOp r ta tb):=by
 intro pins s σ H Q I h
 exact wpAny_BinOp (BV ha hb I h fun v u s2 x y H2 I2 rx ry q=>ho pins s2 σ H2 x y v u Q I2 rx ry q)
theorem Kd{op:UnaryOp}{r:V->Hp->VK->Prop}(ho:UnR X (unaryOp op) r)(ha:PE X a ta):PE X (.UnaryOp op a pos) (tUn r ta):=by
 intro pins s σ H Q I h
 exact UnaryOp_ (thn (ha pins s σ H _ I h) fun v s1 ⟨x,H1,I1,r1,q1⟩=>ho pins s1 σ H1 x v Q I1 r1 q1)
theorem opI{f:Value->Value->Sem Value}{C:Int->Int->Prop}{g:Int->Int->Int}
  (rule:∀(i j:Int) (t u:Tok) (s:Shared) (Q:Value->Shared->Prop) (E:Value->Shared->Prop),C i j->Q (.int (g i j) s.toks) { s with toks:=s.toks+1 }->wpAny (model X.prog X.w) X.A (f (.int i t) (.int j u)) Q E s) :
  OpR X f (rI C fun i j=>.int (g i j)):=by
 intro pins s σ H x y v u Q I rx ry h
 obtain⟨i,j,rfl,rfl,hc,q⟩:=h
 obtain⟨t,rfl⟩:=rx
 obtain⟨t',rfl⟩:=ry
 exact rule i j t t' s _ _ hc ⟨.int (g i j),H,I.tok _,⟨_,rfl⟩,q⟩
theorem HR{f:Value->Value->Sem Value}{g:Int->Int->Int}
  (rule:∀(i j:Int) (t u:Tok) (s:Shared) (Q:Value->Shared->Prop) (E:Value->Shared->Prop),Q (.int (g i j) s.toks) { s with toks:=s.toks+1 }->wpAny (model X.prog X.w) X.A (f (.int i t) (.int j u)) Q E s) :
  OpR X f (rI0 fun i j=>.int (g i j)):=by
 intro pins s σ H x y v u Q I rx ry h
 obtain⟨i,j,rfl,rfl,q⟩:=h
 obtain⟨t,rfl⟩:=rx
 obtain⟨t',rfl⟩:=ry
 exact rule i j t t' s _ _ ⟨.int (g i j),H,I.tok _,⟨_,rfl⟩,q⟩
theorem HS{f:Value->Value->Sem Value}{g:Int->Int->Bool}
  (rule:∀(i j:Int) (t u:Tok) (s:Shared) (Q:Value->Shared->Prop) (E:Value->Shared->Prop),Q (.bool (g i j)) s->wpAny (model X.prog X.w) X.A (f (.int i t) (.int j u)) Q E s) :
  OpR X f (rI0 fun i j=>.bl (g i j)):=by
 intro pins s σ H x y v u Q I rx ry h
 obtain⟨i,j,rfl,rfl,q⟩:=h
 obtain⟨t,rfl⟩:=rx
 obtain⟨t',rfl⟩:=ry
 exact rule i j t t' s _ _ ⟨.bl (g i j),H,I,rfl,q⟩
noncomputable def Lb(i j:Int):Prop:=0<j/\j<1073741824
noncomputable def BW(i j:Int):Prop:=(-(2 ^ 64)<i/\i<2 ^ 64)\/(-(2 ^ 64)<j/\j<2 ^ 64)
theorem BW.ok{i j:Int}(h:BW i j):IntMulOk i j:=by
 rcases h with⟨h1,h2⟩ |⟨h1,h2⟩
 ·exact .of_left (intBits_le_64 h1 h2)
 ·exact .of_right (intBits_le_64 h1 h2)
theorem HW:OpR X (binaryOp .Add) (rI0 fun i j=>.int (i+j)):=HR fun _ _ _ _ _ _ _ q=>add_int q
theorem HX:OpR X (binaryOp .Sub) (rI0 fun i j=>.int (i-j)):=HR fun _ _ _ _ _ _ _ q=>sub_int q
theorem HY:OpR X (binaryOp .Mult) (rI BW fun i j=>.int (i*j)):=opI fun _ _ _ _ _ _ _ hc q=>mul_int q hc.ok
theorem Fg:OpR X (binaryOp .FloorDiv) (rI Lb fun i j=>.int (i / j)):=opI fun i j _ _ _ _ _ hc q=>by
 have h1:(0:Int)<j:=hc.1
 have h2:j<1073741824:=hc.2
 exact floordiv_int (by omega) (by rw[Int.fdiv_eq_ediv_of_nonneg i (by omega)];exact q) (.inl (PyProof.noPylong_small (by omega)))
theorem H_:OpR X (binaryOp .Mod) (rI (fun _ j=>0<j) fun i j=>.int (i%j)):=opI fun i j _ _ _ _ _ hc q=>by
 have h1:(0:Int)<j:=hc
 exact mod_int' (by omega) (by rw[Int.fmod_eq_emod_of_nonneg i (by omega)];exact q)
theorem unI{f:Value->Sem Value}{g:Int->Int}
  (rule:∀(i:Int) (t:Tok) (s:Shared) (Q:Value->Shared->Prop) (E:Value->Shared->Prop),Q (.int (g i) s.toks) { s with toks:=s.toks+1 }->wpAny (model X.prog X.w) X.A (f (.int i t)) Q E s) :
  UnR X f (rU fun i=>.int (g i)):=by
 intro pins s σ H x v Q I rx h
 obtain⟨i,rfl,q⟩:=h
 obtain⟨t,rfl⟩:=rx
 exact rule i t s _ _ ⟨.int (g i),H,I.tok _,⟨_,rfl⟩,q⟩
theorem Ia:UnR X (unaryOp .USub) (rU fun i=>.int (-i)):=unI fun _ _ _ _ _ q=>neg_int q
end
section
variable {X:Cx} {a b c:Expr} {ta tb tc:TE} {pos:Pos}
theorem zL{pins:List (Addr×Obj)}{σ:St}{H:Hp}{s:Shared}{Q:VK}{k k':Bool}(I:Inv X pins σ H s)(q:Q (.bl k) H)(e:k=k'):EP X pins σ Q (.bool k') s:=by
 subst e
 exact⟨.bl k,H,I,rfl,q⟩
theorem Ke:OpR X (compareOp .Lt) (rI0 fun i j=>.bl (decide (i<j))):=HS fun _ _ _ _ _ _ _ q=>lt_int q
theorem Kf:OpR X (compareOp .Gt) (rI0 fun i j=>.bl (decide (j<i))):=HS fun _ _ _ _ _ _ _ q=>gt_int q
theorem Ib:OpR X (compareOp .Is) (fun x y H Q=>y=.non/\Q (.bl (decide (x=.non))) H):=by
 intro pins s σ H x y v u Q I rx ry h
 obtain⟨rfl,q⟩:=h
 cases ry
 refine is_none_gen (zL I q ?_)
 cases x<;>first
  | (cases rx;rfl)
  | (obtain⟨t,rfl⟩:=rx;rfl)
theorem Fi:OpR X (compareOp .IsNot) (fun x y H Q=>y=.non/\Q (.bl (!decide (x=.non))) H):=by
 intro pins s σ H x y v u Q I rx ry h
 obtain⟨rfl,q⟩:=h
 cases ry
 refine isnot_none_gen (zL I q ?_)
 cases x<;>first
  | (cases rx;rfl)
  | (obtain⟨t,rfl⟩:=rx;rfl)
theorem bx(b:Expr){op:CmpOp}(h:op ≠ .In:=by decide)(h2:op ≠ .NotIn:=by decide):behindInMarks op b=false:=by
 have e1:(op==CmpOp.In)=false:=by cases op<;>first |rfl |exact absurd rfl h
 have e2:(op==CmpOp.NotIn)=false:=by cases op<;>first |rfl |exact absurd rfl h2
 cases b<;>simp[behindInMarks,e1,e2]
theorem Fj{op:CmpOp}{r:R2}(ho:OpR X (compareOp op) r)(ha:PE X a ta)(hb:PE X b tb)(hm:behindInMarks op b=false):PE X (.Compare a [op] [b] pos) (tOp r ta tb):=by
 intro pins s σ H Q I h
 exact wpAny_Compare1 (BV ha hb I h fun v u s2 x y H2 I2 rx ry q=>ho pins s2 σ H2 x y v u Q I2 rx ry q) hm
noncomputable def Kg(t:TE):TT:=fun σ H Q=>t σ H fun x H'=>∃k,x=.bl k/\Q k H'
theorem wX{op:CmpOp}{r:R2}(ho:OpR X (compareOp op) r)(ha:PE X a ta)(hb:PE X b tb)(hm:behindInMarks op b=false):PT X (.Compare a [op] [b] pos) (Kg (tOp r ta tb)):=by
 intro pins s σ H Q I h
 refine wpAny_isTrue_Compare1 (thn (ha pins s σ H _ I h) fun v s1 ⟨x,H1,I1,r1,q1⟩=>thn (hb pins s1 σ H1 _ I1 q1) fun u s2 ⟨y,H2,I2,r2,q2⟩ =>
  thn (ho pins s2 σ H2 x y v u _ I2 r1 r2 q2) fun c s3 hw'=>?_) hm
 obtain⟨z,H3,I3,r3,k,e,q3⟩:=hw'
 subst e
 cases r3
 exact wpAny_truthy_bool ⟨H3,I3,q3⟩
theorem lr:(sizeLine:Nat)<2 ^ 63:=by rw[sizeLine_eq];decide
theorem yt:OpR X (binaryOp .Add) (fun x y H Q=>∃i j,x=.str i/\y=.str j/\i.length+j.length<=sizeLine/\Q (.str (i++j)) H):=by
 intro pins s σ H x y v u Q I rx ry h
 obtain⟨i,j,rfl,rfl,hz,q⟩:=h
 obtain⟨t,rfl⟩:=rx
 obtain⟨t',rfl⟩:=ry
 exact add_str (fun t' tk=>⟨.str (i++j),H,I.tok _,⟨_,rfl⟩,q⟩) hz
theorem vals1{x:V}{us:List Value}(r:Vals [x] us):∃u,us=[u]/\RelV x u:=by
 cases r with
 | cons r1 r2=>cases r2;exact⟨_,rfl,r1⟩
theorem vals2{x y:V}{us:List Value}(r:Vals [x,y] us):∃u w',us=[u,w']/\RelV x u/\RelV y w':=by
 cases r with
 | cons r1 r2 =>
  cases r2 with
  | cons r3 r4=>cases r4;exact⟨_,_,rfl,r1,r3⟩
theorem zM(hc:X.calm=true):lO X (.builtin "min") (fun xs H Q=>∃i j,xs=[.int i,.int j]/\Q (.int (if j<i then j else i)) H):=by
 intro pins s σ H xs us Q I r h
 obtain⟨i,j,rfl,q⟩:=h
 obtain⟨u,w',rfl,⟨t,rfl⟩,⟨t',rfl⟩⟩:=vals2 r
 refine min_two_ints (I.ok.hd hc) fun h' tk k=>⟨_,H,I.kept k,?_,q⟩
 by_cases hj:j<i
 ·rw[if_pos hj,if_pos hj];exact⟨_,rfl⟩
 ·rw[if_neg hj,if_neg hj];exact⟨_,rfl⟩
noncomputable def Ld(K:PySem.W.Frag)(x:V)(H:Hp)(n:Nat):Prop :=
 match x with
 | .str y=>y.length<=sizeLine/\n=y.length
 | .byt y=>y.size<=sizeLine/\n=y.size
 | .ref p=>(∃xs,SqL K H p xs/\n=xs.length)\/∃xs,SqT K H p xs/\n=xs.length
 | _=>False
theorem BX:lO X (.builtin "len") (fun xs H Q=>∃x n,xs=[x]/\Ld X.K x H n/\Q (.int n) H):=by
 intro pins s σ H xs us Q I r h
 obtain⟨x,n,rfl,e,q⟩:=h
 obtain⟨u,rfl,rx⟩:=vals1 r
 have hl:=lr
 have hs:sizeLine=16777216:=sizeLine_eq
 cases x with
 | str y =>
  obtain⟨t,rfl⟩:=rx
  obtain⟨hy,e'⟩:y.length<=sizeLine/\n=y.length:=e
  subst e'
  exact len_str (by omega) ⟨.int _,H,I.tok _,⟨_,rfl⟩,q⟩
 | byt y =>
  obtain⟨t,rfl⟩:=rx
  obtain⟨hy,e'⟩:y.size<=sizeLine/\n=y.size:=e
  subst e'
  exact PySem.W.len_bytes (by omega) ⟨.int _,H,I.tok _,⟨_,rfl⟩,q⟩
 | ref p =>
  cases rx
  have e':(∃xs,SqL X.K H p xs/\n=xs.length)\/∃xs,SqT X.K H p xs/\n=xs.length:=e
  rcases e' with⟨xs,hx,e'⟩ |⟨xs,hx,e'⟩
  ·subst e'
   obtain⟨its,r',pl,hz⟩:=I.list hx
   have hlen:=r'.length
   exact Calls.call_len_list pl.isList (by simp only[List.size_toArray];omega) ⟨.int xs.length,H,I.tok _,⟨_,by simp only[List.size_toArray];rw[hlen]⟩,q⟩
  ·subst e'
   obtain⟨its,r',pl,hz⟩:=I.tuple hx
   have hlen:=r'.length
   exact len_tuple pl (by simp only[List.size_toArray];omega) ⟨.int xs.length,H,I.tok _,⟨_,by simp only[List.size_toArray];rw[hlen]⟩,q⟩
 | _=>exact(show False from e).elim
end
end L2
namespace L2
open PySem PySem.Spec PyProof.Rows
structure ObjM(h:Heap)(x dx C:Addr)(mA:Str->Option Value):Prop where
 obj:h.get? x=some (PySem.W.instObj C dx)
 ns:h.Ns1 dx mA
 ne:dx≠x
theorem zN{h:Heap}{dx:Addr}{mA:Str->Option Value}(n:h.Ns1 dx mA):∃od,h.get? dx=some od/\∀name,PySem.W.lookIn name od=some (mA name):=by
 obtain⟨o,es,ep,ho,hd,hk,_,hm⟩:=n
 refine⟨o,ho,fun name=>?_⟩
 have e:=hm name
 unfold nsFind findBy at e
 rw[<-Array.find?_toList] at e
 unfold PySem.W.lookIn
 rw[hd]
 dsimp only
 split
 ·rename_i y q
  rw[q] at e
  exact congrArg some e
 ·rename_i q
  rw[q] at e
  have a:es.toList.any (·.refKey)=false:=by
   rw[List.any_eq_false]
   intro y hy
   obtain⟨z,t,hkey⟩:=hk y (Array.mem_toList_iff.mp hy)
   simp[DictEntry.refKey,hkey]
  have a':¬es.toList.any (·.refKey)=true:=by rw[a];exact Bool.false_ne_true
  rw[if_neg a']
  exact congrArg some e
theorem ObjM.look{h:Heap}{x dx C:Addr}{mA:Str->Option Value}(I:ObjM h x dx C mA):∃od,PySem.W.InstAt h x (PySem.W.instObj C dx) C (some od)/\∀name,PySem.W.lookIn name od=some (mA name) :=
 let⟨od,ho,hl⟩:=zN I.ns
 ⟨od,⟨I.obj,rfl,rfl,ho⟩,hl⟩
section
variable {prog:Program} {w:World} {A:Around} {E:Value->Shared->Prop} {s:Shared} {K:PySem.W.Frag} {x dx C f:Addr} {mA:Str->Option Value} {name:Str} {v:Value}
theorem get_map{expr:Bool}{Q:Value->Shared->Prop}(X:K.In s.heap)(I:ObjM s.heap x dx C mA)(hg:PySem.W.plainGet K C name=true)(hh:PySem.W.hasDictIn K C=true)
  (ha:PySem.W.findIn K (.ref C) name=some none) (hv:mA name=some v) (hv':PySem.W.handedIn v=true) (h:Q v { s with toks:=s.toks+1 }) :
  wpAny (model prog w) A (getAttr (.ref x) name expr) Q E s:=by
 obtain⟨od,J,hl⟩:=I.look
 exact PySem.W.get_value X J (PySem.W.plainGet_of hg).1 (PySem.W.findObj_own hh ha rfl (by rw[hl,hv])) hv' h
theorem BZ{pl:Sem Bool}{Q:Value×List Value->Shared->Prop}(X:K.In s.heap)(I:ObjM s.heap x dx C mA)(hg:PySem.W.plainGet K C name=true)
  (hf:PySem.W.findIn K (.ref C) name=some (some (.ref f))) (ht:PySem.W.isFn K (.ref f)=true) (hv:mA name=none) (h:Q (.ref f,[.ref x]) s) :
  wpAny (model prog w) A (getMethod (.ref x) name pl) Q E s:=by
 obtain⟨od,J,hl⟩:=I.look
 exact PySem.W.method_fn X J (PySem.W.plainGet_of hg).1 (PySem.W.plainGet_of hg).2 hf (beq_iff_eq.mp ht) (by show(PySem.W.lookIn name od).map (·.isSome)=some false;rw[hl,hv];rfl) h
theorem Fl{ns:List Str}{Q:Unit->Shared->Prop}(X:K.In s.heap)(I:ObjM s.heap x dx C mA)
  (hs:PySem.W.findIn K (.ref C) "__setattr__" = some (some (.builtin "object.__setattr__"))) (hp:PySem.W.plainOver K C=true) (ht:PySem.W.takerIn K C name=some none) (hh:PySem.W.hasDictIn K C=true)
  (hw:PySem.Within mA ns) (hsz:ns.length<=sizeLine)
  (h:∀h',ObjM h' x dx C (fun y=>if y=name then some v else mA y)->Heap.SameBut dx s.heap h'->Q () { s with heap:=h',toks:=s.toks+2 }) :
  wpAny (model prog w) A (setAttr (.ref x) name v) Q E s:=by
 obtain⟨od,J,hl⟩:=I.look
 refine PySem.W.set_plain X J hs (PySem.W.osa_open (s:={ s with toks:=s.toks+1 }) (r:=none) X J hp ht fun b=>?_)
 obtain⟨cd,hc,hd'⟩:=PySem.W.any_some hh
 have hx:s.heap.get? x=some ⟨.ref C,some dx,.plain,#[]⟩:=I.obj
 refine wpAny_bind (wpAny_pure (wpAny_bind (wpAny_bind (wpAny_loadPart hx (wpAny_bind (PySem.W.Looks.here (s:={ s with toks:=s.toks+1 }) (PySem.W.looks_clsIn X hc) ?_))))))
 rw[hd']
 refine wpAny_pure (a:=some dx) (wpAny_bind (wpAny_pure (wpAny_bind ?_)))
 refine wpAny_nsSet1 (s:={ s with toks:=s.toks+1 }) I.ns fun h' hn2 hs2=>?_
 obtain⟨oD,esD,epD,hoD,hdD,hcD⟩:=hn2.count (PySem.Within.cons name v hw)
 refine wpAny_bind (wpAny_lookBehind hoD (by rw[hdD];exact pastItsLine_dict (Nat.le_trans hcD (by rw[List.length_cons];omega))) ?_)
 exact wpAny_pure (h _ ⟨(hs2.2 _ (Ne.symm I.ne)).trans I.obj,hn2,I.ne⟩ hs2)
theorem B_{R:Result->Shared->Prop}{vs:List Value}{kw:List (Str×Value)}(X:K.In s.heap)(hm:PySem.W.makesIn K C=true)
  (hi:PySem.W.findIn K (.ref C) "__init__" = some (some (.ref f))) (hf:PySem.W.typeIn K (.ref f)=some (.type "function"))
  (h:codeAny (model prog w) (A.under (.builtin "type.__call__" ⟨.ref C::vs,kw⟩)) (.call (.ref f) ⟨.ref (s.heap.objs.size+1)::vs,kw⟩) (PySem.W.InitBack (s.heap.objs.size+1) R)
   { s with heap:=(s.heap.push PySem.W.emptyDict).push (PySem.W.instObj C s.heap.objs.size) }) :
  codeAny (model prog w) A (.call (.ref C) ⟨vs,kw⟩) R s:=by
 obtain⟨hh,g,d,t,os⟩:=s
 exact PySem.W.make_core (PySem.W.makes_of X hm) (PySem.W.looks_findIn X hi) (fun self=>PySem.W.bind_fn X self hf) (.inl rfl) h
end
noncomputable def eG(f:Str)(v:V):List (Str×V)->List (Str×V)
 | []=>[(f,v)]
 | (g,x)::r=>if g=f then(g,v)::r else(g,x)::eG f v r
theorem oX(f g:Str)(v:V):∀fs:List (Str×V),(eG f v fs).lookup g=if g=f then some v else fs.lookup g
 | []=>by
  show List.lookup g [(f,v)]=_
  by_cases h:g=f
  ·have hb:(g==f)=true:=beq_iff_eq.mpr h
   simp only[List.lookup,hb,if_pos h]
  ·have hb:(g==f)=false:=beq_eq_false_iff_ne.mpr h
   simp only[List.lookup,hb,if_neg h]
 | (k,x)::r=>by
  have ih:=oX f g v r
  rw[show eG f v ((k,x)::r)=(if k=f then(k,v)::r else(k,x)::eG f v r) from rfl]
  by_cases hk:k=f
  ·rw[if_pos hk]
   by_cases h:g=k
   ·have hb:(g==k)=true:=beq_iff_eq.mpr h
    simp only[List.lookup,hb,if_pos (h.trans hk)]
   ·have hb:(g==k)=false:=beq_eq_false_iff_ne.mpr h
    simp only[List.lookup,hb,if_neg (fun e:g=f=>h (e.trans hk.symm))]
  ·rw[if_neg hk]
   by_cases h:g=k
   ·have hb:(g==k)=true:=beq_iff_eq.mpr h
    simp only[List.lookup,hb,if_neg (fun e:g=f=>hk (h.symm.trans e))]
   ·have hb:(g==k)=false:=beq_eq_false_iff_ne.mpr h
    simp only[List.lookup,hb]
    exact ih
theorem mK(f:Str)(v:V):∀fs:List (Str×V),f∈(eG f v fs).map (·.1)/\∀g,g∈fs.map (·.1)->g∈(eG f v fs).map (·.1)
 | []=>⟨by simp[eG],fun g h=>by simp at h⟩
 | (k,x)::r=>by
  obtain⟨i1,i2⟩:=mK f v r
  rw[show eG f v ((k,x)::r)=(if k=f then(k,v)::r else(k,x)::eG f v r) from rfl]
  by_cases hk:k=f
  ·rw[if_pos hk]
   subst hk
   exact⟨by simp,fun g h=>by simpa using h⟩
  ·rw[if_neg hk]
   refine⟨?_,fun g h=>?_⟩
   ·rw[List.map_cons]
    exact List.mem_cons_of_mem _ i1
   ·rw[List.map_cons] at h ⊢
    rcases List.mem_cons.mp h with e |e
    ·exact List.mem_cons.mpr (.inl e)
    ·exact List.mem_cons_of_mem _ (i2 g e)
theorem oY(f:Str)(v:V):∀fs:List (Str×V),(eG f v fs).length<=fs.length+1
 | []=>by simp[eG]
 | (k,x)::r=>by
  have ih:=oY f v r
  rw[show eG f v ((k,x)::r)=(if k=f then(k,v)::r else(k,x)::eG f v r) from rfl]
  by_cases hk:k=f
  ·rw[if_pos hk,List.length_cons,List.length_cons];omega
  ·rw[if_neg hk,List.length_cons,List.length_cons];omega
theorem fJ.some_of{v:V}{o:Option Value}(r:fJ (some v) o):∃u,o=some u/\RelV v u:=by
 cases o with
 | none=>exact(show False from r).elim
 | some u=>exact⟨u,rfl,r⟩
theorem fJ.none_of{o:Option Value}(r:fJ none o):o=none:=by
 cases o with
 | none=>rfl
 | some u=>exact(show False from r).elim
theorem zO{v:V}{u:Value}(r:RelV v u):PySem.W.handedIn u=true:=by
 cases v with
 | non=>cases (show u=Value.none from r);rfl
 | bl b=>cases (show u=Value.bool b from r);rfl
 | int i=>obtain⟨t,e⟩:=(show ∃t,u=Value.int i t from r);cases e;rfl
 | str x=>obtain⟨t,e⟩:=(show ∃t,u=Value.str x t from r);cases e;rfl
 | byt b=>obtain⟨t,e⟩:=(show ∃t,u=Value.bytes b t from r);cases e;rfl
 | flt b=>obtain⟨t,e⟩:=(show ∃t,u=Value.float b t from r);cases e;rfl
 | ref a=>cases (show u=Value.ref a from r);rfl
 | ty n=>cases (show u=Value.type n from r);rfl
section
variable {P:Program} {w:World} {H H':Hp} {h h':Heap} {a C dx:Addr} {fs fs':List (Str×V)}
theorem rA(hok:HOk P w H h)(e:H a=some (.ins C dx fs)):∃mA,ObjM h a dx C mA/\(∀f,fJ (fs.lookup f) (mA f))/\PySem.Within mA (fs.map (·.1))/\fs.length<=1000/\H dx=some (.own a):=by
 obtain⟨d,z,ne,ob,mA,n,r,q⟩:=(show b_ P w H h a (.ins C dx fs) from hok a _ e)
 exact⟨mA,⟨ob,n,ne⟩,r,q,z,d⟩
end
structure Cls(K:PySem.W.Frag)(C:Addr):Prop where
 pg:PySem.W.plainGet K C Str.empty=true
 hd:PySem.W.hasDictIn K C=true
 po:PySem.W.plainOver K C=true
 sa:PySem.W.findIn K (.ref C) "__setattr__" = some (some (.builtin "object.__setattr__"))
theorem Cls.get{K:PySem.W.Frag}{C:Addr}(c:Cls K C)(f:Str):PySem.W.plainGet K C f=true:=c.pg
noncomputable def jm(K:PySem.W.Frag)(C:Addr)(f:Str):Prop:=PySem.W.findIn K (.ref C) f=some none
theorem jm.taker{K:PySem.W.Frag}{C:Addr}{f:Str}(n:jm K C f):PySem.W.takerIn K C f=some none:=by
 unfold PySem.W.takerIn
 rw[show PySem.W.findIn K (.ref C) f=some none from n]
 rfl
structure Meth(K:PySem.W.Frag)(C:Addr)(m:Str)(f:Addr):Prop where
 at_:PySem.W.findIn K (.ref C) m=some (some (.ref f))
 fn:PySem.W.isFn K (.ref f)=true
 kp:PySem.W.keepIn K (.ref f)=true
section
variable {X:Cx} {pins:List (Addr×Obj)} {σ:St} {H:Hp} {s:Shared} {a C dx:Addr} {fs:List (Str×V)} {f:Str} {v:V} {A:Around} {E:Value->Shared->Prop}
theorem yu{b:Bool}{Q:Value->Shared->Prop}(I:Inv X pins σ H s)(e:H a=some (.ins C dx fs))(c:Cls X.K C)(n:jm X.K C f)(l:fs.lookup f=some v)
  (h:∀u s',Inv X pins σ H s'->RelV v u->Q u s'):wpAny (model X.prog X.w) A (getAttr (.ref a) f b) Q E s:=by
 obtain⟨mA,O,r,_,_,_⟩:=rA I.hok e
 obtain⟨u,hu,ru⟩:=fJ.some_of (v:=v) (o:=mA f) (by rw[<-l];exact r f)
 exact get_map I.kIn O (c.get f) c.hd n hu (zO ru) (h u _ (I.tok _) ru)
theorem yw{m:Str}{g:Addr}{pl:Sem Bool}{Q:Value×List Value->Shared->Prop}(I:Inv X pins σ H s)(e:H a=some (.ins C dx fs))(c:Cls X.K C)(k:Meth X.K C m g)(l:fs.lookup m=none)
  (h:Q (.ref g,[.ref a]) s):wpAny (model X.prog X.w) A (getMethod (.ref a) m pl) Q E s:=by
 obtain⟨mA,O,r,_,_,_⟩:=rA I.hok e
 have hn:mA m=none:=fJ.none_of (by rw[<-l];exact r m)
 exact BZ I.kIn O (c.get m) k.at_ k.fn hn h
theorem yx{y:V}{u:Value}{Q:Unit->Shared->Prop}(I:Inv X pins σ H s)(e:H a=some (.ins C dx fs))(c:Cls X.K C)(n:jm X.K C f)(hl:fs.length<1000)(ry:RelV y u)
  (h:∀s',Inv X pins σ (upd H a (.ins C dx (eG f y fs))) s'->Q () s'):wpAny (model X.prog X.w) A (setAttr (.ref a) f u) Q E s:=by
 obtain⟨mA,O,r,wi,_,ho⟩:=rA I.hok e
 have hz:(fs.map (·.1)).length<=sizeLine:=by rw[List.length_map,sizeLine_eq];omega
 refine Fl I.kIn O c.sa c.po n.taker c.hd wi hz fun h' O' sb=>h _ ?_
 have hd:∃o,h'.get? dx=some o:=let⟨o,_,_,e',_⟩:=O'.ns;⟨o,e'⟩
 refine I.write (x:=a) (e:=dx) (by rw[e];exact True.intro) (.inr ho) (fun b q hb z=>(sb.2 b hb).trans z) hd ?_
 refine⟨by rw[aB O.ne];exact ho,?_,O.ne,O'.obj,_,O'.ns,fun g=>?_,fun g hg=>?_⟩
 ·have:=oY f y fs;omega
 ·show fJ ((eG f y fs).lookup g) (if g=f then some u else mA g)
  rw[oX]
  by_cases q:g=f
  ·rw[if_pos q,if_pos q];exact ry
  ·rw[if_neg q,if_neg q];exact r g
 ·by_cases q:g=f
  ·rw[q];exact(mK f y fs).1
  ·refine(mK f y fs).2 g (wi g fun z=>hg ?_)
   show(if g=f then some u else mA g)=none
   rw[if_neg q];exact z
theorem Inv.made(I:Inv X pins σ H s):Inv X pins σ (upd (upd H s.heap.objs.size (.own (s.heap.objs.size+1))) (s.heap.objs.size+1) (.ins C s.heap.objs.size []))
  { s with heap:=(s.heap.push PySem.W.emptyDict).push (PySem.W.instObj C s.heap.objs.size) }:=by
 have e1:(s.heap.push PySem.W.emptyDict).get? s.heap.objs.size=some PySem.W.emptyDict:=Heap.get?_push_size s.heap rfl
 have e2:((s.heap.push PySem.W.emptyDict).push (PySem.W.instObj C s.heap.objs.size)).get? (s.heap.objs.size+1)=some (PySem.W.instObj C s.heap.objs.size):=by
  have:=Heap.get?_push_size (s.heap.push PySem.W.emptyDict) (o:=PySem.W.instObj C s.heap.objs.size) rfl
  rwa [Heap.size_push] at this
 have e3:(s.heap.push PySem.W.emptyDict).Ns s.heap.objs.size (fun _=>none):=⟨PySem.W.emptyDict,#[],_,e1,rfl,(fun e he=>absurd he (by simp)),fun _=>rfl⟩
 have I1:=I.laid (a:=s.heap.objs.size) (o:=.own (s.heap.objs.size+1)) (h':=s.heap.push PySem.W.emptyDict) (t':=s.toks) (fun b u q=>Heap.get?_push_of_some _ q) (Nat.le_refl _) ⟨_,e1⟩
 refine I1.laid (a:=s.heap.objs.size+1) (o:=.ins C s.heap.objs.size []) (t':=s.toks) (fun b u q=>Heap.get?_push_of_some _ q) (Nat.le_of_eq (Heap.size_push _ _)) ?_
 have ne:s.heap.objs.size≠s.heap.objs.size+1:=Nat.ne_of_lt (Nat.lt_succ_self _)
 refine⟨by rw[aB ne,aK],Nat.zero_le _,ne,e2,fun _=>none,(Heap.Ns1.of_empty e3).at fun o q=>Heap.get?_push_of_some _ q,fun _=>True.intro,fun y hy=>absurd rfl hy⟩
theorem Fo{prog:Program}{w:World}{env:Env}{e:Expr}{f:Str}{pos:Pos}{s:Shared}{Q:Value->Shared->Prop}(hb:attributeBase e f env (eval e env)=eval e env)
  (h:wpAny (model prog w) A (eval e env) (fun o s₁=>wpAny (model prog w) A (getAttr o f true) Q E s₁) E s):wpAny (model prog w) A (eval (.Attribute e f pos) env) Q E s :=
 Attribute_any_ h (by rw[arm_eval_Attribute,hb])
end
noncomputable def Le(K:PySem.W.Frag)(ta:TE)(f:Str):TE:=fun σ H Q=>ta σ H fun x H1=>∃a C dx fs v,x=.ref a/\H1 a=some (.ins C dx fs)/\Cls K C/\jm K C f/\fs.lookup f=some v/\Q v H1
noncomputable def Lf(K:PySem.W.Frag)(ta tv:TE)(f:Str):TS:=fun D σ H=>tv σ H fun y H1=>ta σ H1 fun x H2=>∃a C dx fs,x=.ref a/\H2 a=some (.ins C dx fs)/\Cls K C/\jm K C f/\fs.length<1000 /\
 D.nx σ (upd H2 a (.ins C dx (eG f y fs)))
section
variable {X:Cx} {o e value:Expr} {f:Str} {pos pos' tpos:Pos} {ta tv:TE}
theorem Ie(he:PE X e ta)(hb:attributeBase e f X.env (eval e X.env)=eval e X.env):PE X (.Attribute e f pos) (Le X.K ta f):=by
 intro pins s σ H Q I h
 refine Fo hb (thn (he pins s σ H _ I h) fun u s1 hw'=>?_)
 obtain⟨x,H1,I1,rx,a,C,dx,fs,v,ex,ea,c,n,l,q⟩:=hw'
 subst ex
 obtain rfl:u=Value.ref a:=rx
 exact yu I1 ea c n l fun u' s2 I2 ru=>⟨v,H1,I2,ru,q⟩
theorem Ig(ha:PE X o ta)(hv:PE X value tv)(hs:swapsWith value (some (.Attribute o f pos')) pos.line X.env=pure false):PS X (.Assign [.Attribute o f pos'] value pos) (Lf X.K ta tv f):=by
 intro pins s σ H D I h
 refine plainObj_wpAny_Assign_Attribute (thn (hv pins s σ H _ I h) fun u s1 ⟨y,H1,I1,ry,q⟩=>thn (ha pins s1 σ H1 _ I1 q) fun ov s2 hw'=>?_) hs
 obtain⟨x,H2,I2,rx,a,C,dx,fs,ex,ea,c,n,l,q2⟩:=hw'
 subst ex
 obtain rfl:ov=Value.ref a:=rx
 exact yx I2 ea c n l ry fun s3 I3=>⟨σ,_,I3,q2⟩
end
end L2
namespace L2
open PySem PySem.Spec PyProof.Rows
structure Room(k:Nat)(A:Around):Prop where
 hd:A.handled=none
 dp:A.depth+3*k+5<recursionLimit
 un:A.units+16*k+200<cLine
 gd:A.guards=some []:=by rfl
theorem Room.mono{j k:Nat}{A:Around}(r:Room k A)(h:j<=k):Room j A:=⟨r.hd,by have:=r.dp;omega,by have:=r.un;omega,r.gd⟩
theorem Room.deeper{k:Nat}{A:Around}(r:Room (k+1) A)(env:Env):Room k (A.deeper env) :=
 ⟨r.hd,by have:=r.dp;show A.depth+1+3*k+5<_;omega,by have:=r.un;show A.units+3+16*k+200<_;omega,r.gd⟩
theorem Room.in1{k:Nat}{A:Around}(r:Room (k+1) A):Room k A.in1 :=
 ⟨r.hd,by have:=r.dp;show A.depth+3*k+5<_;omega,by have:=r.un;show A.units+1+16*k+200<_;omega,r.gd⟩
theorem yz{A:Around}{C:Addr}{us:List Value}{kw:List (Str×Value)}:(A.under (.builtin "type.__call__" ⟨.ref C::us,kw⟩)).depth=A.depth+1:=by
 first |rfl |simp[Around.under,Code.weight,Code.isCreation,Code.isGuard,Code.isCaller,Code.frames,Code.isFrame,guardIds]
theorem yC{A:Around}{C:Addr}{us:List Value}{kw:List (Str×Value)}:(A.under (.builtin "type.__call__" ⟨.ref C::us,kw⟩)).units=A.units+1:=by
 first |rfl |simp[Around.under,Code.cUnits,Code.frames,Code.isFrame]
theorem Room.make{k:Nat}{A:Around}(r:Room (k+1) A)(C:Addr)(us:List Value)(kw:List (Str×Value)):Room k (A.under (.builtin "type.__call__" ⟨.ref C::us,kw⟩)) :=
 ⟨r.hd,by have:=r.dp;rw[yz];omega,by have:=r.un;rw[yC];omega,by first |exact r.gd |simpa [Around.under,Code.isGuard,Code.frames,Code.isFrame,guardIds] using r.gd⟩
theorem Room.depth{k:Nat}{A:Around}(r:Room k A):A.depth<recursionLimit:=by have:=r.dp;omega
theorem Room.units{k:Nat}{A:Around}(r:Room k A):A.units+64<cLine:=by have:=r.un;omega
noncomputable def yD:TA:=fun _ H Q=>Q [] H
noncomputable def yE(ta:TE)(tr:TA):TA:=fun σ H Q=>ta σ H fun x H1=>tr σ H1 fun xs H2=>Q (x::xs) H2
section
variable {X:Cx} {e:Expr} {es:List Expr} {te:TE} {t:TA} {pos:Pos}
theorem jH:PA X [] yD:=fun _ _ _ _ H Q I h=>Calls.spliced_nil ⟨[],H,I,.nil,h⟩
theorem i_(ha:PE X e te)(hr:PA X es t)(hs:starEach (e::es) X.env=(false,eval e X.env)::starEach es X.env:=by rfl):PA X (e::es) (yE te t):=by
 intro pos pins s σ H Q I h
 rw[hs]
 show wpAny _ _ (spliced ((false,eval e X.env)::backTo pos (starEach es X.env))) _ _ s
 refine Calls.spliced_cons (thn (ha pins s σ H _ I h) fun u s1 hw'=>?_)
 obtain⟨x,H1,I1,r1,q1⟩:=hw'
 exact thn (hr pos pins s1 σ H1 _ I1 q1) fun us s2 ⟨xs,H2,I2,r2,q2⟩=>⟨x::xs,H2,I2,.cons r1 r2,q2⟩
noncomputable def Lh(t:TA):TE:=fun σ H Q=>t σ H fun xs H1=>xs.length<=sizeLine/\∀p,H1 p=none->Q (.ref p) (upd H1 p (.tup xs))
noncomputable def Li(t:TA):TE:=fun σ H Q=>t σ H fun xs H1=>xs.length<=sizeLine/\∀p,H1 p=none->Q (.ref p) (upd H1 p (.lst xs))
theorem Ih{x1}(h:PA X es t):PE X (.Tuple es x1 pos) (Lh t):=by
 intro pins s σ H Q I hq
 refine wpAny_Tuple_spliced (thn (h pos pins s σ H _ I hq) fun us s1 ⟨xs,H1,I1,r,z,q⟩=>⟨by rw[<-r.length];exact z,?_⟩)
 have hf:H1 s1.heap.objs.size=none:=I1.hok.fresh (Nat.le_refl _)
 refine⟨.ref s1.heap.objs.size,upd H1 s1.heap.objs.size (.tup xs),I1.laid (t':=s1.toks) (fun b u e=>Heap.get?_push_of_some _ e) (Nat.le_refl _) ?_,rfl,q _ hf⟩
 exact⟨z,us,r,⟨_,Heap.get?_push_size _ rfl,rfl,_,rfl⟩⟩
theorem uN(h:PA X es t):PE X (.List es pos) (Li t):=by
 intro pins s σ H Q I hq
 refine wpAny_List_spliced (thn (h pos pins s σ H _ I hq) fun us s1 ⟨xs,H1,I1,r,z,q⟩=>⟨by rw[<-r.length];exact z,?_⟩)
 have hf:H1 s1.heap.objs.size=none:=I1.hok.fresh (Nat.le_refl _)
 refine⟨.ref s1.heap.objs.size,upd H1 s1.heap.objs.size (.lst xs),I1.laid (t':=s1.toks) (fun b u e=>Heap.get?_push_of_some _ e) (Nat.le_refl _) ?_,rfl,q _ hf⟩
 exact⟨z,us,0,r,Heap.get?_push_size _ rfl⟩
end
noncomputable abbrev Sp:=List V->Hp->VK->XK->Prop
noncomputable abbrev CXT:=List Env->Hp->Shared->XK->Value->Shared->Prop
structure Env0(P:Program)(w:World)(K:PySem.W.Frag)(mg:Str->Option Value)(base:Heap)(A:Around)(outer:List Env)(s:Shared)(H:Hp):Prop where
 frames:A.frames=some outer
 mod:Mod K mg base
 bs:∀b o,base.get? b=some o->s.heap.get? b=some o/\H b=none
 bsz:base.objs.size<=s.heap.objs.size
 funs:s.heap.FunFrames base outer
 frf:∀b∈frs outer,H b=none
 hok:HOk P w H s.heap
 bare:AllBare s.gens
noncomputable def CE(outer:List Env)(P:Program)(w:World)(H:Hp)(s:Shared)(Q:VK)(u:Value)(s':Shared):Prop :=
 ∃v H',s'.os=s.os/\AllBare s'.gens/\Un (frs outer) [] H H' s.heap s'.heap/\HOk P w H' s'.heap/\RelV v u/\Q v H'
noncomputable def CR(CX:CXT)(outer:List Env)(P:Program)(w:World)(H:Hp)(s:Shared)(Q:VK)(E:XK)(r:Result)(s':Shared):Prop :=
 match r with
 | .ok (.ret u)=>CE outer P w H s Q u s'
 | .ok _=>False
 | .error e=>CX outer H s E e s'
structure FnOk(P:Program)(w:World)(K:PySem.W.Frag)(mg:Str->Option Value)(base:Heap)(CX:CXT)(k:Nat)(f:Addr)(fd:FuncData)(ps:List Str)(sp:Sp):Prop where
 len:∀vs H Q E,sp vs H Q E->vs.length=ps.length
 run:∀(A:Around) (outer:List Env) (s:Shared) (H:Hp) (args:Args) (us:List Value) (vs:List V) (Q:VK) (E:XK),Room k A->Env0 P w K mg base A outer s H->BindsTo s fd args (ps.zip us)->Vals vs us->sp vs H Q E ->
  codeAny (model P w) A (.call (.ref f) args) (CR CX outer P w H s Q E) s
theorem FnOk.imp{P:Program}{w:World}{K:PySem.W.Frag}{mg:Str->Option Value}{base:Heap}{CX:CXT}{k:Nat}{f:Addr}{fd:FuncData}{ps:List Str}{sp sp':Sp}(F:FnOk P w K mg base CX k f fd ps sp)
  (h:∀vs H Q E,sp' vs H Q E->sp vs H Q E):FnOk P w K mg base CX k f fd ps sp' :=
 ⟨fun vs H Q E q=>F.len vs H Q E (h _ _ _ _ q),fun A outer s H args us vs Q E hr he hb hv hs=>F.run A outer s H args us vs Q E hr he hb hv (h _ _ _ _ hs)⟩
theorem Env0.make{P:Program}{w:World}{K:PySem.W.Frag}{mg:Str->Option Value}{base:Heap}{A:Around}{outer:List Env}{s:Shared}{H:Hp}(e:Env0 P w K mg base A outer s H)(C:Addr)(us:List Value)(kw:List (Str×Value)) :
  Env0 P w K mg base (A.under (.builtin "type.__call__" ⟨.ref C::us,kw⟩)) outer s H:=⟨by first |exact e.frames |(simpa [Around.under,Code.envs,Code.isFrame,pushEnvs] using e.frames),e.mod,e.bs,e.bsz,e.funs,e.frf,e.hok,e.bare⟩
theorem Env0.in1{P:Program}{w:World}{K:PySem.W.Frag}{mg:Str->Option Value}{base:Heap}{A:Around}{outer:List Env}{s:Shared}{H:Hp}(e:Env0 P w K mg base A outer s H) :
  Env0 P w K mg base A.in1 outer s H:=⟨e.frames,e.mod,e.bs,e.bsz,e.funs,e.frf,e.hok,e.bare⟩
section
variable {X:Cx} {pins:List (Addr×Obj)} {σ:St} {H:Hp} {s s':Shared}
theorem Inv.env0(I:Inv X pins σ H s):Env0 X.prog X.w X.K X.mg X.base X.A X.stack s H :=
 ⟨I.ok.frames,I.ok.mod,I.bs,Nat.le_trans I.ok.bsz I.sz,I.stack,I.stkFree,I.hok,I.bare⟩
theorem Inv.after{Q:VK}{u:Value}(I:Inv X pins σ H s)(h:CE X.stack X.prog X.w H s Q u s'):EP X pins σ Q u s':=by
 obtain⟨v,H',os,bare,un,hok,r,q⟩:=h
 obtain⟨hh,g,d,t,os'⟩:=s'
 obtain rfl:os'=s.os:=os
 exact⟨v,H',I.call (h':=hh) (g':=g) (d':=d) (t':=t) (ch:=[]) un hok bare (fun b z=>absurd z (by simp)),r,q⟩
end
noncomputable def Eg(sp:Sp)(dvs:List V)(E:XK)(t:TA):TE:=fun σ H Q=>t σ H fun vs H1=>sp (vs++dvs) H1 Q E
noncomputable def Eh(C:Addr)(m:Str)(sp:Sp)(dvs:List V)(E:XK)(ta:TE)(t:TA):TE:=fun σ H Q=>ta σ H fun x H1=>∃a dx fs,x=.ref a/\H1 a=some (.ins C dx fs)/\fs.lookup m=none /\
 t σ H1 fun vs H2=>sp (x::(vs++dvs)) H2 Q E
noncomputable def Ei(C:Addr)(sp:Sp)(dvs:List V)(E:XK)(t:TA):TE:=fun σ H Q=>t σ H fun vs H1=>∀x dx,H1 x=none->H1 dx=none->dx≠x ->
 sp (.ref x::(vs++dvs)) (upd (upd H1 dx (.own x)) x (.ins C dx [])) (fun v H2=>v=.non/\Q (.ref x) H2) E
noncomputable def Binds(K:PySem.W.Frag)(fd:FuncData)(ps:List Str)(ds:List Value):Prop :=
 ∀(s:Shared) (us:List Value),K.In s.heap->(us++ds).length=ps.length->BindsTo s fd ⟨us,[]⟩ (ps.zip (us++ds))
theorem Binds.all{K:PySem.W.Frag}{fd:FuncData}{ps:List Str}(h:∀us:List Value,us.length=ps.length->bindArgs fd ⟨us,[]⟩=pure (ps.zip us)):Binds K fd ps []:=fun s us _ hl=>by
 rw[List.append_nil] at hl ⊢
 exact .of_eq (h us hl)
noncomputable def Passes(CX:CXT)(X:Cx)(E:XK):Prop:=∀(pins:List (Addr×Obj)) (σ:St) (H:Hp) (s:Shared) (e:Value) (s':Shared),Inv X pins σ H s->CX X.stack H s E e s'->X.xe e s'
section
variable {X:Cx} {CX:CXT} {k:Nat} {f C:Addr} {fd:FuncData} {ps:List Str} {sp:Sp} {dvs:List V} {ds:List Value} {E:XK} {x m:Str} {p pos apos:Pos} {e o:Expr} {es:List Expr} {ta:TE} {t:TA}
theorem zP{pins:List (Addr×Obj)}{σ:St}{H:Hp}{s:Shared}{Q:VK}{us:List Value}{vs:List V}(F:FnOk X.prog X.w X.K X.mg X.base CX k f fd ps sp)(hr:Room k X.A)(hb:Binds X.K fd ps ds)(hd:Vals dvs ds)(hx:Passes CX X E)
  (I:Inv X pins σ H s) (r:Vals vs us) (h:sp (vs++dvs) H Q E):wpAny (model X.prog X.w) X.A (call (.ref f) us) (EP X pins σ Q) X.xe s:=by
 have r2:Vals (vs++dvs) (us++ds):=r.append hd
 have hl:(us++ds).length=ps.length:=by rw[<-r2.length];exact F.len _ _ _ _ h
 refine wpAny_call (codeAny_mono (F.run X.A X.stack s H ⟨us,[]⟩ (us++ds) (vs++dvs) Q E hr I.env0 (hb s us I.kIn hl) r2 h) fun r s' hq=>?_)
 cases r with
 | error e=>exact hx pins σ H s e s' I hq
 | ok fl =>
  cases fl with
  | ret u=>exact I.after hq
  | next=>exact False.elim hq
  | brk=>exact False.elim hq
  | cont=>exact False.elim hq
theorem Fp(F:FnOk X.prog X.w X.K X.mg X.base CX k f fd ps sp)(hr:Room k X.A)(hg:Gl X x)(hm:X.mg x=some (.ref f))(hk:PySem.W.keepIn X.K (.ref f)=true)(hb:Binds X.K fd ps ds)(hd:Vals dvs ds)(hx:Passes CX X E)
  (ha:PA X (e::es) t) (hdb:(x==("__debug__":Str))=false:=by decide) (he:starEach (e::es) X.env=(false,eval e X.env)::starEach es X.env:=by rfl) (hpl:(backTo pos (starEach es X.env)).any (·.1)=false:=by rfl) :
  PE X (.Call (.Name x p) (e::es) [] pos) (Eg sp dvs E t):=by
 intro pins s σ H Q I h
 refine wpAny_Call_Name_kw (rn I hg hm ?_ hdb)
 refine PySem.W.callWith_K (h₀:=X.base) I.ok.mod.kin hk (thn (ha pos pins s σ H _ I h) fun us s1 ⟨vs,H1,I1,r,q⟩=>⟨I1.kIn,?_⟩) he hpl
 exact zP F hr hb hd hx I1 r q
theorem Fq{pl:Sem Bool}(he:PE X o ta)(c:Cls X.K C)(hm:Meth X.K C m f)(F:FnOk X.prog X.w X.K X.mg X.base CX k f fd ps sp)(hr:Room k X.A)(hb:Binds X.K fd ps ds)(hd:Vals dvs ds)(hx:Passes CX X E)(ha:PA X (e::es) t)
  (hst:starEach (e::es) X.env=(false,eval e X.env)::starEach es X.env:=by rfl) (hpl:(backTo pos (starEach es X.env)).any (·.1)=false:=by rfl)
  (ht:eval (.Call (.Attribute o m apos) (e::es) [] pos) X.env=(do
   let ov <-eval o X.env
   standAt apos.atName
   let (f,first) <-holding [ov] (getMethod ov m pl)
   callWith pos f first (backTo pos (starEach (e::es) X.env)) (backToKw pos (keywordEach [] X.env))):=by rfl) :
  PE X (.Call (.Attribute o m apos) (e::es) [] pos) (Eh C m sp dvs E ta t):=by
 intro pins s σ H Q I h
 refine PySem.W.methodCall_KW (pl:=pl) (thn (he pins s σ H _ I h) fun u s1 hw'=>?_) ht
 obtain⟨x,H1,I1,rx,a,dx,fs,ex,ea,l,q⟩:=hw'
 subst ex
 obtain rfl:u=Value.ref a:=rx
 refine yw I1 ea c hm l ?_
 refine PySem.W.callWith_K (first:=[.ref a]) (h₀:=X.base) I.ok.mod.kin hm.kp (thn (ha pos pins s1 σ H1 _ I1 q) fun us s2 ⟨vs,H2,I2,r,q2⟩=>⟨I2.kIn,?_⟩) hst hpl
 exact zP (us:=.ref a::us) (vs:=.ref a::vs) F hr hb hd hx I2 (.cons rfl r) q2
structure Mk(K:PySem.W.Frag)(C f:Addr):Prop where
 makes:PySem.W.makesIn K C=true
 init:PySem.W.findIn K (.ref C) "__init__" = some (some (.ref f))
 fn:PySem.W.isFn K (.ref f)=true
 kp:PySem.W.keepIn K (.ref C)=true
theorem Cd{pins:List (Addr×Obj)}{σ:St}{H:Hp}{s:Shared}{Q:VK}{us:List Value}{vs:List V}(M:Mk X.K C f)(F:FnOk X.prog X.w X.K X.mg X.base CX k f fd ps sp)(hr:Room (k+1) X.A)(hb:Binds X.K fd ps ds)(hd:Vals dvs ds)
  (hx:Passes CX X E) (I:Inv X pins σ H s) (r:Vals vs us)
  (h:∀x dx,H x=none->H dx=none->dx≠x->sp (.ref x::(vs++dvs)) (upd (upd H dx (.own x)) x (.ins C dx [])) (fun v H2=>v=.non/\Q (.ref x) H2) E) :
  wpAny (model X.prog X.w) X.A (call (.ref C) us) (EP X pins σ Q) X.xe s:=by
 have hq:=h (s.heap.objs.size+1) s.heap.objs.size (I.hok.fresh (Nat.le_succ _)) (I.hok.fresh (Nat.le_refl _)) (Nat.ne_of_lt (Nat.lt_succ_self _))
 have I2:=Inv.made (C:=C) I
 have r2:Vals (V.ref (s.heap.objs.size+1)::(vs++dvs)) (Value.ref (s.heap.objs.size+1)::(us++ds)):=.cons rfl (r.append hd)
 have hl:(Value.ref (s.heap.objs.size+1)::us++ds).length=ps.length:=by
  have e:=r2.length
  rw[F.len _ _ _ _ hq] at e
  exact e.symm
 refine wpAny_call (B_ (f:=f) I.kIn M.makes M.init (beq_iff_eq.mp M.fn) (codeAny_mono (F.run _ X.stack _ _ ⟨Value.ref (s.heap.objs.size+1)::us,[]⟩ (Value.ref (s.heap.objs.size+1)::(us++ds)) _ _ E (hr.make C us [])
  (I2.env0.make C us []) (hb _ (Value.ref (s.heap.objs.size+1)::us) I2.kIn hl) r2 hq) fun r s' hq'=>?_))
 cases r with
 | error e=>exact hx pins σ _ _ e s' I2 hq'
 | ok fl =>
  cases fl with
  | ret u =>
   obtain⟨v,H',I3,rv,ev,q3⟩:=I2.after hq'
   subst ev
   exact⟨rv,⟨V.ref (s.heap.objs.size+1),H',I3,rfl,q3⟩⟩
  | next=>exact False.elim hq'
  | brk=>exact False.elim hq'
  | cont=>exact False.elim hq'
theorem Ce(M:Mk X.K C f)(F:FnOk X.prog X.w X.K X.mg X.base CX k f fd ps sp)(hr:Room (k+1) X.A)(hg:Gl X x)(hm:X.mg x=some (.ref C))(hb:Binds X.K fd ps ds)(hd:Vals dvs ds)(hx:Passes CX X E)
  (hdb:(x==("__debug__":Str))=false:=by decide):PE X (.Call (.Name x p) [] [] pos) (Ei C sp dvs E yD):=by
 intro pins s σ H Q I h
 refine wpAny_Call_Name_kw (rn I hg hm ?_ hdb)
 exact PySem.W.callWith_K0 I.kIn M.kp (Cd (us:=[]) M F hr hb hd hx I .nil h)
end
noncomputable def PK(X:Cx)(kws:List Keyword)(t:TA):Prop :=
 ∀(pos:Pos) (pins:List (Addr×Obj)) (s:Shared) (σ:St) (H:Hp) (Q:List V->Hp->Prop),Inv X pins σ H s->t σ H Q->wpAny (model X.prog X.w) X.A (evalAll ((backToKw pos (keywordEach kws X.env)).map (·.2))) (AP X pins σ Q) X.xe s
section
variable {X:Cx} {CX:CXT} {k:Nat} {f C:Addr} {fd:FuncData} {ps ks:List Str} {sp:Sp} {E:XK} {x m:Str} {p pos apos kpos:Pos} {e o:Expr} {es:List Expr} {kws:List Keyword} {te ta:TE} {t tk:TA} {nm:Option Str}
theorem Ii:PK X [] yD:=fun _ _ _ _ H Q I h=>wpAny_evalAll_nil ⟨[],H,I,.nil,h⟩
theorem wY(ha:PE X e te)(hr:PK X kws t):PK X (⟨nm,e,kpos⟩::kws) (yE te t):=by
 intro pos pins s σ H Q I h
 show wpAny _ _ (evalAll ((do let v <-eval e X.env;standAt pos;pure v)::(backToKw pos (keywordEach kws X.env)).map (·.2))) _ _ s
 refine wpAny_evalAll_cons (wpAny_bind (thn (ha pins s σ H _ I h) fun u s1 ⟨x,H1,I1,r1,q1⟩=>wpAny_bind (wpAny_standAt (wpAny_pure ?_))))
 exact thn (hr pos pins s1 σ H1 _ I1 q1) fun us s2 ⟨xs,H2,I2,r2,q2⟩=>⟨x::xs,H2,I2,.cons r1 r2,q2⟩
variable {g:List Value->List Value->List Value} {gV:List V->List V->List V}
end
structure FnScope(N P:List Str)(sc:Scope):Prop where
 kind:sc.kind=.function
 co:sc.isCoroutine=false
 gen:sc.isGenerator=false
 nd:N.Nodup
 pre:N.take P.length=P
 par:∀x∈P,sc.names.lookup x=some .local\/sc.names.lookup x=some .cell
 nofree:∀y∈sc.names,y.2 ≠ .free
theorem sI{kindOf:Str->Option NameKind}{x:Str}:∀{binds:List (Str×Value)} {m:Str->Option Value},(∀v,(x,v)∉binds)->bindL kindOf binds m x=m x
 | [],_,_=>rfl
 | (n,v)::r,m,h=>by
  unfold bindL
  rw[sI fun w hw=>h w (List.mem_cons_of_mem _ hw)]
  split
  ·have:x≠n:=by rintro rfl;exact h v List.mem_cons_self
   simp[this]
  ·rfl
theorem sJ{kindOf:Str->Option NameKind}{x:Str}:∀{binds:List (Str×Value)} {m:Str->Option Value},(∀v,(x,v)∉binds)->bindC kindOf binds m x=m x
 | [],_,_=>rfl
 | (n,v)::r,m,h=>by
  unfold bindC
  rw[sJ fun w hw=>h w (List.mem_cons_of_mem _ hw)]
  split
  ·rfl
  ·have:x≠n:=by rintro rfl;exact h v List.mem_cons_self
   simp[this]
theorem sO{kindOf:Str->Option NameKind}{x:Str}{v:Value}:∀{P:List Str} {vs:List Value} {i:Nat} {m:Str->Option Value},P.Nodup->P[i]? = some x->vs[i]? = some v->kindOf x=some .local ->
  bindL kindOf (P.zip vs) m x=some v
 | [],_,_,_,_,h,_,_=>by simp at h
 | _::_,[],_,_,_,_,h,_=>by simp at h
 | p::P,w::vs,0,m,nd,h1,h2,hk=>by
  simp at h1 h2;subst h1;subst h2
  show bindL kindOf ((p,w)::P.zip vs) m p=_
  unfold bindL
  rw[sI fun v hv=>(List.nodup_cons.mp nd).1 (List.of_mem_zip hv).1,if_pos hk]
  simp
 | p::P,w::vs,i+1,m,nd,h1,h2,hk=>by
  show bindL kindOf ((p,w)::P.zip vs) m x=_
  unfold bindL
  exact sO (i:=i) (List.nodup_cons.mp nd).2 (by simpa using h1) (by simpa using h2) hk
theorem sS{kindOf:Str->Option NameKind}{x:Str}{v:Value}:∀{P:List Str} {vs:List Value} {i:Nat} {m:Str->Option Value},P.Nodup->P[i]? = some x->vs[i]? = some v->kindOf x≠some .local ->
  bindC kindOf (P.zip vs) m x=some v
 | [],_,_,_,_,h,_,_=>by simp at h
 | _::_,[],_,_,_,_,h,_=>by simp at h
 | p::P,w::vs,0,m,nd,h1,h2,hk=>by
  simp at h1 h2;subst h1;subst h2
  show bindC kindOf ((p,w)::P.zip vs) m p=_
  unfold bindC
  rw[sJ fun v hv=>(List.nodup_cons.mp nd).1 (List.of_mem_zip hv).1,if_neg hk]
  simp
 | p::P,w::vs,i+1,m,nd,h1,h2,hk=>by
  show bindC kindOf ((p,w)::P.zip vs) m x=_
  unfold bindC
  exact sS (i:=i) (List.nodup_cons.mp nd).2 (by simpa using h1) (by simpa using h2) hk
noncomputable def start(N:List Str)(vs:List V):St:=vs.map some++List.replicate (N.length-vs.length) none
noncomputable def cH(CX:CXT)(P:Program)(w:World)(K:PySem.W.Frag)(mg:Str->Option Value)(base:Heap)(N:List Str)(qual:Str)(scope:Scope)(f:Addr)(cd:Value)(A:Around)(outer:List Env)(s:Shared)(H:Hp)(E:XK):Cx where
 prog:=P
 w:=w
 K:=K
 mg:=mg
 base:=base
 A:=A.deeper (envOfC qual scope s.heap.objs.size f cd)
 N:=N
 s₀:=s
 H₀:=H
 env:=envOfC qual scope s.heap.objs.size f cd
 outer:=outer
 stack:=envOfC qual scope s.heap.objs.size f cd::outer
 ex:=[]
 calm:=true
 fn:=fun _=>true
 pn:=[]
 xe:=fun e s'=>wpAny (model P w) (A.deeper (envOfC qual scope s.heap.objs.size f cd)) (leaving (envOfC qual scope s.heap.objs.size f cd) e) (fun _ s''=>CX outer H s E e s'') (fun e' s''=>CX outer H s E e' s'') s'
theorem uO{sc:Scope}{n:Nat}{x:Str}(h:sc.names.lookup x=some .cell):∃c,(cellsFrom n sc.names []).lookup x=some c:=by
 have q:=PySem.W.cellsFrom_some sc.names n [] (.inl h)
 exact Option.isSome_iff_exists.mp q
theorem zQ{CX:CXT}{P:Program}{w:World}{K:PySem.W.Frag}{mg:Str->Option Value}{base:Heap}{N ps:List Str}{qual:Str}{scope:Scope}{f:Addr}{cd:Value}{A:Around}{outer:List Env}{s s1:Shared}{H:Hp}{E:XK}{us:List Value}{vs:List V}
  (S:FnScope N ps scope) (hd:A.handled=none) (e0:Env0 P w K mg base A outer s H) (hl:vs.length=ps.length) (r:Vals vs us)
  (x:InCallC s s.heap.objs.size (bindL (envOfC qual scope s.heap.objs.size f cd).kindOf (ps.zip us) fun _=>none) (cellsFrom (s.heap.objs.size+1) scope.names []) (bindC (envOfC qual scope s.heap.objs.size f cd).kindOf (ps.zip us) fun _=>none) s1) :
  Inv (cH CX P w K mg base N qual scope f cd A outer s H E) [] (start N vs) H s1:=by
 have hpl:ps.length<=N.length:=by have:=congrArg List.length S.pre;rw[List.length_take] at this;omega
 obtain⟨h1,tk,rfl,hk⟩:=x.done
 have noA:∀b:Addr,b∉(cH CX P w K mg base N qual scope f cd A outer s H E).ex:=fun b z=>absurd (show b∈([]:List Addr) from z) (by simp)
 refine⟨⟨e0.mod,S.kind,rfl,rfl,Nat.le_refl _,fun y z c h1 h2=>?_,fun y hy=>?_,fun y c _ h=>?_,fun _=>hd,Around.frames_deeper e0.frames,.inr ⟨rfl,rfl⟩,fun b z=>absurd z (noA b),e0.bs,e0.bsz,fun b _ _=>noA b,fun b z=>absurd z (noA b),e0.funs,e0.frf⟩,
  rfl,e0.bare,Un.kept hk,⟨_,x.toInCall.ns,fun i y v h1 h2 h3=>?_⟩,fun y c h=>⟨_,x.cell y c h⟩,e0.hok.fresh (Nat.le_refl _),fun y c h=>?_,fun p hp=>absurd (show p∈([]:List (Addr×Obj)) from hp) (by simp),e0.hok.kept hk,?_⟩
 ·exact name_of_addr x.apart (PySem.mem_of_lookup h1) (PySem.mem_of_lookup h2)
 ·have hy:scope.names.lookup y=some .cell\/scope.names.lookup y=some .free:=hy
  rcases hy with hy |hy
  ·exact uO hy
  ·exact absurd rfl (S.nofree _ (PySem.mem_of_lookup hy))
 ·exact Nat.le_of_lt (x.above y c (PySem.mem_of_lookup h))
 ·have hi:i<vs.length:=by
   unfold start at h2
   by_cases hi:i<vs.length
   ·exact hi
   ·rw[List.getElem?_append_right (by simpa using hi)] at h2
    rw[List.getElem?_replicate] at h2
    split at h2<;>cases h2
  have ha:vs[i]? = some v:=by
   unfold start at h2
   rw[List.getElem?_append_left (by simpa using hi),List.getElem?_map] at h2
   cases e:vs[i]? with
   | none=>rw[e] at h2;cases h2
   | some a=>rw[e] at h2;cases h2;rfl
  obtain⟨u,hu,rv⟩:=r.get ha
  have hp:ps[i]? = some y:=by
   rw[<-S.pre,List.getElem?_take_of_lt (by omega)];exact h1
  have ndP:ps.Nodup:=by rw[<-S.pre];exact S.nd.sublist (List.take_sublist _ _)
  refine⟨u,rv,?_⟩
  rcases S.par y (List.mem_of_getElem? hp) with k |k
  ·exact .inl ⟨k,sO ndP hp hu k⟩
  ·obtain⟨c,e⟩:=uO (n:=s.heap.objs.size+1) k
   refine .inr ⟨.inl k,c,e,?_⟩
   have q:=x.cell y c e
   rw[sS ndP hp hu (by show scope.names.lookup y≠_;rw[k];decide)] at q
   exact q
 ·exact .inl (e0.hok.fresh (Nat.le_of_lt (x.above y c (PySem.mem_of_lookup h))))
 ·unfold start
  show _=N.length
  rw[List.length_append,List.length_map,List.length_replicate]
  omega
theorem Ej{CX:CXT}{P:Program}{w:World}{K:PySem.W.Frag}{mg:Str->Option Value}{base:Heap}{k:Nat}{f:Addr}{name qual:Str}{params:Arguments}{body:List Stmt}{scope:Scope}{dV kV doc pm cdv ct oc:Value}{an od:Option Addr}
  {osl:Array (Option Value)} {N ps:List Str} {sp:Sp} (lk:K.lookup f=some ⟨oc,od,.func (PySem.W.fnOf name qual params body scope dV kV doc pm an cdv ct),osl⟩) (hcd:PySem.W.codeIn K cdv qual=true) (S:FnScope N ps scope)
  (len:∀vs H Q E,sp vs H Q E->vs.length=ps.length)
  (hbody:∀(A:Around) (outer:List Env) (s:Shared) (H:Hp) (vs:List V) (Q:VK) (E:XK),Room k (A.deeper (envOfC qual scope s.heap.objs.size f cdv))->sp vs H Q E ->
   ∃t,PSs (cH CX P w K mg base N qual scope f cdv A outer s H E) body t/\t { nx:=fun _ H'=>Q .non H',rt:=Q } (start N vs) H) :
  FnOk P w K mg base CX (k+1) f (PySem.W.fnOf name qual params body scope dV kV doc pm an cdv ct) ps sp:=by
 refine⟨len,fun A outer s H args us vs Q E hr e0 hb r hsp=>?_⟩
 have hl:=len _ _ _ _ hsp
 have KX:K.In s.heap:=e0.mod.kin.keeps fun b o e=>(e0.bs b o e).1
 have lim:s.heap.NoLimit:=e0.mod.nolimit.keeps fun b o e=>(e0.bs b o e).1
 have hkind:∀y∈ps.zip us,scope.names.lookup y.1=some .local\/(scope.names.lookup y.1=some .cell/\((cellsFrom (s.heap.objs.size+1) scope.names []).lookup y.1).isSome=true):=fun hw' hy=>by
  obtain⟨n,v⟩:=hw'
  rcases S.par n (List.of_mem_zip hy).1 with q |q
  ·exact .inl q
  ·exact .inr ⟨q,PySem.W.cellsFrom_some _ _ _ (.inl q)⟩
 refine codeAny_call_function hr.depth (KX _ _ lk) rfl S.co S.gen rfl (PySem.W.codeRec_of KX hcd) (hb _ _ _ _ ?_)
 refine wpAny_newFunctionEnv_cells S.kind hkind fun env he s1 x=>?_
 subst he
 refine⟨lim.keeps x.toInCall.keep,codeAny_func ?_⟩
 obtain⟨t,ht,hq⟩:=hbody A outer s H vs Q E (hr.deeper _) hsp
 have I:Inv (cH CX P w K mg base N qual scope f cdv A outer s H E) [] (start N vs) H s1:=zQ S hr.hd e0 hl r x
 refine wpAny_mono (ht [] s1 (start N vs) H _ I hq) (fun fl s' hs=>?_) fun e s' hs=>hs
 have fin:∀{σ':St} {H':Hp} {v:V} {u:Value},Inv (cH CX P w K mg base N qual scope f cdv A outer s H E) [] σ' H' s'->RelV v u->Q v H'->CE outer P w H s Q u s' :=
  fun {σ' H' v u} J rv q=>⟨v,H',J.os,J.bare,J.base,J.hok,rv,q⟩
 cases fl with
 | ret u =>
  obtain⟨v,σ',H',J,rv,q⟩:=hs
  exact fin J rv q
 | next =>
  obtain⟨σ',H',J,q⟩:=hs
  exact fin (v:=V.non) (u:=Value.none) J rfl q
 | brk =>
  obtain⟨_,_,_,q⟩:=hs
  exact False.elim q
 | cont =>
  obtain⟨_,_,_,q⟩:=hs
  exact False.elim q
end L2
namespace L2
open PySem PySem.Spec PyProof.Rows
section
variable {X:Cx} {x:Str} {p pos:Pos} {e:Expr} {es:List Expr} {t:TA} {id T:String} {r:List V->Hp->VK->Prop}
noncomputable def tCB(r:List V->Hp->VK->Prop)(t:TA):TE:=fun σ H Q=>t σ H fun vs H1=>r vs H1 Q
theorem pB(hc:lO X (.builtin id) r)(hg:Gl X x)(hm:X.mg x=none)(hv:bootBuiltins x=some (.builtin id))(ha:PA X (e::es) t)(hn:x ≠ "__name__":=by decide)(hdb:(x==("__debug__":Str))=false:=by decide)
  (he:starEach (e::es) X.env=(false,eval e X.env)::starEach es X.env:=by rfl) (hpl:(backTo pos (starEach es X.env)).any (·.1)=false:=by rfl):PE X (.Call (.Name x p) (e::es) [] pos) (tCB r t):=by
 intro pins s σ H Q I h
 refine wpAny_Call_Name_kw (pU I hg hm hv ?_ hn hdb)
 exact PyProof.Rows.callWith_builtin1 (thn (ha pos pins s σ H _ I h) fun us s1 ⟨vs,H1,I1,r1,q1⟩=>hc pins s1 σ H1 vs us Q I1 r1 q1) he hpl
end
end L2
namespace HT
open PySem PyProof.Rows
noncomputable def lexLt:List Int->List Int->Bool
 | [],[]=>false
 | [],_::_=>true
 | _::_,[]=>false
 | x::xs,y::ys=>if x=y then lexLt xs ys else decide (x<y)
theorem dw(x y:Int)(xs ys:List Int):lexLt (x::xs) (y::ys)=if x=y then lexLt xs ys else decide (x<y):=rfl
theorem uy:lexLt [] []=false:=rfl
theorem rB(y:Int)(ys:List Int):lexLt [] (y::ys)=true:=rfl
theorem rC(x:Int)(xs:List Int):lexLt (x::xs) []=false:=rfl
theorem Cg(A:Around)(s:Shared)(a:Int)(t:Tok)(c:Int)(u:Tok):∃e,SeqAt.EqAt A s (.int a t) (.int c u) e/\(e=true↔a=c) :=
 ⟨(a==c),SeqAt.EqAt.int_int a t c u,by simp⟩
theorem Ci(A:Around)(s:Shared)(a:Int)(t:Tok)(c:Int)(u:Tok)(prog:Program)(w:World)(E:Value->Shared->Prop)(Q:Value->Shared->Prop)(h:Q (.bool (decide (a<c))) s) :
  wpAny (model prog w) A (richCompare .Lt (.int a t) (.int c u)) Q E s :=
 (PyProof.Rows.lt_int h:wpAny (model prog w) A (compareOp .Lt (.int a t) (.int c u)) Q E s)
section
open PySem.SeqAt
open PySem.AutoSeq1 (wpAny_loadPart')
open PySem.MeetsSeq PySem.MeetsSeq2 PySem.MeetsSeq3
theorem uz(l b:Addr)(items items2:Array Value)(n n2:Nat)(dd dd2:Option Addr)(sl sl2:Array (Option Value))(ns ms:List Int)(hi:IntsAre items.toList ns)(hj:IntsAre items2.toList ms) :
  Meets (Builtin.«tuple.__lt__» ⟨[.ref l,.ref b],[]⟩)
   (fun _ R s=>s.heap.get? l=some { cls:=.type "tuple",dict:=dd,data:=.seq items n,slots:=sl }/\s.heap.get? b=some { cls:=.type "tuple",dict:=dd2,data:=.seq items2 n2,slots:=sl2 } /\
    R (.ok (.ret (.bool (lexLt ns ms)))) s) :=
 .of_wp fun prog w A R s h=>by
  obtain⟨hp,g,d,tk,os⟩:=s;obtain⟨hl,hb,h⟩:=h
  have f2:=AutoSeq1.sub_tuple_tuple
  have z1:items.size=ns.length:=by rw[<-hi.length];simp
  have z2:items2.size=ms.length:=by rw[<-hj.length];simp
  wp_walk using wpAny_loadPart' hl,wpAny_loadPart' hb,wpAny_forIn_list _ (fun rest b s'=>b.1=none/\s'=⟨hp,g,d,tk,os⟩/\∃(vs ws:List Value) (ns' ms':List Int),rest=vs.zip ws /\
   IntsAre vs ns'/\IntsAre ws ms'/\ns'.length+items2.size=ms'.length+items.size/\R (.ok (.ret (.bool (lexLt ns' ms')))) ⟨hp,g,d,tk,os⟩) _
  case turn =>
   rintro⟨y,x⟩ rest b s' ⟨hb',rfl,vs,ws,ns',ms',hz,hvi,hwi,hlen,hR⟩
   cases hvi with
   | nil=>rw[List.zip_nil_left] at hz;cases hz
   | cons a t hvi' =>
    cases hwi with
    | nil=>rw[List.zip_nil_right] at hz;cases hz
    | cons c u hwi' =>
     rw[List.zip_cons_cons] at hz
     injection hz with hyx hrest
     injection hyx with hy hx
     subst hy hx
     rw[dw] at hR
     simp only[List.length_cons] at hlen
     obtain⟨e,he,hiff⟩:=Cg A.in1 ⟨hp,g,d,tk,os⟩ a t c u
     refine wpAny_bind (he prog w _ _ ?_)
     cases e with
     | true =>
      rw[if_pos (hiff.mp rfl)] at hR
      wp_walk
      exact⟨rfl,rfl,_,_,_,_,hrest,hvi',hwi',by omega,hR⟩
     | false =>
      rw[if_neg (fun q=>absurd (hiff.mpr q) Bool.false_ne_true)] at hR
      have hri:=Ci A.in1 ⟨hp,g,d,tk,os⟩ a t c u prog w
      wp_walk using hri
      exact⟨_,rfl,by simpa using hR⟩
  case fin =>
   rintro⟨b1,b2⟩ s' ⟨hb',rfl,vs,ws,ns',ms',hz,hvi,hwi,hlen,hR⟩
   simp only at hb'
   subst hb'
   have hv:lexLt ns' ms'=decide (items.size<items2.size):=by
    cases hvi with
    | nil =>
     cases hwi with
     | nil =>
      simp only[List.length_nil] at hlen
      rw[uy]
      exact(decide_eq_false (by omega)).symm
     | cons c u hw =>
      simp only[List.length_nil,List.length_cons] at hlen
      rw[rB]
      exact(decide_eq_true (by omega)).symm
    | cons a t hv =>
     cases hwi with
     | nil =>
      simp only[List.length_nil,List.length_cons] at hlen
      rw[rC]
      exact(decide_eq_false (by omega)).symm
     | cons c u hw =>
      rw[List.zip_cons_cons] at hz
      cases hz
   rw[hv] at hR
   wp_walk
   exact⟨_,rfl,by simpa [Builtin.Tuple.tupleCompareSizes] using hR⟩
  case h =>
   exact⟨rfl,rfl,items.toList,items2.toList,ns,ms,rfl,hi,hj,by omega,h⟩
end
section
variable {prog:Program} {w:World} {A:Around} {E:Value->Shared->Prop} {s:Shared}
theorem yF{l b:Addr}{items items2:Array Value}{ns ms:List Int}{Q:Value->Shared->Prop}(hl:IsTup s.heap l items)(hb:IsTup s.heap b items2)(hi:IntsAre items.toList ns)(hj:IntsAre items2.toList ms)
  (hu:A.units<cLine) (h:Q (.bool (lexLt ns ms)) s):wpAny (model prog w) A (compareOp .Lt (.ref l) (.ref b)) Q E s:=by
 obtain⟨⟨cls,dd,data,sl⟩,ho,hc,n,hd⟩:=id hl
 obtain⟨⟨cls2,dd2,data2,sl2⟩,ho2,hc2,n2,hd2⟩:=id hb
 simp only at hc hd hc2 hd2
 subst hc hd hc2 hd2
 exact richCompare_meets_room (op:=.Lt) ⟨_,ho,rfl⟩ ⟨_,ho2,rfl⟩ PySem.F.slot_tuple_lt PySem.F.entry_tuple_lt (PySem.F.args_tuple_lt_2 _ _) (uz l b items items2 n n2 dd dd2 sl sl2 ns ms hi hj)
  ⟨ho,ho2,show Value.bool (lexLt ns ms)≠Value.notImplemented/\Q (.bool (lexLt ns ms)) s from⟨(fun x=>nomatch x),h⟩⟩ hu
end
end HT
namespace L2
open PySem PySem.Spec PyProof.Rows
theorem intsAre_of{ns:List Int}:∀{us:List Value},Vals (ns.map V.int) us->IntsAre us ns:=by
 induction ns with
 | nil=>intro us r;rw[List.map_nil] at r;cases r;exact .nil
 | cons n ns ih =>
  intro us r
  rw[List.map_cons] at r
  cases r with
  | cons r1 r2 =>
   obtain⟨t,e⟩:=r1
   subst e
   exact .cons n t (ih r2)
end L2
namespace L2
open PySem PySem.Spec PyProof.Rows
noncomputable def ixN(n:Nat)(i:Int):Option Nat:=if 0<=i then(if i<n then some i.toNat else none) else if -(n:Int)<=i then some (i+n).toNat else none
noncomputable def atI{α:Type}(xs:List α)(i:Int):Option α:=(ixN xs.length i).bind fun j=>xs[j]?
theorem Ft{n:Nat}{i:Int}{j:Nat}(h:ixN n i=some j):seqIndex? i n=some j/\j<n /\ -(n:Int)<=i/\i<n:=by
 unfold ixN at h
 by_cases h0:0<=i
 ·rw[if_pos h0] at h
  by_cases h1:i<n
  ·rw[if_pos h1] at h
   have e:i.toNat=j:=Option.some.inj h
   exact⟨by rw[seqIndex_of h0 h1,e],by omega,by omega,h1⟩
  ·rw[if_neg h1] at h;cases h
 ·rw[if_neg h0] at h
  by_cases h1:-(n:Int)<=i
  ·rw[if_pos h1] at h
   have e:(i+n).toNat=j:=Option.some.inj h
   exact⟨by rw[seqIndex_neg (by omega) h1,e],by omega,h1,by omega⟩
  ·rw[if_neg h1] at h;cases h
theorem rD{α:Type}{xs:List α}{i:Int}{v:α}(h:atI xs i=some v):∃j,seqIndex? i xs.length=some j/\xs[j]? = some v/\j<xs.length /\ -(xs.length:Int)<=i/\i<xs.length:=by
 unfold atI at h
 cases e:ixN xs.length i with
 | none=>rw[e] at h;cases h
 | some j =>
  rw[e] at h
  obtain⟨h1,h2,h3,h4⟩:=Ft e
  exact⟨j,h1,h,h2,h3,h4⟩
theorem Fv{α:Type}{xs:List α}{j:Nat}{v:α}(h:xs[j]? = some v):atI xs (j:Int)=some v:=by
 have hj:j<xs.length:=(List.getElem?_eq_some_iff.mp h).1
 have e:ixN xs.length (j:Int)=some j:=by
  unfold ixN
  rw[if_pos (by omega),if_pos (by omega)];simp
 unfold atI;rw[e];exact h
noncomputable def wZ(b:Expr):Prop:=∀o i,subscripted b false o i=operate [o,i] (getItem o i)
noncomputable def IxR(X:Cx)(r:R2):Prop :=
 ∀(value slice:Expr) (pins:List (Addr×Obj)) (s:Shared) (σ:St) (H:Hp) (x y:V) (v u:Value) (Q:VK),Inv X pins σ H s->RelV x v->RelV y u->r x y H Q ->
  subscripted slice false v u=operate [v,u] (getItem v u)->wpAny (model X.prog X.w) X.A (subscriptTail value slice v u) (EP X pins σ Q) X.xe s
noncomputable def MtR(X:Cx)(id:String)(r:V->List V->Hp->VK->Prop):Prop :=
 ∀(pins:List (Addr×Obj)) (s:Shared) (σ:St) (H:Hp) (x:V) (xs:List V) (v:Value) (us:List Value) (Q:VK),Inv X pins σ H s->RelV x v->Vals xs us->r x xs H Q ->
  wpAny (model X.prog X.w) X.A (call (.builtin id) (v::us)) (EP X pins σ Q) X.xe s
section
variable {X:Cx} {a b:Expr} {ta tb:TE} {pos:Pos}
theorem IxR.or{r r':R2}(h:IxR X r)(h':IxR X r'):IxR X (fun x y H Q=>r x y H Q\/r' x y H Q):=by
 intro value slice pins s σ H x y v u Q I rx ry q hs
 rcases q with q |q
 ·exact h value slice pins s σ H x y v u Q I rx ry q hs
 ·exact h' value slice pins s σ H x y v u Q I rx ry q hs
theorem Kh{r:R2}(hr:IxR X r)(ha:PE X a ta)(hb:PE X b tb)(hs:wZ b):PE X (.Subscript a b pos) (tOp r ta tb):=by
 intro pins s σ H Q I h
 exact Subscript_ (BV ha hb I h fun v u s2 x y H2 I2 rx ry q=>hr a b pins s2 σ H2 x y v u Q I2 rx ry q (hs _ _))
noncomputable def Ij(K:PySem.W.Frag):R2:=fun x y H Q=>∃p xs i v,x=.ref p/\y=.int i/\SqL K H p xs/\atI xs i=some v/\Q v H
noncomputable def Ik(K:PySem.W.Frag):R2:=fun x y H Q=>∃p xs i v,x=.ref p/\y=.int i/\SqT K H p xs/\atI xs i=some v/\Q v H
noncomputable def Il:R2:=fun x y H Q=>∃z i c,x=.str z/\y=.int i/\z.length<=sizeLine/\atI z.cps.toList i=some c/\Q (.str ⟨#[c]⟩) H
theorem Fw:IxR X (Ij X.K):=by
 intro value slice pins s σ H x y v u Q I rx ry h hs
 obtain⟨p,xs,i,z,rfl,rfl,hq,he,q⟩:=h
 cases rx
 obtain⟨t,rfl⟩:=ry
 obtain⟨its,r,pl,hz⟩:=I.list hq
 obtain⟨j,h1,h2,h3,h4,h5⟩:=rD he
 obtain⟨w,ew,rw'⟩:=r.get h2
 have hl:=r.length
 have hn:=lr
 have fin:EP X pins σ Q w s:=⟨z,H,I,rw',q⟩
 by_cases h0:0<=i
 ·have hj:i.toNat=j:=by
   rw[seqIndex_of h0 h5] at h1
   exact Option.some.inj h1
  exact item_listR pl.isList h0 (by omega) (by rw[hj];simpa using ew) fin hs
 ·have hj:(i+(its.toArray.size:Int)).toNat=j:=by
   rw[seqIndex_neg (by omega) h4] at h1
   rw[List.size_toArray,<-hl]
   exact Option.some.inj h1
  exact subscriptTail_builtinR (x:=w) pl.isList.typeIs slot_list_getitem.lookup
   (wpAny_getItem_list_neg (Q:=fun r s'=>r=w/\EP X pins σ Q r s') pl.isList (by omega) (by rw[List.size_toArray]<;>omega) (by omega) (by rw[hj];simpa using ew) ⟨rfl,fin⟩) hs
theorem zR:IxR X (Ik X.K):=by
 intro value slice pins s σ H x y v u Q I rx ry h hs
 obtain⟨p,xs,i,z,rfl,rfl,hq,he,q⟩:=h
 cases rx
 obtain⟨t,rfl⟩:=ry
 obtain⟨its,r,pl,hz⟩:=I.tuple hq
 obtain⟨j,h1,h2,h3,h4,h5⟩:=rD he
 obtain⟨w,ew,rw'⟩:=r.get h2
 have hl:=r.length
 have hn:=lr
 have fin:EP X pins σ Q w s:=⟨z,H,I,rw',q⟩
 exact subscriptTail_builtinR (x:=w) pl.typeIs slot_tuple_getitem.lookup
  (getItem_tuple (j:=j) (Q:=fun r s'=>r=w/\EP X pins σ Q r s') pl (by omega) (by omega) (by rw[List.size_toArray,<-hl];exact h1) (by simpa using ew) ⟨rfl,fin⟩) hs
theorem Im:IxR X Il:=by
 intro value slice pins s σ H x y v u Q I rx ry h hs
 obtain⟨z,i,c,rfl,rfl,hz,he,q⟩:=h
 obtain⟨t,rfl⟩:=rx
 obtain⟨t',rfl⟩:=ry
 obtain⟨j,h1,h2,h3,h4,h5⟩:=rD he
 have hl:z.cps.toList.length=z.length:=by simp[Str.length]
 rw[hl] at h1 h4 h5
 have hn:=lr
 exact tail_any (typeIs_str s z t) slot_str_getitem.lookup (getItem_str (c:=c) (by
  have e1:decide (i < -(2 ^ 63:Int))=false:=decide_eq_false (by omega)
  have e2:decide (i ≥ 2 ^ 63)=false:=decide_eq_false (by omega)
  rw[e1,e2,Bool.or_false]) (by rw[h1];simpa using h2) ⟨.str ⟨#[c]⟩,H,I.tok _,⟨_,rfl⟩,q⟩) hs
noncomputable def rIx(K:PySem.W.Frag):R2:=fun x y H Q=>Ij K x y H Q\/Ik K x y H Q\/Il x y H Q
theorem Io:IxR X (rIx X.K):=Fw.or (zR.or Im)
theorem jJ:lO X (.builtin "len") (fun xs H Q=>∃p ys,xs=[.ref p]/\(SqL X.K H p ys\/SqT X.K H p ys)/\Q (.int ys.length) H):=by
 intro pins s σ H xs us Q I r h
 obtain⟨p,ys,rfl,hq,q⟩:=h
 obtain⟨u,rfl,rx⟩:=vals1 r
 cases rx
 have hn:=lr
 rcases hq with hq |hq
 ·obtain⟨its,r',pl,hz⟩:=I.list hq
  have hlen:=r'.length
  exact Calls.call_len_list pl.isList (by simp only[List.size_toArray]<;>omega) ⟨.int ys.length,H,I.tok _,⟨s.toks+1,by rw[List.size_toArray,hlen]⟩,q⟩
 ·obtain⟨its,r',pl,hz⟩:=I.tuple hq
  have hlen:=r'.length
  exact len_tuple pl (by simp only[List.size_toArray]<;>omega) ⟨.int ys.length,H,I.tok _,⟨s.toks+1,by rw[List.size_toArray,hlen]⟩,q⟩
theorem uP:lO X (.builtin "len") (fun xs H Q=>∃z,xs=[.str z]/\z.length<=sizeLine/\Q (.int z.length) H):=by
 intro pins s σ H xs us Q I r h
 obtain⟨z,rfl,hz,q⟩:=h
 obtain⟨u,rfl,t,rfl⟩:=vals1 r
 have hn:=lr
 exact len_str (by omega) ⟨.int z.length,H,I.tok _,⟨_,rfl⟩,q⟩
noncomputable def tyV(K:PySem.W.Frag)(T:String)(x:V)(H:Hp):Prop:=match x with
 | .str _=>T = "str"
 | .int _=>T = "int"
 | .ref p=>(T = "list" /\ ∃xs,SqL K H p xs)\/(T = "tuple" /\ ∃o,K.lookup p=some o/\o.cls=.type "tuple" /\ o.dict=none) \/
   (T = "dict" /\ ((∃kvs,H p=some (.dK kvs))\/∃kvs,H p=some (.dT kvs)))\/(T = "set" /\ ∃S n,H p=some (.set S n))
 | _=>False
theorem Ir{pins:List (Addr×Obj)}{σ:St}{H:Hp}{s:Shared}{T:String}{x:V}{v:Value}(I:Inv X pins σ H s)(r:RelV x v)(ty:tyV X.K T x H) :
  s.TypeIs v T/\∀a,v=.ref a->∃ob,s.heap.get? a=some ob/\ob.dict=none:=by
 cases x with
 | str z =>
  obtain⟨t,rfl⟩:=r
  cases (show T = "str" from ty)
  exact⟨typeIs_str s z t,fun _ e=>nomatch e⟩
 | int i =>
  obtain⟨t,rfl⟩:=r
  cases (show T = "int" from ty)
  exact⟨typeIs_int s i t,fun _ e=>nomatch e⟩
 | ref p =>
  cases r
  rcases ty with⟨rfl,xs,hq⟩ |⟨rfl,o,hk,hc,hd⟩ |⟨rfl,hk⟩ |⟨rfl,S,n,hk⟩
  ·obtain⟨its,_,pl,_⟩:=I.list hq
   refine⟨pl.isList.typeIs,fun a e=>?_⟩
   cases e
   obtain⟨o,n,e,c,hd,_⟩:=pl
   exact⟨o,e,hd⟩
  ·refine⟨⟨o,I.kIn p o hk,hc⟩,fun a e=>?_⟩
   cases e
   exact⟨o,I.kIn _ o hk,hd⟩
  ·have z:∃o,s.heap.get? p=some o/\o.ExactDict:=by
    rcases hk with⟨kvs,hk⟩ |⟨kvs,hk⟩
    ·obtain⟨_,_,_,_,o,_,_,e,ex,_⟩:=I.hok p _ hk
     exact⟨o,e,ex⟩
    ·obtain⟨_,_,_,_,o,_,_,e,ex,_⟩:=I.hok p _ hk
     exact⟨o,e,ex⟩
   obtain⟨o,e,ex⟩:=z
   refine⟨⟨o,e,ex.1⟩,fun a e2=>?_⟩
   cases e2
   exact⟨o,e,ex.2.1⟩
  ·obtain⟨o,_,_,_,e,ex,_⟩:=I.hok p _ hk
   refine⟨⟨o,e,ex.1⟩,fun a e2=>?_⟩
   cases e2
   exact⟨o,e,ex.2.1⟩
 | _=>exact False.elim ty
noncomputable def tBM(K:PySem.W.Frag)(T:String)(r:V->List V->Hp->VK->Prop)(to:TE)(t:TA):TE:=fun σ H Q=>to σ H fun x H1=>tyV K T x H1/\t σ H1 fun xs H2=>r x xs H2 Q
variable {o e:Expr} {es:List Expr} {to:TE} {t:TA} {name:Str} {apos cpos:Pos} {T id:String} {r:V->List V->Hp->VK->Prop}
theorem yG(pa:PlainAttrs T)(slot:Slot T name id)(hty:typeOf (.builtin id)=pure (.type "method_descriptor"))(hm:MtR X id r)(ho:PE X o to)(ha:PA X (e::es) t)
  (hbase:attributeBase o name X.env (eval o X.env)=eval o X.env:=by rfl)
  (hfew:((backTo cpos (starEach (e::es) X.env)).all (fun x=>!x.1) && (backToKw cpos (keywordEach [] X.env)).all (fun x=>x.1.isSome)
   && decide ((e::es).length+([]:List Keyword).length+(if([]:List Keyword).isEmpty then 0 else 1)<30))=true:=by rfl)
  (hline:(apos.endLine==cpos.line)=true:=by rfl) (hs:starEach (e::es) X.env=(false,eval e X.env)::starEach es X.env:=by rfl) (hplain:(backTo cpos (starEach es X.env)).any (·.1)=false:=by rfl) :
  PE X (.Call (.Attribute o name apos) (e::es) [] cpos) (tBM X.K T r to t):=by
 intro pins s σ H Q I h
 refine wpAny_Call_method_late hbase hfew hline rfl (thn (ho pins s σ H _ I h) fun v s1 hw'=>?_)
 obtain⟨x,H1,I1,r1,ty,q1⟩:=hw'
 obtain⟨h1,h2⟩:=Ir I1 r1 ty
 refine⟨T,id,pa,slot,hty,h1,h2,?_⟩
 have hA:=ha cpos pins s1 σ H1 _ I1 q1
 rw[hs] at hA ⊢
 refine Calls.callWith_builtin (by show(false || (backTo cpos (starEach es X.env)).any (·.1))=false;rw[hplain]<;>rfl) (Calls.evalArgs_plain ?_)
 exact thn hA fun us s2 ⟨vs,H2,I2,r2,q2⟩=>hm pins s2 σ H2 x vs v us Q I2 r1 r2 q2
/- xs.append(e),list.index on a module's tuple .. are MtR facts of 06m -/
end
end L2
namespace L2
open PySem PySem.Spec PyProof.Rows
noncomputable def MtM(X:Cx)(id:String)(r:V->List V->Hp->VK->Prop):Prop :=
 ∀(pins:List (Addr×Obj)) (s:Shared) (σ:St) (H:Hp) (x:V) (xs:List V) (v:Value) (us:List Value) (Q:VK),Inv X pins σ H s->RelV x v->Vals xs us->r x xs H Q ->
  wpAny (model X.prog X.w) X.A (call (.builtin id) (v::us)) (EP X pins σ Q) X.xe s
theorem Vals.one{x:V}{us:List Value}(h:Vals [x] us):∃u,us=[u]/\RelV x u:=vals1 h
theorem Vals.eraseIdx:∀{xs:List V} {us:List Value} (i:Nat),Vals xs us->Vals (xs.eraseIdx i) (us.eraseIdx i)
 | _,_,_,.nil=>.nil
 | _,_,0,.cons _ t=>t
 | _,_,i+1,.cons r t=>.cons r (Vals.eraseIdx i t)
theorem Vals.rep{xs:List V}{us:List Value}(h:Vals xs us):∀k:Nat,Vals (List.replicate k xs).flatten (List.replicate k us).flatten
 | 0=>.nil
 | k+1=>by
  rw[List.replicate_succ,List.replicate_succ,List.flatten_cons,List.flatten_cons]
  exact Vals.append h (Vals.rep h k)
theorem sU{α:Type}:∀(l:List α) (i:Nat),(l.eraseIdx i).length<=l.length
 | [],_=>Nat.le_refl _
 | _::_,0=>Nat.le_succ _
 | _::r,i+1=>Nat.succ_le_succ (sU r i)
theorem foldl_rep(its:List Value):∀(k:Nat) (acc:List Value),
  List.foldl (fun x1 x2=>x1++x2) acc.toArray (List.replicate k its.toArray)=(acc++(List.replicate k its).flatten).toArray
 | 0,acc=>by simp
 | k+1,acc=>by
  have e:acc.toArray++its.toArray=(acc++its).toArray:=by simp
  have e2:(acc++its)++(List.replicate k its).flatten=acc++(List.replicate (k+1) its).flatten:=by
   rw[List.replicate_succ,List.flatten_cons,List.append_assoc]
  rw[<-e2,<-foldl_rep its k (acc++its),<-e,List.replicate_succ,List.foldl_cons]
section
variable {X:Cx} {pins:List (Addr×Obj)} {σ:St} {H:Hp} {s:Shared} {l b:Addr} {xs ys zs:List V}
theorem Inv.lset{its its':List Value}{n:Nat}{f:Array Value->Array Value}{t':Nat}(I:Inv X pins σ H s)(hH:H l=some (.lst xs))
  (e:s.heap.get? l=some { cls:=.type "list",data:=.seq its.toArray n }) (hf:f its.toArray=its'.toArray) (hv:Vals ys its') (hz:ys.length<=sizeLine) :
  Inv X pins σ (upd H l (.lst ys)) { s with heap:=s.heap.update l (Obj.mapSeq f),toks:=t' }:=by
 have q:=PySem.IsL.update e f
 rw[hf] at q
 refine I.write (x:=l) (e:=l) (by rw[hH];exact trivial) (.inl rfl) (fun b' u hb hu=>(Heap.get?_update_other s.heap (Obj.mapSeq f) (Ne.symm hb)).trans hu) ⟨_,q⟩ ?_
 exact⟨hz,its',_,hv,q⟩
theorem Inv.lnew{its:List Value}{t':Nat}(I:Inv X pins σ H s)(hv:Vals ys its)(hz:ys.length<=sizeLine) :
  Inv X pins σ (upd H s.heap.objs.size (.lst ys)) { s with heap:=s.heap.push { cls:=.type "list",data:=.seq its.toArray },toks:=t' } :=
 I.laid (fun _ _ q=>Heap.get?_push_of_some _ q) (Nat.le_refl _) ⟨hz,its,0,hv,Heap.get?_push_size _ rfl⟩
theorem Inv.fresh(I:Inv X pins σ H s):H s.heap.objs.size=none:=I.hok.fresh (Nat.le_refl _)
theorem Inv.lstM(I:Inv X pins σ H s)(hH:H l=some (.lst xs)):xs.length<=sizeLine/\∃(its:List Value) (n:Nat),Vals xs its/\xs.length=its.length/\s.heap.get? l=some { cls:=.type "list",data:=.seq its.toArray n }:=by
 obtain⟨z,its,n,r,e⟩:=I.hok l _ hH
 exact⟨z,its,n,r,r.length,e⟩
theorem Cj{n:Nat}(h:n<=sizeLine):Builtin.List.listTooLong n=false:=by
 unfold Builtin.List.listTooLong
 exact decide_eq_false (by omega)
end
section
variable {X:Cx}
noncomputable def xg:V->List V->Hp->VK->Prop:=fun x vs H Q=>∃l xs y,x=.ref l/\vs=[y]/\H l=some (.lst xs)/\xs.length<sizeLine/\Q .non (upd H l (.lst (xs++[y])))
theorem mL:MtM X "list.append" xg:=by
 intro pins s σ H x vs v us Q I rx rv h
 obtain⟨l,xs,y,rfl,rfl,hH,hz,q⟩:=h
 cases rx
 obtain⟨u,rfl,ru⟩:=rv.one
 obtain⟨z,its,n,r,hl,e⟩:=I.lstM hH
 refine call_meets F.slot_list_append ⟨_,e,rfl⟩ F.entry_list_append (F.args_list_append_2 _ _) (PySem.list_append l its.toArray n u (by rw[List.size_toArray];omega)) ⟨e,?_⟩
 refine⟨.non,_,I.lset (its':=its++[u]) hH e (by simp) (r.append (.cons ru .nil)) ?_,rfl,q⟩
 rw[List.length_append,List.length_singleton]
 omega
noncomputable def Iu:V->List V->Hp->VK->Prop:=fun x vs H Q=>∃l xs i k y,x=.ref l/\vs=[.int i]/\H l=some (.lst xs) /\ -(2 ^ 63)<=i/\i<2 ^ 63/\seqIndex? i xs.length=some k/\xs[k]? = some y/\Q y (upd H l (.lst (xs.eraseIdx k)))
theorem Ck:MtM X "list.pop" Iu:=by
 intro pins s σ H x vs v us Q I rx rv h
 obtain⟨l,xs,i,k,y,rfl,rfl,hH,h1,h2,hk,hy,q⟩:=h
 cases rx
 obtain⟨u,rfl,ru⟩:=rv.one
 obtain⟨t,rfl⟩:=ru
 obtain⟨z,its,n,r,hl,e⟩:=I.lstM hH
 obtain⟨w,hw,rw'⟩:=r.get hy
 refine call_meets F.slot_list_pop ⟨_,e,rfl⟩ F.entry_list_pop (F.args_list_pop_2 _ _)
  (MeetsSeq.list_pop_at l its.toArray n i t k w (fitsIndex_both h1 h2) (by rw[List.size_toArray,<-hl];exact hk) (by rw[<-Array.getElem?_toList];exact hw) (by rw[List.size_toArray];omega)) ⟨e,?_⟩
 refine⟨y,_,I.lset (its':=its.eraseIdx k) hH e ?_ (r.eraseIdx k) ?_,rw',q⟩
 ·show its.toArray.eraseIdxIfInBounds k=(its.eraseIdx k).toArray
  rw[List.eraseIdxIfInBounds_toArray]
 ·have:=sU xs k
  omega
noncomputable def Lj:R2:=fun x y H Q=>∃l b xs zs,x=.ref l/\y=.ref b/\H l=some (.lst xs)/\H b=some (.lst zs)/\xs.length+zs.length<=sizeLine/\∀p,H p=none->Q (.ref p) (upd H p (.lst (xs++zs)))
theorem Iv:OpR X (binaryOp .Add) Lj:=by
 intro pins s σ H x y v u Q I rx ry h
 obtain⟨l,b,xs,zs,rfl,rfl,hH,hB,hz,q⟩:=h
 cases rx
 cases ry
 obtain⟨z,its,n,r,hl,e⟩:=I.lstM hH
 obtain⟨z2,its2,n2,r2,hl2,e2⟩:=I.lstM hB
 refine PySem.P.add_list e e2 ?_ (by rw[List.size_toArray,List.size_toArray];omega)
 have ea:its.toArray++its2.toArray=(its++its2).toArray:=by simp
 rw[ea]
 exact⟨.ref _,_,I.lnew (t':=s.toks) (r.append r2) (by rw[List.length_append];omega),rfl,q _ I.fresh⟩
noncomputable def Lk:R2:=fun x y H Q=>∃l k xs,x=.ref l/\y=.int k/\H l=some (.lst xs) /\ -(2 ^ 63)<=k/\k<2 ^ 63/\xs.length*k.toNat<=sizeLine /\
 ∀p,H p=none->Q (.ref p) (upd H p (.lst (List.replicate k.toNat xs).flatten))
theorem len_rep{α:Type}(xs:List α)(k:Nat):(List.replicate k xs).flatten.length=k*xs.length:=by
 induction k with
 | zero=>simp
 | succ k ih=>rw[List.replicate_succ,List.flatten_cons,List.length_append,ih,Nat.succ_mul,Nat.add_comm]
theorem Iw:OpR X (binaryOp .Mult) Lk:=by
 intro pins s σ H x y v u Q I rx ry h
 obtain⟨l,k,xs,rfl,rfl,hH,h1,h2,hz,q⟩:=h
 cases rx
 obtain⟨t,rfl⟩:=ry
 obtain⟨z,its,n,r,hl,e⟩:=I.lstM hH
 have hlen:its.toArray.size*k.toNat<=sizeLine:=by rw[List.size_toArray,<-hl];exact hz
 have hcap:¬its.toArray.size*k.toNat>(2 ^ 63-1) / 8:=by
  have:(sizeLine:Nat)<=(2 ^ 63-1) / 8:=by decide
  omega
 have hfit:¬(!Builtin.List.listFitsIndex k)=true:=by
  rw[fitsIndex_both h1 h2]
  exact Bool.false_ne_true
 have hlong:¬Builtin.List.listTooLong (its.toArray.size*k.toNat)=true:=by
  rw[Cj hlen]
  exact Bool.false_ne_true
 have hnew:List.foldl (fun x1 x2=>x1++x2) #[] (List.replicate (if its.toArray.isEmpty=true then 0 else k.toNat) its.toArray)=(List.replicate k.toNat its).flatten.toArray:=by
  have f0:∀m:Nat,List.foldl (fun x1 x2=>x1++x2) #[] (List.replicate m its.toArray)=(List.replicate m its).flatten.toArray:=fun m=>by
   have:=foldl_rep its m []
   rw[List.nil_append] at this
   exact this
  rw[f0]
  cases its with
  | nil=>simp
  | cons a r'=>rw[if_neg (by simp)]
 refine wpAny_binaryOp_repeat_ref (T:="list") (U:="int") (by decide) ⟨_,e,rfl⟩ (fun s'=>typeIs_int s' k t) noFill_list_mul F.fills_int_mul F.slot_int_rmul repeat_list F.slot_int_index.lookup
  (call_meets F.slot_int_rmul (typeIs_int s k t) F.entry_int_rmul (F.args_int_rmul_2 _ _) (int___rmul___int_list k t l its.toArray n)
   ⟨e,rfl,⟨_,e,rfl⟩,call_meets F.slot_list_mul ⟨_,e,rfl⟩ F.entry_list_mul (F.args_list_mul_2 _ _) (AutoListH.list___mul___list_int_3 l its.toArray n k t hfit hcap hlong) ⟨e,?_⟩⟩)
 rw[hnew]
 exact⟨.ref _,_,I.lnew (t':=s.toks) (r.rep k.toNat) (by rw[len_rep,Nat.mul_comm];exact hz),rfl,q _ I.fresh⟩
end
section
variable {prog:Program} {w:World} {A:Around} {E:Value->Shared->Prop} {s:Shared}
set_option maxRecDepth 100000 in
end
end L2
namespace L2
open PySem PySem.Spec PyProof.Rows
section
variable {κ:Type} [DecidableEq κ]
noncomputable def fV(kvs:List (κ×V))(k:κ):Option V:=(kvs.find? fun kv=>decide (kv.1=k)).map (·.2)
noncomputable def putK(kvs:List (κ×V))(k:κ)(v:V):List (κ×V) :=
 if(kvs.any fun kv=>decide (kv.1=k))=true then kvs.map (fun kv=>if kv.1=k then(kv.1,v) else kv) else kvs++[(k,v)]
noncomputable def fG(kvs:List (κ×V))(k:κ):List (κ×V):=kvs.filter fun kv=>decide (kv.1≠k)
theorem lQ{p:κ×V}{r:List (κ×V)}{k:κ}(e:p.1=k):fV (p::r) k=some p.2:=by simp[fV,List.find?_cons,e]
theorem lR{p:κ×V}{r:List (κ×V)}{k:κ}(e:¬p.1=k):fV (p::r) k=fV r k:=by simp[fV,List.find?_cons,e]
theorem uQ(k:κ):∀kvs:List (κ×V),(kvs.any fun kv=>decide (kv.1=k))=(fV kvs k).isSome
 | []=>rfl
 | p::r=>by
  rw[List.any_cons]
  by_cases e:p.1=k
  ·simp only[lQ e,decide_eq_true e,Bool.true_or,Option.isSome_some]
  ·rw[lR e,decide_eq_false e,Bool.false_or];exact uQ k r
theorem kO(kvs:List (κ×V))(k:κ)(v:V):(putK kvs k v).length<=kvs.length+1:=by
 unfold putK
 split
 ·rw[List.length_map];omega
 ·rw[List.length_append,List.length_cons,List.length_nil];omega
theorem fJ.isSome_eq{o:Option V}{u:Option Value}(r:fJ o u):o.isSome=u.isSome:=by
 cases o with
 | none=>cases u with
  | none=>rfl
  | some _=>exact(show False from r).elim
 | some _=>cases u with
  | none=>exact(show False from r).elim
  | some _=>rfl
theorem fJ.getD{o:Option V}{u:Option Value}{d:V}{d':Value}(r:fJ o u)(rd:RelV d d'):RelV (o.getD d) (u.getD d'):=by
 cases o with
 | none=>cases u with
  | none=>exact rd
  | some _=>exact(show False from r).elim
 | some _=>cases u with
  | none=>exact(show False from r).elim
  | some _=>exact r
theorem KV.val{kvs:List (κ×V)}{vs:List (κ×Value)}(r:KV kvs vs)(k:κ):fJ (fV kvs k) (valueAt vs k):=by
 unfold KV at r
 induction r with
 | nil=>exact True.intro
 | @cons p q ps qs h t ih =>
  obtain⟨h1,h2⟩:=h
  by_cases e:p.1=k
  ·have e':q.1=k:=h1.symm.trans e
   have b:valueAt (q::qs) k=some q.2:=by simp[valueAt,List.find?_cons,e']
   rw[lQ e,b];exact h2
  ·have e':¬q.1=k:=fun z=>e (h1.trans z)
   have b:valueAt (q::qs) k=valueAt qs k:=by simp[valueAt,List.find?_cons,e']
   rw[lR e,b];exact ih
theorem KV.any{kvs:List (κ×V)}{vs:List (κ×Value)}(r:KV kvs vs)(k:κ):(kvs.any fun kv=>decide (kv.1=k))=vs.any fun kv=>decide (kv.1=k):=by
 unfold KV at r
 induction r with
 | nil=>rfl
 | cons h t ih=>rw[List.any_cons,List.any_cons,ih,h.1]
theorem KV.repl{kvs:List (κ×V)}{vs:List (κ×Value)}(r:KV kvs vs)(k:κ){y:V}{u:Value}(ry:RelV y u) :
  KV (kvs.map fun kv=>if kv.1=k then(kv.1,y) else kv) (vs.map fun kv=>if kv.1=k then(kv.1,u) else kv):=by
 unfold KV at r ⊢
 induction r with
 | nil=>exact .nil
 | @cons p q ps qs h t ih =>
  rw[List.map_cons,List.map_cons]
  refine .cons ?_ ih
  obtain⟨h1,h2⟩:=h
  by_cases e:p.1=k
  ·rw[if_pos e,if_pos (h1.symm.trans e)];exact⟨h1,ry⟩
  ·rw[if_neg e,if_neg (fun z=>e (h1.trans z))];exact⟨h1,h2⟩
theorem KV.put{kvs:List (κ×V)}{vs:List (κ×Value)}(r:KV kvs vs)(k:κ){y:V}{u:Value}(ry:RelV y u):KV (putK kvs k y) (stored vs k u):=by
 unfold putK stored
 rw[r.any k]
 by_cases e:(vs.any fun kv=>decide (kv.1=k))=true
 ·rw[if_pos e,if_pos e];exact r.repl k ry
 ·rw[if_neg e,if_neg e];exact Paired.snoc r ⟨rfl,ry⟩
theorem KV.drop{kvs:List (κ×V)}{vs:List (κ×Value)}(r:KV kvs vs)(k:κ):KV (fG kvs k) (without vs k):=by
 unfold KV at r ⊢
 unfold fG without
 induction r with
 | nil=>exact .nil
 | @cons p q ps qs h t ih =>
  obtain⟨h1,h2⟩:=h
  rw[List.filter_cons,List.filter_cons]
  by_cases e:p.1=k
  ·have a:¬decide (p.1≠k)=true:=by simp[e]
   have b:¬decide (q.1≠k)=true:=by simp[h1.symm.trans e]
   rw[if_neg a,if_neg b];exact ih
  ·have e':¬q.1=k:=fun z=>e (h1.trans z)
   have a:decide (p.1≠k)=true:=by simp[e]
   have b:decide (q.1≠k)=true:=by simp[e']
   rw[if_pos a,if_pos b];exact .cons ⟨h1,h2⟩ ih
theorem KV.keys{kvs:List (κ×V)}{vs:List (κ×Value)}(r:KV kvs vs):kvs.map (·.1)=vs.map (·.1):=by
 unfold KV at r
 induction r with
 | nil=>rfl
 | cons h t ih=>rw[List.map_cons,List.map_cons,ih,h.1]
theorem KV.length{kvs:List (κ×V)}{vs:List (κ×Value)}(r:KV kvs vs):kvs.length=vs.length:=Paired.length r
theorem uR(kvs:List (κ×V))(k:κ):(fG kvs k).length<=kvs.length:=List.length_filter_le _ _
end
theorem jZ{P:Program}{w:World}{k:Key}{u:Value}(r:RelV (kV k) u):(cD P w).is k u=true:=by
 cases k with
 | inl i=>obtain⟨t,e⟩:=(show ∃t,u=Value.int i t from r);subst e;exact wJ P w i t
 | inr x=>obtain⟨t,e⟩:=(show ∃t,u=Value.str x t from r);subst e;exact wK P w x t
theorem sV{P:Program}{w:World}:∀{ks:List Key} {us:List Value},Vals (ks.map kV) us->ItemsAre (cD P w) ks us
 | [],_,r=>by rw[List.map_nil] at r;cases r;exact .nil
 | k::ks,_,r=>by
  rw[List.map_cons] at r
  cases r with
  | cons h t=>exact .cons (jZ h) (sV t)
noncomputable abbrev KT(H:Hp):List (List Key×V)->List (List Key×Addr×Value)->Prop:=Paired fun p q=>p.1=q.1/\H q.2.1=some (.tup (p.1.map kV))/\RelV p.2 q.2.2
theorem KT.val{H:Hp}{kvs:List (List Key×V)}{xs:List (List Key×Addr×Value)}(r:KT H kvs xs)(k:List Key):fJ (fV kvs k) ((atKey xs k).map (·.2)):=by
 induction r with
 | nil=>exact True.intro
 | @cons p q ps qs h t ih =>
  obtain⟨h1,_,h2⟩:=h
  by_cases e:p.1=k
  ·have e':q.1=k:=h1.symm.trans e
   have b:atKey (q::qs) k=some q.2:=by simp[atKey,List.find?_cons,e']
   rw[lQ e,b];exact h2
  ·have e':¬q.1=k:=fun z=>e (h1.trans z)
   have b:atKey (q::qs) k=atKey qs k:=by simp[atKey,List.find?_cons,e']
   rw[lR e,b];exact ih
theorem KT.repl{H:Hp}{kvs:List (List Key×V)}{xs:List (List Key×Addr×Value)}(r:KT H kvs xs)(k:List Key){y:V}{u:Value}(ry:RelV y u) :
  KT H (kvs.map fun kv=>if kv.1=k then(kv.1,y) else kv) (xs.map (putAt k u)):=by
 induction r with
 | nil=>exact .nil
 | @cons p q ps qs h t ih =>
  rw[List.map_cons,List.map_cons]
  refine .cons ?_ ih
  obtain⟨h1,h2,h3⟩:=h
  unfold putAt
  by_cases e:p.1=k
  ·rw[if_pos e,if_pos (h1.symm.trans e)];exact⟨h1,h2,ry⟩
  ·rw[if_neg e,if_neg (fun z=>e (h1.trans z))];exact⟨h1,h2,h3⟩
theorem KT.put{H:Hp}{kvs:List (List Key×V)}{xs:List (List Key×Addr×Value)}(r:KT H kvs xs)(k:List Key){b:Addr}{y:V}{u:Value}(hb:H b=some (.tup (k.map kV)))(ry:RelV y u) :
  KT H (putK kvs k y) (storedH xs k b u):=by
 have e:(kvs.any fun kv=>decide (kv.1=k))=(atKey xs k).isSome:=by
  rw[uQ,(r.val k).isSome_eq,Option.isSome_map]
 unfold putK storedH
 rw[e]
 by_cases q:(atKey xs k).isSome=true
 ·rw[if_pos q,if_pos q];exact r.repl k ry
 ·rw[if_neg q,if_neg q];exact Paired.snoc r ⟨rfl,hb,ry⟩
theorem KT.keeps{H H':Hp}{kvs:List (List Key×V)}{xs:List (List Key×Addr×Value)}(r:KT H kvs xs)(ht:∀b ys,H b=some (.tup ys)->H' b=some (.tup ys)):KT H' kvs xs :=
 Paired.mapP r fun _ _ z=>⟨z.1,ht _ _ z.2.1,z.2.2⟩
section
variable {P:Program} {w:World} {H:Hp} {h:Heap} {a:Addr}
theorem Ek{u:HO}(ok:HOk P w H h)(e:Rd H a u):b_ P w H h a u:=e.ok ok
theorem lU{kvs:List (Key×V)}(ok:HOk P w H h)(e:Rd H a (.dK kvs)):kvs.length<=sizeLine/\(a==sysModules)=false/\∃vs,KV kvs vs/\h.DictOf (cD P w) a vs :=
 show b_ P w H h a (.dK kvs) from Ek ok e
theorem uC{kvs:List (Key×V)}(ok:HOk P w H h)(e:H a=some (.dK kvs)):kvs.length<=sizeLine/\(a==sysModules)=false/\∃vs,KV kvs vs/\h.DictOf (cD P w) a vs:=lU ok (.inl e)
theorem jK{ks:List Key}(ok:HOk P w H h)(e:H a=some (.tup (ks.map kV))):(tupleKind (cD P w)).is h ks a:=by
 obtain⟨_,its,r,o,h1,h2,n,h3⟩:=(show b_ P w H h a (.tup (ks.map kV)) from ok a _ e)
 exact⟨o,its.toArray,n,h1,h2,h3,by simpa using sV r⟩
theorem lV{kvs:List (List Key×V)}(ok:HOk P w H h)(e:Rd H a (.dT kvs)):kvs.length<=sizeLine/\(a==sysModules)=false /\
  ∃xs,KT H kvs xs/\h.DictOfH (tupleKind (cD P w)) a xs:=by
 obtain⟨z,y,xs,r,o,es,ep,h1,h2,h3,h4,h5⟩:=(show b_ P w H h a (.dT kvs) from Ek ok e)
 refine⟨z,y,xs,r,o,es,ep,h1,h2,h3,h4,fun x hx=>?_,h5⟩
 have all:∀{l:List (List Key×V)} {m:List (List Key×Addr×Value)},KT H l m->∀x∈m,(tupleKind (cD P w)).is h x.1 x.2.1:=by
  intro l m q
  induction q with
  | nil=>intro x hx;exact nomatch hx
  | @cons p q ps qs hq t ih =>
   intro x hx
   rcases List.mem_cons.mp hx with e |hx
   ·subst e
    exact jK ok (by rw[<-hq.1];exact hq.2.1)
   ·exact ih x hx
 exact all r x hx
theorem El{kvs:List (List Key×V)}(ok:HOk P w H h)(e:H a=some (.dT kvs)):kvs.length<=sizeLine/\(a==sysModules)=false /\
  ∃xs,KT H kvs xs/\h.DictOfH (tupleKind (cD P w)) a xs:=lV ok (.inl e)
end
noncomputable def gM(H:Hp)(a:Addr)(y:V)(r:Option V):Prop :=
 (∃kvs k,Rd H a (.dK kvs)/\y=kV k/\r=fV kvs k)\/∃kvs k b,Rd H a (.dT kvs)/\y=.ref b/\H b=some (.tup (k.map kV))/\r=fV kvs k
noncomputable def lW(H:Hp)(a:Addr)(y v:V)(H':Hp):Prop :=
 (∃kvs k,H a=some (.dK kvs)/\y=kV k/\kvs.length<sizeLine/\H'=upd H a (.dK (putK kvs k v))) \/
 ∃kvs k b,H a=some (.dT kvs)/\y=.ref b/\H b=some (.tup (k.map kV))/\kvs.length<sizeLine/\H'=upd H a (.dT (putK kvs k v))
theorem gM.k{H:Hp}{a:Addr}{kvs:List (Key×V)}{k:Key}(e:H a=some (.dK kvs)):gM H a (kV k) (fV kvs k):=.inl ⟨kvs,k,.inl e,rfl,rfl⟩
theorem gM.t{H:Hp}{a b:Addr}{kvs:List (List Key×V)}{k:List Key}(e:H a=some (.dT kvs))(eb:H b=some (.tup (k.map kV))):gM H a (.ref b) (fV kvs k):=.inr ⟨kvs,k,b,.inl e,rfl,eb,rfl⟩
theorem lW.k{H:Hp}{a:Addr}{kvs:List (Key×V)}{k:Key}{v:V}(e:H a=some (.dK kvs))(hl:kvs.length<sizeLine):lW H a (kV k) v (upd H a (.dK (putK kvs k v))):=.inl ⟨kvs,k,e,rfl,hl,rfl⟩
theorem lW.t{H:Hp}{a b:Addr}{kvs:List (List Key×V)}{k:List Key}{v:V}(e:H a=some (.dT kvs))(eb:H b=some (.tup (k.map kV)))(hl:kvs.length<sizeLine) :
  lW H a (.ref b) v (upd H a (.dT (putK kvs k v))):=.inr ⟨kvs,k,b,e,rfl,eb,hl,rfl⟩
section
variable {X:Cx} {pins:List (Addr×Obj)} {σ:St} {H:Hp} {s:Shared} {a:Addr} {y v:V} {u r:Value} {o:Option V} {A:Around} {E:Value->Shared->Prop}
theorem Inv.big(I:Inv X pins σ H s):sysModules<s.heap.objs.size:=by
 have h:mainGlobals<s.heap.objs.size:=(I.mod.glob.keeps I.bk).lt
 exact Nat.lt_trans (by decide) h
theorem zT{Q:Value->Shared->Prop}(hu:A.units+1<cLine)(I:Inv X pins σ H s)(g:gM H a y (some v))(ry:RelV y u)(h:∀w' s',Inv X pins σ H s'->RelV v w'->Q w' s') :
  wpAny (model X.prog X.w) A (getItem (.ref a) u) Q E s:=by
 rcases g with⟨kvs,k,e,ey,l⟩ |⟨kvs,k,b,e,ey,eb,l⟩
 ·subst ey
  obtain⟨z,hd,vs,rel,dd⟩:=lU I.hok e
  obtain⟨w',hw,rw'⟩:=fJ.some_of (v:=v) (o:=valueAt vs k) (by rw[l];exact rel.val k)
  exact wpAny_getItem_of (jZ ry) dd.mapOf hw (h w' _ (I.tok _) rw')
 ·subst ey
  cases (show u=Value.ref b from ry)
  obtain⟨z,hd,xs,rel,dd⟩:=lV I.hok e
  obtain⟨w',hw,rw'⟩:=fJ.some_of (v:=v) (o:=(atKey xs k).map (·.2)) (by rw[l];exact rel.val k)
  obtain⟨p,hp,hp2⟩:=Option.map_eq_some_iff.mp hw
  refine wpAny_getItem_heap (tupleKind_room_in1 hu) (jK I.hok eb) dd hp ?_
  rw[hp2]
  exact h w' _ (I.tok _) rw'
theorem Ln{Q:Value->Shared->Prop}(hu:A.units+1<cLine)(I:Inv X pins σ H s)(g:gM H a y o)(ry:RelV y u)(h:∀s',Inv X pins σ H s'->Q (.bool o.isSome) s') :
  wpAny (model X.prog X.w) A (compareOp .In u (.ref a)) Q E s:=by
 rcases g with⟨kvs,k,e,ey,l⟩ |⟨kvs,k,b,e,ey,eb,l⟩
 ·subst ey
  obtain⟨z,hd,vs,rel,dd⟩:=lU I.hok e
  refine wpAny_in_of (jZ ry) hd dd.mapOf ?_
  rw[<-(rel.val k).isSome_eq,<-l]
  exact h _ (I.tok _)
 ·subst ey
  cases (show u=Value.ref b from ry)
  obtain⟨z,hd,xs,rel,dd⟩:=lV I.hok e
  refine wpAny_in_heap (tupleKind_room_in1 hu) (jK I.hok eb) hd dd ?_
  have q:=(rel.val k).isSome_eq
  rw[Option.isSome_map] at q
  rw[<-q,<-l]
  exact h _ (I.tok _)
theorem Fx{Q:Value->Shared->Prop}(hu:A.units+1<cLine)(I:Inv X pins σ H s)(g:gM H a y o)(ry:RelV y u)(h:∀s',Inv X pins σ H s'->Q (.bool (!o.isSome)) s') :
  wpAny (model X.prog X.w) A (compareOp .NotIn u (.ref a)) Q E s:=by
 rcases g with⟨kvs,k,e,ey,l⟩ |⟨kvs,k,b,e,ey,eb,l⟩
 ·subst ey
  obtain⟨z,hd,vs,rel,dd⟩:=lU I.hok e
  refine wpAny_notIn_of (jZ ry) hd dd.mapOf ?_
  rw[<-(rel.val k).isSome_eq,<-l]
  exact h _ (I.tok _)
 ·subst ey
  cases (show u=Value.ref b from ry)
  obtain⟨z,hd,xs,rel,dd⟩:=lV I.hok e
  refine wpAny_notIn_heap (tupleKind_room_in1 hu) (jK I.hok eb) hd dd ?_
  have q:=(rel.val k).isSome_eq
  rw[Option.isSome_map] at q
  rw[<-q,<-l]
  exact h _ (I.tok _)
theorem lu{h':Heap}{t':Nat}{ob:HO}(I:Inv X pins σ H s)(mu:Mut (H a))(hs:Heap.SameBut a s.heap h')(he:∃q,h'.get? a=some q)(new:b_ X.prog X.w (upd H a ob) h' a ob) :
  Inv X pins σ (upd H a ob) { s with heap:=h',toks:=t' } :=
 I.write (x:=a) (e:=a) mu (.inl rfl) (fun b q hb z=>(hs.2 b hb).trans z) he new
theorem uT{P:Program}{w:World}{H':Hp}{h':Heap}{kvs:List (Key×V)}{vs:List (Key×Value)}(z:kvs.length<=sizeLine)(hd:(a==sysModules)=false)(rel:KV kvs vs)(dd:h'.DictOf (cD P w) a vs) :
  b_ P w H' h' a (.dK kvs):=⟨z,hd,vs,rel,dd⟩
theorem zU{H':Hp}{Q:Unit->Shared->Prop}(hu:A.units+1<cLine)(I:Inv X pins σ H s)(g:lW H a y v H')(ry:RelV y u)(rv:RelV v r)(h:∀s',Inv X pins σ H' s'->Q () s') :
  wpAny (model X.prog X.w) A (setItem (.ref a) u r) Q E s:=by
 rcases g with⟨kvs,k,e,ey,l,eH⟩ |⟨kvs,k,b,e,ey,eb,l,eH⟩
 ·subst ey eH
  obtain⟨z,hd,vs,rel,dd⟩:=uC I.hok e
  have hz:vs.length<=sizeLine:=by rw[<-rel.length];exact z
  have hl:(putK kvs k v).length<=sizeLine:=by have:=kO kvs k v;omega
  refine wpAny_setItem_pairs (hsz:=hz) (jZ ry) dd fun h' dd' hs=>h _ ?_
  have he:∃q,h'.get? a=some q:=let⟨q,_,_,hq,_⟩:=dd';⟨q,hq⟩
  exact lu I (by rw[e];exact True.intro) hs he (uT hl hd (rel.put k rv) dd')
 ·subst ey eH
  cases (show u=Value.ref b from ry)
  obtain⟨z,hd,xs,rel,dd⟩:=El I.hok e
  have hz:xs.length<=sizeLine:=by rw[<-Paired.length rel];exact z
  have hl:(putK kvs k v).length<=sizeLine:=by have:=kO kvs k v;omega
  refine wpAny_setItem_heap (hsz:=hz) (tupleKind_room_in1 hu) (jK I.hok eb) dd fun h' dd' hs=>h _ ?_
  obtain⟨q,es,ep,hq,h2,h3,h4,_,h5⟩:=dd'
  refine lu I (by rw[e];exact True.intro) hs ⟨q,hq⟩ ⟨hl,hd,_,(rel.put k eb rv).keeps fun c ys ec=>?_,q,es,ep,hq,h2,h3,h4,h5⟩
  rw[aB (Ed ec e (fun z=>nomatch z))]
  exact ec
end
section
variable {X:Cx} {pins:List (Addr×Obj)} {σ:St} {H:Hp} {s:Shared} {a:Addr} {kvs:List (Key×V)} {k:Key} {u:Value} {A:Around} {E:Value->Shared->Prop}
theorem Kl{v:V}{more:List Value}{Q:Value->Shared->Prop}(I:Inv X pins σ H s)(e:H a=some (.dK kvs))(ry:RelV (kV k) u)(l:fV kvs k=some v)(hm:more=[]\/∃x,more=[x])
  (h:∀w' s',Inv X pins σ (upd H a (.dK (fG kvs k))) s'->RelV v w'->Q w' s'):wpAny (model X.prog X.w) A (call (.builtin "dict.pop") (.ref a::u::more)) Q E s:=by
 obtain⟨z,hd,vs,rel,dd⟩:=uC I.hok e
 obtain⟨w',hw,rw'⟩:=fJ.some_of (v:=v) (o:=valueAt vs k) (by rw[<-l];exact rel.val k)
 have hp:(keyPart u).isSome=true:=by
  cases k with
  | inl i=>obtain⟨t,q⟩:=(show ∃t,u=Value.int i t from ry);subst q;rfl
  | inr x=>obtain⟨t,q⟩:=(show ∃t,u=Value.str x t from ry);subst q;rfl
 have ha:argsOk "dict.pop" ⟨.ref a::u::more,[]⟩:=by
  rcases hm with q |⟨x,q⟩
  ·subst q;exact PySem.F.args_dict_pop_2 _ _
  ·subst q;exact PySem.F.args_dict_pop_3 _ _ _
 refine call_meetsIn PySem.F.slot_dict_pop dd.typeIs PySem.F.entry_dict_pop ha (meets_dict_pop_there (cD X.prog X.w) a (jZ ry) more hm hp)
  ⟨vs,w',dd,by rw[<-rel.length];exact z,hw,fun h' dd' hs=>h w' _ ?_ rw'⟩
 have he:∃q,h'.get? a=some q:=let⟨q,_,_,hq,_⟩:=dd';⟨q,hq⟩
 exact lu I (by rw[e];exact True.intro) hs he (uT (Nat.le_trans (uR kvs k) z) hd (rel.drop k) dd')
end
noncomputable def Cm(i:Expr):Prop:=∀ov iv,subscripted i false ov iv=operate [ov,iv] (getItem ov iv)
theorem Fy{prog:Program}{w:World}{A:Around}{E:Value->Shared->Prop}{s:Shared}{env:Env}{value slice:Expr}{pos:Pos}{T id:String}{Q:Value->Shared->Prop}
  (hl:typeLookup (.type T) "__getitem__" = pure (some (.builtin id))) (hs:Cm slice)
  (h:wpAny (model prog w) A (eval value env) (fun o s₁=>wpAny (model prog w) A (eval slice env) (fun i s₂=>s₂.TypeIs o T/\wpAny (model prog w) A (getItem o i) Q E s₂) E s₁) E s) :
  wpAny (model prog w) A (eval (.Subscript value slice pos) env) Q E s:=by
 refine Subscript_ (wpAny_mono h (fun o s₁ h₁=>wpAny_mono h₁ (fun i s₂ h₂=>?_) fun _ _ x=>x) fun _ _ x=>x)
 obtain⟨hT,h₂⟩:=h₂
 unfold subscriptTail
 refine wpAny_bind ?_
 rw[getitemInPython_of_ne hT.not_modules]
 refine wpAny_bind (wpAny_specialOf hT hl ?_)
 have fin:wpAny (model prog w) A (subscripted slice false o i) (fun r s₃=>wpAny (model prog w) A (letTemporaryGo value o r>>=fun _=>pure r) Q E s₃) E s₂:=by
  rw[hs o i]
  exact wpAny_operating (wpAny_mono h₂ (fun r s₃ h₃=>wpAny_bind (wpAny_letTemporaryGo (wpAny_pure h₃))) fun _ _ x=>x)
 first
  | exact wpAny_pure (wpAny_bind fin)
  | exact wpAny_bind (wpAny_pure (wpAny_bind fin))
  | exact wpAny_bind fin
theorem wL{X:Cx}{pins:List (Addr×Obj)}{σ:St}{H:Hp}{s:Shared}{a:Addr}{y:V}{o:Option V}(I:Inv X pins σ H s)(g:gM H a y o):s.TypeIs (.ref a) "dict":=by
 rcases g with⟨kvs,k,e,_,_⟩ |⟨kvs,k,b,e,_,_,_⟩
 ·obtain⟨_,_,vs,_,dd⟩:=lU I.hok e
  exact dd.typeIs
 ·obtain⟨_,_,xs,_,dd⟩:=lV I.hok e
  exact dd.typeIs
noncomputable def Km(td ty:TE):TE:=fun σ H Q=>td σ H fun x H1=>ty σ H1 fun y H2=>∃a v,x=.ref a/\gM H2 a y (some v)/\Q v H2
noncomputable def Lp(ty td:TE):TE:=fun σ H Q=>ty σ H fun y H1=>td σ H1 fun x H2=>∃a o,x=.ref a/\gM H2 a y o/\Q (.bl o.isSome) H2
noncomputable def Fz(ty td:TE):TE:=fun σ H Q=>ty σ H fun y H1=>td σ H1 fun x H2=>∃a o,x=.ref a/\gM H2 a y o/\Q (.bl (!o.isSome)) H2
noncomputable def eF(td ty tv:TE):TS:=fun D σ H=>tv σ H fun v H1=>td σ H1 fun x H2=>ty σ H2 fun y H3=>∃a H4,x=.ref a/\lW H3 a y v H4/\D.nx σ H4
section
variable {X:Cx} {o i e value:Expr} {pos pos' tpos:Pos} {td ty tv:TE}
theorem FJ(hu:X.A.units+1<cLine)(ho:PE X o td)(hi:PE X i ty)(hs:Cm i):PE X (.Subscript o i pos) (Km td ty):=by
 intro pins s σ H Q I h
 refine Fy PySem.F.slot_dict_getitem.lookup hs (thn (ho pins s σ H _ I h) fun u s1 ⟨x,H1,I1,rx,q1⟩=>thn (hi pins s1 σ H1 _ I1 q1) fun iv s2 hw'=>?_)
 obtain⟨y,H2,I2,ry,a,v,ex,g,q2⟩:=hw'
 subst ex
 obtain rfl:u=Value.ref a:=rx
 exact⟨wL I2 g,zT hu I2 g ry fun w' s3 I3 rw'=>⟨v,H2,I3,rw',q2⟩⟩
theorem Iz(hu:X.A.units+1<cLine)(hi:PE X i ty)(ho:PE X o td):PC X .In i o (Lp ty td):=by
 intro pins s σ H Q I h
 refine thn (hi pins s σ H _ I h) fun iv s1 ⟨y,H1,I1,ry,q1⟩=>thn (ho pins s1 σ H1 _ I1 q1) fun u s2 hw'=>?_
 obtain⟨x,H2,I2,rx,a,ov,ex,g,q2⟩:=hw'
 subst ex
 obtain rfl:u=Value.ref a:=rx
 exact Ln hu I2 g ry fun s3 I3=>⟨.bl ov.isSome,H2,I3,rfl,q2⟩
theorem zV(hu:X.A.units+1<cLine)(hi:PE X i ty)(ho:PE X o td):PC X .NotIn i o (Fz ty td):=by
 intro pins s σ H Q I h
 refine thn (hi pins s σ H _ I h) fun iv s1 ⟨y,H1,I1,ry,q1⟩=>thn (ho pins s1 σ H1 _ I1 q1) fun u s2 hw'=>?_
 obtain⟨x,H2,I2,rx,a,ov,ex,g,q2⟩:=hw'
 subst ex
 obtain rfl:u=Value.ref a:=rx
 exact Fx hu I2 g ry fun s3 I3=>⟨.bl (!ov.isSome),H2,I3,rfl,q2⟩
theorem FN(hu:X.A.units+1<cLine)(ho:PE X o td)(hi:PE X i ty)(hv:PE X value tv)(hs:swapsWith value (some (.Subscript o i pos')) pos.line X.env=pure false) :
  PS X (.Assign [.Subscript o i pos'] value pos) (eF td ty tv):=by
 intro pins s σ H D I h
 refine wpAny_Assign_Subscript (thn (hv pins s σ H _ I h) fun r s1 ⟨v,H1,I1,rv,q1⟩=>thn (ho pins s1 σ H1 _ I1 q1) fun u s2 ⟨x,H2,I2,rx,q2⟩=>thn (hi pins s2 σ H2 _ I2 q2) fun iv s3 hw'=>?_) hs
 obtain⟨y,H3,I3,ry,a,H4,ex,g,q3⟩:=hw'
 subst ex
 obtain rfl:u=Value.ref a:=rx
 exact zU hu I3 g ry rv fun s4 I4=>⟨σ,H4,I4,q3⟩
end
theorem uU{P:Program}{w:World}{H:Hp}(h:Heap)(hb:sysModules<h.objs.size):b_ P w H (h.push { cls:=.type "dict",data:=.dict #[] }) h.objs.size (.dK []) :=
 ⟨Nat.zero_le _,beq_eq_false_iff_ne.mpr (Ne.symm (Nat.ne_of_lt hb)),[],.nil,Heap.DictOf.new h⟩
theorem Cp{P:Program}{w:World}{H:Hp}(h:Heap)(hb:sysModules<h.objs.size):b_ P w H (h.push { cls:=.type "dict",data:=.dict #[] }) h.objs.size (.dT []) :=
 ⟨Nat.zero_le _,beq_eq_false_iff_ne.mpr (Ne.symm (Nat.ne_of_lt hb)),[],.nil,_,#[],0,Heap.get?_push_size _ rfl,⟨rfl,rfl,rfl⟩,rfl,rfl,List.nodup_nil⟩
noncomputable def IK:TE:=fun _ H Q=>∀p,H p=none->Q (.ref p) (upd H p (.dK []))
noncomputable def IW:TE:=fun _ H Q=>∀p,H p=none->Q (.ref p) (upd H p (.dT []))
section
variable {X:Cx} {pos:Pos}
theorem Cq:PE X (.Dict [] [] pos) IK:=fun pins s σ H Q I h =>
 wpAny_Dict_empty ⟨.ref s.heap.objs.size,_,I.laid (a:=s.heap.objs.size) (o:=.dK []) (t':=s.toks) (fun _ _ q=>Heap.get?_push_of_some _ q) (Nat.le_refl _) (uU s.heap I.big),rfl,h _ (I.hok.fresh (Nat.le_refl _))⟩
theorem Cr:PE X (.Dict [] [] pos) IW:=fun pins s σ H Q I h =>
 wpAny_Dict_empty ⟨.ref s.heap.objs.size,_,I.laid (a:=s.heap.objs.size) (o:=.dT []) (t':=s.toks) (fun _ _ q=>Heap.get?_push_of_some _ q) (Nat.le_refl _) (Cp s.heap I.big),rfl,h _ (I.hok.fresh (Nat.le_refl _))⟩
end
noncomputable def pW:List (TE×TE)->St->Hp->(List (V×V)->Hp->Prop)->Prop
 | [],_,H,Q=>Q [] H
 | (tk,tv)::r,σ,H,Q=>tk σ H fun x H1=>tv σ H1 fun y H2=>pW r σ H2 fun ps H3=>Q ((x,y)::ps) H3
noncomputable abbrev VV:List (V×V)->List (Value×Value)->Prop:=Paired fun p q=>RelV p.1 q.1/\RelV p.2 q.2
noncomputable def PPs(X:Cx)(pos:Pos)(keys:List (Option Expr))(values:List Expr)(trs:List (TE×TE)):Prop :=
 ∀(pins:List (Addr×Obj)) (s:Shared) (σ:St) (H:Hp) (Q:List (V×V)->Hp->Prop),Inv X pins σ H s->pW trs σ H Q ->
  wpAny (model X.prog X.w) X.A (evalPairs (pairTrees keys values X.env pos)) (fun vs s'=>∃ps H',Inv X pins σ H' s'/\VV ps vs/\Q ps H') X.xe s
theorem FP{X:Cx}{pos:Pos}:PPs X pos [] [] []:=fun pins s σ H Q I h=>pairTrees_nil_walk ⟨[],H,I,.nil,h⟩
theorem Cu{X:Cx}{pos:Pos}{k v:Expr}{ks:List (Option Expr)}{vs:List Expr}{tk tv:TE}{trs:List (TE×TE)}(hk:PE X k tk)(hv:PE X v tv)(hr:PPs X pos ks vs trs) :
  PPs X pos (some k::ks) (v::vs) ((tk,tv)::trs):=fun pins s σ H Q I h =>
 pairTrees_cons_walk (thn (hk pins s σ H _ I h) fun u s1 ⟨x,H1,I1,rx,q1⟩=>thn (hv pins s1 σ H1 _ I1 q1) fun w2 s2 ⟨y,H2,I2,ry,q2⟩ =>
  thn (hr pins s2 σ H2 _ I2 q2) fun ws s3 ⟨ps,H3,I3,rel,q3⟩=>⟨(x,y)::ps,H3,I3,.cons ⟨rx,ry⟩ rel,q3⟩)
noncomputable def jL(kvs more:List (Key×V)):List (Key×V):=more.foldl (fun acc kv=>putK acc kv.1 kv.2) kvs
theorem KV.merge:∀{more:List (Key×V)} {rs:List (Key×Value)} {kvs:List (Key×V)} {vs:List (Key×Value)},KV more rs->KV kvs vs->KV (jL kvs more) (merged vs rs):=by
 intro more rs kvs vs r
 unfold KV at r
 induction r generalizing kvs vs with
 | nil=>intro q;exact q
 | @cons p q ps qs h t ih =>
  intro r0
  have e:KV (putK kvs p.1 p.2) (stored vs q.1 q.2):=by
   have:=r0.put p.1 h.2
   rw[<-h.1];exact this
  exact ih e
theorem mF:∀(more kvs:List (Key×V)),(jL kvs more).length<=kvs.length+more.length
 | [],kvs=>by show kvs.length<=kvs.length+0;omega
 | p::r,kvs=>by
  have h1:=mF r (putK kvs p.1 p.2)
  have h2:=kO kvs p.1 p.2
  show(jL (putK kvs p.1 p.2) r).length<=_
  rw[List.length_cons];omega
theorem pX{P:Program}{w:World}:∀{kvs:List (Key×V)} {ws:List (Value×Value)},VV (kvs.map fun kv=>(kV kv.1,kv.2)) ws->∃rs,Carries (cD P w) ws rs/\KV kvs rs
 | [],_,r=>by rw[List.map_nil] at r;cases r;exact⟨[],True.intro,.nil⟩
 | p::kvs,_,r=>by
  rw[List.map_cons] at r
  cases r with
  | @cons a b as bs h t =>
   obtain⟨rs,c,q⟩:=pX (P:=P) (w:=w) t
   obtain⟨b1,b2⟩:=b
   exact⟨(p.1,b2)::rs,⟨jZ h.1,rfl,c⟩,.cons ⟨rfl,h.2⟩ q⟩
noncomputable def Ko(trs:List (TE×TE)):TE:=fun σ H Q=>∀p,H p=none->pW trs σ (upd H p (.dK [])) fun ps H2=>H2 p=some (.dK [])/\∃kvs:List (Key×V),ps=kvs.map (fun kv=>(kV kv.1,kv.2))/\kvs.length<=15/\Q (.ref p) (upd H2 p (.dK (jL [] kvs)))
theorem FQ{X:Cx}{pos:Pos}{keys:List (Option Expr)}{values:List Expr}{trs:List (TE×TE)}(h:PPs X pos keys values trs)(hall:keys.all (·.isSome)=true)(hl:keys.length=values.length)(h0:keys≠[])
  (h15:keys.length<=15):PE X (.Dict keys values pos) (Ko trs):=by
 intro pins s σ H Q I q
 have hn:=I.hok.fresh (Nat.le_refl s.heap.objs.size)
 have I1:=I.laid (a:=s.heap.objs.size) (o:=.dK []) (h':=s.heap.push { cls:=.type "dict",data:=.dict #[] }) (t':=s.toks) (fun _ _ q=>Heap.get?_push_of_some _ q) (Nat.le_refl _) (uU s.heap I.big)
 refine wpAny_Dict_walk (knd:=cD X.prog X.w) hall hl h0 h15 (thn (h pins _ σ _ _ I1 (q _ hn)) fun ws s2 hw'=>?_)
 obtain⟨ps,H2,I2,rel,e,kvs,ep,lk,q2⟩:=hw'
 subst ep
 obtain⟨rs,c,rk⟩:=pX (P:=X.prog) (w:=X.w) rel
 obtain⟨z,hd,vs0,r0,dd⟩:=uC I2.hok e
 cases r0
 refine⟨rs,c,dd,fun h' dd' hs=>⟨.ref s.heap.objs.size,_,?_,rfl,q2⟩⟩
 have hz:(jL [] kvs).length<=sizeLine:=by
  have h1:=mF kvs []
  rw[List.length_nil] at h1
  rw[sizeLine_eq];omega
 have he:∃q,h'.get? s.heap.objs.size=some q:=let⟨q,_,_,hq,_⟩:=dd';⟨q,hq⟩
 exact lu I2 (by rw[e];exact True.intro) hs he (uT hz hd (rk.merge .nil) dd')
structure M1(X:Cx)(o:Expr)(m:Str)(apos:Pos)(e:Expr)(cpos:Pos):Prop where
 base:attributeBase o m X.env (eval o X.env)=eval o X.env
 few:((backTo cpos (starEach [e] X.env)).all (fun x=>!x.1) && (backToKw cpos (keywordEach [] X.env)).all (fun x=>x.1.isSome)
  && decide (([e]:List Expr).length+([]:List Keyword).length+(if([]:List Keyword).isEmpty then 0 else 1)<30))=true
 line:(apos.endLine==cpos.line)=true
 trees:backTo cpos (starEach [e] X.env)=[(false,eval e X.env)]
noncomputable def IsD(H:Hp)(a:Addr):Prop:=(∃kvs,Rd H a (.dK kvs))\/∃kvs,Rd H a (.dT kvs)
theorem zW{X:Cx}{pins:List (Addr×Obj)}{σ:St}{H:Hp}{s:Shared}{a:Addr}(I:Inv X pins σ H s)(d:IsD H a) :
  s.TypeIs (.ref a) "dict" /\ (∀b,Value.ref a=.ref b->∃ob,s.heap.get? b=some ob/\ob.dict=none)/\(a==sysModules)=false:=by
 rcases d with⟨kvs,e⟩ |⟨kvs,e⟩
 ·obtain⟨_,hd,vs,_,dd⟩:=lU I.hok e
  refine⟨dd.typeIs,fun b q=>?_,hd⟩
  cases q
  obtain⟨ob,_,_,h1,h2,_⟩:=dd
  exact⟨ob,h1,h2.2.1⟩
 ·obtain⟨_,hd,xs,_,dd⟩:=lV I.hok e
  refine⟨dd.typeIs,fun b q=>?_,hd⟩
  cases q
  obtain⟨ob,_,_,h1,h2,_⟩:=dd
  exact⟨ob,h1,h2.2.1⟩
section
variable {X:Cx} {pins:List (Addr×Obj)} {σ:St} {H:Hp} {s:Shared} {a:Addr} {y d:V} {u r:Value} {o:Option V} {A:Around} {E:Value->Shared->Prop}
theorem I_{Q:Value->Shared->Prop}(hu:A.units+1<cLine)(I:Inv X pins σ H s)(g:gM H a y o)(ry:RelV y u)(h:∀w' s',Inv X pins σ H s'->RelV (o.getD .non) w'->Q w' s') :
  wpAny (model X.prog X.w) A (call (.builtin "dict.get") [.ref a,u]) Q E s:=by
 rcases g with⟨kvs,k,e,ey,l⟩ |⟨kvs,k,b,e,ey,eb,l⟩
 ·subst ey
  obtain⟨z,hd,vs,rel,dd⟩:=lU I.hok e
  refine call_meetsIn PySem.F.slot_dict_get dd.typeIs PySem.F.entry_dict_get (PySem.F.args_dict_get_2 _ _) (meets_dict_get (cD X.prog X.w) a (jZ ry) hd) ⟨_,dd.mapOf,h _ _ (I.tok _) ?_⟩
  rw[l]
  exact(rel.val k).getD rfl
 ·subst ey
  cases (show u=Value.ref b from ry)
  obtain⟨z,hd,xs,rel,dd⟩:=lV I.hok e
  refine call_meetsIn PySem.F.slot_dict_get dd.typeIs PySem.F.entry_dict_get (PySem.F.args_dict_get_2 _ _) (meetsH_dict_get (tupleKind (cD X.prog X.w)) a b hd) ⟨tupleKind_room_in1 hu,k,xs,jK I.hok eb,dd,h _ _ (I.tok _) ?_⟩
  rw[l]
  exact(rel.val k).getD rfl
end
noncomputable def Ja(td ty:TE):TE:=fun σ H Q=>td σ H fun x H1=>∃a,x=.ref a/\IsD H1 a/\ty σ H1 fun y H2=>∃o,gM H2 a y o/\Q (o.getD .non) H2
section
variable {X:Cx} {o e f:Expr} {apos cpos:Pos} {td ty tx:TE}
theorem Cv(hu:X.A.units+1<cLine)(ho:PE X o td)(he:PE X e ty)(m:M1 X o "get" apos e cpos):PE X (.Call (.Attribute o "get" apos) [e] [] cpos) (Ja td ty):=by
 intro pins s σ H Q I h
 refine wpAny_Call_method m.base m.few m.line PySem.F.plainAttrs_dict PySem.F.slot_dict_get PySem.F.type_dict_get (thn (ho pins s σ H _ I h) fun u s1 hw'=>?_)
 obtain⟨x,H1,I1,rx,a,ex,d,q1⟩:=hw'
 subst ex
 obtain rfl:u=Value.ref a:=rx
 obtain⟨t1,t2,_⟩:=zW I1 d
 refine⟨t1,t2,?_⟩
 rw[m.trees]
 refine Calls.callWith_builtin rfl (Calls.evalArgs_plain (Calls.spliced_cons (thn (he pins s1 σ H1 _ I1 q1) fun iv s2 ⟨y,H2,I2,ry,ov,g,q2⟩=>Calls.spliced_nil ?_)))
 exact I_ hu I2 g ry fun w' s3 I3 rw'=>⟨_,H2,I3,rw',q2⟩
end
end L2
namespace Att
open PySem PySem.W PySem.Calls PyProof.Rows
theorem pY{P:Params}{h:Heap}:∀(ns:List Int) (vs:List Value),WellAll P h vs (ns.map WData.int)->IntsAre vs ns:=by
 intro ns
 induction ns with
 | nil =>
  intro vs w
  rw[List.map_nil] at w
  cases w
  exact .nil
 | cons n ns ih =>
  intro vs w
  rw[List.map_cons] at w
  cases w with
  | cons a b =>
   cases a
   exact .cons _ _ (ih _ b)
theorem zX{l:OpenLaw}{n:Nat}(hn:l.most=some n){P:Params}{h:Heap}{args:List WData}{vals:List Value}
  (hpre:l.row.toRowW.claim.pre args=true) (hwl:WellAll P h vals args) :
  ∃a vs ns,vals=[Value.ref a]/\args=[WData.list (ns.map WData.int)]/\h.get? a=some { cls:=.type "list",data:=.seq vs.toArray }/\IntsAre vs ns/\ns.length<=n:=by
 have hsh:WShape.hasAll [] args [.list .int]=true:=(pre_splitW hpre).1
 have hc:l.pre.holds [] { args:=args }=true:=(pre_splitW hpre).2
 obtain⟨d,r,rfl,h1,h2⟩:=hasAllW_cons hsh
 obtain rfl:=hasAllW_nil h2
 obtain⟨xs,rfl,h3⟩:=hasW_list h1
 obtain⟨ns,rfl⟩:=items_int h3
 have hlen:ns.length<=n:=by
  unfold OpenLaw.pre at hc
  have h4:(WTm.not (.lt (.lit (.int (n:Int))) (.len (.arg 0)))).holds [] { args:=[.list (ns.map .int)] }=true:=by
   have h4:=(holds_andW hc).1
   rw[hn] at h4
   exact h4
  have h5:=condW_of h4 (w_not (w_lt w_lit (w_len_list (w_arg rfl))))
  rw[List.length_map] at h5
  refine Nat.le_of_not_lt fun q=>?_
  have q':(n:Int)<((ns.length:Nat):Int):=by omega
  first
   | (rw[decide_eq_true q'] at h5;exact absurd h5 (by decide))
   | (simp at h5;omega)
 cases hwl with
 | cons w1 w2 =>
  cases w2
  cases w1 with
  | list ho hall=>exact⟨_,_,ns,rfl,rfl,ho,pY ns _ hall,hlen⟩
theorem zY(l:OpenLaw)(args:List WData):l.row.toRowW.claim.post args (.bool true) args=true :=
 postW_of (r:=l.row.toRowW) (X:=(true==true))
  (show WShape.has [] (.bool true) .bool=true by first |rfl |decide |simp[WShape.has,WShape.arms,WShape.armsAll])
  (show(WTm.eq .res (.lit (.bool true))).value [] { args:=args,res:=some (.bool true),after:=args }=some (.bool (true==true)) from w_eq_bool (w_res rfl) w_lit) rfl
theorem wM{l:OpenLaw}{n:Nat}{q:Program}{loose:List Str}{XP:(Str->Option Value)->Heap->Prop}{YP:World->Heap->Prop}{d:DefRec}
  (hn:l.most=some n) (hdf:d.params.defaults=[])
  (call:∀(w:World) (s₀ s₁:Shared) (mg mb:Str->Option Value) (fa:Addr) (o:Obj) (pm cd doc:Value) (a:Addr) (vs:List Value) (ns:List Int),
   Ground q loose [] XP w s₀ mg mb s₁.heap->YP w s₁.heap ->
   s₁.heap.get? fa=some o->o.data=.func (docDef d.name d.params d.body d.scope pm cd doc)->s₁.heap.CodeRec cd d.name->mg d.name=some (.ref fa) ->
   s₁.heap.get? a=some { cls:=.type "list",data:=.seq vs.toArray }->IntsAre vs ns->ns.length<=n->s₁.gens = #[] ->
   codeAny (model l.prog w) callerA (.call (.ref fa) ⟨[.ref a],[]⟩) (fun r s'=>r=.ok (.ret (.bool true))/\OldK s₁.heap s'.heap/\s'.os=s₁.os/\AllBare s'.gens) s₁) :
  WalkO q loose XP YP l.row.toRowW d [] (fun f vs=>PySem.call f vs):=by
 intro w s₀ s₁ mg mb G Y fa o pm cd doc dV kV ho hd hcd hD hmg hg args vals as hpre hlay hrd hwl hlo
 obtain rfl:dV=.none:=Dflts.none hD hdf
 obtain rfl:kV=.none:=Dflts.noKw hD
 obtain⟨a,vs,ns,rfl,rfl,hobj,hints,hlen⟩:=zX hn hpre hwl
 refine enter_call (codeAny_mono (call w s₀ s₁ mg mb fa o pm cd doc a vs ns G Y ho (fd_plain hd) hcd hmg hobj hints hlen hg) fun r s' hq=>?_)
 obtain⟨rfl,h2,h3,h4⟩:=hq
 exact⟨.inl ⟨.bool true,.bool true,[],rfl,fun _=>rfl,.bool true,zY l _,fun _=>⟨List.Pairwise.nil,fun _ hm=>(nomatch hm)⟩⟩,h2,h3,h4⟩
section
variable {prog:Program} {w:World} {A:Around} {E:Value->Shared->Prop} {s:Shared} {K:Frag}
noncomputable def ledger(h:Heap)(L d:Addr):List (Addr×Obj):=(List.range h.objs.size).filterMap fun a=>if a=L\/a=d then none else(h.get? a).map fun o=>(a,o)
end
end Att
namespace L2
open PySem PySem.Spec PyProof.Rows
theorem sW:∀{vs:List Value} {ns:List Int},IntsAre vs ns->Vals (ns.map V.int) vs
 | _,_,.nil=>.nil
 | _,_,.cons n t h=>.cons ⟨t,rfl⟩ (sW h)
noncomputable def Only(H:Hp):Prop:=∀b,H b=none\/∃o xs,H b=some (.frz o (.lst xs))
theorem Cw{P:Program}{w:World}{K:PySem.W.Frag}{mg mb:Str->Option Value}{CX:CXT}{k:Nat}{fa a:Addr}{fd:FuncData}{x:Str}{sp:Sp}{s₁:Shared}{vs:List Value}{ns:List Int}
  (KX:K.In s₁.heap) (hns:s₁.heap.Ns mainGlobals mg) (hb:s₁.heap.Ns builtinsNs mb) (hbb:∀x:Str,x ≠ "__name__" -> mb x=bootBuiltins x) (hlim:s₁.heap.NoLimit) (hg:s₁.gens = #[])
  (ha:s₁.heap.get? a=some { cls:=.type "list",data:=.seq vs.toArray }) (hi:IntsAre vs ns) (hl:ns.length<=sizeLine) (hr:Room k callerA)
  (F:∀base:Heap,K.In base->base.Ns mainGlobals mg->FnOk P w K mg base CX k fa fd [x] sp) (hbind:∀(s:Shared) (u:Value),BindsTo s fd ⟨[u],[]⟩ [(x,u)])
  (hsp:∀H:Hp,Only H->SqL K H a (ns.map V.int)->sp [.ref a] H (fun v _=>v=.bl true) fun _ _ _=>False)
  (hCX:∀H e s',CX [] H s₁ (fun _ _ _=>False) e s'->False) :
  codeAny (model P w) callerA (.call (.ref fa) ⟨[.ref a],[]⟩) (fun r s'=>r=.ok (.ret (.bool true))/\OldK s₁.heap s'.heap/\s'.os=s₁.os/\AllBare s'.gens) s₁:=by
 have rv:=sW hi
 have lenV:=hi.length
 have core:∀H:Hp,Only H->SqL K H a (ns.map V.int)->HOk P w H s₁.heap->(∀b,H b≠none->b=a)->(H a≠none->K.lookup a=none) ->
   codeAny (model P w) callerA (.call (.ref fa) ⟨[.ref a],[]⟩) (fun r s'=>r=.ok (.ret (.bool true))/\OldK s₁.heap s'.heap/\s'.os=s₁.os/\AllBare s'.gens) s₁:=by
  intro H hO hS hok hA hK
  have base_of:∀{b:Addr} {o:Obj},s₁.heap.get? b=some o->H b=none->(lN s₁.heap H).get? b=some o:=fun e n=>Bx e n
  have noA:∀{b:Addr} {o:Obj} {es:Array DictEntry} {ep:Nat},s₁.heap.get? b=some o->o.data=.dict es ep->H b=none:=fun {b o es ep} e d=>by
   cases q:H b with
   | none=>rfl
   | some u =>
    have e':b=a:=hA b (by rw[q];simp)
    subst e'
    rw[ha] at e;cases e
    have d':Data.seq vs.toArray _=Data.dict es ep:=d
    cases d'
  have nsK:∀{b:Addr} {m:Str->Option Value},s₁.heap.Ns b m->(lN s₁.heap H).Ns b m:=fun {b m} ⟨o,es,ep,e,d,r⟩=>⟨o,es,ep,base_of e (noA e d),d,r⟩
  have hKb:K.In (lN s₁.heap H):=fun b o e=>base_of (KX b o e) (by
   cases q:H b with
   | none=>rfl
   | some u =>
    have e':b=a:=hA b (by rw[q];simp)
    subst e'
    rw[hK (by rw[q];simp)] at e;cases e)
  have hM:Mod K mg (lN s₁.heap H):=⟨hKb,nsK hns,⟨mb,nsK hb,hbb⟩,let⟨mc,h1,h2⟩:=hlim;⟨mc,nsK h1,h2⟩⟩
  have e0:Env0 P w K mg (lN s₁.heap H) callerA [] s₁ H:=⟨rfl,hM,fun b o e=>Ex e,Nat.le_of_eq (zu _ _),trivial,fun b hb=>absurd (show b∈([]:List Addr) from hb) (by simp),hok,.of_eq hg⟩
  refine codeAny_mono ((F _ hKb (nsK hns)).run callerA [] s₁ H ⟨[.ref a],[]⟩ [.ref a] [.ref a] _ _ hr e0 (hbind s₁ (.ref a)) (.cons rfl .nil) (hsp H hO hS)) fun r s' h=>?_
  cases r with
  | error e=>exact(hCX H e s' h).elim
  | ok fl =>
   cases fl with
   | next=>exact False.elim h
   | brk=>exact False.elim h
   | cont=>exact False.elim h
   | ret u =>
    obtain⟨v,H',os,bare,un,hok',r',q⟩:=h
    have q':v=.bl true:=q
    subst q'
    obtain rfl:u=Value.bool true:=r'
    refine⟨rfl,OldK.of_keep fun b o e=>?_,os,bare⟩
    cases q:H b with
    | none=>exact un.keep b o e q (by intro z;exact absurd (show b∈([]:List Addr) from z) (by simp)) (by simp)
    | some u =>
     rcases hO b with z |⟨ob,xs,z⟩
     ·rw[q] at z;cases z
     ·have z2:=un.frzs b ob _ z
      obtain⟨e1,_⟩:=hok b _ z
      obtain⟨e2,_⟩:=hok' b _ z2
      rw[e] at e1;cases e1
      exact e2
 cases hk:K.lookup a with
 | some o =>
  have e:=KX a o hk
  rw[ha] at e
  cases e
  refine core (fun _=>none) (fun _=>.inl rfl) (.inr ⟨_,vs.toArray,_,hk,rfl,rfl,rfl,by rw[List.size_toArray,lenV];exact hl,by simpa using rv⟩) (fun b u z=>by have z':(none:Option HO)=some u:=z;cases z') (fun b z=>absurd rfl z) fun z=>absurd rfl z
 | none =>
  refine core (fun b=>if b=a then some (.frz { cls:=.type "list",data:=.seq vs.toArray } (.lst (ns.map V.int))) else none) (fun b=>?_) (.inl (.inr ⟨{ cls:=.type "list",data:=.seq vs.toArray },if_pos rfl⟩)) (fun b u z=>?_) (fun b z=>?_) fun _=>hk
  ·by_cases hb:b=a
   ·exact .inr ⟨_,_,if_pos hb⟩
   ·exact .inl (if_neg hb)
  ·by_cases hb:b=a
   ·have z':=(if_pos hb).symm.trans z
    cases z'
    subst hb
    exact⟨ha,by rw[List.length_map];exact hl,vs,_,rv,ha⟩
   ·have z':=(if_neg hb).symm.trans z
    cases z'
  ·by_cases hb:b=a
   ·exact hb
   ·exact absurd (if_neg hb) z
end L2
namespace L2
open PySem PySem.Spec PyProof.Rows
noncomputable abbrev KOf{K:PySem.W.Frag}{h:Heap}(_:K.In h):PySem.W.Frag:=K
theorem xj{l:PySem.W.OpenLaw}{n k:Nat}{q:Program}{loose:List Str}{XP:(Str->Option Value)->Heap->Prop}{YP:World->Heap->Prop}{d:DefRec}{K:Params->PySem.W.Frag}{CX:World->CXT}{sp:World->Sp}{x:Str}
  (hn:l.most=some n) (hn2:n<=sizeLine) (hdf:d.params.defaults=[]) (hr:Room k callerA)
  (hY:∀(w:World) (h:Heap),YP w h->(K w.params).In h)
  (F:∀(w:World) (mg:Str->Option Value) (fa:Addr) (h:Heap),(K w.params).In h->h.Ns mainGlobals mg->mg d.name=some (.ref fa) ->
   ∃fd:FuncData,(∀(s:Shared) (u:Value),BindsTo s fd ⟨[u],[]⟩ [(x,u)]) /\
    ∀base:Heap,(K w.params).In base->base.Ns mainGlobals mg->FnOk l.prog w (K w.params) mg base (CX w) k fa fd [x] (sp w))
  (hsp:∀(w:World) (H:Hp) (a:Addr) (ns:List Int),ns.length<=n->Only H->SqL (K w.params) H a (ns.map V.int)->sp w [.ref a] H (fun v _=>v=.bl true) fun _ _ _=>False)
  (hCX:∀(w:World) (H:Hp) (s:Shared) (e:Value) (s':Shared),CX w [] H s (fun _ _ _=>False) e s'->False) :
  PySem.W.WalkO q loose XP YP l.row.toRowW d [] (fun f vs=>PySem.call f vs):=by
 refine Att.wM hn hdf fun w s₀ s₁ mg mb fa o pm cd doc a vs ns G Y ho hd hcd hmg hobj hints hlen hg=>?_
 have KX:=hY w _ Y
 obtain⟨fd,hb,hF⟩:=F w mg fa _ KX G.T.g hmg
 exact Cw KX G.T.g G.T.b G.T.builtins G.T.nolimit hg hobj hints (Nat.le_trans hlen hn2) hr hF hb (fun H hO hS=>hsp w H a ns hlen hO hS) fun H e s'=>hCX w H s₁ e s'
end L2
/- THE LAST THEOREM (shape;LID,My.* are yours):
  My.Adr: a structure of the addresses that your layer names (classes,functions);My.Txt K t: a structure (Prop) of the equations over K;
  My.txt_mk:{K} {implicit addresses ..} (e1:nsIn K mainGlobals "law" = some (some (.ref f))) (e2:K.lookup f=some ⟨oc,od,.func (fnOf "law" "law" params body scope dV kV doc pm an cdv ct),sl⟩) (e3:codeIn K cdv "law" = true) ..:∃t,My.Txt K t
set_option maxRecDepth 100000 in
set_option maxHeartbeats 0 in
theorem PySem.Challenge.cw_LID_holds : PySem.Challenge.rw_LID.Holds := by
 w_on;o_law;k_head;(case hw=>w_witness2)
 k_fill
 refine L2.xj (l:=PySem.Challenge.rw_LID) (n:=63) (k:=40) (x:="script") (CX:=fun w=>..) (sp:=fun _=>My.sp_law) rfl (by decide) rfl ⟨rfl,by decide,by decide⟩ (fun w h Y=>PySem.W.kIn_of Y) ?F ?S ?C
 case F =>
  intro w mg fa h KX G hmg
  have T:∃t,My.Txt (L2.KOf KX) t:=by
   dsimp only[L2.KOf]                          -- K must stand as «<heap const> w.params» for k_is
   refine' My.txt_mk ?e1 ?e2 ?e3 ..
   (case e1=>PySem.W.k_is)                    -- in the order: a name->its address->its object->its parts
   (case e2=>PySem.W.k_is)
   ..
  obtain⟨t,T⟩:=T
  have e0:=hmg.symm.trans (PySem.W.mg_of KX G T.law)
  cases e0                                       -- fa is the law's own address
  exact⟨_,fun s u=>.of_eq rfl,fun base kb nb=>My.wI T kb nb⟩     -- if «.of_eq rfl» comes too early: refine' ⟨_,?b,fun base kb nb=>My.wI T kb nb⟩;exact fun s u=>.of_eq rfl
 case S=>exact fun w H a ns hl hO hS=>..
 case C=>exact ..
(the tactic k_is has no namespace: write k_is) -/
namespace L2
open PySem PySem.Spec PyProof.Rows
noncomputable def inClass(s:Stmt)(j:Nat):Stmt:=match s with
 | .ClassDef _ _ _ body _ _ _ _ _ _ _=>body.getD j (.Pass ⟨0,0,0,0⟩)
 | _=>.Pass ⟨0,0,0,0⟩
noncomputable def aW(s:Stmt):Arguments:=match s with
 | .FunctionDef _ a _ _ _ _ _ _ _ _=>a
 | _=>{ posonlyargs:=[],args:=[],vararg:=none,kwonlyargs:=[],kw_defaults:=[],kwarg:=none,defaults:=[] }
noncomputable def aQ(s:Stmt):List Stmt:=match s with
 | .FunctionDef _ _ b _ _ _ _ _ _ _=>b
 | _=>[]
noncomputable def az(s:Stmt):Scope:=match s with
 | .FunctionDef _ _ _ _ _ _ sc _ _ _=>sc
 | _=>{ kind:=.function,names:=[],isGenerator:=false,isCoroutine:=false }
noncomputable abbrev CX0:CXT:=fun _ _ _ _ _ _=>False
noncomputable abbrev E0:XK:=fun _ _ _=>False
theorem yH{X:Cx}:Passes CX0 X E0:=fun _ _ _ _ _ _ _ h=>h.elim
structure Fun(K:PySem.W.Frag)(x qual:Str)(st:Stmt)(f:Addr)(fd:FuncData):Prop where
 ex:∃(oc:Value) (od:Option Addr) (kV doc pm:Value) (an:Option Addr) (cdv ct:Value) (osl:Array (Option Value)),
  fd=PySem.W.fnOf x qual (aW st) (aQ st) (az st) .none kV doc pm an cdv ct/\K.lookup f=some ⟨oc,od,.func fd,osl⟩/\PySem.W.codeIn K cdv qual=true
 kp:PySem.W.keepIn K (.ref f)=true
section
variable {P:Program} {w:World} {K:PySem.W.Frag} {mg:Str->Option Value} {base:Heap}
theorem Fun.ok{x qual:Str}{st:Stmt}{f:Addr}{fd:FuncData}{N ps:List Str}{k:Nat}{sp:Sp}(F:Fun K x qual st f fd)(S:FnScope N ps (az st))(len:∀vs H Q E,sp vs H Q E->vs.length=ps.length)
  (hbody:∀(cdv:Value) (A:Around) (outer:List Env) (s:Shared) (H:Hp) (vs:List V) (Q:VK) (E:XK),Room k (A.deeper (envOfC qual (az st) s.heap.objs.size f cdv))->sp vs H Q E ->
   ∃t,PSs (cH CX0 P w K mg base N qual (az st) f cdv A outer s H E).nox (aQ st) t/\t { nx:=fun _ H'=>Q .non H',rt:=Q } (start N vs) H):FnOk P w K mg base CX0 (k+1) f fd ps sp:=by
 obtain⟨oc,od,kV,doc,pm,an,cdv,ct,osl,rfl,lk,hcd⟩:=F.ex
 refine Ej lk hcd S len fun A outer s H vs Q E hr hsp=>?_
 obtain⟨t,h,q⟩:=hbody cdv A outer s H vs Q E hr hsp
 exact⟨t,h.nox,q⟩
theorem Fun.binds{x qual:Str}{st:Stmt}{f:Addr}{fd:FuncData}{ps:List Str}(F:Fun K x qual st f fd)
  (h:∀(kV doc pm:Value) (an:Option Addr) (cdv ct:Value) (us:List Value),us.length=ps.length->bindArgs (PySem.W.fnOf x qual (aW st) (aQ st) (az st) .none kV doc pm an cdv ct) ⟨us,[]⟩=pure (ps.zip us)):Binds K fd ps []:=by
 obtain⟨oc,od,kV,doc,pm,an,cdv,ct,osl,rfl,lk,hcd⟩:=F.ex
 exact .all (h kV doc pm an cdv ct)
theorem dh{x qual:Str}{st:Stmt}{f:Addr}{oc:Value}{od an:Option Addr}{osl:Array (Option Value)}{kV doc pm cdv ct:Value}(l:K.lookup f=some ⟨oc,od,.func (PySem.W.fnOf x qual (aW st) (aQ st) (az st) .none kV doc pm an cdv ct),osl⟩)
  (c:PySem.W.codeIn K cdv qual=true) (k:PySem.W.keepIn K (.ref f)=true):Fun K x qual st f (PySem.W.fnOf x qual (aW st) (aQ st) (az st) .none kV doc pm an cdv ct):=⟨⟨oc,od,kV,doc,pm,an,cdv,ct,osl,rfl,l,c⟩,k⟩
end
theorem aU{A:Around}{k:Nat}(hr:Room k A):A.units+1<cLine:=Nat.lt_of_le_of_lt (Nat.add_le_add_left (by decide:1<=64) _) hr.units
section
variable {X:Cx}
theorem pv(i:Nat){x:Str}{pos:Pos}(hN:X.N[i]? = some x:=by rfl)(hv:Vis X.env.scope x:=by first |exact Or.inl rfl |exact Or.inr (Or.inl rfl) |exact Or.inr (Or.inr rfl))(hd:(x==("__debug__":Str))=false:=by decide)
  (hcd:(x==("__classdict__":Str))=false:=by decide):PE X (.Name x pos) (rm i):=Ht hN hv hd hcd
end
theorem Cy{A B:Prop}(h:B):if false=true then A else B:=by
 rw[if_neg Bool.false_ne_true]
 exact h
theorem Cz{A B:Prop}(h:A):if true=true then A else B:=by
 rw[if_pos rfl]
 exact h
noncomputable def bB(H H':Hp):Prop:=∀b o,H b=some o->H' b=some o
theorem bB.refl(H:Hp):bB H H:=fun _ _ h=>h
theorem bB.trans{H H1 H2:Hp}(a:bB H H1)(b:bB H1 H2):bB H H2:=fun c o h=>b c o (a c o h)
theorem bB.seq{K:PySem.W.Frag}{H H':Hp}{a:Addr}{xs:List V}(e:bB H H')(h:SqL K H a xs):SqL K H' a xs:=by
 rcases h with (h |⟨o,h⟩) |h
 ·exact .inl (.inl (e _ _ h))
 ·exact .inl (.inr ⟨o,e _ _ h⟩)
 ·exact .inr h
end L2
namespace L2
open PySem PySem.Spec PyProof.Rows
noncomputable def clos(cells:List (Str×Addr)):List (Str×NameKind)->List (Str×Addr)->List (Str×Addr)
 | [],acc=>acc
 | (n,k)::r,acc=>clos cells r (if k == .free then(n,(cells.lookup n).getD 0)::acc else acc)
theorem uV{env:Env}:∀(names:List (Str×NameKind)) (acc:List (Str×Addr)),(∀y∈names,y.2=.free->∃c,env.cells.lookup y.1=some c) ->
  (forIn names acc (fun(x:Str×NameKind) (r:List (Str×Addr))=>if(x.2==NameKind.free)=true then(do let a <-cellOf env x.1;pure (ForInStep.yield ((x.1,a)::r))) else pure (ForInStep.yield r)):Sem (List (Str×Addr)))=pure (clos env.cells names acc)
 | [],acc,_=>rfl
 | (n,k)::r,acc,h=>by
  rw[List.forIn_cons]
  have ih:=fun a=>uV r a fun y hy=>h y (List.mem_cons_of_mem _ hy)
  cases hk:(k==NameKind.free) with
  | true =>
   have hk':k=.free:=by cases k<;>first |rfl |exact absurd hk (by decide)
   obtain⟨c,hc⟩:=h (n,k) List.mem_cons_self hk'
   have hc':env.cells.lookup n=some c:=hc
   have e:cellOf env n=pure c:=by unfold cellOf;rw[hc']
   dsimp only
   rw[if_pos rfl,e]
   show(forIn r ((n,c)::acc) _:Sem _)=_
   rw[ih]
   conv=>rhs;unfold clos
   rw[if_pos hk,hc']
   rfl
  | false =>
   dsimp only
   rw[if_neg (by decide)]
   show(forIn r acc _:Sem _)=_
   rw[ih]
   conv=>rhs;unfold clos
   rw[if_neg (by rw[hk];decide)]
theorem yI{scope:Scope}{env:Env}(h:∀y∈scope.names,y.2=.free->∃c,env.cells.lookup y.1=some c):closureFor scope env=pure (clos env.cells scope.names []):=by
 have e:=uV scope.names [] h
 simp only[closureFor]
 rw[e]
 rfl
theorem xm{cells:List (Str×Addr)}:∀{names:List (Str×NameKind)} {acc:List (Str×Addr)} {x:Str} {c:Addr},(∀y∈names,y.2=.free->∃c,cells.lookup y.1=some c)->(∀x c,acc.lookup x=some c->cells.lookup x=some c) ->
  (clos cells names acc).lookup x=some c->cells.lookup x=some c
 | [],acc,x,c,_,ha,h=>ha x c h
 | (n,k)::r,acc,x,c,hn,ha,h=>by
  unfold clos at h
  refine xm (fun y hy=>hn y (List.mem_cons_of_mem _ hy)) (fun y d hy=>?_) h
  split at hy
  ·rename_i hk
   have hk':k=.free:=by cases k<;>first |rfl |exact absurd hk (by decide)
   obtain⟨c',hc⟩:=hn (n,k) List.mem_cons_self hk'
   have hc':cells.lookup n=some c':=hc
   rw[List.lookup_cons] at hy
   cases e:(y==n) with
   | true =>
    rw[e] at hy
    have ey:y=n:=by simpa using e
    subst ey
    rw[hc'] at hy ⊢
    exact hy
   | false =>
    rw[e] at hy
    exact ha y d hy
  ·exact ha y d hy
theorem uW{cells:List (Str×Addr)}:∀{names:List (Str×NameKind)} {acc:List (Str×Addr)} {x:Str},(∃c,acc.lookup x=some c)->∃c,(clos cells names acc).lookup x=some c
 | [],_,_,h=>h
 | (n,k)::r,acc,x,h=>by
  unfold clos
  refine uW ?_
  split
  ·rw[List.lookup_cons]
   cases (x==n) with
   | true=>exact⟨_,rfl⟩
   | false=>exact h
  ·exact h
theorem pC{cells:List (Str×Addr)}:∀{names:List (Str×NameKind)} {acc:List (Str×Addr)} {x:Str},(x,NameKind.free)∈names->∃c,(clos cells names acc).lookup x=some c
 | [],_,_,h=>by cases h
 | (n,k)::r,acc,x,h=>by
  unfold clos
  rcases List.mem_cons.mp h with e |e
  ·cases e
   refine uW ?_
   rw[if_pos (by decide),List.lookup_cons]
   simp
  ·exact pC e
noncomputable def cz(X:Cx)(N:List Str)(scope:Scope)(cl:List (Str×Addr))(C:Addr)(fp:List Addr)(s:Shared)(H:Hp):Cx :=
 { X with N:=N,s₀:=s,H₀:=H,env:=compEnvC scope cl C X.env,outer:=X.stack,stack:=X.stack,ex:=fp,fn:=fun _=>false,pn:=[],xe:=fun _ _=>False }
noncomputable def inner(μ:List (Option Nat))(σ:St):St:=μ.map fun o=>o.bind fun j=>(σ[j]?).join
noncomputable def kW(oN:List Str)(osc:Scope)(N:List Str)(isc:Scope)(μ:List (Option Nat)):Bool :=
 decide (μ.length=N.length) && (μ.zip N).all fun(o,x)=>match o with
  | none=>true
  | some j=>decide (oN[j]? = some x) && decide (osc.names.lookup x=some .cell) && (decide (isc.names.lookup x=some .cell) || decide (isc.names.lookup x=some .free))
theorem kW.get{oN N:List Str}{osc isc:Scope}{μ:List (Option Nat)}(h:kW oN osc N isc μ=true){i j:Nat}{x:Str}(h1:μ[i]? = some (some j))(h2:N[i]? = some x) :
  oN[j]? = some x/\osc.names.lookup x=some .cell/\(isc.names.lookup x=some .cell\/isc.names.lookup x=some .free):=by
 unfold kW at h
 rw[Bool.and_eq_true] at h
 have hz:(μ.zip N)[i]? = some (some j,x):=by rw[List.getElem?_zip_eq_some];exact⟨h1,h2⟩
 have q:=List.all_eq_true.mp h.2 _ (List.mem_of_getElem? hz)
 simp only[Bool.and_eq_true,Bool.or_eq_true,decide_eq_true_eq] at q
 exact⟨q.1.1,q.1.2,q.2⟩
section
variable {prog:Program} {w:World} {A:Around} {R:Result->Shared->Prop} {s:Shared}
theorem wN{elt target iter:Expr}{ifs:List Expr}{scope:Scope}{pos:Pos}{it acc:Value}{env:Env}(I:Nat->Shared->Prop)
  (turn:∀n s,I n s->wpAny (model prog w) A (pyNext it) (fun r s₁=>match r with
   | none=>R (.ok .next) s₁
   | some v=>wpAny (model prog w) A (letOwnedTupleGo target it v) (fun _ s₂=>wpAny (model prog w) A (assign target env v) (fun _ s₂ =>
     wpAny (model prog w) A (forIn ifs true fun c r=>if r=true then do let ok <-isTrue c env (eval c env);pure (ForInStep.yield ok) else pure (ForInStep.yield r)) (fun ok s₃ =>
      if ok=true then wpAny (model prog w) A (eval elt env) (fun x s₄ =>
       wpAny (model prog w) A (call (.builtin "list.append") [acc,x]) (fun _ s₅=>∃m,m<n/\I m s₅) (fun _ _=>False) s₄) (fun _ _=>False) s₃
      else ∃m,m<n/\I m s₃) (fun _ _=>False) s₂) (fun _ _=>False) s₂) (fun _ _=>False) s₁) (fun _ _=>False) s)
  (n:Nat) (h:I n s) :
  codeAny (model prog w) A (.compLoop (.ListComp elt [⟨target,iter,ifs,0⟩] scope pos) 0 it acc env) R s:=by
 refine codeAny_loop rfl I (fun n s hI=>?_) n h
 show wpAny _ A ((compTurn (.ListComp elt [⟨target,iter,ifs,0⟩] scope pos) 0 it acc env).onRaise (fun x=>do noteFrame x env;theTreesLotGoes x)) _ _ s
 refine wpAny_noted ?_
 rw[compTurn_list]
 refine wpAny_bind (wpAny_standAt (wpAny_bind (wpAny_mono (turn n s hI) (fun r s₁ h₁=>?_) fun _ _ h'=>h'.elim)))
 cases r with
 | none=>exact wpAny_pure h₁
 | some v =>
  refine wpAny_bind (wpAny_mono h₁ (fun _ s₂ h₂=>wpAny_bind (wpAny_mono h₂ (fun _ s₃ h₃=>wpAny_bind (wpAny_mono h₃ (fun ok s₄ h₄=>?_) fun _ _ h'=>h'.elim)) fun _ _ h'=>h'.elim)) fun _ _ h'=>h'.elim)
  cases ok with
  | false=>exact wpAny_pure ⟨rfl,h₄⟩
  | true =>
   exact wpAny_bind (wpAny_bind (wpAny_mono h₄ (fun x s₅ h₅=>wpAny_bind (wpAny_mono h₅ (fun _ s₆ h₆=>wpAny_pure (wpAny_pure ⟨rfl,h₆⟩)) fun _ _ h'=>h'.elim)) fun _ _ h'=>h'.elim))
end
noncomputable def PTs(X:Cx)(ifs:List Expr)(t:TT):Prop :=
 ∀(pins:List (Addr×Obj)) (s:Shared) (σ:St) (H:Hp) (Q:Bool->Hp->Prop),Inv X pins σ H s->t σ H Q ->
  wpAny (model X.prog X.w) X.A (forIn ifs true fun c r=>if r=true then do let ok <-isTrue c X.env (eval c X.env);pure (ForInStep.yield ok) else pure (ForInStep.yield r)) (TP X pins σ Q) X.xe s
theorem FT{X:Cx}:PTs X [] (fun _ H Q=>Q true H):=fun pins s σ H Q I h=>wpAny_tests_nil ⟨H,I,h⟩
theorem FW{X:Cx}{c:Expr}{t:TT}(h:PT X c t):PTs X [c] t:=fun pins s σ H Q I hw=>wpAny_tests_one (h pins s σ H Q I hw)
noncomputable def yJ(μ:List (Option Nat))(g:TG)(tt:TT)(te:TE)(σ:St)(Q:VK)(J:It)(H1:Hp):Prop :=
 ∀p,H1 p=none->∃W:Nat->Nat->St->Hp->Prop,(∃m,W 0 m (inner μ σ) (upd H1 p (.lst [])))/\∀i m σ' H',W i m σ' H' ->
  (J.stop i H'/\Q (.ref p) H')\/(J.go i H'/\∃Nn:St->Hp->Prop,(∀σ2 H2,Nn σ2 H2->∃m',m'<m/\W (i+1) m' σ2 H2) /\
   ∀x H2,J.yld i H' x H2->g x σ' H2 fun σ3 H3=>tt σ3 H3 fun b H4=>if b=true then te σ3 H4 fun y H5=>∃ys,H5 p=some (.lst ys)/\ys.length<sizeLine/\Nn σ3 (upd H5 p (.lst (ys++[y]))) else Nn σ3 H4)
noncomputable def yK(μ:List (Option Nat))(wi:TI)(g:TG)(tt:TT)(te:TE):TE:=fun σ H Q=>wi σ H (yJ μ g tt te σ Q)
section
variable {X:Cx} {pins:List (Addr×Obj)} {σ:St} {H2:Hp} {s2:Shared} {tg iter elt:Expr} {ifs:List Expr} {scope:Scope} {pos:Pos} {it:Addr} {fp:List Addr} {tn:Nat->Heap->Prop} {J:It} {N:List Str} {μ:List (Option Nat)} {g:TG} {tt:TT} {te:TE} {Q:VK}
theorem zZ{RR:Value->Addr->Result->Shared->Prop}(I2:Inv X pins σ H2 s2)(T:Turn X.prog X.w X.K tg J fp it tn)(st2:tn 0 s2.heap)(f2:∀b∈fp,dJ X pins H2 b)(hc:X.calm=true)
  (hcell:∀y∈scope.names,y.2 ≠ .cell) (hkind:scope.kind=.function) (hfr:∀y∈scope.names,y.2=.free->∃c,X.env.cells.lookup y.1=some c)
  (hhas:∀x,((relabel scope X.env).names.lookup x=some .cell\/(relabel scope X.env).names.lookup x=some .free)->(x,NameKind.free)∈scope.names)
  (hμ:kW X.N X.env.scope N (relabel scope X.env) μ=true)
  (hg:∀C s H,PG (cz X N scope (clos X.env.cells scope.names []) C fp s H) tg g) (ht:∀C s H,PTs (cz X N scope (clos X.env.cells scope.names []) C fp s H) ifs tt) (he:∀C s H,PE (cz X N scope (clos X.env.cells scope.names []) C fp s H) elt te)
  (hW:yJ μ g tt te σ Q J H2)
  (hRR:∀p C s' H' m,Inv X pins σ H' s'->s'.heap.Ns C m->dJ X pins H' C->Q (.ref p) H'->RR (.ref p) C (.ok .next) s') :
  wpAny (model X.prog X.w) X.A (newList []) (fun acc s₃=>wpAny (model X.prog X.w) X.A (newFunctionEnv scope X.env.globals (clos X.env.cells scope.names []) [] X.env.qual none .none (some X.env)) (fun cenv s₄ =>
   codeAny (model X.prog X.w) X.A (.compStart (.ListComp elt [⟨tg,iter,ifs,0⟩] scope pos) 0 (.ref it) acc { cenv with scope:=relabel scope X.env }) (RR acc cenv.locals) s₄) X.xe s₃) X.xe s2:=by
 refine wpAny_newObj_type (wpAny_newFunctionEnv hcell (by intro y hy;simp at hy) (fun h₁ hns₁ hsb₁=>?_) hkind)
 dsimp only at hns₁ hsb₁ ⊢
 generalize hH2:s2.heap.push { cls:=.type "list",dict:=none,data:=.seq ([]:List Value).toArray }=G at hns₁ hsb₁ ⊢
 have hC:G.objs.size=s2.heap.objs.size+1:=by rw[<-hH2,Heap.size_push]
 have hDC:s2.heap.objs.size≠G.objs.size:=by rw[hC];exact Nat.ne_of_lt (Nat.lt_succ_self _)
 have hCle:s2.heap.objs.size<=G.objs.size:=by rw[hC];exact Nat.le_succ _
 have below:∀b,b<s2.heap.objs.size->b≠G.objs.size/\b≠s2.heap.objs.size:=fun b hb=>⟨by rw[hC];exact Nat.ne_of_lt (Nat.lt_succ_of_lt hb),Nat.ne_of_lt hb⟩
 have old:∀b o,s2.heap.get? b=some o->h₁.get? b=some o:=fun b o e=>hsb₁.extBut b o (below b (Heap.lt_size e)).1 (Heap.get?_push_of_some _ (hH2 ▸ Heap.get?_push_of_some _ e))
 have hobj:h₁.get? s2.heap.objs.size=some { cls:=.type "list",dict:=none,data:=.seq ([]:List Value).toArray }:=hsb₁.extBut _ _ hDC (Heap.get?_push_of_some _ (hH2 ▸ Heap.get?_push_size _ rfl))
 have hclin:∀x c,(clos X.env.cells scope.names []).lookup x=some c->X.env.cells.lookup x=some c:=fun x c h=>xm hfr (fun _ _ z=>by simp at z) h
 have cellt:∀x c,(clos X.env.cells scope.names []).lookup x=some c->c<s2.heap.objs.size:=fun x c h=>by
  obtain⟨v,o,ho,_⟩:=I2.cell x c (hclin x c h)
  exact Heap.lt_size ho
 have fplt:∀b∈fp,b<s2.heap.objs.size:=fun b hb=>by
  obtain⟨o,ho,_⟩:=T.obj 0 _ st2 b hb
  exact Heap.lt_size ho
 have Hn:∀a,s2.heap.objs.size<=a->H2 a=none:=fun a ha=>I2.hok.fresh ha
 obtain⟨W,⟨m0,w0⟩,turn⟩:=hW s2.heap.objs.size (Hn _ (Nat.le_refl _))
 have okc:(cz X N scope (clos X.env.cells scope.names []) G.objs.size fp s2 H2).Ok:=by
  refine⟨I2.ok.mod,by show(relabel scope X.env).kind=_;exact hkind,I2.ok.glob,I2.ok.blt,hCle,fun x y c h1 h2=>?_,fun x hx=>?_,fun _ _ z=>(by cases z),I2.ok.hd,I2.ok.frames,.inl rfl,fun b hb=>⟨?_,fun x c h z=>?_⟩,I2.bs,Nat.le_trans I2.ok.bsz I2.sz,fun b o e hb=>?_,fun b hb z=>?_,I2.stack,I2.stkFree⟩
  ·exact I2.ok.inj x y c (hclin x c h1) (hclin y c h2)
  ·exact pC (hhas x hx)
  ·exact(below b (fplt b hb)).1
  ·exact(f2 b hb).2.2.2.2.1 x c (hclin x c h) z
  ·rcases (f2 b hb).2.2.2.1 with z |z
   ·exact I2.ok.noex b o e z
   ·exact absurd (Nat.lt_of_lt_of_le (Heap.lt_size e) (Nat.le_trans I2.ok.bsz z)) (Nat.lt_irrefl _)
  ·rcases List.mem_cons.mp (I2.stkSub b z) with e |e
   ·exact(f2 b hb).2.1 e
   ·exact(f2 b hb).2.2.1 e
 have Hfree:∀b,b≠s2.heap.objs.size->H2 b=none->(upd H2 s2.heap.objs.size (.lst [])) b=none:=fun b h1 h2=>by rw[aB h1];exact h2
 have I3:Inv (cz X N scope (clos X.env.cells scope.names []) G.objs.size fp s2 H2) [] (inner μ σ) (upd H2 s2.heap.objs.size (.lst [])) { s2 with heap:=h₁,toks:=s2.toks+([]:List (Str×Value)).length }:=by
  refine⟨okc,rfl,I2.bare,Un.laid old (Nat.le_refl _) (Hn _ (Nat.le_refl _)),⟨_,hns₁,fun i x v e1 e2 e3=>?_⟩,fun x c h=>?_,Hfree _ hDC.symm (Hn _ hCle),fun x c h=>(I2.freeC x c (hclin x c h)).elim (fun z=>.inl (Hfree _ (below c (cellt x c h)).2 z)) (fun⟨_,o1,b1,z⟩=>.inr ⟨rfl,o1,b1,by rw[aB (below c (cellt x c h)).2];exact z⟩),fun p hp=>absurd (show p∈([]:List (Addr×Obj)) from hp) (by simp),I2.hok.laid old (Nat.le_refl _) ⟨by decide,[],0,.nil,hobj⟩,?_⟩
  ·have e1':N[i]? = some x:=e1
   have e2':(μ.map fun o=>o.bind fun j=>(σ[j]?).join)[i]? = some (some v):=e2
   rw[List.getElem?_map] at e2'
   cases q:μ[i]? with
   | none=>rw[q] at e2';cases e2'
   | some o =>
    rw[q] at e2'
    cases o with
    | none=>cases e2'
    | some j =>
     have e4:(σ[j]?).join=some v:=Option.some.inj e2'
     have e5:σ[j]? = some (some v):=by
      cases z:σ[j]? with
      | none=>rw[z] at e4;cases e4
      | some y=>rw[z] at e4;cases y with
       | none=>cases e4
       | some y=>rw[show y=v from Option.some.inj e4]
     obtain⟨a1,a2,a3⟩:=kW.get hμ q e1'
     obtain⟨m,hn,hl⟩:=I2.loc
     obtain⟨u,r,l⟩:=hl j x v a1 e5 (.inr (.inl a2))
     refine⟨u,r,?_⟩
     rcases l with⟨k,_⟩ |⟨_,c,hcc,hce⟩
     ·exact absurd ((show X.env.scope.names.lookup x=some .local from k).symm.trans a2) (by intro z;cases z)
     ·obtain⟨c',hc'⟩:∃c,(clos X.env.cells scope.names []).lookup x=some c:=pC (hhas x a3)
      have ec:c'=c:=Option.some.inj ((hclin x c' hc').symm.trans hcc)
      subst ec
      exact .inr ⟨a3,c',hc',hce.keeps old⟩
  ·obtain⟨v,z⟩:=I2.cell x c (hclin x c h)
   exact⟨v,z.keeps old⟩
  ·show(μ.map _).length=N.length
   rw[List.length_map]
   have q:=hμ
   unfold kW at q
   rw[Bool.and_eq_true] at q
   exact of_decide_eq_true q.1
 have fin:∀{σ':St} {H':Hp} {s':Shared},Inv (cz X N scope (clos X.env.cells scope.names []) G.objs.size fp s2 H2) [] σ' H' s'->Q (.ref s2.heap.objs.size) H'->RR (.ref s2.heap.objs.size) G.objs.size (.ok .next) s':=fun {σ' H' s'} I4 q=>by
  have I5:Inv X pins σ H' s':=I2.call' (ch:=fp) I4.os I4.base I4.hok I4.bare fun b hb=>⟨(f2 b hb).2.2.2.1,(f2 b hb).2.1,(f2 b hb).2.2.2.2.1,(f2 b hb).2.2.2.2.2⟩
  obtain⟨m,hn,_⟩:=I4.loc
  have hn':s'.heap.Ns G.objs.size m:=hn
  refine hRR _ _ s' H' m I5 hn' ⟨I4.free,Nat.ne_of_gt (Nat.lt_of_lt_of_le I2.lt hCle),I2.nofs hCle,.inr (Nat.le_trans I2.sz hCle),fun x c h z=>?_,fun p hp z=>?_⟩ q
  ·obtain⟨v,o,ho,_⟩:=I2.cell x c h
   exact(below c (Heap.lt_size ho)).1 z
  ·exact(below p.1 (Heap.lt_size (I2.pin p hp).1)).1 z
 have stat:∀{H':Hp},(∀b∈fp,H' b=none)->∀b∈fp,dJ (cz X N scope (clos X.env.cells scope.names []) G.objs.size fp s2 H2) [] H' b:=fun {H'} hn b hb=>by
  refine⟨hn b hb,(below b (fplt b hb)).1,fun z=>?_,.inl hb,fun x c h z=>(f2 b hb).2.2.2.2.1 x c (hclin x c h) z,fun p hp=>absurd (show p∈([]:List (Addr×Obj)) from hp) (by simp)⟩
  exact okc.exfs b hb z
 have loop:codeAny (model X.prog X.w) X.A (.compLoop (.ListComp elt [⟨tg,iter,ifs,0⟩] scope pos) 0 (.ref it) (.ref s2.heap.objs.size) (compEnvC scope (clos X.env.cells scope.names []) G.objs.size X.env))
   (RR (.ref s2.heap.objs.size) G.objs.size) { s2 with heap:=h₁,toks:=s2.toks+([]:List (Str×Value)).length }:=by
  refine wN (fun n s'=>∃i σ' H',Inv (cz X N scope (clos X.env.cells scope.names []) G.objs.size fp s2 H2) [] σ' H' s'/\tn i s'.heap/\(∀b∈fp,H' b=none)/\W i n σ' H') ?_ m0
   ⟨0,inner μ σ,_,I3,T.keep _ _ _ st2 (fun b hb o e=>old b o e),fun b hb=>Hfree b (below b (fplt b hb)).2 (f2 b hb).1,w0⟩
  rintro n s3 ⟨i,σ3,H3,I3,st3,fr3,w3⟩
  rcases turn i n σ3 H3 w3 with⟨stop,qn⟩ |⟨go,Nn,hN,step⟩
  ·refine thn (T.done (cz X N scope (clos X.env.cells scope.names []) G.objs.size fp s2 H2) rfl rfl rfl hc i [] s3 σ3 H3 _ I3 (stat fr3) st3 stop) fun r s4 ⟨hr,I4⟩=>?_
   subst hr
   exact fin I4 qn
  ·refine thn (T.item (cz X N scope (clos X.env.cells scope.names []) G.objs.size fp s2 H2) rfl rfl rfl hc i [] s3 σ3 H3 _ I3 (stat fr3) st3 go) fun r s4 ⟨u,hr,h4⟩=>?_
   subst hr
   refine thn h4 fun _ s5 hw'=>?_
   obtain⟨x,H5,I5,r5,y5,st5,fr5⟩:=hw'
   have I5':=I5.pinned (stat fr5) (T.obj _ _ st5)
   have again:∀{σ7:St} {H7:Hp} {s7:Shared},Inv (cz X N scope (clos X.env.cells scope.names []) G.objs.size fp s2 H2) ([]++mJ fp s5.heap) σ7 H7 s7->Nn σ7 H7 ->
     ∃m,m<n/\∃i σ' H',Inv (cz X N scope (clos X.env.cells scope.names []) G.objs.size fp s2 H2) [] σ' H' s7/\tn i s7.heap/\(∀b∈fp,H' b=none)/\W i m σ' H':=fun {σ7 H7 s7} I7 n7=>by
    obtain⟨m',hm,w7⟩:=hN σ7 H7 n7
    refine⟨m',hm,i+1,σ7,H7,I7.unpinned,T.keep _ _ _ st5 fun b hb o e=>(I7.pin (b,o) (List.mem_append_right _ (List.mem_append_right _ (jy hb e)))).1,fun b hb=>?_,w7⟩
    obtain⟨o,e,d⟩:=T.obj _ _ st5 b hb
    exact(I7.pin (b,o) (List.mem_append_right _ (List.mem_append_right _ (jy hb e)))).2.1
   refine thn (hg G.objs.size s2 H2 _ s5 σ3 H5 x u _ I5' r5 (step x H5 y5)) fun _ s6 hw'=>?_
   obtain⟨σ6,H6,I6,q6⟩:=hw'
   refine thn (ht G.objs.size s2 H2 _ s6 σ6 H6 _ I6 q6) fun ok s7 ⟨H7,I7,q7⟩=>?_
   cases ok with
   | false =>
    rw[if_neg (by decide)] at q7 ⊢
    exact again I7 q7
   | true =>
    rw[if_pos rfl] at q7 ⊢
    refine thn (he G.objs.size s2 H2 _ s7 σ6 H7 _ I7 q7) fun u8 s8 hw'=>?_
    obtain⟨y,H8,I8,r8,ys,e8,l8,q8⟩:=hw'
    have ma:=mL (X:=cz X N scope (clos X.env.cells scope.names []) G.objs.size fp s2 H2) _ s8 σ6 H8 (.ref s2.heap.objs.size) [y] (.ref s2.heap.objs.size) [u8]
     (fun _ H9=>Nn σ6 H9) I8 rfl (.cons r8 .nil) ⟨_,ys,y,rfl,rfl,e8,l8,q8⟩
    exact thn ma fun _ s9 ⟨_,H9,I9,_,q9⟩=>again I9 q9
 exact codeAny_compStart_list loop (T.self _ 0 _ _ _ (T.keep _ _ _ st2 (fun b hb o e=>old b o e)) loop)
theorem xn{wi:TI}(hc:X.calm=true)(hcell:∀y∈scope.names,y.2 ≠ .cell)(hkind:scope.kind=.function)(hnames:∀y∈scope.names,y.2=.local->scope.names.lookup y.1=some .local)
  (hfree:∀y∈scope.names,y.2=.free->X.env.kindOf y.1=some .cell\/X.env.kindOf y.1=some .free)
  (hhas:∀x,((relabel scope X.env).names.lookup x=some .cell\/(relabel scope X.env).names.lookup x=some .free)->(x,NameKind.free)∈scope.names)
  (hμ:kW X.N X.env.scope N (relabel scope X.env) μ=true) (hi:PI X tg iter wi)
  (hg:∀fp C s H,PG (cz X N scope (clos X.env.cells scope.names []) C fp s H) tg g) (ht:∀fp C s H,PTs (cz X N scope (clos X.env.cells scope.names []) C fp s H) ifs tt) (he:∀fp C s H,PE (cz X N scope (clos X.env.cells scope.names []) C fp s H) elt te)
  (hs:∀x,foldedSetIterable iter X.env x=pure x:=by intro _;rfl):PE X (.ListComp elt [⟨tg,iter,ifs,0⟩] scope pos) (yK μ wi g tt te):=by
 intro pins s σ H Q I h
 have hfr:∀y∈scope.names,y.2=.free->∃c,X.env.cells.lookup y.1=some c:=fun y hy hk=>I.ok.has y.1 (hfree y hy hk)
 rw[eval_ListComp]
 refine wpAny_comprehension_free (use:=none) rfl hs (yI hfr) hkind hnames (thn (hi pins s σ H _ I h) fun v s1 h1=>thn h1 fun itv s2 h2=>?_)
 obtain⟨it,fp,tn,J,H2,rfl,I2,T,st2,f2,W⟩:=h2
 refine zZ (RR:=fun acc C=>compPost (model X.prog X.w) X.A X.xe none (EP X pins σ Q) acc C) I2 T st2 f2 hc hcell hkind hfr hhas hμ (hg fp) (ht fp) (he fp) W ?_
 intro p C s' H' m I' hn fc q
 exact⟨m,hn,fun h' hsb=>⟨.ref p,H',I'.turned (t':=s'.toks) (fun b o ne e=>(hsb.2 b ne).trans e) fc.1 (Ne.symm fc.2.1).symm fc.2.2.2.1 fc.2.2.2.2.1 fc.2.2.2.2.2,rfl,q⟩⟩
end
end L2
namespace DL
open PySem PySem.Spec PyProof.Rows L2
noncomputable abbrev St:=L2.St
inductive D where
 | non |bl (b:Bool) |int (i:Int) |str (x:Str) |tup (xs:List D) |lst (xs:List D) |scr (ns:List Int) |obj (n:Nat)
mutual
noncomputable def Is(K:PySem.W.Frag)(α:List Addr)(F:Hp):D->V->Prop
 | .non,v=>v=.non
 | .bl b,v=>v=.bl b
 | .int i,v=>v=.int i
 | .str x,v=>v=.str x
 | .tup xs,v=>∃a vs,v=.ref a/\F a=some (.tup vs)/\IsL K α F xs vs
 | .lst xs,v=>∃a vs,v=.ref a/\F a=some (.lst vs)/\IsL K α F xs vs
 | .scr ns,v=>∃a,v=.ref a/\SqL K F a (ns.map V.int)
 | .obj n,v=>∃a,α[n]? = some a/\v=.ref a
noncomputable def IsL(K:PySem.W.Frag)(α:List Addr)(F:Hp):List D->List V->Prop
 | [],vs=>vs=[]
 | d::ds,vs=>∃v r,vs=v::r/\Is K α F d v/\IsL K α F ds r
end
section
variable {K:PySem.W.Frag} {α α':List Addr} {F F':Hp}
mutual
theorem Is.mono(ff:bB F F')(al:∃more,α'=α++more):∀(d:D) {v:V},Is K α F d v->Is K α' F' d v
 | .non,_,h=>by rw[Is] at h ⊢;exact h
 | .bl _,_,h=>by rw[Is] at h ⊢;exact h
 | .int _,_,h=>by rw[Is] at h ⊢;exact h
 | .str _,_,h=>by rw[Is] at h ⊢;exact h
 | .tup xs,_,h=>by
  rw[Is] at h ⊢
  obtain⟨a,vs,e,q,r⟩:=h
  exact⟨a,vs,e,ff _ _ q,IsL.mono ff al xs r⟩
 | .lst xs,_,h=>by
  rw[Is] at h ⊢
  obtain⟨a,vs,e,q,r⟩:=h
  exact⟨a,vs,e,ff _ _ q,IsL.mono ff al xs r⟩
 | .scr ns,_,h=>by
  rw[Is] at h ⊢
  obtain⟨a,e,q⟩:=h
  exact⟨a,e,ff.seq q⟩
 | .obj n,_,h=>by
  rw[Is] at h ⊢
  obtain⟨a,e,q⟩:=h
  obtain⟨more,rfl⟩:=al
  refine⟨a,?_,q⟩
  rw[List.getElem?_append_left (List.getElem?_eq_some_iff.mp e).1]
  exact e
theorem IsL.mono(ff:bB F F')(al:∃more,α'=α++more):∀(ds:List D) {vs:List V},IsL K α F ds vs->IsL K α' F' ds vs
 | [],_,h=>by rw[IsL] at h ⊢;exact h
 | d::ds,_,h=>by
  rw[IsL] at h ⊢
  obtain⟨v,r,e,h1,h2⟩:=h
  exact⟨v,r,e,Is.mono ff al d h1,IsL.mono ff al ds h2⟩
end
theorem IsL.nil:IsL K α F [] []:=by rw[IsL]
theorem IsL.cons{d:D}{v:V}{ds:List D}{vs:List V}(h:Is K α F d v)(r:IsL K α F ds vs):IsL K α F (d::ds) (v::vs):=by rw[IsL];exact⟨v,vs,rfl,h,r⟩
theorem IsL.of_nil{vs:List V}(h:IsL K α F [] vs):vs=[]:=by rw[IsL] at h;exact h
theorem IsL.of_cons{d:D}{ds:List D}{vs:List V}(h:IsL K α F (d::ds) vs):∃v r,vs=v::r/\Is K α F d v/\IsL K α F ds r:=by rw[IsL] at h;exact h
theorem IsL.length:∀{ds:List D} {vs:List V},IsL K α F ds vs->ds.length=vs.length
 | [],vs,h=>by rw[h.of_nil];rfl
 | d::ds,vs,h=>by
  obtain⟨v,r,rfl,_,t⟩:=h.of_cons
  rw[List.length_cons,List.length_cons,t.length]
theorem IsL.append:∀{ds es:List D} {vs us:List V},IsL K α F ds vs->IsL K α F es us->IsL K α F (ds++es) (vs++us)
 | [],_,_,_,h,q=>by rw[h.of_nil];exact q
 | d::ds,es,vs,us,h,q=>by
  obtain⟨v,r,rfl,h1,t⟩:=h.of_cons
  exact .cons h1 (t.append q)
theorem IsL.get:∀{ds:List D} {vs:List V} {i:Nat} {d:D},IsL K α F ds vs->ds[i]? = some d->∃v,vs[i]? = some v/\Is K α F d v
 | [],_,_,_,_,e=>by simp at e
 | d::ds,vs,0,x,h,e=>by
  obtain⟨v,r,rfl,h1,t⟩:=h.of_cons
  rw[List.getElem?_cons_zero] at e
  cases e
  exact⟨v,rfl,h1⟩
 | d::ds,vs,i+1,x,h,e=>by
  obtain⟨v,r,rfl,h1,t⟩:=h.of_cons
  rw[List.getElem?_cons_succ] at e
  obtain⟨u,e1,q⟩:=t.get e
  exact⟨u,by rw[List.getElem?_cons_succ];exact e1,q⟩
theorem IsL.rep{ds:List D}{vs:List V}(h:IsL K α F ds vs):∀n:Nat,IsL K α F (List.replicate n ds).flatten (List.replicate n vs).flatten
 | 0=>.nil
 | n+1=>by
  rw[List.replicate_succ,List.replicate_succ,List.flatten_cons,List.flatten_cons]
  exact h.append (h.rep n)
theorem IsL.ints:∀(ns:List Int),IsL K α F (ns.map D.int) (ns.map V.int)
 | []=>.nil
 | n::ns=>.cons (by rw[Is]) (IsL.ints ns)
end
structure E4 where
 α:List Addr
 F:Hp
 A:Addr->Prop
 H:Hp
structure Ext(e e':E4):Prop where
 fz:∀b o u,e.H b=some (.frz o u)->e'.H b=some (.frz o u)
 hk:∀b o,e.H b=some o->¬e.A b->e'.H b=some o
 dm:∀b o,e.H b=some o->∃o',e'.H b=some o'
 ff:bB e.F e'.F
 fn:∀b o,e'.F b=some o->e.F b=some o\/e.H b=none\/((∃xs,o=.tup xs)/\e.H b=some o/\¬e.A b)
 an:∀b,e'.A b->e.A b\/e.H b=none
 aa:∀b,e.A b->e'.A b
 al:∃more,e'.α=e.α++more
theorem Ext.refl(e:E4):Ext e e:=⟨fun _ _ _ h=>h,fun _ _ h _=>h,fun _ o h=>⟨o,h⟩,bB.refl _,fun _ _ h=>.inl h,fun _ h=>.inl h,fun _ h=>h,[],by simp⟩
theorem Ext.back{e e':E4}(x:Ext e e'){b:Addr}(h:e'.H b=none):e.H b=none:=by
 cases q:e.H b with
 | none=>rfl
 | some o=>obtain⟨o',z⟩:=x.dm b o q;rw[h] at z;cases z
theorem Ext.trans{a b c:E4}(x:Ext a b)(y:Ext b c):Ext a c:=by
 refine⟨fun p o u h=>y.fz p o u (x.fz p o u h),fun p o h hn=>y.hk p o (x.hk p o h hn) fun z=>?_,fun p o h=>?_,x.ff.trans y.ff,fun p o h=>?_,fun p h=>?_,fun p h=>y.aa p (x.aa p h),?_⟩
 ·rcases x.an p z with q |q
  ·exact hn q
  ·rw[q] at h;cases h
 ·obtain⟨o',h'⟩:=x.dm p o h
  exact y.dm p o' h'
 ·rcases y.fn p o h with q |q |⟨q1,q2,q3⟩
  ·exact x.fn p o q
  ·exact .inr (.inl (x.back q))
  ·have n:¬a.A p:=fun z=>q3 (x.aa p z)
   cases z:a.H p with
   | none=>exact .inr (.inl rfl)
   | some o' =>
    have z':=x.hk p o' z n
    rw[q2] at z'
    cases z'
    exact .inr (.inr ⟨q1,rfl,n⟩)
 ·rcases y.an p h with q |q
  ·exact x.an p q
  ·exact .inr (x.back q)
 ·obtain⟨m,e1⟩:=x.al
  obtain⟨n,e2⟩:=y.al
  exact⟨m++n,by rw[e2,e1,List.append_assoc]⟩
theorem Ext.keepOwn{e e':E4}(x:Ext e e'){a:Addr}{vs:List V}(h:e.H a=some (.lst vs))(hF:e.F a=none)(hA:¬e.A a):e'.H a=some (.lst vs)/\e'.F a=none/\¬e'.A a:=by
 refine⟨x.hk a _ h hA,?_,fun z=>?_⟩
 ·cases z:e'.F a with
  | none=>rfl
  | some o =>
   rcases x.fn a o z with y |y |⟨⟨xs,rfl⟩,y,_⟩
   ·rw[hF] at y;cases y
   ·rw[h] at y;cases y
   ·rw[h] at y;cases y
 ·rcases x.an a z with y |y
  ·exact hA y
  ·rw[h] at y;cases y
inductive OS where
 | mls (xs:List D) |dead |exc (c:Str) |ins (c:Str) (fs:List (Str×D)) |fzK (kvs:List (Key×D)) |dK (kvs:List (Key×D)) |dT (kvs:List (List Key×D)) |fzT (kvs:List (List Key×D))
 | tab (l:Str) (pos:Pos) (q:Str) |clo (l q x:Str) (m:Nat)
noncomputable def bO(K:PySem.W.Frag)(α:List Addr)(F:Hp){κ:Type}:List (κ×D)->List (κ×V)->Prop
 | [],vs=>vs=[]
 | p::r,vs=>∃v t,vs=(p.1,v)::t/\Is K α F p.2 v/\bO K α F r t
theorem bO.mono{K:PySem.W.Frag}{α α':List Addr}{F F':Hp}{κ:Type}(ff:bB F F')(al:∃more,α'=α++more):∀{ps:List (κ×D)} {vs:List (κ×V)},bO K α F ps vs->bO K α' F' ps vs
 | [],_,h=>h
 | p::r,_,⟨v,t,e,i,q⟩=>⟨v,t,e,Is.mono ff al _ i,bO.mono ff al q⟩
noncomputable abbrev Cl:=Str->Option Addr
noncomputable def isDef:Stmt->Bool
 | .FunctionDef .. => true
 | _=>false
noncomputable def Jb(K:PySem.W.Frag)(x:Str):Option Stmt:=match PySem.W.nsIn K mainGlobals x with
 | some (some (.ref f))=>(match K.lookup f with
  | some ⟨_,_,.func fd,_⟩=>(match fd.body with
   | .stmts b=>b.find? isDef
   | _=>none)
  | _=>none)
 | _=>none
noncomputable def pD(K:PySem.W.Frag)(C:Cl)(e:E4)(a:Addr):OS->Prop
 | .mls xs=>∃vs,e.H a=some (.lst vs)/\IsL K e.α e.F xs vs
 | .dead=>True
 | .exc c=>∃Ca ob u,C c=some Ca/\e.H a=some (.frz ob u)/\ob.cls=.ref Ca
 | .ins c fs=>∃Ca dx fvs,C c=some Ca/\e.H a=some (.ins Ca dx fvs)/\bO K e.α e.F fs fvs
 | .fzK kvs=>∃vs o,e.H a=some (.frz o (.dK vs))/\bO K e.α e.F kvs vs
 | .dK kvs=>∃vs,e.H a=some (.dK vs)/\bO K e.α e.F kvs vs
 | .dT kvs=>∃vs,e.H a=some (.dT vs)/\bO K e.α e.F kvs vs
 | .fzT kvs=>∃vs o,e.H a=some (.frz o (.dT vs))/\bO K e.α e.F kvs vs
 | .tab l pos q=>∃cd,PySem.W.tabIn K l=some (cd,a)/\(e.H a=some (.tbl #[])\/∃c' ob,e.H a=some (.tbl #[rawInt pos.line,rawInt pos.col,.ref c'])/\e.F c'=some (.frz ob (.own 0))/\∃vs t,ob.data=.fields vs/\vs[1]? = some (.str q t))
 | .clo l q x m=>∃st c am c' nm doc pm ctv cob ob,Jb K l=some st/\e.H a=some (.frz { cls:=.type "function",data:=.func (PySem.W.fnX nm q (aW st) (aQ st) (az st) [(x,c)] .none .none doc pm none (.ref c') ctv) } (.own 0)) /\
   e.F c=some (.frz cob (.own a))/\cob.data=.cell (some (.ref am))/\e.α[m]? = some am/\e.F c'=some (.frz ob (.own 0))/\∃vs t,ob.data=.fields vs/\vs[1]? = some (.str q t)
structure Wf(K:PySem.W.Frag)(C:Cl)(e:E4)(Ω:List OS):Prop where
 fh:bB e.F e.H
 fa:∀b,e.A b->e.F b=none
 ah:∀b,e.A b->e.H b≠none/\∀xs,e.H b≠some (.tup xs)
 ol:e.α.length=Ω.length
 nd:e.α.Nodup
 ob:∀(n:Nat) (a:Addr) (o:OS),e.α[n]? = some a->Ω[n]? = some o->e.A a/\pD K C e a o
section
variable {K:PySem.W.Frag} {C:Cl} {e e':E4} {Ω Ω':List OS}
theorem Is.ext(x:Ext e e'){d:D}{v:V}(h:Is K e.α e.F d v):Is K e'.α e'.F d v:=Is.mono x.ff x.al d h
theorem IsL.ext(x:Ext e e'){d:List D}{v:List V}(h:IsL K e.α e.F d v):IsL K e'.α e'.F d v:=IsL.mono x.ff x.al d h
noncomputable def E4.new(e:E4)(p:Addr)(o:HO):E4:=⟨e.α,upd e.F p o,e.A,upd e.H p o⟩
theorem Wf.nF(w:Wf K C e Ω){p:Addr}(hp:e.H p=none):e.F p=none:=by
 cases q:e.F p with
 | none=>rfl
 | some o=>rw[w.fh p o q] at hp;cases hp
theorem Wf.new_ext(w:Wf K C e Ω){p:Addr}{o:HO}(hp:e.H p=none):Ext e (e.new p o):=by
 refine⟨fun b o' u h=>?_,fun b u h _=>?_,fun b u h=>⟨u,?_⟩,fun b u h=>?_,fun b u h=>?_,fun b h=>.inl h,fun b h=>h,[],by simp[E4.new]⟩
 ·show upd e.H p o b=some (.frz o' u);rw[aB (aM h hp)];exact h
 ·show upd e.H p o b=some u;rw[aB (aM h hp)];exact h
 ·show upd e.H p o b=some u;rw[aB (aM h hp)];exact h
 ·show upd e.F p o b=some u;rw[aB (aM h (w.nF hp))];exact h
 ·have h:upd e.F p o b=some u:=h
  by_cases hb:b=p
  ·subst hb;exact .inr (.inl hp)
  ·rw[aB hb] at h;exact .inl h
theorem pD.keep{a:Addr}{o:OS}(h:pD K C e a o)(hH:∀u,e.H a=some u->e'.H a=some u)(ff:bB e.F e'.F)(al:∃more,e'.α=e.α++more):pD K C e' a o:=by
 cases o with
 | mls xs=>obtain⟨vs,h1,h2⟩:=h;exact⟨vs,hH _ h1,IsL.mono ff al xs h2⟩
 | dead=>trivial
 | exc c=>obtain⟨Ca,ob,u,h1,h2,h3⟩:=h;exact⟨Ca,ob,u,h1,hH _ h2,h3⟩
 | ins c fs=>obtain⟨Ca,dx,fvs,h1,h2,h3⟩:=h;exact⟨Ca,dx,fvs,h1,hH _ h2,h3.mono ff al⟩
 | fzK kvs=>obtain⟨vs,ob,h1,h2⟩:=h;exact⟨vs,ob,hH _ h1,h2.mono ff al⟩
 | dK kvs=>obtain⟨vs,h1,h2⟩:=h;exact⟨vs,hH _ h1,h2.mono ff al⟩
 | dT kvs=>obtain⟨vs,h1,h2⟩:=h;exact⟨vs,hH _ h1,h2.mono ff al⟩
 | fzT kvs=>obtain⟨vs,ob,h1,h2⟩:=h;exact⟨vs,ob,hH _ h1,h2.mono ff al⟩
 | tab l pos q =>
  obtain⟨cd,h0,h1 |⟨c',ob,h1,h2,h3⟩⟩:=h
  ·exact⟨cd,h0,.inl (hH _ h1)⟩
  ·exact⟨cd,h0,.inr ⟨c',ob,hH _ h1,ff _ _ h2,h3⟩⟩
 | clo l q x m =>
  obtain⟨st,c,am,c',nm,doc,pm,ctv,cob,ob,h0,h1,h2,h3,h4,h5,h6⟩:=h
  refine⟨st,c,am,c',nm,doc,pm,ctv,cob,ob,h0,hH _ h1,ff _ _ h2,h3,?_,ff _ _ h5,h6⟩
  obtain⟨more,z⟩:=al
  rw[z,List.getElem?_append_left (List.getElem?_eq_some_iff.mp h4).1]
  exact h4
theorem Wf.new(w:Wf K C e Ω){p:Addr}{o:HO}(hp:e.H p=none):Wf K C (e.new p o) Ω:=by
 have x:Ext e (e.new p o):=w.new_ext hp
 have ne:∀b,e.A b->b≠p:=fun b h z=>by subst z;exact(w.ah b h).1 hp
 refine⟨fun b u h=>?_,fun b h=>?_,fun b h=>?_,w.ol,w.nd,fun n a u h1 h2=>⟨(w.ob n a u h1 h2).1,(w.ob n a u h1 h2).2.keep (fun v hv=>?_) x.ff x.al⟩⟩
 ·have h:upd e.F p o b=some u:=h
  show upd e.H p o b=some u
  by_cases hb:b=p
  ·subst hb;rw[aK] at h ⊢;exact h
  ·rw[aB hb] at h ⊢;exact w.fh b u h
 ·show upd e.F p o b=none
  rw[aB (ne b h)];exact w.fa b h
 ·show upd e.H p o b≠none/\∀xs,upd e.H p o b≠some (.tup xs)
  rw[aB (ne b h)];exact w.ah b h
 ·show upd e.H p o a=some v
  rw[aB (ne a (w.ob n a u h1 h2).1)];exact hv
end
inductive Sl where
 | und |dat (d:D) |own (xs:List D)
structure RelE(K:PySem.W.Frag)(e:E4)(σ:St)(ρ:List Sl):Prop where
 len:σ.length=ρ.length
 dat:∀(i:Nat) (d:D),ρ[i]? = some (.dat d)->∃v,σ[i]? = some (some v)/\Is K e.α e.F d v
 own:∀(i:Nat) (ds:List D),ρ[i]? = some (.own ds)->∃a vs,σ[i]? = some (some (.ref a))/\e.H a=some (.lst vs)/\IsL K e.α e.F ds vs/\e.F a=none/\¬e.A a
 sep:∀(i j:Nat) (ds es:List D) (a:Addr),ρ[i]? = some (.own ds)->ρ[j]? = some (.own es)->σ[i]? = some (some (.ref a))->σ[j]? = some (some (.ref a))->i=j
section
variable {K:PySem.W.Frag} {C:Cl} {e e' e₀:E4} {Ω Ω':List OS} {σ:St} {ρ:List Sl}
theorem RelE.ext(r:RelE K e σ ρ)(x:Ext e e'):RelE K e' σ ρ:=by
 refine⟨r.len,fun i d h=>?_,fun i ds h=>?_,r.sep⟩
 ·obtain⟨v,e1,q⟩:=r.dat i d h
  exact⟨v,e1,q.ext x⟩
 ·obtain⟨a,vs,e1,e2,q,n1,n2⟩:=r.own i ds h
  obtain⟨z1,z2,z3⟩:=x.keepOwn e2 n1 n2
  exact⟨a,vs,e1,z1,q.ext x,z2,z3⟩
theorem RelE.set(r:RelE K e σ ρ)(i:Nat){d:D}{v:V}(h:Is K e.α e.F d v):RelE K e (σ.set i (some v)) (ρ.set i (.dat d)):=by
 refine⟨by simp[r.len],fun j d' hj=>?_,fun j ds hj=>?_,fun j k ds es a hj hk h1 h2=>?_⟩
 ·by_cases e1:i=j
  ·subst e1
   have hl:i<ρ.length:=by
    have:=(List.getElem?_eq_some_iff.mp hj).1
    simpa using this
   rw[List.getElem?_set_self hl] at hj
   cases hj
   exact⟨v,List.getElem?_set_self (by rw[r.len];exact hl),h⟩
  ·rw[List.getElem?_set_ne e1] at hj ⊢
   exact r.dat j d' hj
 ·by_cases e1:i=j
  ·subst e1
   have hl:i<ρ.length:=by
    have:=(List.getElem?_eq_some_iff.mp hj).1
    simpa using this
   rw[List.getElem?_set_self hl] at hj
   cases hj
  ·rw[List.getElem?_set_ne e1] at hj ⊢
   exact r.own j ds hj
 ·have ne:∀(j:Nat) (ds:List D),(ρ.set i (.dat d))[j]? = some (.own ds)->i≠j:=fun j ds hj e1=>by
   subst e1
   have hl:i<ρ.length:=by
    have:=(List.getElem?_eq_some_iff.mp hj).1
    simpa using this
   rw[List.getElem?_set_self hl] at hj
   cases hj
  have n1:=ne j ds hj
  have n2:=ne k es hk
  rw[List.getElem?_set_ne n1] at hj h1
  rw[List.getElem?_set_ne n2] at hk h2
  exact r.sep j k ds es a hj hk h1 h2
end
noncomputable abbrev Den:=List Sl->List OS->Option (D×List OS)
noncomputable abbrev bR:=List Sl->List OS->Option (Bool×List OS)
noncomputable abbrev bz:=List Sl->List OS->Option (List D×List OS)
noncomputable def tD(K:PySem.W.Frag)(C:Cl)(g:Den):TE:=fun σ H Q=>∃e Ω ρ d Ω',e.H=H/\Wf K C e Ω/\RelE K e σ ρ/\g ρ Ω=some (d,Ω')/\∀v e',Ext e e'->Wf K C e' Ω'->Is K e'.α e'.F d v->Q v e'.H
noncomputable def tDT(K:PySem.W.Frag)(C:Cl)(g:bR):TT:=fun σ H Q=>∃e Ω ρ b Ω',e.H=H/\Wf K C e Ω/\RelE K e σ ρ/\g ρ Ω=some (b,Ω')/\∀e',Ext e e'->Wf K C e' Ω'->Q b e'.H
noncomputable def tDA(K:PySem.W.Frag)(C:Cl)(g:bz):TA:=fun σ H Q=>∃e Ω ρ ds Ω',e.H=H/\Wf K C e Ω/\RelE K e σ ρ/\g ρ Ω=some (ds,Ω')/\∀vs e',Ext e e'->Wf K C e' Ω'->IsL K e'.α e'.F ds vs->Q vs e'.H
noncomputable def PD(X:Cx)(C:Cl)(x:Expr)(g:Den):Prop:=PE X x (tD X.K C g)
noncomputable def PDT(X:Cx)(C:Cl)(x:Expr)(g:bR):Prop:=PT X x (tDT X.K C g)
noncomputable def PDW(X:Cx)(C:Cl)(x:Expr)(g:bR):Prop:=PW X x (tDT X.K C g)
noncomputable def PDA(X:Cx)(C:Cl)(xs:List Expr)(g:bz):Prop:=PA X xs (tDA X.K C g)
section
variable {X:Cx} {C:Cl} {x:Expr}
theorem bT{t t':TE}(h:PE X x t)(i:∀σ H Q,t' σ H Q->t σ H Q):PE X x t':=fun pins s σ H Q I hw=>h pins s σ H Q I (i σ H Q hw)
theorem lz{t t':TT}(h:PT X x t)(i:∀σ H Q,t' σ H Q->t σ H Q):PT X x t':=fun pins s σ H Q I hw=>h pins s σ H Q I (i σ H Q hw)
theorem z_{t t':TT}(h:PW X x t)(i:∀σ H Q,t' σ H Q->t σ H Q):PW X x t':=fun whole pins s σ H Q I hw=>h whole pins s σ H Q I (i σ H Q hw)
theorem Aa{xs:List Expr}{t t':TA}(h:PA X xs t)(i:∀σ H Q,t' σ H Q->t σ H Q):PA X xs t':=fun pos pins s σ H Q I hw=>h pos pins s σ H Q I (i σ H Q hw)
theorem dG{st:Stmt}{t t':TS}(h:PS X st t)(i:∀D σ H,t' D σ H->t D σ H):PS X st t':=fun pins s σ H D I hw=>h pins s σ H D I (i D σ H hw)
theorem rE{st:List Stmt}{t t':TS}(h:PSs X st t)(i:∀D σ H,t' D σ H->t D σ H):PSs X st t':=fun pins s σ H D I hw=>h pins s σ H D I (i D σ H hw)
noncomputable def aj(i:Nat):Den:=fun ρ Ω=>match ρ[i]? with |some (.dat d)=>some (d,Ω) |_=>none
theorem ao{i:Nat}(h:PE X x (rm i)):PD X C x (aj i):=bT h fun σ H Q hw'=>by
 obtain⟨e,Ω,ρ,d,Ω',eH,w,r,g,k⟩:=hw'
 subst eH
 unfold aj at g
 cases q:ρ[i]? with
 | none=>rw[q] at g;cases g
 | some s =>
  rw[q] at g
  cases s with
  | dat d' =>
   cases g
   obtain⟨v,e1,i1⟩:=r.dat _ _ q
   exact⟨v,e1,k v e (Ext.refl e) w i1⟩
  | und=>cases g
  | own _=>cases g
noncomputable def gC(d:D):Den:=fun _ Ω=>some (d,Ω)
theorem yL{v:V}{d:D}(h:PE X x (tC v))(hd:∀α F,Is X.K α F d v):PD X C x (gC d):=bT h fun σ H Q hw'=>by
 obtain⟨e,Ω,ρ,d',Ω',eH,w,r,g,k⟩:=hw'
 subst eH
 cases g
 exact k v e (Ext.refl e) w (hd _ _)
theorem aA{i:Int}{j pos}:PD X C (.Constant (.int i) j pos) (gC (.int i)):=yL Hu fun _ _=>by rw[Is]
theorem jz{b:Bool}{j pos}:PD X C (.Constant (.bool b) j pos) (gC (.bl b)):=yL JR fun _ _=>by rw[Is]
theorem gq{j pos}:PD X C (.Constant .none j pos) (gC .non):=yL zy fun _ _=>by rw[Is]
theorem bU{z:Str}{j pos}:PD X C (.Constant (.str z) j pos) (gC (.str z)):=yL zA fun _ _=>by rw[Is]
end
noncomputable def OpD(X:Cx)(C:Cl)(f:Value->Value->Sem Value)(r:D->D->Option D):Prop :=
 OpR X f fun x y H Q=>∃e Ω d₁ d₂ z,e.H=H/\Wf X.K C e Ω/\Is X.K e.α e.F d₁ x/\Is X.K e.α e.F d₂ y/\r d₁ d₂=some z/\∀v e',Ext e e'->Wf X.K C e' Ω->Is X.K e'.α e'.F z v->Q v e'.H
noncomputable def gOp(r:D->D->Option D)(f g:Den):Den:=fun ρ Ω=>match f ρ Ω with
 | some (x,Ω₁)=>match g ρ Ω₁ with
  | some (y,Ω₂)=>match r x y with
   | some z=>some (z,Ω₂)
   | none=>none
  | none=>none
 | none=>none
section
variable {X:Cx} {C:Cl} {a b:Expr} {f g:Den} {r:D->D->Option D} {pos:Pos}
theorem oA{K:PySem.W.Frag}{r':R2}(hr:∀x y H Q,(∃e Ω d₁ d₂ z,e.H=H/\Wf K C e Ω/\Is K e.α e.F d₁ x/\Is K e.α e.F d₂ y/\r d₁ d₂=some z/\∀v e',Ext e e'->Wf K C e' Ω->Is K e'.α e'.F z v->Q v e'.H)->r' x y H Q)
  {σ:St} {H:Hp} {Q:VK} (h:tD K C (gOp r f g) σ H Q):tOp r' (tD K C f) (tD K C g) σ H Q:=by
 obtain⟨e,Ω,ρ,d,Ω',eH,w,rl,q,k⟩:=h
 unfold gOp at q
 cases q1:f ρ Ω with
 | none=>rw[q1] at q;cases q
 | some p1 =>
  obtain⟨x,Ω₁⟩:=p1
  rw[q1] at q
  dsimp only at q
  cases q2:g ρ Ω₁ with
  | none=>rw[q2] at q;cases q
  | some p2 =>
   obtain⟨y,Ω₂⟩:=p2
   rw[q2] at q
   dsimp only at q
   cases q3:r x y with
   | none=>rw[q3] at q;cases q
   | some z =>
    rw[q3] at q
    cases q
    refine⟨e,Ω,ρ,x,Ω₁,eH,w,rl,q1,fun v e1 x1 w1 i1=>?_⟩
    refine⟨e1,Ω₁,ρ,y,_,rfl,w1,rl.ext x1,q2,fun u e2 x2 w2 i2=>?_⟩
    exact hr v u e2.H Q ⟨e2,_,x,y,d,rfl,w2,i1.ext x2,i2,q3,fun v' e3 x3 w3 i3=>k v' e3 ((x1.trans x2).trans x3) w3 i3⟩
theorem aR{op:Operator}(ho:OpD X C (binaryOp op) r)(ha:PD X C a f)(hb:PD X C b g):PD X C (.BinOp a op b pos) (gOp r f g) :=
 bT (Kc ho ha hb) fun σ H Q h=>oA (fun _ _ _ _ h=>h) h
theorem uX{op:CmpOp}(ho:OpD X C (compareOp op) r)(ha:PD X C a f)(hb:PD X C b g)(hm:behindInMarks op b=false):PD X C (.Compare a [op] [b] pos) (gOp r f g) :=
 bT (Fj ho ha hb hm) fun σ H Q h=>oA (fun _ _ _ _ h=>h) h
noncomputable def gT(g:Den):bR:=fun ρ Ω=>match g ρ Ω with
 | some (.bl b,Ω')=>some (b,Ω')
 | _=>none
theorem lA{K:PySem.W.Frag}{σ:St}{H:Hp}{Q:Bool->Hp->Prop}(h:tDT K C (gT g) σ H Q):tD K C g σ H fun x H'=>∃c,x=V.bl c/\Q c H':=by
 obtain⟨e,Ω,ρ,b,Ω',eH,w,rl,q,k⟩:=h
 unfold gT at q
 cases q1:g ρ Ω with
 | none=>rw[q1] at q;cases q
 | some p1 =>
  obtain⟨x,Ω₁⟩:=p1
  rw[q1] at q
  cases x with
  | bl c =>
   cases q
   refine⟨e,Ω,ρ,_,_,eH,w,rl,q1,fun v e1 x1 w1 i1=>?_⟩
   rw[Is] at i1
   exact⟨b,i1,k e1 x1 w1⟩
  | _=>cases q
theorem bj{op:CmpOp}(ho:OpD X C (compareOp op) r)(ha:PD X C a f)(hb:PD X C b g)(hm:behindInMarks op b=false):PDT X C (.Compare a [op] [b] pos) (gT (gOp r f g)) :=
 lz (wX ho ha hb hm) fun σ H Q h=>oA (fun _ _ _ _ h=>h) (lA h)
theorem oE{x:Expr}(h:PD X C x g)(he:∀whole,isTrue x X.env whole=(do let v <-whole;standAt x.pos;holding [v] (truthy v)):=by intro _;rfl):PDT X C x (gT g) :=
 lz (Hv h he) fun σ H Q h=>lA h
noncomputable def dI(c:Int->Int->Bool)(f:Int->Int->Int):D->D->Option D
 | .int i,.int j=>if c i j=true then some (.int (f i j)) else none
 | _,_=>none
noncomputable def dB(f:Int->Int->Bool):D->D->Option D
 | .int i,.int j=>some (.bl (f i j))
 | _,_=>none
theorem Ab{c:Int->Int->Bool}{f:Int->Int->Int}{d₁ d₂ z:D}(h:dI c f d₁ d₂=some z):∃i j,d₁=.int i/\d₂=.int j/\c i j=true/\z=.int (f i j):=by
 unfold dI at h
 split at h
 ·split at h
  ·cases h;exact⟨_,_,rfl,rfl,‹_›,rfl⟩
  ·cases h
 ·cases h
theorem Jc{f:Int->Int->Bool}{d₁ d₂ z:D}(h:dB f d₁ d₂=some z):∃i j,d₁=.int i/\d₂=.int j/\z=.bl (f i j):=by
 unfold dB at h
 split at h
 ·cases h;exact⟨_,_,rfl,rfl,rfl⟩
 ·cases h
theorem rF{K:PySem.W.Frag}{α:List Addr}{F:Hp}{i:Int}{v:V}(h:Is K α F (.int i) v):v=.int i:=by rw[Is] at h;exact h
theorem Em{h:Value->Value->Sem Value}{P:Int->Int->Prop}{c:Int->Int->Bool}{k:Int->Int->Int}(ho:OpR X h (rI P fun i j=>.int (k i j)))(hc:∀i j,c i j=true->P i j):OpD X C h (dI c k):=by
 rintro pins s σ H x y v u Q I rx ry ⟨e,Ω,d₁,d₂,z,eH,w,i1,i2,q,kk⟩
 obtain⟨i,j,e1,e2,hcc,e3⟩:=Ab q
 rw[e1] at i1
 rw[e2] at i2
 refine ho pins s σ _ x y v u Q I rx ry ⟨i,j,rF i1,rF i2,hc i j hcc,?_⟩
 rw[<-eH]
 exact kk _ e (Ext.refl e) w (by rw[e3,Is])
theorem Jd{h:Value->Value->Sem Value}{k:Int->Int->Int}(ho:OpR X h (rI0 fun i j=>.int (k i j))):OpD X C h (dI (fun _ _=>true) k):=by
 rintro pins s σ H x y v u Q I rx ry ⟨e,Ω,d₁,d₂,z,eH,w,i1,i2,q,kk⟩
 obtain⟨i,j,e1,e2,hcc,e3⟩:=Ab q
 rw[e1] at i1
 rw[e2] at i2
 refine ho pins s σ _ x y v u Q I rx ry ⟨i,j,rF i1,rF i2,?_⟩
 rw[<-eH]
 exact kk _ e (Ext.refl e) w (by rw[e3,Is])
theorem En{h:Value->Value->Sem Value}{k:Int->Int->Bool}(ho:OpR X h (rI0 fun i j=>.bl (k i j))):OpD X C h (dB k):=by
 rintro pins s σ H x y v u Q I rx ry ⟨e,Ω,d₁,d₂,z,eH,w,i1,i2,q,kk⟩
 obtain⟨i,j,e1,e2,e3⟩:=Jc q
 rw[e1] at i1
 rw[e2] at i2
 refine ho pins s σ _ x y v u Q I rx ry ⟨i,j,rF i1,rF i2,?_⟩
 rw[<-eH]
 exact kk _ e (Ext.refl e) w (by rw[e3,Is])
end
end DL
namespace DL
open PySem PySem.Spec PyProof.Rows L2
noncomputable abbrev big:Nat:=100000
theorem fW{n:Nat}(h:n<=big):n<=sizeLine:=Nat.le_trans h (by decide)
theorem lB{n:Nat}(h:n<big):n<sizeLine:=Nat.lt_of_lt_of_le h (by decide)
open Classical in
noncomputable def grd{β:Type}(P:Prop)(x:Option β):Option β:=if P then x else none
theorem iD{β:Type}{P:Prop}{x:Option β}(h:P):grd P x=x:=if_pos h
theorem pF{β:Type}{P:Prop}{x:Option β}{z:β}(h:grd P x=some z):P/\x=some z:=by
 by_cases q:P
 ·rw[iD q] at h;exact⟨q,h⟩
 ·have e:grd P x=none:=if_neg q
  rw[e] at h;cases h
section
variable {X:Cx} {C:Cl} {a b c x:Expr} {f g h:Den} {r:D->D->Option D} {pos:Pos}
noncomputable def bG:D->D->Option D
 | .int i,.int j=>some (.int (i+j))
 | .lst xs,.lst ys=>if xs.length+ys.length<=big then some (.lst (xs++ys)) else none
 | .str p,.str q=>if p.length+q.length<=big then some (.str (p++q)) else none
 | _,_=>none
theorem FZ{d₁ d₂ z:D}(q:bG d₁ d₂=some z):(∃i j,d₁=.int i/\d₂=.int j/\z=.int (i+j))\/(∃xs ys,d₁=.lst xs/\d₂=.lst ys/\xs.length+ys.length<=big/\z=.lst (xs++ys)) \/
  ∃xs ys,d₁=.str xs/\d₂=.str ys/\xs.length+ys.length<=big/\z=.str (xs++ys):=by
 unfold bG at q
 split at q
 ·cases q;exact .inl ⟨_,_,rfl,rfl,rfl⟩
 ·split at q
  ·cases q;exact .inr (.inl ⟨_,_,rfl,rfl,‹_›,rfl⟩)
  ·cases q
 ·split at q
  ·cases q;exact .inr (.inr ⟨_,_,rfl,rfl,‹_›,rfl⟩)
  ·cases q
 ·cases q
theorem cA:OpD X C (binaryOp .Add) bG:=by
 intro pins s σ H x y v u Q I rx ry hw
 obtain⟨e,Ω,d₁,d₂,z,eH,w,i1,i2,q,kk⟩:=hw
 subst eH
 rcases FZ q with⟨i,j,rfl,rfl,rfl⟩ |⟨xs,ys,rfl,rfl,hl,rfl⟩ |⟨i,j,rfl,rfl,hl,rfl⟩
 ·rw[Is] at i1 i2
  subst i1 i2
  exact HW pins s σ _ _ _ v u Q I rx ry ⟨i,j,rfl,rfl,kk _ e (Ext.refl e) w (by rw[Is])⟩
 ·rw[Is] at i1 i2
  obtain⟨l,vs,rfl,h1,r1⟩:=i1
  obtain⟨m,us,rfl,h2,r2⟩:=i2
  refine Iv pins s σ _ _ _ v u Q I rx ry ⟨l,m,vs,us,rfl,rfl,w.fh _ _ h1,w.fh _ _ h2,by rw[<-r1.length,<-r2.length];exact fW hl,fun p hp=>?_⟩
  refine kk _ (e.new p _) (w.new_ext hp) (w.new hp) ?_
  rw[Is]
  exact⟨p,_,rfl,aK,(r1.append r2).ext (w.new_ext hp)⟩
 ·rw[Is] at i1 i2
  subst i1 i2
  exact yt pins s σ _ _ _ v u Q I rx ry ⟨i,j,rfl,rfl,fW hl,kk _ e (Ext.refl e) w (by rw[Is])⟩
noncomputable def dM:D->D->Option D
 | .int i,.int j=>grd ((-(2 ^ 64)<i/\i<2 ^ 64)\/(-(2 ^ 64)<j/\j<2 ^ 64)) (some (.int (i*j)))
 | .lst xs,.int k=>grd (-(2 ^ 62)<=k/\k<2 ^ 62/\xs.length*k.toNat<=big) (some (.lst (List.replicate k.toNat xs).flatten))
 | _,_=>none
theorem F_{d₁ d₂ z:D}(q:dM d₁ d₂=some z):(∃i j,d₁=.int i/\d₂=.int j/\((-(2 ^ 64)<i/\i<2 ^ 64)\/(-(2 ^ 64)<j/\j<2 ^ 64))/\z=.int (i*j)) \/
  ∃xs k,d₁=.lst xs/\d₂=.int k/\(-(2 ^ 62)<=k/\k<2 ^ 62/\xs.length*k.toNat<=big)/\z=.lst (List.replicate k.toNat xs).flatten:=by
 unfold dM at q
 split at q
 ·obtain⟨hl,q⟩:=pF q;cases q;exact .inl ⟨_,_,rfl,rfl,hl,rfl⟩
 ·obtain⟨hl,q⟩:=pF q;cases q;exact .inr ⟨_,_,rfl,rfl,hl,rfl⟩
 ·cases q
theorem gB:OpD X C (binaryOp .Mult) dM:=by
 intro pins s σ H x y v u Q I rx ry hw
 obtain⟨e,Ω,d₁,d₂,z,eH,w,i1,i2,q,kk⟩:=hw
 subst eH
 rcases F_ q with⟨i,j,rfl,rfl,hl,rfl⟩ |⟨xs,k,rfl,rfl,hl,rfl⟩
 ·rw[Is] at i1 i2
  subst i1 i2
  exact HY pins s σ _ _ _ v u Q I rx ry ⟨i,j,rfl,rfl,hl,kk _ e (Ext.refl e) w (by rw[Is])⟩
 ·rw[Is] at i1
  rw[Is] at i2
  obtain⟨l,vs,rfl,h1,r1⟩:=i1
  subst i2
  refine Iw pins s σ _ _ _ v u Q I rx ry ⟨l,k,vs,rfl,rfl,w.fh _ _ h1,by omega,by omega,by rw[<-r1.length];exact fW hl.2.2,fun p hp=>?_⟩
  refine kk _ (e.new p _) (w.new_ext hp) (w.new hp) ?_
  rw[Is]
  exact⟨p,_,rfl,aK,(r1.rep _).ext (w.new_ext hp)⟩
noncomputable abbrev CG:D->D->Option D:=dI (fun _ _=>true) fun i j=>i-j
theorem Ga:OpD X C (binaryOp .Sub) CG:=Jd HX
noncomputable abbrev bV:D->D->Option D:=dI (fun _ j=>decide (0<j)) fun i j=>i%j
theorem cO:OpD X C (binaryOp .Mod) bV:=Em H_ fun _ _ h=>of_decide_eq_true h
noncomputable abbrev yM:D->D->Option D:=dI (fun _ j=>decide (0<j) && decide (j<1073741824)) fun i j=>i / j
theorem xq:OpD X C (binaryOp .FloorDiv) yM:=Em Fg fun _ _ h=>by
 rw[Bool.and_eq_true,decide_eq_true_eq,decide_eq_true_eq] at h
 exact h
noncomputable abbrev ltD:D->D->Option D:=dB fun i j=>decide (i<j)
theorem pZ:OpD X C (compareOp .Lt) ltD:=En Ke
noncomputable abbrev gtD:D->D->Option D:=dB fun i j=>decide (j<i)
theorem iR:OpD X C (compareOp .Gt) gtD:=En Kf
mutual
noncomputable def toP:D->PyData
 | .non=>.none
 | .bl b=>.bool b
 | .int i=>.int i
 | .str x=>.str x
 | .tup xs=>.tuple (e_ xs)
 | .lst xs=>.list (e_ xs)
 | .scr ns=>.list (ns.map PyData.int)
 | .obj _=>.dict []
noncomputable def e_:List D->List PyData
 | []=>[]
 | d::ds=>toP d::e_ ds
end
end
section
variable {X:Cx} {pins:List (Addr×Obj)} {σ:St} {H:Hp} {s:Shared} {K:PySem.W.Frag} {α:List Addr} {F:Hp}
mutual
theorem jb(I:Inv X pins σ H s)(hK:K=X.K)(ff:bB F H):∀(d:D) {v:V} {u:Value},(toP d).canLay0=true->Is K α F d v->RelV v u->∃as,Reads s.heap u (toP d) as
 | .non,v,u,_,h,r=>by
  rw[Is] at h;subst h;cases (show u=Value.none from r);rw[toP];exact⟨_,.none⟩
 | .bl b,v,u,_,h,r=>by
  rw[Is] at h;subst h;cases (show u=Value.bool b from r);rw[toP];exact⟨_,.bool b⟩
 | .int i,v,u,_,h,r=>by
  rw[Is] at h;subst h;obtain⟨t,q⟩:=(show ∃t,u=Value.int i t from r);subst q;rw[toP];exact⟨_,.int i t⟩
 | .str x,v,u,_,h,r=>by
  rw[Is] at h;subst h;obtain⟨t,q⟩:=(show ∃t,u=Value.str x t from r);subst q;rw[toP];exact⟨_,.str x t⟩
 | .tup xs,v,u,hc,h,r=>by
  rw[Is] at h
  obtain⟨a,vs,rfl,e,q⟩:=h
  cases (show u=Value.ref a from r)
  obtain⟨_,its,rv,o,e1,e2,n,e3⟩:=(show b_ X.prog X.w H s.heap a (.tup vs) from I.hok a _ (ff _ _ e))
  rw[toP] at hc ⊢
  obtain⟨as,z⟩:=j_ I hK ff xs (by simpa [PyData.canLay0] using hc) q rv
  exact⟨as,.tuple e1 e2 e3 (by simpa using z)⟩
 | .lst xs,v,u,hc,h,r=>by
  rw[Is] at h
  obtain⟨a,vs,rfl,e,q⟩:=h
  cases (show u=Value.ref a from r)
  obtain⟨_,its,n,rv,e1⟩:=(show b_ X.prog X.w H s.heap a (.lst vs) from I.hok a _ (ff _ _ e))
  rw[toP] at hc ⊢
  obtain⟨as,z⟩:=j_ I hK ff xs (by simpa [PyData.canLay0] using hc) q rv
  exact⟨_,.list e1 rfl rfl (by simpa using z)⟩
 | .scr ns,v,u,hc,h,r=>by
  rw[Is] at h
  obtain⟨a,rfl,q⟩:=h
  cases (show u=Value.ref a from r)
  subst hK
  obtain⟨its,rv,pl,_⟩:=I.list (ff.seq q)
  rw[toP]
  exact⟨_,reads_newData pl.isList (PySem.W.ke_carried (intsAre_of rv))⟩
 | .obj n,v,u,hc,h,r=>by rw[toP] at hc;simp[PyData.canLay0] at hc
theorem j_(I:Inv X pins σ H s)(hK:K=X.K)(ff:bB F H):∀(ds:List D) {vs:List V} {us:List Value},PyData.canLayAll0 (e_ ds)=true->IsL K α F ds vs->Vals vs us->∃as,ReadsAll s.heap us (e_ ds) as
 | [],vs,us,_,h,r=>by
  rw[h.of_nil] at r;cases r;rw[e_];exact⟨_,.nil⟩
 | d::ds,vs,us,hc,h,r=>by
  obtain⟨v,t,rfl,h1,h2⟩:=h.of_cons
  cases r with
  | cons r1 r2 =>
   rw[e_] at hc ⊢
   have hc':(toP d).canLay0=true/\PyData.canLayAll0 (e_ ds)=true:=by simpa [PyData.canLayAll0] using hc
   obtain⟨as,z1⟩:=jb I hK ff d hc'.1 h1 r1
   obtain⟨bs,z2⟩:=j_ I hK ff ds hc'.2 h2 r2
   exact⟨_,.cons z1 z2⟩
end
end
end DL
namespace DL
open PySem PySem.Spec PyProof.Rows L2
section
variable {X:Cx} {C:Cl} {a b c x:Expr} {f g h:Den} {r:D->D->Option D} {pos:Pos}
noncomputable def eqD(neg:Bool)(p q:D):Option D:=if SeqAt.shaped (toP p) && SeqAt.shaped (toP q) then some (.bl (if neg then !PyData.eqv (toP p) (toP q) else PyData.eqv (toP p) (toP q))) else none
theorem jM(hu:X.A.units+64<cLine):OpD X C (compareOp .Eq) (eqD false):=by
 intro pins s σ H x y v u Q I rx ry hw
 obtain⟨e,Ω,d₁,d₂,z,eH,w,i1,i2,q,kk⟩:=hw
 subst eH
 unfold eqD at q
 split at q
 ·rename_i hs
  rw[Bool.and_eq_true] at hs
  cases q
  obtain⟨as,r1⟩:=jb I rfl w.fh d₁ (SeqAt.canLay_of_shaped hs.1) i1 rx
  obtain⟨bs,r2⟩:=jb I rfl w.fh d₂ (SeqAt.canLay_of_shaped hs.2) i2 ry
  exact eq_dataH r1 r2 hs.1 hs.2 hu ⟨.bl _,e.H,I,rfl,kk _ e (Ext.refl e) w (by rw[Is];rfl)⟩
 ·cases q
theorem Ac(hu:X.A.units+64<cLine):OpD X C (compareOp .NotEq) (eqD true):=by
 intro pins s σ H x y v u Q I rx ry hw
 obtain⟨e,Ω,d₁,d₂,z,eH,w,i1,i2,q,kk⟩:=hw
 subst eH
 unfold eqD at q
 split at q
 ·rename_i hs
  rw[Bool.and_eq_true] at hs
  cases q
  obtain⟨as,r1⟩:=jb I rfl w.fh d₁ (SeqAt.canLay_of_shaped hs.1) i1 rx
  obtain⟨bs,r2⟩:=jb I rfl w.fh d₂ (SeqAt.canLay_of_shaped hs.2) i2 ry
  exact ne_dataH r1 r2 hs.1 hs.2 hu ⟨.bl _,e.H,I,rfl,kk _ e (Ext.refl e) w (by rw[Is];rfl)⟩
 ·cases q
noncomputable def isNone:D->Bool
 | .non=>true
 | _=>false
noncomputable def CJ:D->Bool
 | .non=>true
 | .int _=>true
 | .tup _=>true
 | .lst _=>true
 | _=>false
noncomputable def isB(neg p:Bool):D->Option D
 | .bl q=>some (.bl (if neg then !(q==p) else q==p))
 | d=>if CJ d then some (.bl neg) else none
noncomputable def isD(neg:Bool)(d:D):D->Option D
 | .non=>some (.bl (if neg then !isNone d else isNone d))
 | .bl p=>isB neg p d
 | _=>none
theorem uY{K:PySem.W.Frag}{α:List Addr}{F:Hp}{d:D}{v:V}(h:Is K α F d v):decide (v=.non)=isNone d:=by
 cases d<;>rw[Is] at h
 ·subst h;rfl
 ·subst h;rfl
 ·subst h;rfl
 ·subst h;rfl
 ·obtain⟨a,vs,rfl,_⟩:=h;rfl
 ·obtain⟨a,vs,rfl,_⟩:=h;rfl
 ·obtain⟨a,rfl,_⟩:=h;rfl
 ·obtain⟨a,_,rfl⟩:=h;rfl
theorem xr{K:PySem.W.Frag}{α:List Addr}{F:Hp}{d:D}{v:V}{u:Value}{p:Bool}(h:CJ d=true)(i:Is K α F d v)(r:RelV v u):plainIs u (.bool p)=true/\u ≠ .bool p:=by
 cases d with
 | non=>rw[Is] at i;subst i;cases (show u=Value.none from r);exact⟨rfl,fun z=>by cases z⟩
 | int i'=>rw[Is] at i;subst i;obtain⟨t,rfl⟩:=(show ∃t,u=Value.int i' t from r);exact⟨rfl,fun z=>by cases z⟩
 | tup _=>rw[Is] at i;obtain⟨l,vs,rfl,_⟩:=i;cases (show u=Value.ref l from r);exact⟨rfl,fun z=>by cases z⟩
 | lst _=>rw[Is] at i;obtain⟨l,vs,rfl,_⟩:=i;cases (show u=Value.ref l from r);exact⟨rfl,fun z=>by cases z⟩
 | _=>cases h
theorem xu{neg p:Bool}{d z:D}(q:isB neg p d=some z):(∃r,d=.bl r/\z=.bl (if neg then !(r==p) else r==p))\/(CJ d=true/\z=.bl neg):=by
 unfold isB at q
 split at q
 ·cases q;exact .inl ⟨_,rfl,rfl⟩
 ·split at q
  ·cases q;exact .inr ⟨‹_›,rfl⟩
  ·cases q
theorem xF{neg:Bool}{d₁ d₂ z:D}(q:isD neg d₁ d₂=some z):(d₂=.non/\z=.bl (if neg then !isNone d₁ else isNone d₁))\/∃p,d₂=.bl p/\isB neg p d₁=some z:=by
 unfold isD at q
 split at q
 ·cases q;exact .inl ⟨rfl,rfl⟩
 ·exact .inr ⟨_,rfl,q⟩
 ·cases q
theorem sX(p r:Bool):(Value.bool p==Value.bool r)=(p==r):=by cases p<;>cases r<;>rfl
theorem lC:OpD X C (compareOp .Is) (isD false):=by
 intro pins s σ H x y v u Q I rx ry hw
 obtain⟨e,Ω,d₁,d₂,z,eH,w,i1,i2,q,kk⟩:=hw
 subst eH
 rcases xF q with⟨rfl,rfl⟩ |⟨p,rfl,q⟩
 ·rw[Is] at i2
  subst i2
  refine Ib pins s σ _ _ _ v u Q I rx ry ⟨rfl,?_⟩
  rw[uY i1]
  exact kk _ e (Ext.refl e) w (by rw[Is];rfl)
 ·rw[Is] at i2
  subst i2
  cases (show u=Value.bool p from ry)
  rcases xu q with⟨r,rfl,rfl⟩ |⟨ho,rfl⟩
  ·rw[Is] at i1
   subst i1
   cases (show v=Value.bool r from rx)
   refine wpAny_is_plain rfl ?_
   rw[sX]
   exact⟨.bl _,e.H,I,rfl,kk _ e (Ext.refl e) w (by rw[Is];rfl)⟩
  ·obtain⟨h1,h2⟩:=xr (p:=p) ho i1 rx
   exact wpAny_is_other h1 h2 ⟨.bl _,e.H,I,rfl,kk _ e (Ext.refl e) w (by rw[Is])⟩
theorem kh:OpD X C (compareOp .IsNot) (isD true):=by
 intro pins s σ H x y v u Q I rx ry hw
 obtain⟨e,Ω,d₁,d₂,z,eH,w,i1,i2,q,kk⟩:=hw
 subst eH
 rcases xF q with⟨rfl,rfl⟩ |⟨p,rfl,q⟩
 ·rw[Is] at i2
  subst i2
  refine Fi pins s σ _ _ _ v u Q I rx ry ⟨rfl,?_⟩
  rw[uY i1]
  exact kk _ e (Ext.refl e) w (by rw[Is];rfl)
 ·rw[Is] at i2
  subst i2
  cases (show u=Value.bool p from ry)
  rcases xu q with⟨r,rfl,rfl⟩ |⟨ho,rfl⟩
  ·rw[Is] at i1
   subst i1
   cases (show v=Value.bool r from rx)
   refine wpAny_isNot_plain rfl ?_
   rw[sX]
   exact⟨.bl _,e.H,I,rfl,kk _ e (Ext.refl e) w (by rw[Is];rfl)⟩
  ·obtain⟨h1,h2⟩:=xr (p:=p) ho i1 rx
   exact wpAny_isNot_other h1 h2 ⟨.bl _,e.H,I,rfl,kk _ e (Ext.refl e) w (by rw[Is])⟩
noncomputable def dN(p q:bR):bR:=fun ρ Ω=>match p ρ Ω with
 | some (true,Ω')=>q ρ Ω'
 | some (false,Ω')=>some (false,Ω')
 | none=>none
noncomputable def pG(p q:bR):bR:=fun ρ Ω=>match p ρ Ω with
 | some (true,Ω')=>some (true,Ω')
 | some (false,Ω')=>q ρ Ω'
 | none=>none
noncomputable def jA(p:bR):bR:=fun ρ Ω=>match p ρ Ω with
 | some (k,Ω')=>some (!k,Ω')
 | none=>none
variable {p q:bR} {rest:List Expr}
theorem CK{K:PySem.W.Frag}{σ:St}{H:Hp}{Q:Bool->Hp->Prop}(hw:tDT K C (dN p q) σ H Q):Hw (tDT K C p) (tDT K C q) σ H Q:=by
 obtain⟨e,Ω,ρ,k,Ω',eH,w,rl,e1,kk⟩:=hw
 unfold dN at e1
 cases e2:p ρ Ω with
 | none=>rw[e2] at e1;cases e1
 | some z =>
  obtain⟨k1,Ω1⟩:=z
  rw[e2] at e1
  refine⟨e,Ω,ρ,k1,Ω1,eH,w,rl,e2,fun e' x' w'=>?_⟩
  cases k1 with
  | true =>
   rw[if_pos rfl]
   exact⟨e',Ω1,ρ,k,Ω',rfl,w',rl.ext x',e1,fun e'' x'' w''=>kk e'' (x'.trans x'') w''⟩
  | false =>
   rw[if_neg (by decide)]
   cases e1
   exact kk e' x' w'
theorem Gb{K:PySem.W.Frag}{σ:St}{H:Hp}{Q:Bool->Hp->Prop}(hw:tDT K C (pG p q) σ H Q):tOr (tDT K C p) (tDT K C q) σ H Q:=by
 obtain⟨e,Ω,ρ,k,Ω',eH,w,rl,e1,kk⟩:=hw
 unfold pG at e1
 cases e2:p ρ Ω with
 | none=>rw[e2] at e1;cases e1
 | some z =>
  obtain⟨k1,Ω1⟩:=z
  rw[e2] at e1
  refine⟨e,Ω,ρ,k1,Ω1,eH,w,rl,e2,fun e' x' w'=>?_⟩
  cases k1 with
  | true =>
   rw[if_pos rfl]
   cases e1
   exact kk e' x' w'
  | false =>
   rw[if_neg (by decide)]
   exact⟨e',Ω1,ρ,k,Ω',rfl,w',rl.ext x',e1,fun e'' x'' w''=>kk e'' (x'.trans x'') w''⟩
theorem jc(ha:PDT X C a p):PDW X C (.BoolOp .And [a] pos) p:=EY ha
theorem xG(ha:PDT X C a p):PDW X C (.BoolOp .Or [a] pos) p:=Hx ha
theorem jd(ha:PDT X C a p)(hb:PDW X C (.BoolOp .And (b::rest) pos) q):PDW X C (.BoolOp .And (a::b::rest) pos) (dN p q):=z_ (Hy ha hb) fun _ _ _ h=>CK h
theorem Ad(ha:PDT X C a p)(hb:PDW X C (.BoolOp .Or (b::rest) pos) q):PDW X C (.BoolOp .Or (a::b::rest) pos) (pG p q):=z_ (JS ha hb) fun _ _ _ h=>Gb h
theorem PDW.pt(h:PDW X C x p):PDT X C x p:=PW.pt h
theorem rG(ha:PDT X C a p):PDT X C (.UnaryOp .Not a pos) (jA p):=lz (Hz ha) fun σ H Q hw'=>by
 obtain⟨e,Ω,ρ,k,Ω',eH,w,rl,e1,kk⟩:=hw'
 unfold jA at e1
 cases e2:p ρ Ω with
 | none=>rw[e2] at e1;cases e1
 | some z =>
  obtain⟨k1,Ω1⟩:=z
  rw[e2] at e1
  cases e1
  exact⟨e,Ω,ρ,k1,_,eH,w,rl,e2,kk⟩
noncomputable def yN(f g:Den):Den:=fun ρ Ω=>match f ρ Ω with
 | some (.bl true,Ω')=>some (.bl true,Ω')
 | some (.bl false,Ω')=>g ρ Ω'
 | _=>none
theorem Je{op}(h:PD X C a f):PD X C (.BoolOp op [a] pos) f:=HB h
theorem Kp(ha:PD X C a f)(hb:PD X C (.BoolOp .Or (b::rest) pos) g):PD X C (.BoolOp .Or (a::b::rest) pos) (yN f g):=bT (JT ha hb) fun σ H Q hw'=>by
 obtain⟨e,Ω,ρ,d,Ω',eH,w,rl,e1,kk⟩:=hw'
 unfold yN at e1
 cases e2:f ρ Ω with
 | none=>rw[e2] at e1;cases e1
 | some z =>
  obtain⟨d1,Ω1⟩:=z
  rw[e2] at e1
  refine⟨e,Ω,ρ,d1,Ω1,eH,w,rl,e2,fun v e' x' w' i'=>?_⟩
  cases d1 with
  | bl k1 =>
   rw[Is] at i'
   refine⟨k1,i',?_⟩
   cases k1 with
   | true =>
    rw[if_pos rfl]
    cases e1
    exact kk _ e' x' w' (by rw[Is])
   | false =>
    rw[if_neg (by decide)]
    exact⟨e',Ω1,ρ,d,Ω',rfl,w',rl.ext x',e1,fun v e'' x'' w''=>kk v e'' (x'.trans x'') w''⟩
  | _=>cases e1
end
end DL
namespace DL
open PySem PySem.Spec PyProof.Rows L2
section
variable {X:Cx} {C:Cl} {a b c x:Expr} {es:List Expr} {f g h:Den} {ga:bz} {pos:Pos}
noncomputable def au:bz:=fun _ Ω=>some ([],Ω)
noncomputable def ak(f:Den)(g:bz):bz:=fun ρ Ω=>match f ρ Ω with
 | some (d,Ω1)=>match g ρ Ω1 with
  | some (ds,Ω2)=>some (d::ds,Ω2)
  | none=>none
 | none=>none
theorem aC:PDA X C [] au:=Aa jH fun σ H Q hw'=>by
 obtain⟨e,Ω,ρ,ds,Ω',eH,w,rl,e1,kk⟩:=hw'
 subst eH
 cases e1
 exact kk [] e (Ext.refl e) w .nil
theorem aq(ha:PD X C x f)(hr:PDA X C es ga)(hs:starEach (x::es) X.env=(false,eval x X.env)::starEach es X.env:=by rfl):PDA X C (x::es) (ak f ga) :=
 Aa (i_ ha hr hs) fun σ H Q hw'=>by
  obtain⟨e,Ω,ρ,ds,Ω',eH,w,rl,e1,kk⟩:=hw'
  unfold ak at e1
  cases q1:f ρ Ω with
  | none=>rw[q1] at e1;cases e1
  | some p1 =>
   obtain⟨d,Ω1⟩:=p1
   rw[q1] at e1
   dsimp only at e1
   cases q2:ga ρ Ω1 with
   | none=>rw[q2] at e1;cases e1
   | some p2 =>
    obtain⟨ds',Ω2⟩:=p2
    rw[q2] at e1
    cases e1
    refine⟨e,Ω,ρ,d,Ω1,eH,w,rl,q1,fun v e' x' w' i'=>?_⟩
    exact⟨e',Ω1,ρ,ds',_,rfl,w',rl.ext x',q2,fun vs e'' x'' w'' i''=>kk _ e'' (x'.trans x'') w'' (.cons (i'.ext x'') i'')⟩
noncomputable def bD(g:bz):Den:=fun ρ Ω=>match g ρ Ω with
 | some (ds,Ω')=>if ds.length<=big then some (.tup ds,Ω') else none
 | none=>none
noncomputable def fj(g:bz):Den:=fun ρ Ω=>match g ρ Ω with
 | some (ds,Ω')=>if ds.length<=big then some (.lst ds,Ω') else none
 | none=>none
theorem cM{x1}(ha:PDA X C es ga):PD X C (.Tuple es x1 pos) (bD ga):=bT (Ih ha) fun σ H Q hw'=>by
 obtain⟨e,Ω,ρ,d,Ω',eH,w,rl,e1,kk⟩:=hw'
 unfold bD at e1
 cases q1:ga ρ Ω with
 | none=>rw[q1] at e1;cases e1
 | some p1 =>
  obtain⟨ds,Ω1⟩:=p1
  rw[q1] at e1
  dsimp only at e1
  split at e1
  ·rename_i hl
   cases e1
   refine⟨e,Ω,ρ,ds,_,eH,w,rl,q1,fun vs e' x' w' i'=>⟨by rw[<-i'.length];exact fW hl,fun p hp=>?_⟩⟩
   refine kk _ (e'.new p (.tup vs)) (x'.trans (w'.new_ext hp)) (w'.new hp) ?_
   rw[Is]
   exact⟨p,vs,rfl,aK,i'.ext (w'.new_ext hp)⟩
  ·cases e1
theorem jn(ha:PDA X C es ga):PD X C (.List es pos) (fj ga):=bT (uN ha) fun σ H Q hw'=>by
 obtain⟨e,Ω,ρ,d,Ω',eH,w,rl,e1,kk⟩:=hw'
 unfold fj at e1
 cases q1:ga ρ Ω with
 | none=>rw[q1] at e1;cases e1
 | some p1 =>
  obtain⟨ds,Ω1⟩:=p1
  rw[q1] at e1
  dsimp only at e1
  split at e1
  ·rename_i hl
   cases e1
   refine⟨e,Ω,ρ,ds,_,eH,w,rl,q1,fun vs e' x' w' i'=>⟨by rw[<-i'.length];exact fW hl,fun p hp=>?_⟩⟩
   refine kk _ (e'.new p (.lst vs)) (x'.trans (w'.new_ext hp)) (w'.new hp) ?_
   rw[Is]
   exact⟨p,vs,rfl,aK,i'.ext (w'.new_ext hp)⟩
  ·cases e1
noncomputable def ixD:D->D->Option D
 | .lst xs,.int i=>atI xs i
 | .tup xs,.int i=>atI xs i
 | .scr ns,.int i=>(atI ns i).map D.int
 | .str z,.int i=>if z.length<=big then(atI z.cps.toList i).map fun c=>D.str ⟨#[c]⟩ else none
 | _,_=>none
theorem Ae{K:PySem.W.Frag}{α:List Addr}{F:Hp}{ds:List D}{vs:List V}{i:Int}{d:D}(r:IsL K α F ds vs)(h:atI ds i=some d):∃v,atI vs i=some v/\Is K α F d v:=by
 unfold atI at h ⊢
 rw[<-r.length]
 cases q:ixN ds.length i with
 | none=>rw[q] at h;cases h
 | some j =>
  rw[q] at h
  exact r.get h
theorem CN{K:PySem.W.Frag}:∀x y H Q,(∃e Ω d₁ d₂ z,e.H=H/\Wf K C e Ω/\Is K e.α e.F d₁ x/\Is K e.α e.F d₂ y/\ixD d₁ d₂=some z/\∀v e',Ext e e'->Wf K C e' Ω->Is K e'.α e'.F z v->Q v e'.H)->rIx K x y H Q:=by
 rintro x y H Q ⟨e,Ω,d₁,d₂,z,eH,w,i1,i2,q,kk⟩
 subst eH
 unfold ixD at q
 cases d₁<;>cases d₂<;>first |cases q |skip
 ·rename_i zz i
  dsimp only at q
  simp only[Is] at i1 i2
  subst i1 i2
  split at q
  ·rename_i hl
   cases e2:atI zz.cps.toList i with
   | none=>rw[e2] at q;cases q
   | some c =>
    rw[e2] at q
    cases q
    exact .inr (.inr ⟨zz,i,c,rfl,rfl,fW hl,e2,kk _ e (Ext.refl e) w (by rw[Is])⟩)
  ·cases q
 ·rename_i xs i
  simp only[Is] at i1 i2
  obtain⟨p,vs,rfl,h1,r1⟩:=i1
  subst i2
  obtain⟨v,e1,i3⟩:=Ae r1 q
  exact .inr (.inl ⟨p,vs,i,v,rfl,rfl,SqT.of (w.fh _ _ h1),e1,kk v e (Ext.refl e) w i3⟩)
 ·rename_i xs i
  simp only[Is] at i1 i2
  obtain⟨p,vs,rfl,h1,r1⟩:=i1
  subst i2
  obtain⟨v,e1,i3⟩:=Ae r1 q
  exact .inl ⟨p,vs,i,v,rfl,rfl,SqL.of (w.fh _ _ h1),e1,kk v e (Ext.refl e) w i3⟩
 ·rename_i ns i
  simp only[Is] at i1 i2
  obtain⟨p,rfl,h1⟩:=i1
  subst i2
  dsimp only at q
  cases e2:atI ns i with
  | none=>rw[e2] at q;cases q
  | some n =>
   rw[e2] at q
   cases q
   refine .inl ⟨p,ns.map V.int,i,.int n,rfl,rfl,w.fh.seq h1,?_,kk _ e (Ext.refl e) w (by rw[Is])⟩
   unfold atI at e2 ⊢
   rw[List.length_map]
   cases e3:ixN ns.length i with
   | none=>rw[e3] at e2;cases e2
   | some j =>
    rw[e3] at e2
    show(ns.map V.int)[j]? = _
    rw[List.getElem?_map,show ns[j]? = some n from e2]
    rfl
theorem bh(ha:PD X C a f)(hb:PD X C b g)(hs:wZ b:=by intro _ _;rfl):PD X C (.Subscript a b pos) (gOp ixD f g) :=
 bT (Kh Io ha hb hs) fun σ H Q hw=>oA CN hw
noncomputable def CallD(X:Cx)(C:Cl)(f:Value)(r:List D->Option D):Prop :=
 lO X f fun xs H Q=>∃e Ω ds z,e.H=H/\Wf X.K C e Ω/\IsL X.K e.α e.F ds xs/\r ds=some z/\∀v e',Ext e e'->Wf X.K C e' Ω->Is X.K e'.α e'.F z v->Q v e'.H
noncomputable def gCB(r:List D->Option D)(g:bz):Den:=fun ρ Ω=>match g ρ Ω with
 | some (ds,Ω1)=>match r ds with
  | some z=>some (z,Ω1)
  | none=>none
 | none=>none
theorem Gd{K:PySem.W.Frag}{r:List D->Option D}{σ:St}{H:Hp}{Q:VK}(hw:tD K C (gCB r ga) σ H Q) :
  tCB (fun xs H Q=>∃e Ω ds z,e.H=H/\Wf K C e Ω/\IsL K e.α e.F ds xs/\r ds=some z/\∀v e',Ext e e'->Wf K C e' Ω->Is K e'.α e'.F z v->Q v e'.H) (tDA K C ga) σ H Q:=by
 obtain⟨e,Ω,ρ,d,Ω',eH,w,rl,e1,kk⟩:=hw
 unfold gCB at e1
 cases q1:ga ρ Ω with
 | none=>rw[q1] at e1;cases e1
 | some p1 =>
  obtain⟨ds,Ω1⟩:=p1
  rw[q1] at e1
  dsimp only at e1
  cases q2:r ds with
  | none=>rw[q2] at e1;cases e1
  | some z =>
   rw[q2] at e1
   cases e1
   exact⟨e,Ω,ρ,ds,_,eH,w,rl,q1,fun vs e' x' w' i'=>⟨e',_,ds,_,rfl,w',i',q2,fun v e'' x'' w''=>kk v e'' (x'.trans x'') w''⟩⟩
theorem pH{id:String}{n:Str}{p:Pos}{r:List D->Option D}(hc:CallD X C (.builtin id) r)(hg:Gl X n)(hm:X.mg n=none)(hv:bootBuiltins n=some (.builtin id))(ha:PDA X C (x::es) ga)(hn:n ≠ "__name__":=by decide)(hdb:(n==("__debug__":Str))=false:=by decide)
  (he:starEach (x::es) X.env=(false,eval x X.env)::starEach es X.env:=by rfl) (hpl:(backTo pos (starEach es X.env)).any (·.1)=false:=by rfl):PD X C (.Call (.Name n p) (x::es) [] pos) (gCB r ga) :=
 bT (pB hc hg hm hv ha hn hdb he hpl) fun _ _ _ hw=>Gd hw
theorem jF{K:PySem.W.Frag}{α:List Addr}{F:Hp}{d:D}{vs:List V}(h:IsL K α F [d] vs):∃v,vs=[v]/\Is K α F d v:=by
 obtain⟨v,r,rfl,i,t⟩:=h.of_cons
 rw[t.of_nil]
 exact⟨v,rfl,i⟩
theorem xH{K:PySem.W.Frag}{α:List Addr}{F:Hp}{d d':D}{vs:List V}(h:IsL K α F [d,d'] vs):∃v u,vs=[v,u]/\Is K α F d v/\Is K α F d' u:=by
 obtain⟨v,r,rfl,i,t⟩:=h.of_cons
 obtain⟨u,rfl,i2⟩:=jF t
 exact⟨v,u,rfl,i,i2⟩
noncomputable def rH:List D->Option D
 | [.lst xs]=>some (.int xs.length)
 | [.tup xs]=>some (.int xs.length)
 | [.scr ns]=>some (.int ns.length)
 | [.str z]=>if z.length<=big then some (.int z.length) else none
 | _=>none
theorem sY:CallD X C (.builtin "len") rH:=by
 intro pins s σ H xs us Q I r hw
 obtain⟨e,Ω,ds,z,eH,w,i,q,kk⟩:=hw
 subst eH
 match ds,q with
 | [.lst ys],q =>
  obtain⟨v,rfl,iv⟩:=jF i
  rw[Is] at iv
  obtain⟨p,vs,rfl,h1,r1⟩:=iv
  cases q
  exact jJ pins s σ _ _ us Q I r ⟨p,vs,rfl,.inl (SqL.of (w.fh _ _ h1)),kk _ e (Ext.refl e) w (by rw[Is,r1.length])⟩
 | [.tup ys],q =>
  obtain⟨v,rfl,iv⟩:=jF i
  rw[Is] at iv
  obtain⟨p,vs,rfl,h1,r1⟩:=iv
  cases q
  exact jJ pins s σ _ _ us Q I r ⟨p,vs,rfl,.inr (SqT.of (w.fh _ _ h1)),kk _ e (Ext.refl e) w (by rw[Is,r1.length])⟩
 | [.scr ns],q =>
  obtain⟨v,rfl,iv⟩:=jF i
  rw[Is] at iv
  obtain⟨p,rfl,h1⟩:=iv
  cases q
  exact jJ pins s σ _ _ us Q I r ⟨p,_,rfl,.inl (w.fh.seq h1),kk _ e (Ext.refl e) w (by rw[Is,List.length_map])⟩
 | [.str zz],q =>
  obtain⟨v,rfl,iv⟩:=jF i
  rw[Is] at iv
  subst iv
  have q:(if zz.length<=big then some (D.int zz.length) else none)=some z:=q
  split at q
  ·rename_i hl
   cases q
   exact uP pins s σ _ _ us Q I r ⟨zz,rfl,fW hl,kk _ e (Ext.refl e) w (by rw[Is])⟩
  ·cases q
noncomputable def uD:List D->Option D
 | [.int i,.int j]=>some (.int (if j<i then j else i))
 | _=>none
theorem Af(hc:X.calm=true):CallD X C (.builtin "min") uD:=by
 intro pins s σ H xs us Q I r hw
 obtain⟨e,Ω,ds,z,eH,w,i,q,kk⟩:=hw
 subst eH
 obtain⟨k,j,rfl,rfl⟩:∃k j,ds=[.int k,.int j]/\z=.int (if j<k then j else k):=by
  unfold uD at q
  split at q
  ·cases q;exact⟨_,_,rfl,rfl⟩
  ·cases q
 ·obtain⟨v,u,rfl,i1,i2⟩:=xH i
  rw[Is] at i1 i2
  subst i1 i2
  exact zM hc pins s σ _ _ us Q I r ⟨k,j,rfl,kk _ e (Ext.refl e) w (by rw[Is])⟩
end
end DL
namespace DL
open PySem PySem.Spec PyProof.Rows L2
inductive Out where
 | nx (ρ:List Sl) (Ω:List OS) |rt (d:D) (Ω:List OS) |bk (ρ:List Sl) (Ω:List OS) |ct (ρ:List Sl) (Ω:List OS)
noncomputable abbrev aO:=List Sl->List OS->Option Out
structure RelS(K:PySem.W.Frag)(C:Cl)(e₀ e:E4)(Ω:List OS)(σ:St)(ρ:List Sl):Prop where
 wf:Wf K C e Ω
 rel:RelE K e σ ρ
 ext:Ext e₀ e
 fresh:∀(i:Nat) (ds:List D) (a:Addr),ρ[i]? = some (.own ds)->σ[i]? = some (some (.ref a))->e₀.H a=none
noncomputable def Kq(K:PySem.W.Frag)(C:Cl)(e₀:E4)(Dn:Ends):Out->Prop
 | .nx ρ Ω=>∀e σ,RelS K C e₀ e Ω σ ρ->Dn.nx σ e.H
 | .bk ρ Ω=>∀e σ,RelS K C e₀ e Ω σ ρ->Dn.bk σ e.H
 | .ct ρ Ω=>∀e σ,RelS K C e₀ e Ω σ ρ->Dn.ct σ e.H
 | .rt d Ω=>∀e v,Ext e₀ e->Wf K C e Ω->Is K e.α e.F d v->Dn.rt v e.H
noncomputable def tDS(K:PySem.W.Frag)(C:Cl)(e₀:E4)(g:aO):TS:=fun Dn σ H=>∃e Ω ρ o,e.H=H/\RelS K C e₀ e Ω σ ρ/\g ρ Ω=some o/\Kq K C e₀ Dn o
noncomputable def PDS(X:Cx)(C:Cl)(st:Stmt)(g:aO):Prop:=∀e₀,PS X st (tDS X.K C e₀ g)
noncomputable def PDB(X:Cx)(C:Cl)(st:List Stmt)(g:aO):Prop:=∀e₀,PSs X st (tDS X.K C e₀ g)
section
variable {K:PySem.W.Frag} {C:Cl} {e₀ e e':E4} {Ω Ω':List OS} {σ:St} {ρ:List Sl}
theorem RelS.to(r:RelS K C e₀ e Ω σ ρ)(x:Ext e e')(w:Wf K C e' Ω'):RelS K C e₀ e' Ω' σ ρ:=⟨w,r.rel.ext x,r.ext.trans x,r.fresh⟩
theorem g_{i j:Nat}{d:D}{ds:List D}(h:(ρ.set i (.dat d))[j]? = some (.own ds)):i≠j:=fun e1=>by
 subst e1
 have hl:i<ρ.length:=by
  have:=(List.getElem?_eq_some_iff.mp h).1
  simpa using this
 rw[List.getElem?_set_self hl] at h
 cases h
theorem RelS.set(r:RelS K C e₀ e Ω σ ρ)(i:Nat){d:D}{v:V}(h:Is K e.α e.F d v):RelS K C e₀ e Ω (σ.set i (some v)) (ρ.set i (.dat d)) :=
 ⟨r.wf,r.rel.set i h,r.ext,fun j ds a h1 h2=>by
  have n:=g_ h1
  rw[List.getElem?_set_ne n] at h1 h2
  exact r.fresh j ds a h1 h2⟩
end
section
variable {X:Cx} {C:Cl} {a b c x:Expr} {f g:Den} {p:bR} {st:Stmt} {rest sts sts':List Stmt} {s t:aO} {pos:Pos}
noncomputable def bc:aO:=fun ρ Ω=>some (.nx ρ Ω)
noncomputable def aH(s t:aO):aO:=fun ρ Ω=>match s ρ Ω with
 | some (.nx ρ' Ω')=>t ρ' Ω'
 | r=>r
theorem bK:PDB X C [] bc:=fun e₀=>rE E_ fun Dn σ H hw'=>by
 obtain⟨e,Ω,ρ,o,eH,r,q,k⟩:=hw'
 subst eH
 cases q
 exact k e σ r
theorem aD(h1:PDS X C st s)(h2:PDB X C rest t):PDB X C (st::rest) (aH s t):=fun e₀=>rE (By (h1 e₀) (h2 e₀)) fun Dn σ H hw'=>by
 obtain⟨e,Ω,ρ,o,eH,r,q,k⟩:=hw'
 unfold aH at q
 cases q1:s ρ Ω with
 | none=>rw[q1] at q;cases q
 | some o1 =>
  rw[q1] at q
  refine⟨e,Ω,ρ,o1,eH,r,q1,?_⟩
  cases o1 with
  | nx ρ' Ω'=>exact fun e' σ' r'=>⟨e',Ω',ρ',o,rfl,r',q,k⟩
  | rt d Ω'=>cases q;exact k
  | bk ρ' Ω'=>cases q;exact k
  | ct ρ' Ω'=>cases q;exact k
theorem aG(h1:PDS X C st s):PDB X C [st] s:=fun e₀=>Fb (h1 e₀)
noncomputable def mO(γ:List Sl->Option (List Sl))(s:aO):aO:=fun ρ Ω=>match γ ρ with
 | some ρ'=>s ρ' Ω
 | none=>none
noncomputable def Eo(γ:List Sl->Option (List Sl)):Prop:=∀(K:PySem.W.Frag) (C:Cl) (e₀ e:E4) (Ω:List OS) (σ:St) (ρ ρ':List Sl),γ ρ=some ρ'->RelS K C e₀ e Ω σ ρ->∃e',e'.H=e.H/\RelS K C e₀ e' Ω σ ρ'
theorem sZ{γ:List Sl->Option (List Sl)}(hγ:Eo γ)(h:PDB X C sts s):PDB X C sts (mO γ s):=fun e₀=>rE (h e₀) fun Dn σ H hw'=>by
 obtain⟨e,Ω,ρ,o,eH,r,q,k⟩:=hw'
 unfold mO at q
 cases q1:γ ρ with
 | none=>rw[q1] at q;cases q
 | some ρ' =>
  rw[q1] at q
  obtain⟨e',he,r'⟩:=hγ _ _ _ _ _ _ _ _ q1 r
  exact⟨e',Ω,ρ',o,he.trans eH,r',q,k⟩
noncomputable def frz(i:Nat):List Sl->Option (List Sl):=fun ρ=>match ρ[i]? with
 | some (.own ds)=>some (ρ.set i (.dat (.lst ds)))
 | _=>some ρ
theorem tu(i:Nat):Eo (frz i):=by
 intro K C e₀ e Ω σ ρ ρ' h r
 unfold frz at h
 cases q:ρ[i]? with
 | none=>rw[q] at h;cases h;exact⟨e,rfl,r⟩
 | some sl =>
  rw[q] at h
  cases sl with
  | und=>cases h;exact⟨e,rfl,r⟩
  | dat d=>cases h;exact⟨e,rfl,r⟩
  | own ds =>
   cases h
   obtain⟨a,vs,e1,e2,i1,n1,n2⟩:=r.rel.own i ds q
   have h0:=r.fresh i ds a q e1
   have ff:bB e.F (upd e.F a (.lst vs)):=fun b o hb=>by rw[aB (aM hb n1)];exact hb
   have fh:bB (upd e.F a (.lst vs)) e.H:=fun b o hb=>by
    by_cases hba:b=a
    ·subst hba;rw[aK] at hb;cases hb;exact e2
    ·rw[aB hba] at hb;exact r.wf.fh b o hb
   have fn:∀b o,(upd e.F a (.lst vs)) b=some o->e.F b=some o\/b=a:=fun b o hb=>by
    by_cases hba:b=a
    ·exact .inr hba
    ·rw[aB hba] at hb;exact .inl hb
   refine⟨⟨e.α,upd e.F a (.lst vs),e.A,e.H⟩,rfl,⟨fh,fun b hb=>?_,r.wf.ah,r.wf.ol,r.wf.nd,fun n b o h1 h2=>⟨(r.wf.ob n b o h1 h2).1,(r.wf.ob n b o h1 h2).2.keep (fun u hu=>hu) ff ⟨[],by simp⟩⟩⟩,⟨by simp[r.rel.len],fun j d hj=>?_,fun j es hj=>?_,fun j k ds' es b hj hk hj' hk'=>?_⟩,⟨r.ext.fz,r.ext.hk,r.ext.dm,r.ext.ff.trans ff,fun b o hb=>?_,r.ext.an,r.ext.aa,r.ext.al⟩,fun j es b hj hj'=>?_⟩
   ·show upd e.F a _ b=none
    rw[aB (fun z=>n2 (by rw[<-z];exact hb))]
    exact r.wf.fa b hb
   ·by_cases e3:i=j
    ·subst e3
     have hl:i<ρ.length:=(List.getElem?_eq_some_iff.mp q).1
     rw[List.getElem?_set_self hl] at hj
     cases hj
     refine⟨.ref a,e1,?_⟩
     rw[Is]
     exact⟨a,vs,rfl,aK,IsL.mono ff ⟨[],by simp⟩ ds i1⟩
    ·rw[List.getElem?_set_ne e3] at hj
     obtain⟨v,z1,z2⟩:=r.rel.dat j d hj
     exact⟨v,z1,Is.mono ff ⟨[],by simp⟩ d z2⟩
   ·have n:=g_ hj
    rw[List.getElem?_set_ne n] at hj
    obtain⟨a',vs',z1,z2,z3,z4,z5⟩:=r.rel.own j es hj
    have na:a'≠a:=fun z=>n (r.rel.sep i j ds es a q hj e1 (by rw[<-z];exact z1))
    exact⟨a',vs',z1,z2,IsL.mono ff ⟨[],by simp⟩ es z3,by show upd e.F a _ a'=none;rw[aB na];exact z4,z5⟩
   ·have n:=g_ hj
    have n':=g_ hk
    rw[List.getElem?_set_ne n] at hj
    rw[List.getElem?_set_ne n'] at hk
    exact r.rel.sep j k ds' es b hj hk hj' hk'
   ·rcases fn b o hb with z |z
    ·exact r.ext.fn b o z
    ·subst z;exact .inr (.inl h0)
   ·have n:=g_ hj
    rw[List.getElem?_set_ne n] at hj
    exact r.fresh j es b hj hj'
noncomputable def a_(i:Nat)(g:Den):aO:=fun ρ Ω=>match g ρ Ω with
 | some (d,Ω')=>some (.nx (ρ.set i (.dat d)) Ω')
 | none=>none
theorem CP{K:PySem.W.Frag}{e₀:E4}{i:Nat}{Dn:Ends}{σ:St}{H:Hp}(hw:tDS K C e₀ (a_ i g) Dn σ H):BP (tD K C g) (yq i) Dn σ H:=by
 obtain⟨e,Ω,ρ,o,eH,r,q,k⟩:=hw
 unfold a_ at q
 cases q1:g ρ Ω with
 | none=>rw[q1] at q;cases q
 | some p1 =>
  obtain⟨d,Ω'⟩:=p1
  rw[q1] at q
  cases q
  exact⟨e,Ω,ρ,d,Ω',eH,r.wf,r.rel,q1,fun v e' x' w' i'=>k e' _ ((r.to x' w').set i i')⟩
theorem bA{i:Nat}{n:Str}{pos':Pos}(hN:X.N.Nodup)(hi:X.N[i]? = some n)(hx:Loc X.env.scope n)(he:PD X C x g)(hs:swapsWith x (some (.Name n pos')) pos.line X.env=pure false:=by rfl)(hf:X.fn n=true\/X.env.scope.names.lookup n=some .local:=by first |exact .inl rfl |exact .inr rfl |assumption) :
  PDS X C (.Assign [.Name n pos'] x pos) (a_ i g):=fun e₀=>dG (zE hN hi hx he hs hf) fun Dn σ H h=>CP h
noncomputable def cg(g:Den):aO:=fun ρ Ω=>match g ρ Ω with
 | some (d,Ω')=>some (.rt d Ω')
 | none=>none
theorem bH(he:PD X C x g):PDS X C (.Return (some x) pos) (cg g):=fun e₀=>dG (HF he) fun Dn σ H hw'=>by
 obtain⟨e,Ω,ρ,o,eH,r,q,k⟩:=hw'
 unfold cg at q
 cases q1:g ρ Ω with
 | none=>rw[q1] at q;cases q
 | some p1 =>
  obtain⟨d,Ω'⟩:=p1
  rw[q1] at q
  cases q
  exact⟨e,Ω,ρ,d,Ω',eH,r.wf,r.rel,q1,fun v e' x' w' i'=>k e' v (r.ext.trans x') w' i'⟩
noncomputable def sIf(p:bR)(s t:aO):aO:=fun ρ Ω=>match p ρ Ω with
 | some (true,Ω')=>s ρ Ω'
 | some (false,Ω')=>t ρ Ω'
 | none=>none
theorem bW(hc:PDT X C c p)(ha:PDB X C sts s)(hb:PDB X C sts' t):PDS X C (.If c sts sts' pos) (sIf p s t):=fun e₀=>dG (JX hc (ha e₀) (hb e₀)) fun Dn σ H hw'=>by
 obtain⟨e,Ω,ρ,o,eH,r,q,k⟩:=hw'
 unfold sIf at q
 cases q1:p ρ Ω with
 | none=>rw[q1] at q;cases q
 | some p1 =>
  obtain⟨d,Ω'⟩:=p1
  rw[q1] at q
  refine⟨e,Ω,ρ,d,Ω',eH,r.wf,r.rel,q1,fun e' x' w'=>?_⟩
  cases d with
  | true=>rw[if_pos rfl];exact⟨e',Ω',ρ,o,rfl,r.to x' w',q,k⟩
  | false=>rw[if_neg (by decide)];exact⟨e',Ω',ρ,o,rfl,r.to x' w',q,k⟩
noncomputable def bw(g:Den):aO:=fun ρ Ω=>match g ρ Ω with
 | some (_,Ω')=>some (.nx ρ Ω')
 | none=>none
theorem cu(he:PD X C x g)(hs:swapsWith x none pos.line X.env=pure false:=by rfl):PDS X C (.Expr x pos) (bw g):=fun e₀=>dG (rz he hs) fun Dn σ H hw'=>by
 obtain⟨e,Ω,ρ,o,eH,r,q,k⟩:=hw'
 unfold bw at q
 cases q1:g ρ Ω with
 | none=>rw[q1] at q;cases q
 | some p1 =>
  obtain⟨d,Ω'⟩:=p1
  rw[q1] at q
  cases q
  exact⟨e,Ω,ρ,d,Ω',eH,r.wf,r.rel,q1,fun v e' x' w' i'=>k e' σ (r.to x' w')⟩
noncomputable def p_:aO:=fun _ _=>none
theorem tE:PDS X C st p_:=fun e₀=>dG BK fun Dn σ H hw'=>by obtain⟨e,Ω,ρ,o,eH,r,q,k⟩:=hw';cases q
noncomputable def uZ(i:Nat)(g:bz):aO:=fun ρ Ω=>match g ρ Ω with
 | some (ds,Ω')=>if ds.length<=big then some (.nx (ρ.set i (.own ds)) Ω') else none
 | none=>none
theorem xJ{i:Nat}{n:Str}{pos' lp:Pos}{es:List Expr}{ga:bz}(hN:X.N.Nodup)(hi:X.N[i]? = some n)(hx:Loc X.env.scope n)(he:PDA X C es ga)(hs:swapsWith (.List es lp) (some (.Name n pos')) pos.line X.env=pure false:=by rfl)(hf:X.fn n=true\/X.env.scope.names.lookup n=some .local:=by first |exact .inl rfl |exact .inr rfl |assumption) :
  PDS X C (.Assign [.Name n pos'] (.List es lp) pos) (uZ i ga):=fun e₀=>dG (zE hN hi hx (uN he) hs hf) fun Dn σ H hw'=>by
 obtain⟨e,Ω,ρ,o,eH,r,q,k⟩:=hw'
 unfold uZ at q
 cases q1:ga ρ Ω with
 | none=>rw[q1] at q;cases q
 | some p1 =>
  obtain⟨ds,Ω'⟩:=p1
  rw[q1] at q
  dsimp only at q
  split at q
  ·rename_i hl
   cases q
   refine⟨e,Ω,ρ,ds,Ω',eH,r.wf,r.rel,q1,fun vs e' x' w' i'=>⟨by rw[<-i'.length];exact fW hl,fun a ha=>?_⟩⟩
   have r':=r.to x' w'
   have hne:∀b u,e'.H b=some u->b≠a:=fun b u hb=>aM hb ha
   have hF:e'.F a=none:=w'.nF ha
   have hA:¬e'.A a:=fun z=>(w'.ah a z).1 ha
   have own1:∀(j:Nat) (es:List D),(ρ.set i (.own ds))[j]? = some (.own es)->(j=i/\es=ds/\i<ρ.length)\/(j≠i/\ρ[j]? = some (.own es)):=fun j es hj=>by
    by_cases e1:i=j
    ·subst e1
     have hl:i<ρ.length:=by
      have:=(List.getElem?_eq_some_iff.mp hj).1
      simpa using this
     rw[List.getElem?_set_self hl] at hj
     cases hj
     exact .inl ⟨rfl,rfl,hl⟩
    ·rw[List.getElem?_set_ne e1] at hj
     exact .inr ⟨fun z=>e1 z.symm,hj⟩
   refine k ⟨e'.α,e'.F,e'.A,upd e'.H a (.lst vs)⟩ _ ⟨⟨fun b u hb=>?_,w'.fa,fun b hb=>?_,w'.ol,w'.nd,fun n b u h1 h2=>⟨(w'.ob n b u h1 h2).1,(w'.ob n b u h1 h2).2.keep (fun z hz=>?_) (bB.refl _) ⟨[],by simp⟩⟩⟩,⟨by simp[r'.rel.len],fun j d hj=>?_,fun j es hj=>?_,fun j m es fs b hj hm h1 h2=>?_⟩,⟨fun b o' u hb=>by show upd e'.H a _ b=some (.frz o' u);rw[aB (hne b _ (r'.ext.fz b o' u hb))];exact r'.ext.fz b o' u hb,fun b u hb hn=>?_,fun b u hb=>?_,r'.ext.ff,r'.ext.fn,r'.ext.an,r'.ext.aa,r'.ext.al⟩,fun j es b hj h1=>?_⟩
   ·show upd e'.H a _ b=some u
    rw[aB (hne b u (w'.fh b u hb))];exact w'.fh b u hb
   ·show upd e'.H a _ b≠none/\∀xs,upd e'.H a _ b≠some (.tup xs)
    rw[aB (fun z=>hA (by rw[<-z];exact hb))];exact w'.ah b hb
   ·show upd e'.H a _ b=some z
    rw[aB (hne b z hz)];exact hz
   ·have n:i≠j:=fun e1=>by
     subst e1
     have hl:i<ρ.length:=by
      have:=(List.getElem?_eq_some_iff.mp hj).1
      simpa using this
     rw[List.getElem?_set_self hl] at hj
     cases hj
    rw[List.getElem?_set_ne n] at hj ⊢
    exact r'.rel.dat j d hj
   ·rcases own1 j es hj with⟨rfl,rfl,hq⟩ |⟨n,hj'⟩
    ·exact⟨a,vs,List.getElem?_set_self (by rw[r'.rel.len];exact hq),aK,i',hF,hA⟩
    ·obtain⟨b,us,z1,z2,z3,z4,z5⟩:=r'.rel.own j es hj'
     exact⟨b,us,by rw[List.getElem?_set_ne n.symm];exact z1,by show upd e'.H a _ b=_;rw[aB (hne b _ z2)];exact z2,z3,z4,z5⟩
   ·rcases own1 j es hj with⟨rfl,rfl,hq⟩ |⟨n,hj'⟩
    ·rcases own1 m fs hm with⟨rfl,_,_⟩ |⟨n',hm'⟩
     ·rfl
     ·rw[List.getElem?_set_self (by rw[r'.rel.len];exact hq)] at h1
      rw[List.getElem?_set_ne n'.symm] at h2
      obtain⟨b',us,z1,z2,_⟩:=r'.rel.own m fs hm'
      rw[h2] at z1
      cases h1
      cases z1
      exact absurd rfl (hne _ _ z2)
    ·rcases own1 m fs hm with⟨rfl,_,hq⟩ |⟨n',hm'⟩
     ·rw[List.getElem?_set_self (by rw[r'.rel.len];exact hq)] at h2
      rw[List.getElem?_set_ne n.symm] at h1
      obtain⟨b',us,z1,z2,_⟩:=r'.rel.own j es hj'
      rw[h1] at z1
      cases h2
      cases z1
      exact absurd rfl (hne _ _ z2)
     ·rw[List.getElem?_set_ne n.symm] at h1
      rw[List.getElem?_set_ne n'.symm] at h2
      exact r'.rel.sep j m es fs b hj' hm' h1 h2
   ·show upd e'.H a _ b=some u
    have z:=r'.ext.hk b u hb hn
    rw[aB (hne b u z)];exact z
   ·obtain⟨u',z⟩:=r'.ext.dm b u hb
    exact⟨u',by show upd e'.H a _ b=some u';rw[aB (hne b u' z)];exact z⟩
   ·rcases own1 j es hj with⟨rfl,rfl,hq⟩ |⟨n,hj'⟩
    ·rw[List.getElem?_set_self (by rw[r'.rel.len];exact hq)] at h1
     cases h1
     exact r'.ext.back ha
    ·rw[List.getElem?_set_ne n.symm] at h1
     exact r'.fresh j es b hj' h1
  ·cases q
noncomputable def kY(i:Nat)(g:Den):aO:=fun ρ Ω=>match g ρ Ω with
 | some (d,Ω')=>match ρ[i]? with
  | some (.own ds)=>if ds.length<big then some (.nx (ρ.set i (.own (ds++[d]))) Ω') else none
  | _=>none
 | none=>none
theorem CQ{K:PySem.W.Frag}{e₀:E4}{i:Nat}{Dn:Ends}{σ:St}{H:Hp}(hw:tDS K C e₀ (kY i g) Dn σ H) :
  Ef (tBM K "list" xg (rm i) (yE (tD K C g) yD)) Dn σ H:=by
 obtain⟨e,Ω,ρ,o,eH,r,q,k⟩:=hw
 subst eH
 unfold kY at q
 cases q1:g ρ Ω with
 | none=>rw[q1] at q;cases q
 | some p1 =>
  obtain⟨d,Ω'⟩:=p1
  rw[q1] at q
  dsimp only at q
  cases q2:ρ[i]? with
  | none=>rw[q2] at q;cases q
  | some sl =>
   rw[q2] at q
   cases sl with
   | own ds =>
    dsimp only at q
    split at q
    ·rename_i hl
     cases q
     obtain⟨a,vs,e1,e2,i1,n1,n2⟩:=r.rel.own i ds q2
     refine⟨.ref a,e1,.inl ⟨rfl,_,SqL.of e2⟩,?_⟩
     refine⟨e,Ω,ρ,d,Ω',rfl,r.wf,r.rel,q1,fun v e' x' w' i'=>?_⟩
     have r':=r.to x' w'
     obtain⟨a',vs',e1',e2',i1',n1',n2'⟩:=r'.rel.own i ds q2
     rw[e1] at e1'
     cases e1'
     refine⟨a,vs',v,rfl,rfl,e2',by rw[<-i1'.length];exact lB hl,?_⟩
     have hil:i<ρ.length:=(List.getElem?_eq_some_iff.mp q2).1
     have neH:∀(j:Nat) (es:List D) (b:Addr),j≠i->ρ[j]? = some (.own es)->σ[j]? = some (some (.ref b))->b≠a:=fun j es b n hj h1 z=>by
      subst z
      exact n (r'.rel.sep j i es ds b hj q2 h1 e1)
     have own1:∀(j:Nat) (es:List D),(ρ.set i (.own (ds++[d])))[j]? = some (.own es)->(j=i/\es=ds++[d])\/(j≠i/\ρ[j]? = some (.own es)):=fun j es hj=>by
      by_cases e3:i=j
      ·subst e3
       rw[List.getElem?_set_self hil] at hj
       cases hj
       exact .inl ⟨rfl,rfl⟩
      ·rw[List.getElem?_set_ne e3] at hj
       exact .inr ⟨fun z=>e3 z.symm,hj⟩
     refine k ⟨e'.α,e'.F,e'.A,upd e'.H a (.lst (vs'++[v]))⟩ σ ⟨⟨fun b u hb=>?_,w'.fa,fun b hb=>?_,w'.ol,w'.nd,fun n b u h1 h2=>⟨(w'.ob n b u h1 h2).1,(w'.ob n b u h1 h2).2.keep (fun z hz=>?_) (bB.refl _) ⟨[],by simp⟩⟩⟩,⟨by simp[r'.rel.len],fun j d' hj=>?_,fun j es hj=>?_,fun j m es fs b hj hm h1 h2=>?_⟩,⟨fun b o' u hb=>by have q:=r'.ext.fz b o' u hb;show upd e'.H a _ b=some (.frz o' u);rw[aB (fun z=>by rw[z,e2'] at q;cases q)];exact q,fun b u hb hn=>?_,fun b u hb=>?_,r'.ext.ff,r'.ext.fn,r'.ext.an,r'.ext.aa,r'.ext.al⟩,fun j es b hj h1=>?_⟩
     ·show upd e'.H a _ b=some u
      rw[aB (fun z=>by subst z;rw[n1'] at hb;cases hb)]
      exact w'.fh b u hb
     ·show upd e'.H a _ b≠none/\∀xs,upd e'.H a _ b≠some (.tup xs)
      rw[aB (fun z=>n2' (by rw[<-z];exact hb))]
      exact w'.ah b hb
     ·show upd e'.H a _ b=some z
      rw[aB (fun y=>n2' (by rw[<-y];exact(w'.ob n b u h1 h2).1))]
      exact hz
     ·have n:i≠j:=fun e3=>by
       subst e3
       rw[List.getElem?_set_self hil] at hj
       cases hj
      rw[List.getElem?_set_ne n] at hj
      exact r'.rel.dat j d' hj
     ·rcases own1 j es hj with⟨rfl,rfl⟩ |⟨n,hj'⟩
      ·exact⟨a,_,e1,aK,i1'.append (.cons i' .nil),n1',n2'⟩
      ·obtain⟨b,us,z1,z2,z3,z4,z5⟩:=r'.rel.own j es hj'
       exact⟨b,us,z1,by show upd e'.H a _ b=_;rw[aB (neH j es b n hj' z1)];exact z2,z3,z4,z5⟩
     ·rcases own1 j es hj with⟨rfl,_⟩ |⟨n,hj'⟩
      ·rcases own1 m fs hm with⟨rfl,_⟩ |⟨n',hm'⟩
       ·rfl
       ·exact r'.rel.sep _ m ds fs b q2 hm' h1 h2
      ·rcases own1 m fs hm with⟨rfl,_⟩ |⟨n',hm'⟩
       ·exact r'.rel.sep j _ es ds b hj' q2 h1 h2
       ·exact r'.rel.sep j m es fs b hj' hm' h1 h2
     ·show upd e'.H a _ b=some u
      have h0:=r'.fresh i ds a q2 e1
      rw[aB (aM hb h0)]
      exact r'.ext.hk b u hb hn
     ·have h0:=r'.fresh i ds a q2 e1
      obtain⟨u',z⟩:=r'.ext.dm b u hb
      exact⟨u',by show upd e'.H a _ b=some u';rw[aB (aM hb h0)];exact z⟩
     ·rcases own1 j es hj with⟨rfl,_⟩ |⟨n,hj'⟩
      ·exact r'.fresh _ ds b q2 h1
      ·exact r'.fresh j es b hj' h1
    ·cases q
   | und=>cases q
   | dat _=>cases q
end
end DL
namespace DL
open PySem PySem.Spec PyProof.Rows L2
open Classical in
noncomputable def hid(P:Addr->Prop)(H:Hp):Hp:=fun b=>if P b then none else H b
theorem xK{P:Addr->Prop}{H:Hp}{b:Addr}(h:P b):hid P H b=none:=if_pos h
theorem oF{P:Addr->Prop}{H:Hp}{b:Addr}(h:¬P b):hid P H b=H b:=if_neg h
theorem lX{P:Addr->Prop}{H:Hp}{b:Addr}{o:HO}(h:hid P H b=some o):H b=some o:=by
 by_cases q:P b
 ·rw[xK q] at h;cases h
 ·rw[oF q] at h;exact h
section
variable {K:PySem.W.Frag} {C:Cl} {e₀ e e':E4} {Ω Ω':List OS} {σ:St} {ρ:List Sl}
theorem RelS.mark(r:RelS K C e₀ e Ω σ ρ):∃e₁:E4,e₁.F=e.F/\e₁.α=e.α/\RelS K C e₁ e Ω σ ρ/\(∀e',Ext e₁ e'->Ext e₀ e')/\(∀b,e₁.H b=none->e₀.H b=none)/\∀b o u,e.H b=some (.frz o u)->e₁.H b=some (.frz o u):=by
 have ho:∀b,(∃(i:Nat) (ds:List D),ρ[i]? = some (Sl.own ds)/\σ[i]? = some (some (V.ref b)))->e₀.H b=none:=fun b ⟨i,ds,h1,h2⟩=>r.fresh i ds b h1 h2
 generalize hP:(fun b:Addr=>∃(i:Nat) (ds:List D),ρ[i]? = some (Sl.own ds)/\σ[i]? = some (some (V.ref b)))=P
 have ho':∀b,P b->e₀.H b=none:=fun b h=>ho b (by rw[<-hP] at h;exact h)
 have hno:∀b,hid P e.H b=none->e₀.H b=none:=fun b h=>by
  by_cases q:P b
  ·exact ho' b q
  ·rw[oF q] at h;exact r.ext.back h
 have hs:∀b o,e₀.H b=some o->hid P e.H b=e.H b:=fun b o h=>oF (fun q=>by rw[ho' b q] at h;cases h)
 refine⟨⟨e.α,e.F,e.A,hid P e.H⟩,rfl,rfl,⟨r.wf,r.rel,⟨fun b o u h=>lX h,fun b o h _=>lX h,fun b o h=>⟨o,lX h⟩,bB.refl _,fun b o h=>.inl h,fun b h=>.inl h,fun b h=>h,[],by simp⟩,fun i ds a h1 h2=>?_⟩,fun e' x=>⟨fun b o u h=>x.fz b o u ((hs b _ h).trans (r.ext.fz b o u h)),fun b o h hn=>?_,fun b o h=>?_,r.ext.ff.trans x.ff,fun b o h=>?_,fun b h=>?_,fun b h=>x.aa b (r.ext.aa b h),?_⟩,hno,fun b o u h=>(oF (fun q=>?_)).trans h⟩
 ·exact xK (by rw[<-hP];exact⟨i,ds,h1,h2⟩)
 ·have z:=r.ext.hk b o h hn
  refine x.hk b o ((hs b o h).trans z) fun hA=>?_
  rcases r.ext.an b hA with q |q
  ·exact hn q
  ·rw[q] at h;cases h
 ·obtain⟨o',z⟩:=r.ext.dm b o h
  exact x.dm b o' ((hs b o h).trans z)
 ·rcases x.fn b o h with q |q |⟨q1,q2,q3⟩
  ·exact r.ext.fn b o q
  ·exact .inr (.inl (hno b q))
  ·have n:¬e₀.A b:=fun z=>q3 (r.ext.aa b z)
   cases z:e₀.H b with
   | none=>exact .inr (.inl rfl)
   | some o' =>
    have z':=r.ext.hk b o' z n
    rw[lX q2] at z'
    cases z'
    exact .inr (.inr ⟨q1,rfl,n⟩)
 ·rcases x.an b h with q |q
  ·exact r.ext.an b q
  ·exact .inr (hno b q)
 ·obtain⟨m,e1⟩:=r.ext.al
  obtain⟨n,e2⟩:=x.al
  exact⟨m++n,by rw[e2];show e.α++n=_;rw[e1,List.append_assoc]⟩
 ·rw[<-hP] at q
  obtain⟨i,ds,h1,h2⟩:=q
  obtain⟨a',vs,e1,e2,_⟩:=r.rel.own i ds h1
  rw[h2] at e1
  cases e1
  rw[h] at e2
  cases e2
end
noncomputable abbrev cP:=D->List Sl->Option (List Sl)
noncomputable def tDG(K:PySem.W.Frag)(C:Cl)(β:cP):TG:=fun v σ H Q=>∃e Ω ρ d ρ',e.H=H/\Wf K C e Ω/\RelE K e σ ρ/\Is K e.α e.F d v/\β d ρ=some ρ' /\
 ∀σ',RelE K e σ' ρ'->(∀(j:Nat) (ds:List D),ρ'[j]? = some (.own ds)->ρ[j]? = some (.own ds)/\σ'[j]? = σ[j]?)->Q σ' e.H
noncomputable def PDG(X:Cx)(C:Cl)(tg:Expr)(β:cP):Prop:=PG X tg (tDG X.K C β)
theorem Ag{X:Cx}{tg:Expr}{t t':TG}(h:PG X tg t)(i:∀v σ H Q,t' v σ H Q->t v σ H Q):PG X tg t':=fun pins s σ H v u Q I r hw=>h pins s σ H v u Q I r (i v σ H Q hw)
theorem xM{X:Cx}{ts:List Expr}{t t':TGs}(h:PGs X ts t)(i:∀v σ H Q,t' v σ H Q->t v σ H Q):PGs X ts t':=fun pins s σ H v u Q I r hw=>h pins s σ H v u Q I r (i v σ H Q hw)
noncomputable def aV(i:Nat):cP:=fun d ρ=>some (ρ.set i (.dat d))
theorem xN{ρ:List Sl}{σ:St}{i:Nat}{d:D}{v:V}(j:Nat)(ds:List D)(h:(ρ.set i (.dat d))[j]? = some (.own ds)):ρ[j]? = some (.own ds)/\(σ.set i (some v))[j]? = σ[j]?:=by
 have n:=g_ h
 rw[List.getElem?_set_ne n] at h
 exact⟨h,List.getElem?_set_ne n⟩
section
variable {X:Cx} {C:Cl} {pos:Pos}
theorem dj{i:Nat}{x:Str}(hN:X.N.Nodup)(hi:X.N[i]? = some x)(hx:Loc X.env.scope x)(hf:X.fn x=true\/X.env.scope.names.lookup x=some .local:=by first |exact .inl rfl |exact .inr rfl |assumption):PDG X C (.Name x pos) (aV i) :=
 Ag (wW hN hi hx hf) fun v σ H Q hw'=>by
  obtain⟨e,Ω,ρ,d,ρ',eH,w,r,is,b,k⟩:=hw'
  subst eH
  cases b
  exact k _ (r.set i is) xN
noncomputable def qi:List Nat->List D->List Sl->Option (List Sl)
 | [],[],ρ=>some ρ
 | i::is,d::ds,ρ=>qi is ds (ρ.set i (.dat d))
 | _,_,_=>none
noncomputable def Lq(K:PySem.W.Frag)(C:Cl)(is:List Nat):TGs:=fun vs σ H Q=>∃e Ω ρ ds ρ',e.H=H/\Wf K C e Ω/\RelE K e σ ρ/\IsL K e.α e.F ds vs/\qi is ds ρ=some ρ' /\
 ∀σ',RelE K e σ' ρ'->(∀(j:Nat) (ds:List D),ρ'[j]? = some (.own ds)->ρ[j]? = some (.own ds)/\σ'[j]? = σ[j]?)->Q σ' e.H
noncomputable def yO(X:Cx)(C:Cl)(ts:List Expr)(is:List Nat):Prop:=PGs X ts (Lq X.K C is)
theorem lY:yO X C [] []:=xM Fe fun vs σ H Q hw'=>by
 obtain⟨e,Ω,ρ,ds,ρ',eH,w,r,is,b,k⟩:=hw'
 subst eH
 cases ds with
 | nil=>cases b;exact⟨is.of_nil,k _ r fun _ _ h=>⟨h,rfl⟩⟩
 | cons=>cases b
theorem fM{i:Nat}{is:List Nat}{x:Str}{ts:List Expr}{px:Pos}(hN:X.N.Nodup)(hi:X.N[i]? = some x)(hx:Loc X.env.scope x)(h2:yO X C ts is)(hf:X.fn x=true\/X.env.scope.names.lookup x=some .local:=by first |exact .inl rfl |exact .inr rfl |assumption)
  (hs:(assignEach (.Name x px::ts) X.env).map (·.2)=assign (.Name x px) X.env::(assignEach ts X.env).map (·.2):=by rfl):yO X C (.Name x px::ts) (i::is):=by
 refine xM (BL (wW hN hi hx hf) h2 hs) fun vs σ H Q hw'=>?_
 obtain⟨e,Ω,ρ,ds,ρ',eH,w,r,il,b,k⟩:=hw'
 subst eH
 cases ds with
 | nil=>cases b
 | cons d ds =>
  obtain⟨v,vr,rfl,i1,i2⟩:=il.of_cons
  refine⟨v,vr,rfl,?_⟩
  refine⟨e,Ω,_,ds,ρ',rfl,w,r.set i i1,i2,b,fun σ' r' o'=>k σ' r' fun j es hj=>?_⟩
  obtain⟨z1,z2⟩:=o' j es hj
  obtain⟨y1,y2⟩:=xN (σ:=σ) (v:=v) j es z1
  exact⟨y1,z2.trans y2⟩
noncomputable def lZ(is:List Nat):cP:=fun d ρ=>match d with
 | .tup ds=>qi is ds ρ
 | _=>none
theorem qj:∀{is:List Nat} {ds:List D} {ρ ρ':List Sl},qi is ds ρ=some ρ'->ds.length=is.length
 | [],[],_,_,_=>rfl
 | i::is,d::ds,ρ,ρ',h=>by
  rw[List.length_cons,List.length_cons,qj (is:=is) (ds:=ds) h]
 | [],_::_,_,_,h=>by cases h
 | _::_,[],_,_,h=>by cases h
theorem oG{es:List Expr}{k:Nat}{is:List Nat}(hc:X.calm=true)(h:yO X C es is)
  (hn:(assignEach es X.env).length=is.length:=by rfl) (hst:(assignEach es X.env).findIdx? (·.1)=none:=by rfl):PDG X C (.Tuple es k pos) (lZ is):=by
 refine Ag (HJ hc h hn hst) fun v σ H Q hw'=>?_
 obtain⟨e,Ω,ρ,d,ρ',eH,w,r,il,b,k⟩:=hw'
 subst eH
 unfold lZ at b
 cases d with
 | tup ds =>
  rw[Is] at il
  obtain⟨a,vs,rfl,e1,i1⟩:=il
  exact⟨a,vs,rfl,SqT.of (w.fh _ _ e1),by rw[<-i1.length];exact qj b,e,Ω,ρ,ds,ρ',rfl,w,r,i1,b,k⟩
 | _=>cases b
noncomputable def u_(β:cP)(g:Den):aO:=fun ρ Ω=>match g ρ Ω with
 | some (d,Ω')=>match β d ρ with
  | some ρ'=>some (.nx ρ' Ω')
  | none=>none
 | none=>none
theorem RelS.by{K:PySem.W.Frag}{e₀ e:E4}{Ω:List OS}{σ σ':St}{ρ ρ':List Sl}(r:RelS K C e₀ e Ω σ ρ)(r':RelE K e σ' ρ')(o:∀(j:Nat) (ds:List D),ρ'[j]? = some (.own ds)->ρ[j]? = some (.own ds)/\σ'[j]? = σ[j]?):RelS K C e₀ e Ω σ' ρ' :=
 ⟨r.wf,r',r.ext,fun i ds a h1 h2=>by
  obtain⟨z1,z2⟩:=o i ds h1
  rw[z2] at h2
  exact r.fresh i ds a z1 h2⟩
theorem Ge{tg x:Expr}{β:cP}{g:Den}(he:PD X C x g)(hg:PDG X C tg β)(hs:swapsWithSole [tg] x pos.line X.env=pure false:=by rfl)(hw:swappedStores [tg] x X.env=pure none:=by rfl)
  (h1:(assignEach [tg] X.env).map (·.2)=[assign tg X.env]:=by rfl):PDS X C (.Assign [tg] x pos) (u_ β g):=by
 refine fun e₀=>dG (HN he hg hs hw h1) fun Dn σ H hw'=>?_
 obtain⟨e,Ω,ρ,o,eH,r,q,k⟩:=hw'
 unfold u_ at q
 cases q1:g ρ Ω with
 | none=>rw[q1] at q;cases q
 | some p1 =>
  obtain⟨d,Ω'⟩:=p1
  rw[q1] at q
  dsimp only at q
  cases q2:β d ρ with
  | none=>rw[q2] at q;cases q
  | some ρ' =>
   rw[q2] at q
   cases q
   refine⟨e,Ω,ρ,d,Ω',eH,r.wf,r.rel,q1,fun v e' x' w' i'=>?_⟩
   have r':=r.to x' w'
   exact⟨e',Ω',ρ,d,ρ',rfl,w',r'.rel,i',q2,fun σ' z o'=>k e' σ' (r'.by z o')⟩
end
noncomputable def Walk(K:PySem.W.Frag)(e:E4)(J:It)(ds:List D):Prop:=∀(i:Nat) (e2:E4),bB e.F e2.F->(∃more,e2.α=e.α++more)->bB e2.F e2.H ->
 (i=ds.length->J.stop i e2.H)/\∀d,ds[i]? = some d->J.go i e2.H/\∀x H',J.yld i e2.H x H'->∃e3:E4,e3.H=H'/\Is K e3.α e3.F d x/\∀(C:Cl) (Ω:List OS),Wf K C e2 Ω->Ext e2 e3/\Wf K C e3 Ω
theorem Walk.still{K:PySem.W.Frag}{e:E4}{J:It}{ds:List D} (h:∀(i:Nat) (e2:E4),bB e.F e2.F->(∃more,e2.α=e.α++more)->bB e2.F e2.H ->
  (i=ds.length->J.stop i e2.H)/\∀d,ds[i]? = some d->J.go i e2.H/\∀x H',J.yld i e2.H x H'->H'=e2.H/\Is K e2.α e2.F d x):Walk K e J ds:=fun i e2 h1 h2 h3=>by
 obtain⟨a,b⟩:=h i e2 h1 h2 h3
 refine⟨a,fun d hd=>⟨(b d hd).1,fun x H' hy=>?_⟩⟩
 obtain⟨z,q⟩:=(b d hd).2 x H' hy
 exact⟨e2,z.symm,q,fun C Ω w=>⟨Ext.refl _,w⟩⟩
noncomputable def tDI(K:PySem.W.Frag)(C:Cl)(γ:bz):TI:=fun σ H R=>∃e Ω ρ ds Ω',e.H=H/\Wf K C e Ω/\RelE K e σ ρ/\γ ρ Ω=some (ds,Ω')/\∀e' J,Ext e e'->Wf K C e' Ω'->Walk K e' J ds->R J e'.H
noncomputable def PDI(X:Cx)(C:Cl)(tg iter:Expr)(γ:bz):Prop:=PI X tg iter (tDI X.K C γ)
theorem vd{X:Cx}{tg iter:Expr}{t t':TI}(h:PI X tg iter t)(i:∀σ H R,t' σ H R->t σ H R):PI X tg iter t':=fun pins s σ H R I hw=>h pins s σ H R I (i σ H R hw)
section
variable {X:Cx} {C:Cl} {tg iter:Expr} {g:Den} {ga:bz} {pos p:Pos}
noncomputable def CT:D->Option (List D)
 | .lst xs=>some xs
 | .scr ns=>some (ns.map D.int)
 | _=>none
noncomputable def kZ(g:Den):bz:=fun ρ Ω=>match g ρ Ω with
 | some (d,Ω')=>match CT d with
  | some ds=>some (ds,Ω')
  | none=>none
 | none=>none
theorem tG{K:PySem.W.Frag}{e:E4}{a:Addr}{vs:List V}{ds:List D}(h:SqL K e.F a vs)(r:IsL K e.α e.F ds vs):Walk K e (Itl K a) ds:=by
 refine Walk.still ?_
 intro i e2 ff al fh
 have h2:SqL K e2.H a vs:=fh.seq (ff.seq h)
 refine⟨fun z=>⟨vs,h2,by rw[<-r.length];exact Nat.le_of_eq z.symm⟩,fun d hd=>?_⟩
 obtain⟨v,hv,iv⟩:=(IsL.mono ff al ds r).get hd
 exact⟨⟨vs,v,h2,hv⟩,fun x H' ⟨z1,z2⟩=>⟨z1,by
  have:=z2 vs h2
  rw[hv] at this
  cases this
  exact iv⟩⟩
theorem jN(h:PD X C iter g):PDI X C tg iter (kZ g):=vd (Ff h) fun σ H R hw'=>by
 obtain⟨e,Ω,ρ,ds,Ω',eH,w,rl,q,k⟩:=hw'
 unfold kZ at q
 cases q1:g ρ Ω with
 | none=>rw[q1] at q;cases q
 | some p1 =>
  obtain⟨d,Ω1⟩:=p1
  rw[q1] at q
  dsimp only at q
  refine⟨e,Ω,ρ,d,Ω1,eH,w,rl,q1,fun v e' x' w' i'=>?_⟩
  cases d with
  | lst xs =>
   cases q
   rw[Is] at i'
   obtain⟨a,vs,rfl,h1,r1⟩:=i'
   exact⟨a,rfl,⟨vs,SqL.of (w'.fh _ _ h1)⟩,k e' _ x' w' (tG (SqL.of h1) r1)⟩
  | scr ns =>
   cases q
   rw[Is] at i'
   obtain⟨a,rfl,h1⟩:=i'
   exact⟨a,rfl,⟨_,w'.fh.seq h1⟩,k e' _ x' w' (tG h1 (IsL.ints ns))⟩
  | _=>cases q
noncomputable def upD(lo:Int)(n:Nat):List D:=(List.range n).map fun(k:Nat)=>D.int (lo+(k:Int))
theorem ql{K:PySem.W.Frag}{e:E4}{lo:Int}{n:Nat}:Walk K e (Itr lo n) (upD lo n):=by
 refine Walk.still ?_
 intro i e2 _ _ _
 refine⟨fun z=>Nat.le_of_eq (by rw[z];simp[upD]),fun d hd=>?_⟩
 have hi:i<n:=by
  have:=(List.getElem?_eq_some_iff.mp hd).1
  simpa [upD] using this
 refine⟨hi,fun x H' ⟨z1,z2⟩=>⟨z1,?_⟩⟩
 have:d=D.int (lo+(i:Int)):=by
  simp[upD,hi] at hd
  exact hd.symm
 subst this z2
 rw[Is]
noncomputable def fX:List D->Option (List D)
 | [.int j]=>grd (-(2 ^ 62)<=j/\j<2 ^ 62) (some (upD 0 j.toNat))
 | _=>none
noncomputable def jO:List D->Option (List D)
 | [.int i,.int j]=>grd (-(2 ^ 62)<=i/\i<2 ^ 62 /\ -(2 ^ 62)<=j/\j<2 ^ 62) (some (upD i (j-i).toNat))
 | _=>none
noncomputable def dg(r:List D->Option (List D))(g:bz):bz:=fun ρ Ω=>match g ρ Ω with
 | some (ds,Ω')=>match r ds with
  | some es=>some (es,Ω')
  | none=>none
 | none=>none
theorem iT{a:Expr}(hg:Gl X "range")(hm:X.mg "range" = none)(ha:PDA X C [a] ga)(hs:starEach [a] X.env=[(false,eval a X.env)]:=by rfl):PDI X C tg (.Call (.Name "range" p) [a] [] pos) (dg fX ga) :=
 vd (zG hg hm ha hs) fun σ H R hw'=>by
  obtain⟨e,Ω,ρ,ds,Ω',eH,w,rl,q,k⟩:=hw'
  unfold dg at q
  cases q1:ga ρ Ω with
  | none=>rw[q1] at q;cases q
  | some p1 =>
   obtain⟨es,Ω1⟩:=p1
   rw[q1] at q
   dsimp only at q
   refine⟨e,Ω,ρ,es,Ω1,eH,w,rl,q1,fun v e' x' w' i'=>?_⟩
   match es,q,i' with
   | [.int j],q,i' =>
    obtain⟨v,rfl,iv⟩:=jF i'
    rw[Is] at iv
    subst iv
    have ez:fX [D.int j]=grd (-(2 ^ 62)<=j/\j<2 ^ 62) (some (upD 0 j.toNat)):=rfl
    rw[ez] at q
    by_cases hb:(-(2 ^ 62)<=j/\j<2 ^ 62)
    ·rw[iD hb] at q
     cases q
     exact⟨j,rfl,hb.1,hb.2,k e' _ x' w' ql⟩
    ·have en:grd (-(2 ^ 62)<=j/\j<2 ^ 62) (some (upD 0 j.toNat))=none:=if_neg hb
     rw[en] at q
     cases q
theorem jB{a b:Expr}(hg:Gl X "range")(hm:X.mg "range" = none)(ha:PDA X C [a,b] ga)(hs:starEach [a,b] X.env=[(false,eval a X.env),(false,eval b X.env)]:=by rfl)(hs2:starEach [b] X.env=[(false,eval b X.env)]:=by rfl):PDI X C tg (.Call (.Name "range" p) [a,b] [] pos) (dg jO ga) :=
 vd (zH hg hm ha hs hs2) fun σ H R hw'=>by
  obtain⟨e,Ω,ρ,ds,Ω',eH,w,rl,q,k⟩:=hw'
  unfold dg at q
  cases q1:ga ρ Ω with
  | none=>rw[q1] at q;cases q
  | some p1 =>
   obtain⟨es,Ω1⟩:=p1
   rw[q1] at q
   dsimp only at q
   refine⟨e,Ω,ρ,es,Ω1,eH,w,rl,q1,fun v e' x' w' i'=>?_⟩
   match es,q,i' with
   | [.int i,.int j],q,i' =>
    obtain⟨v,u,rfl,iv,iu⟩:=xH i'
    rw[Is] at iv iu
    subst iv iu
    have ez:jO [D.int i,D.int j]=grd (-(2 ^ 62)<=i/\i<2 ^ 62 /\ -(2 ^ 62)<=j/\j<2 ^ 62) (some (upD i (j-i).toNat)):=rfl
    rw[ez] at q
    by_cases hb:(-(2 ^ 62)<=i/\i<2 ^ 62 /\ -(2 ^ 62)<=j/\j<2 ^ 62)
    ·rw[iD hb] at q
     cases q
     exact⟨i,j,rfl,hb,k e' _ x' w' ql⟩
    ·have en:grd (-(2 ^ 62)<=i/\i<2 ^ 62 /\ -(2 ^ 62)<=j/\j<2 ^ 62) (some (upD i (j-i).toNat))=none:=if_neg hb
     rw[en] at q
     cases q
end
noncomputable def cV(β:cP)(s:aO):List D->aO
 | [],ρ,Ω=>some (.nx ρ Ω)
 | d::ds,ρ,Ω=>match β d ρ with
  | some ρ1=>match s ρ1 Ω with
   | some (.nx ρ' Ω')=>cV β s ds ρ' Ω'
   | some (.ct ρ' Ω')=>cV β s ds ρ' Ω'
   | some (.bk ρ' Ω')=>some (.nx ρ' Ω')
   | some (.rt z Ω')=>some (.rt z Ω')
   | none=>none
  | none=>none
noncomputable def du(γ:bz)(β:cP)(s:aO):aO:=fun ρ Ω=>match γ ρ Ω with
 | some (ds,Ω')=>cV β s ds ρ Ω'
 | none=>none
section
variable {X:Cx} {C:Cl} {tg iter c:Expr} {γ:bz} {β:cP} {s:aO} {body:List Stmt} {pos:Pos} {p:bR}
theorem vf{sts:List Stmt}(h:PDB X C sts s):PSs X sts (fun Dn σ H=>∃e₁,tDS X.K C e₁ s Dn σ H):=fun pins sh σ H Dn I ⟨e₁,hw⟩=>h e₁ pins sh σ H Dn I hw
theorem eO(hp:PassesOwn (model X.prog X.w) X.A X.env X.xe)(hc:X.calm=true)(hi:PDI X C tg iter γ)(hg:PDG X C tg β)(hb:PDB X C body s)
  (hs:∀x,foldedSetIterable iter X.env x=pure x:=by intro _;rfl):PDS X C (.For tg iter body [] pos) (du γ β s):=by
 refine fun e₀=>dG (zK hp hc hi hg (vf hb) hs) fun Dn σ H hw'=>?_
 obtain⟨e,Ω,ρ,o,eH,r,q,k⟩:=hw'
 unfold du at q
 cases q1:γ ρ Ω with
 | none=>rw[q1] at q;cases q
 | some p1 =>
  obtain⟨ds,Ω'⟩:=p1
  rw[q1] at q
  dsimp only at q
  refine⟨e,Ω,ρ,ds,Ω',eH,r.wf,r.rel,q1,fun e' J x' w' wk=>?_⟩
  refine⟨fun i m σ H=>m=ds.length-i/\i<=ds.length/\∃e2 Ω2 ρ2,e2.H=H/\RelS X.K C e₀ e2 Ω2 σ ρ2/\bB e'.F e2.F/\(∃more,e2.α=e'.α++more)/\cV β s (ds.drop i) ρ2 Ω2=some o,⟨ds.length,by simp,Nat.zero_le _,e',Ω',ρ,rfl,r.to x' w',bB.refl _,⟨[],by simp⟩,by simpa using q⟩,?_⟩
  rintro i m σ2 H2 ⟨rfl,hil,e2,Ω2,ρ2,rfl,r2,ff,al,q2⟩
  obtain⟨stop,go⟩:=wk i e2 ff al r2.wf.fh
  by_cases hlt:i<ds.length
  ·have hd:ds[i]? = some ds[i]:=List.getElem?_eq_getElem hlt
   obtain⟨g1,y1⟩:=go _ hd
   have edrop:ds.drop i=ds[i]::ds.drop (i+1):=List.drop_eq_getElem_cons hlt
   rw[edrop] at q2
   refine .inr ⟨g1,fun σ' H'=>∃e3 Ω3 ρ3,e3.H=H'/\RelS X.K C e₀ e3 Ω3 σ' ρ3/\bB e'.F e3.F/\(∃more,e3.α=e'.α++more)/\cV β s (ds.drop (i+1)) ρ3 Ω3=some o,fun σ' H' hN=>⟨ds.length-(i+1),by omega,rfl,hlt,hN⟩,fun x H' hy=>?_⟩
   obtain⟨e2',rfl,ix,up⟩:=y1 x H' hy
   obtain⟨x2',w2'⟩:=up C Ω2 r2.wf
   replace r2:=r2.to x2' w2'
   replace ff:=ff.trans x2'.ff
   replace al:∃more,e2'.α=e'.α++more:=by
    obtain⟨m1,z1⟩:=al
    obtain⟨m2,z2⟩:=x2'.al
    exact⟨m1++m2,by rw[z2,z1,List.append_assoc]⟩
   clear y1 g1 stop go
   revert r2 ff al ix
   generalize e2'=e2
   intro ix r2 ff al
   unfold cV at q2
   cases q3:β ds[i] ρ2 with
   | none=>rw[q3] at q2;cases q2
   | some ρ3 =>
    rw[q3] at q2
    dsimp only at q2
    refine⟨e2,Ω2,ρ2,_,ρ3,rfl,r2.wf,r2.rel,ix,q3,fun σ3 r3 o3=>?_⟩
    have r3':=r2.by r3 o3
    obtain⟨e₁,hF,hα,r4,toE,toN,_⟩:=r3'.mark
    cases q4:s ρ3 Ω2 with
    | none=>rw[q4] at q2;cases q2
    | some o4 =>
     rw[q4] at q2
     refine⟨e₁,e2,Ω2,ρ3,o4,rfl,r4,q4,?_⟩
     have back:∀{e5:E4} {Ω5:List OS} {σ5:St} {ρ5:List Sl},RelS X.K C e₁ e5 Ω5 σ5 ρ5->RelS X.K C e₀ e5 Ω5 σ5 ρ5/\bB e'.F e5.F/\∃more,e5.α=e'.α++more:=fun {e5 Ω5 σ5 ρ5} r5=>by
      refine⟨⟨r5.wf,r5.rel,toE _ r5.ext,fun i ds a h1 h2=>toN _ (r5.fresh i ds a h1 h2)⟩,ff.trans (hF ▸ r5.ext.ff),?_⟩
      obtain⟨m1,z1⟩:=al
      obtain⟨m2,z2⟩:=r5.ext.al
      exact⟨m1++m2,by rw[z2,hα,z1,List.append_assoc]⟩
     cases o4 with
     | nx ρ5 Ω5=>exact fun e5 σ5 r5=>⟨e5,Ω5,ρ5,rfl,(back r5).1,(back r5).2.1,(back r5).2.2,q2⟩
     | ct ρ5 Ω5=>exact fun e5 σ5 r5=>⟨e5,Ω5,ρ5,rfl,(back r5).1,(back r5).2.1,(back r5).2.2,q2⟩
     | bk ρ5 Ω5=>cases q2;exact fun e5 σ5 r5=>k e5 σ5 (back r5).1
     | rt z Ω5=>cases q2;exact fun e5 v5 x5 w5 i5=>k e5 v5 (toE _ x5) w5 i5
  ·have ei:i=ds.length:=by omega
   subst ei
   rw[List.drop_length] at q2
   cases q2
   exact .inl ⟨stop rfl,k e2 σ2 r2⟩
noncomputable def eQ(p:bR)(s:aO):Nat->aO
 | 0,_,_=>none
 | n+1,ρ,Ω=>match p ρ Ω with
  | some (true,Ω1)=>match s ρ Ω1 with
   | some (.nx ρ' Ω')=>eQ p s n ρ' Ω'
   | some (.ct ρ' Ω')=>eQ p s n ρ' Ω'
   | some (.bk ρ' Ω')=>some (.nx ρ' Ω')
   | some (.rt z Ω')=>some (.rt z Ω')
   | none=>none
  | some (false,Ω1)=>some (.nx ρ Ω1)
  | none=>none
theorem tH(fuel:Nat)(hp:PassesOwn (model X.prog X.w) X.A X.env X.xe)(hc:PDT X C c p)(hb:PDB X C body s):PDS X C (.While c body [] pos) (eQ p s fuel):=by
 refine fun e₀=>dG (BR hp hc (vf hb)) fun Dn σ H hw'=>?_
 obtain⟨e,Ω,ρ,o,eH,r,q,k⟩:=hw'
 refine⟨fun m σ H=>∃e2 Ω2 ρ2,e2.H=H/\RelS X.K C e₀ e2 Ω2 σ ρ2/\eQ p s m ρ2 Ω2=some o,⟨fuel,e,Ω,ρ,eH,r,q⟩,?_⟩
 rintro m σ2 H2 ⟨e2,Ω2,ρ2,rfl,r2,q2⟩
 cases m with
 | zero=>cases q2
 | succ m =>
  unfold eQ at q2
  cases q3:p ρ2 Ω2 with
  | none=>rw[q3] at q2;cases q2
  | some p3 =>
   obtain⟨b,Ω3⟩:=p3
   rw[q3] at q2
   refine⟨e2,Ω2,ρ2,b,Ω3,rfl,r2.wf,r2.rel,q3,fun e3 x3 w3=>?_⟩
   have r3:=r2.to x3 w3
   cases b with
   | false =>
    refine Cy ?_
    cases q2
    exact k e3 σ2 r3
   | true =>
    refine Cz ?_
    dsimp only at q2
    refine⟨fun σ' H'=>∃e5 Ω5 ρ5,e5.H=H'/\RelS X.K C e₀ e5 Ω5 σ' ρ5/\eQ p s m ρ5 Ω5=some o,fun σ' H' hN=>⟨m,Nat.lt_succ_self m,hN⟩,e₀,?_⟩
    cases q4:s ρ2 Ω3 with
    | none=>rw[q4] at q2;cases q2
    | some o4 =>
     rw[q4] at q2
     refine⟨e3,Ω3,ρ2,o4,rfl,r3,q4,?_⟩
     cases o4 with
     | nx ρ5 Ω5=>exact fun e5 σ5 r5=>⟨e5,Ω5,ρ5,rfl,r5,q2⟩
     | ct ρ5 Ω5=>exact fun e5 σ5 r5=>⟨e5,Ω5,ρ5,rfl,r5,q2⟩
     | bk ρ5 Ω5=>cases q2;exact fun e5 σ5 r5=>k e5 σ5 r5
     | rt z Ω5=>cases q2;exact k
end
end DL
namespace DL
open PySem PySem.Spec PyProof.Rows L2
noncomputable abbrev bf:=List D->List OS->Option (D×List OS)
noncomputable def spD(K:PySem.W.Frag)(C:Cl)(f:bf):Sp:=fun vs H Q _=>∃e Ω ds d Ω',e.H=H/\Wf K C e Ω/\IsL K e.α e.F ds vs/\f ds Ω=some (d,Ω')/\∀v e',Ext e e'->Wf K C e' Ω'->Is K e'.α e'.F d v->Q v e'.H
noncomputable def cF(n m:Nat)(s:aO):bf:=fun ds Ω=>if ds.length=n then match s (ds.map Sl.dat++List.replicate (m-n) Sl.und) Ω with
  | some (.rt d Ω')=>some (d,Ω')
  | some (.nx _ Ω')=>some (.non,Ω')
  | _=>none
 else none
theorem tK{K:PySem.W.Frag}{C:Cl}{e:E4}{Ω:List OS}{N:List Str}{ds:List D}{vs:List V}(w:Wf K C e Ω)(i:IsL K e.α e.F ds vs):RelS K C e e Ω (L2.start N vs) (ds.map Sl.dat++List.replicate (N.length-ds.length) Sl.und):=by
 have noown:∀(j:Nat) (es:List D),(ds.map Sl.dat++List.replicate (N.length-ds.length) Sl.und)[j]? ≠ some (.own es):=fun j es h=>by
  by_cases hj:j<ds.length
  ·rw[List.getElem?_append_left (by simpa using hj),List.getElem?_map] at h
   cases q:ds[j]? with
   | none=>rw[q] at h;cases h
   | some d=>rw[q] at h;cases h
  ·rw[List.getElem?_append_right (by simpa using hj),List.getElem?_replicate] at h
   split at h<;>cases h
 refine⟨w,⟨?_,fun j d h=>?_,fun j es h=>absurd h (noown j es),fun j k es fs a h=>absurd h (noown j es)⟩,Ext.refl e,fun j es a h=>absurd h (noown j es)⟩
 ·unfold L2.start
  simp[i.length]
 ·by_cases hj:j<ds.length
  ·rw[List.getElem?_append_left (by simpa using hj),List.getElem?_map] at h
   cases q:ds[j]? with
   | none=>rw[q] at h;cases h
   | some d' =>
    rw[q] at h
    cases h
    obtain⟨v,hv,iv⟩:=i.get q
    refine⟨v,?_,iv⟩
    unfold L2.start
    rw[List.getElem?_append_left (by simpa [<-i.length] using hj),List.getElem?_map,hv]
    rfl
  ·rw[List.getElem?_append_right (by simpa using hj),List.getElem?_replicate] at h
   split at h<;>cases h
theorem Jf{P:Program}{w:World}{K:PySem.W.Frag}{mg:Str->Option Value}{base:Heap}{C:Cl}{x qual:Str}{st:Stmt}{f:Addr}{fd:FuncData}{N ps:List Str}{k n m:Nat}{s:aO}(F:Fun K x qual st f fd)(S:FnScope N ps (az st))(hn:ps.length=n)(hm:N.length=m)
  (hbody:∀(cdv:Value) (A:Around) (outer:List Env) (sh:Shared) (H:Hp) (E:XK),Room k (A.deeper (envOfC qual (az st) sh.heap.objs.size f cdv)) ->
   PDB (cH CX0 P w K mg base N qual (az st) f cdv A outer sh H E).nox C (aQ st) s):FnOk P w K mg base CX0 (k+1) f fd ps (spD K C (cF n m s)):=by
 refine F.ok S (fun vs H Q E h=>?_) (fun cdv A outer sh H vs Q E hr h=>?_)
 ·obtain⟨e,Ω,ds,d,Ω',_,_,i,q,_⟩:=h
  unfold cF at q
  by_cases hl:ds.length=n
  ·rw[<-i.length,hl,hn]
  ·rw[if_neg hl] at q;cases q
 ·obtain⟨e,Ω,ds,d,Ω',eH,wf,i,q,kk⟩:=h
  unfold cF at q
  by_cases hl:ds.length=n
  ·rw[if_pos hl] at q
   cases q1:s (ds.map Sl.dat++List.replicate (m-n) Sl.und) Ω with
   | none=>rw[q1] at q;cases q
   | some o =>
    rw[q1] at q
    refine⟨_,hbody cdv A outer sh H E hr e,e,Ω,_,o,eH,tK wf i,by rw[hl,hm];exact q1,?_⟩
    cases o with
    | rt d' Ω2=>cases q;exact fun e' v x' w' i'=>kk v e' x' w' i'
    | nx ρ' Ω2=>cases q;exact fun e' σ' r'=>kk .non e' r'.ext r'.wf (by rw[Is])
    | bk ρ' Ω2=>cases q
    | ct ρ' Ω2=>cases q
  ·rw[if_neg hl] at q;cases q
noncomputable def aL(f:bf)(g:bz):Den:=fun ρ Ω=>match g ρ Ω with
 | some (ds,Ω1)=>f ds Ω1
 | none=>none
section
variable {X:Cx} {C:Cl} {k:Nat} {f:Addr} {fd:FuncData} {ps:List Str} {F:bf} {n:Str} {p pos:Pos} {x:Expr} {es:List Expr} {ga:bz}
theorem Ah{K:PySem.W.Frag}{σ:St}{H:Hp}{Q:VK}{E:XK}(hw:tD K C (aL F ga) σ H Q):Eg (spD K C F) [] E (tDA K C ga) σ H Q:=by
 obtain⟨e,Ω,ρ,d,Ω',eH,w,rl,q,kk⟩:=hw
 unfold aL at q
 cases q1:ga ρ Ω with
 | none=>rw[q1] at q;cases q
 | some p1 =>
  obtain⟨ds,Ω1⟩:=p1
  rw[q1] at q
  refine⟨e,Ω,ρ,ds,Ω1,eH,w,rl,q1,fun vs e' x' w' i'=>?_⟩
  show spD K C F (vs++[]) e'.H Q E
  rw[List.append_nil]
  exact⟨e',Ω1,ds,d,Ω',rfl,w',i',q,fun v e'' x'' w'' i''=>kk v e'' (x'.trans x'') w'' i''⟩
theorem Gf(G:FnOk X.prog X.w X.K X.mg X.base CX0 k f fd ps (spD X.K C F))(hr:Room k X.A)(hg:Gl X n)(hm:X.mg n=some (.ref f))(hk:PySem.W.keepIn X.K (.ref f)=true)(hb:Binds X.K fd ps [])
  (ha:PDA X C (x::es) ga) (hdb:(n==("__debug__":Str))=false:=by decide) (he:starEach (x::es) X.env=(false,eval x X.env)::starEach es X.env:=by rfl) (hpl:(backTo pos (starEach es X.env)).any (·.1)=false:=by rfl) :
  PD X C (.Call (.Name n p) (x::es) [] pos) (aL F ga) :=
 bT (Fp G hr hg hm hk hb .nil yH ha hdb he hpl) fun _ _ _ hw=>Ah hw
end
noncomputable def vg(X:Cx)(C:Cl)(ifs:List Expr)(p:bR):Prop:=PTs X ifs (tDT X.K C p)
noncomputable def oH:bR:=fun _ Ω=>some (true,Ω)
theorem CV{X:Cx}{C:Cl}:vg X C [] oH:=fun pins s σ H Q I hw'=>by
 obtain⟨e,Ω,ρ,b,Ω',eH,w,rl,q,k⟩:=hw'
 subst eH
 cases q
 exact FT pins s σ _ Q I (k e (Ext.refl e) w)
theorem vh{X:Cx}{C:Cl}{c:Expr}{p:bR}(h:PDT X C c p):vg X C [c] p:=FW h
noncomputable def cW(β:cP)(p:bR)(g:Den):List D->List Sl->List OS->Option (List D×List OS)
 | [],_,Ω=>some ([],Ω)
 | d::ds,ρ,Ω=>match β d ρ with
  | some ρ1=>match p ρ1 Ω with
   | some (true,Ω1)=>match g ρ1 Ω1 with
    | some (y,Ω2)=>match cW β p g ds ρ1 Ω2 with
     | some (ys,Ω3)=>some (y::ys,Ω3)
     | none=>none
    | none=>none
   | some (false,Ω1)=>cW β p g ds ρ1 Ω1
   | none=>none
  | none=>none
noncomputable def di(μ:List (Option Nat))(ρ:List Sl):List Sl:=μ.map fun o=>match o with
 | none=>Sl.und
 | some j=>match ρ[j]? with
  | some (.dat d)=>.dat d
  | _=>.und
noncomputable def ji(μ:List (Option Nat))(γ:bz)(β:cP)(p:bR)(g:Den):Den:=fun ρ Ω=>match γ ρ Ω with
 | some (ds,Ω1)=>if ds.length<=big then match cW β p g ds (di μ ρ) Ω1 with
   | some (ys,Ω2)=>some (.lst ys,Ω2)
   | none=>none
  else none
 | none=>none
section
variable {K:PySem.W.Frag} {C:Cl} {e:E4} {σ:St} {ρ:List Sl} {μ:List (Option Nat)}
theorem Ai{j:Nat}{d:D}(h:(di μ ρ)[j]? = some (.dat d)):∃i,μ[j]? = some (some i)/\ρ[i]? = some (.dat d):=by
 unfold di at h
 rw[List.getElem?_map] at h
 cases q:μ[j]? with
 | none=>rw[q] at h;cases h
 | some o =>
  rw[q] at h
  cases o with
  | none=>cases h
  | some i =>
   cases q2:ρ[i]? with
   | none=>simp[q2] at h
   | some sl =>
    cases sl with
    | dat d'=>simp[q2] at h;subst h;exact⟨i,rfl,q2⟩
    | und=>simp[q2] at h
    | own _=>simp[q2] at h
theorem iG{j:Nat}{ds:List D}:(di μ ρ)[j]? ≠ some (.own ds):=fun h=>by
 unfold di at h
 rw[List.getElem?_map] at h
 cases q:μ[j]? with
 | none=>rw[q] at h;cases h
 | some o =>
  rw[q] at h
  cases o with
  | none=>cases h
  | some i =>
   cases q2:ρ[i]? with
   | none=>simp[q2] at h
   | some sl=>cases sl<;>simp[q2] at h
theorem tL(r:RelE K e σ ρ):RelE K e (inner μ σ) (di μ ρ):=by
 refine⟨by simp[inner,di],fun j d h=>?_,fun j ds h=>absurd h iG,fun j k ds es a h=>absurd h iG⟩
 obtain⟨i,h1,h2⟩:=Ai h
 obtain⟨v,e1,iv⟩:=r.dat i d h2
 refine⟨v,?_,iv⟩
 unfold inner
 rw[List.getElem?_map,h1]
 show some ((σ[i]?).join)=_
 rw[e1]
 rfl
end
section
variable {K:PySem.W.Frag} {C:Cl} {γ:bz} {β:cP} {p:bR} {g:Den} {μ:List (Option Nat)}
structure CI(K:PySem.W.Frag)(C:Cl)(β:cP)(p:bR)(g:Den)(ds:List D)(a:Addr)(ysAll:List D)(Ωf:List OS)(e':E4)(i:Nat)(σ':St)(e2:E4)(Ω2:List OS)(ρ2:List Sl)(vs:List V)(ys0 ys1:List D):Prop where
 w:Wf K C e2 Ω2
 r:RelE K e2 σ' ρ2
 no:∀(j:Nat) (es:List D),ρ2[j]? ≠ some (.own es)
 ha:e2.H a=some (.lst vs)
 hF:e2.F a=none
 hA:¬e2.A a
 iy:IsL K e2.α e2.F ys0 vs
 x:Ext e' e2
 q:cW β p g (ds.drop i) ρ2 Ω2=some (ys1,Ωf)
 ey:ys0++ys1=ysAll
 hy:ys0.length<=i
noncomputable def Jg(K:PySem.W.Frag)(C:Cl)(β:cP)(p:bR)(g:Den)(ds:List D)(a:Addr)(ysAll:List D)(Ωf:List OS)(e':E4)(i:Nat)(σ':St)(H':Hp):Prop :=
 ∃e2 Ω2 ρ2 vs ys0 ys1,e2.H=H'/\CI K C β p g ds a ysAll Ωf e' i σ' e2 Ω2 ρ2 vs ys0 ys1
theorem CW{σ:St}{H:Hp}{Q:VK}{e:E4}{Ω Ω1 Ωf:List OS}{ρ:List Sl}{ds ysAll:List D}(eH:e.H=H)(w:Wf K C e Ω)(rl:RelE K e σ ρ)(q1:γ ρ Ω=some (ds,Ω1))(hbig:ds.length<=big)(q2:cW β p g ds (di μ ρ) Ω1=some (ysAll,Ωf))
  (fin:∀a vs e2,Ext e e2->Wf K C e2 Ωf->e2.H a=some (.lst vs)->e2.F a=none->¬e2.A a->e.H a=none->IsL K e2.α e2.F ysAll vs->Q (.ref a) e2.H):yK μ (tDI K C γ) (tDG K C β) (tDT K C p) (tD K C g) σ H Q:=by
 refine⟨e,Ω,ρ,ds,Ω1,eH,w,rl,q1,fun e' J x' w' wk a ha=>?_⟩
 refine⟨fun i m σ' H'=>m=ds.length-i/\i<=ds.length/\Jg K C β p g ds a ysAll Ωf e' i σ' H',⟨ds.length,by simp,Nat.zero_le _,⟨e'.α,e'.F,e'.A,upd e'.H a (.lst [])⟩,Ω1,di μ ρ,[],[],ysAll,rfl,⟨?_,?_,fun j es=>iG,aK,w'.nF ha,fun z=>(w'.ah a z).1 ha,.nil,?_,by simpa using q2,rfl,Nat.zero_le _⟩⟩,?_⟩
 ·refine⟨fun b u hb=>?_,w'.fa,fun b hb=>?_,w'.ol,w'.nd,fun n b u h1 h2=>⟨(w'.ob n b u h1 h2).1,(w'.ob n b u h1 h2).2.keep (fun z hz=>?_) (bB.refl _) ⟨[],by simp⟩⟩⟩
  ·show upd e'.H a _ b=some u
   rw[aB (aM (w'.fh b u hb) ha)];exact w'.fh b u hb
  ·show upd e'.H a _ b≠none/\∀xs,upd e'.H a _ b≠some (.tup xs)
   rw[aB (fun z=>(w'.ah b hb).1 (by rw[z];exact ha))];exact w'.ah b hb
  ·show upd e'.H a _ b=some z
   rw[aB (aM hz ha)];exact hz
 ·have r1:=tL (μ:=μ) (rl.ext x')
  exact⟨r1.len,r1.dat,fun j es h=>absurd h iG,r1.sep⟩
 ·refine⟨fun b o' u hb=>by show upd e'.H a _ b=some (.frz o' u);rw[aB (aM hb ha)];exact hb,fun b u hb _=>?_,fun b u hb=>⟨u,?_⟩,bB.refl _,fun b u hb=>.inl hb,fun b hb=>.inl hb,fun b hb=>hb,[],by simp⟩
  ·show upd e'.H a _ b=some u
   rw[aB (aM hb ha)];exact hb
  ·show upd e'.H a _ b=some u
   rw[aB (aM hb ha)];exact hb
 ·rintro i m σ2 H2 ⟨rfl,hil,e2,Ω2,ρ2,vs,ys0,ys1,rfl,⟨w2,r2,no2,ha2,hF2,hA2,iy,x2,q3,ey,hy⟩⟩
  obtain⟨stop,go⟩:=wk i e2 x2.ff x2.al w2.fh
  by_cases hlt:i<ds.length
  ·have hd:ds[i]? = some ds[i]:=List.getElem?_eq_getElem hlt
   obtain⟨g1,y1⟩:=go _ hd
   have edrop:ds.drop i=ds[i]::ds.drop (i+1):=List.drop_eq_getElem_cons hlt
   rw[edrop] at q3
   refine .inr ⟨g1,fun σ' H'=>i+1<=ds.length/\Jg K C β p g ds a ysAll Ωf e' (i+1) σ' H',fun σ' H' hN=>⟨ds.length-(i+1),by omega,rfl,hN⟩,fun x H' hyl=>?_⟩
   obtain⟨e2',rfl,ix,up⟩:=y1 x H' hyl
   obtain⟨xx,ww⟩:=up C Ω2 w2
   obtain⟨hh',hf',ha'⟩:=xx.keepOwn ha2 hF2 hA2
   replace r2:=r2.ext xx
   replace iy:=iy.ext xx
   replace x2:=x2.trans xx
   clear y1 g1 stop go w2 ha2 hF2 hA2
   revert r2 iy x2 ww hh' hf' ha' ix
   generalize e2'=e2
   intro ix w2 ha2 hF2 hA2 r2 iy x2
   unfold cW at q3
   cases q4:β ds[i] ρ2 with
   | none=>rw[q4] at q3;cases q3
   | some ρ3 =>
    rw[q4] at q3
    dsimp only at q3
    refine⟨e2,Ω2,ρ2,_,ρ3,rfl,w2,r2,ix,q4,fun σ3 r3 o3=>?_⟩
    have no3:∀(j:Nat) (es:List D),ρ3[j]? ≠ some (.own es):=fun j es h=>no2 j es (o3 j es h).1
    cases q5:p ρ3 Ω2 with
    | none=>rw[q5] at q3;cases q3
    | some p5 =>
     obtain⟨b,Ω3⟩:=p5
     rw[q5] at q3
     refine⟨e2,Ω2,ρ3,b,Ω3,rfl,w2,r3,q5,fun e3 x3 w3=>?_⟩
     cases b with
     | false =>
      refine Cy ?_
      obtain⟨z1,z2,z3⟩:=x3.keepOwn ha2 hF2 hA2
      exact⟨hlt,e3,Ω3,ρ3,vs,ys0,ys1,rfl,⟨w3,r3.ext x3,no3,z1,z2,z3,iy.ext x3,x2.trans x3,q3,ey,Nat.le_succ_of_le hy⟩⟩
     | true =>
      refine Cz ?_
      dsimp only at q3
      cases q6:g ρ3 Ω3 with
      | none=>rw[q6] at q3;cases q3
      | some p6 =>
       obtain⟨y,Ω4⟩:=p6
       rw[q6] at q3
       dsimp only at q3
       cases q7:cW β p g (ds.drop (i+1)) ρ3 Ω4 with
       | none=>rw[q7] at q3;cases q3
       | some p7 =>
        obtain⟨ys2,Ω5⟩:=p7
        rw[q7] at q3
        cases q3
        refine⟨e3,Ω3,ρ3,y,Ω4,rfl,w3,r3.ext x3,q6,fun v e4 x4 w4 i4=>?_⟩
        obtain⟨z1,z2,z3⟩:=(x3.trans x4).keepOwn ha2 hF2 hA2
        have x24:=x3.trans x4
        refine⟨vs,z1,by rw[<-iy.length];exact lB (by omega),hlt,⟨e4.α,e4.F,e4.A,upd e4.H a (.lst (vs++[v]))⟩,Ω4,ρ3,_,ys0++[y],ys2,rfl,⟨⟨fun b u hb=>?_,w4.fa,fun b hb=>?_,w4.ol,w4.nd,fun n b u h1 h2=>⟨(w4.ob n b u h1 h2).1,(w4.ob n b u h1 h2).2.keep (fun z hz=>?_) (bB.refl _) ⟨[],by simp⟩⟩⟩,
         ⟨((r3.ext x3).ext x4).len,((r3.ext x3).ext x4).dat,fun j es h=>absurd h (no3 j es),((r3.ext x3).ext x4).sep⟩,no3,aK,z2,z3,(iy.ext x24).append (.cons i4 .nil),⟨fun b o' u hb=>by show upd e4.H a _ b=some (.frz o' u);rw[aB (aM hb ha)];exact(x2.trans x24).fz b o' u hb,fun b u hb hn=>?_,fun b u hb=>?_,(x2.trans x24).ff,(x2.trans x24).fn,(x2.trans x24).an,(x2.trans x24).aa,(x2.trans x24).al⟩,q7,by rw[<-ey];simp,by simp;omega⟩⟩
        ·show upd e4.H a _ b=some u
         rw[aB (fun z=>by subst z;rw[z2] at hb;cases hb)];exact w4.fh b u hb
        ·show upd e4.H a _ b≠none/\∀xs,upd e4.H a _ b≠some (.tup xs)
         rw[aB (fun z=>z3 (by rw[<-z];exact hb))];exact w4.ah b hb
        ·show upd e4.H a _ b=some z
         rw[aB (fun y=>z3 (by rw[<-y];exact(w4.ob n b u h1 h2).1))];exact hz
        ·show upd e4.H a _ b=some u
         rw[aB (aM hb ha)];exact(x2.trans x24).hk b u hb hn
        ·obtain⟨u',z⟩:=(x2.trans x24).dm b u hb
         exact⟨u',by show upd e4.H a _ b=some u';rw[aB (aM hb ha)];exact z⟩
  ·have ei:i=ds.length:=by omega
   subst ei
   rw[List.drop_length] at q3
   cases q3
   rw[List.append_nil] at ey
   subst ey
   refine .inl ⟨stop rfl,?_⟩
   exact fin a vs e2 (x'.trans x2) w2 ha2 hF2 hA2 (x'.back ha) iy
theorem Aj{σ:St}{H:Hp}{Q:VK}(hw:tD K C (ji μ γ β p g) σ H Q):yK μ (tDI K C γ) (tDG K C β) (tDT K C p) (tD K C g) σ H Q:=by
 obtain⟨e,Ω,ρ,d,Ωf,eH,w,rl,q,kk⟩:=hw
 unfold ji at q
 cases q1:γ ρ Ω with
 | none=>rw[q1] at q;cases q
 | some p1 =>
  obtain⟨ds,Ω1⟩:=p1
  rw[q1] at q
  dsimp only at q
  split at q
  ·rename_i hbig
   cases q2:cW β p g ds (di μ ρ) Ω1 with
   | none=>rw[q2] at q;cases q
   | some p2 =>
    obtain⟨ysAll,Ω2⟩:=p2
    rw[q2] at q
    cases q
    refine CW eH w rl q1 hbig q2 fun a vs e2 x2 w2 ha2 hF2 hA2 ha iy=>?_
    have ff:bB e2.F (upd e2.F a (.lst vs)):=fun b o hb=>by rw[aB (aM hb hF2)];exact hb
    refine kk (.ref a) ⟨e2.α,upd e2.F a (.lst vs),e2.A,e2.H⟩ ⟨x2.fz,x2.hk,x2.dm,x2.ff.trans ff,fun b u hb=>?_,x2.an,x2.aa,x2.al⟩ ⟨fun b u hb=>?_,fun b hb=>?_,w2.ah,w2.ol,w2.nd,fun n b u h1 h2=>⟨(w2.ob n b u h1 h2).1,(w2.ob n b u h1 h2).2.keep (fun z hz=>hz) ff ⟨[],by simp⟩⟩⟩ ?_
    ·have hb:upd e2.F a (.lst vs) b=some u:=hb
     by_cases hba:b=a
     ·subst hba;exact .inr (.inl ha)
     ·rw[aB hba] at hb;exact x2.fn b u hb
    ·have hb:upd e2.F a (.lst vs) b=some u:=hb
     by_cases hba:b=a
     ·subst hba;rw[aK] at hb;cases hb;exact ha2
     ·rw[aB hba] at hb;exact w2.fh b u hb
    ·show upd e2.F a _ b=none
     rw[aB (fun z=>hA2 (by rw[<-z];exact hb))];exact w2.fa b hb
    ·rw[Is]
     exact⟨a,vs,rfl,aK,IsL.mono ff ⟨[],by simp⟩ _ iy⟩
  ·cases q
end
section
variable {X:Cx} {C:Cl} {tg iter elt:Expr} {ifs:List Expr} {scope:Scope} {pos:Pos} {N:List Str} {μ:List (Option Nat)} {γ:bz} {β:cP} {p:bR} {g:Den}
theorem Gg(hc:X.calm=true)(hcell:∀y∈scope.names,y.2 ≠ .cell)(hkind:scope.kind=.function)(hnames:∀y∈scope.names,y.2=.local->scope.names.lookup y.1=some .local)
  (hfree:∀y∈scope.names,y.2=.free->X.env.kindOf y.1=some .cell\/X.env.kindOf y.1=some .free)
  (hhas:∀x,((relabel scope X.env).names.lookup x=some .cell\/(relabel scope X.env).names.lookup x=some .free)->(x,NameKind.free)∈scope.names)
  (hμ:kW X.N X.env.scope N (relabel scope X.env) μ=true) (hi:PDI X C tg iter γ)
  (hg:∀fp A s H,PDG (cz X N scope (clos X.env.cells scope.names []) A fp s H) C tg β) (ht:∀fp A s H,vg (cz X N scope (clos X.env.cells scope.names []) A fp s H) C ifs p) (he:∀fp A s H,PD (cz X N scope (clos X.env.cells scope.names []) A fp s H) C elt g)
  (hs:∀x,foldedSetIterable iter X.env x=pure x:=by intro _;rfl):PD X C (.ListComp elt [⟨tg,iter,ifs,0⟩] scope pos) (ji μ γ β p g) :=
 bT (xn (g:=tDG X.K C β) (tt:=tDT X.K C p) (te:=tD X.K C g) hc hcell hkind hnames hfree hhas hμ hi hg ht he hs) fun _ _ _ hw=>Aj hw
end
end DL
namespace DL
open PySem PySem.Spec PyProof.Rows L2
structure Fn(P:Program)(w:World)(K:PySem.W.Frag)(mg:Str->Option Value)(base:Heap)(C:Cl)(k:Nat)(n:Str)(F:bf):Prop where
 ex:∃f fd ps,mg n=some (.ref f)/\PySem.W.keepIn K (.ref f)=true/\Binds K fd ps []/\FnOk P w K mg base CX0 k f fd ps (spD K C F)
structure TF(K:PySem.W.Frag)(mg:Str->Option Value)(n:Str)(st:Stmt):Prop where
 ex:∃f fd,mg n=some (.ref f)/\Fun K n n st f fd
theorem gP{P:Program}{w:World}{K:PySem.W.Frag}{mg:Str->Option Value}{base:Heap}{C:Cl}{x:Str}{st:Stmt}{N ps:List Str}{k n m:Nat}{s:aO}(T:TF K mg x st)(S:FnScope N ps (az st))(hn:ps.length=n)(hm:N.length=m)
  (hb:∀(kV doc pm:Value) (an:Option Addr) (cdv ct:Value) (us:List Value),us.length=ps.length->bindArgs (PySem.W.fnOf x x (aW st) (aQ st) (az st) .none kV doc pm an cdv ct) ⟨us,[]⟩=pure (ps.zip us))
  (hbody:∀(f:Addr) (cdv:Value) (A:Around) (outer:List Env) (sh:Shared) (H:Hp) (E:XK),Room k (A.deeper (envOfC x (az st) sh.heap.objs.size f cdv)) ->
   PDB (cH CX0 P w K mg base N x (az st) f cdv A outer sh H E).nox C (aQ st) s):Fn P w K mg base C (k+1) x (cF n m s):=by
 obtain⟨f,fd,hm',F⟩:=T.ex
 exact⟨f,fd,ps,hm',F.kp,F.binds hb,Jf F S hn hm (hbody f)⟩
section
variable {X:Cx} {C:Cl} {k:Nat} {F:bf} {n:Str} {p pos:Pos} {x:Expr} {es:List Expr} {ga:bz}
theorem aP(G:Fn X.prog X.w X.K X.mg X.base C k n F)(hr:Room k X.A)(hg:Gl X n)
  (ha:PDA X C (x::es) ga) (hdb:(n==("__debug__":Str))=false:=by decide) (he:starEach (x::es) X.env=(false,eval x X.env)::starEach es X.env:=by rfl) (hpl:(backTo pos (starEach es X.env)).any (·.1)=false:=by rfl) :
  PD X C (.Call (.Name n p) (x::es) [] pos) (aL F ga):=by
 obtain⟨f,fd,ps,hm,hk,hb,ok⟩:=G.ex
 exact Gf ok hr hg hm hk hb ha hdb he hpl
end
noncomputable def jP(scope osc:Scope):Scope :=
 { scope with names:=scope.names.map fun(n,k)=>if(k == .free && osc.kind == .function && osc.names.lookup n==some .cell) then(n,.cell) else(n,k) }
noncomputable def Ak(oN:List Str)(osc:Scope)(N:List Str)(scope:Scope)(μ:List (Option Nat)):Bool :=
 scope.names.all (fun y=>decide (y.2 ≠ .cell)) && decide (scope.kind=.function) && scope.names.all (fun y=>!decide (y.2=.local) || decide (scope.names.lookup y.1=some .local)) &&
  scope.names.all (fun y=>!decide (y.2=.free) || decide (osc.names.lookup y.1=some .cell)) &&
  (jP scope osc).names.all (fun y=>!(decide (y.2=.cell) || decide (y.2=.free)) || decide ((y.1,NameKind.free)∈scope.names)) && kW oN osc N (jP scope osc) μ
structure CompOk(X:Cx)(N:List Str)(scope:Scope)(μ:List (Option Nat)):Prop where
 cell:∀y∈scope.names,y.2 ≠ .cell
 kind:scope.kind=.function
 names:∀y∈scope.names,y.2=.local->scope.names.lookup y.1=some .local
 free:∀y∈scope.names,y.2=.free->X.env.kindOf y.1=some .cell\/X.env.kindOf y.1=some .free
 has:∀x,((relabel scope X.env).names.lookup x=some .cell\/(relabel scope X.env).names.lookup x=some .free)->(x,NameKind.free)∈scope.names
 mu:kW X.N X.env.scope N (relabel scope X.env) μ=true
theorem mQ{X:Cx}{oN:List Str}{osc:Scope}{N:List Str}{scope:Scope}{μ:List (Option Nat)}(hN:X.N=oN)(hs:X.env.scope=osc)(h:Ak oN osc N scope μ=true):CompOk X N scope μ:=by
 subst hN hs
 unfold Ak at h
 simp only[Bool.and_eq_true] at h
 obtain⟨⟨⟨⟨⟨h1,h2⟩,h3⟩,h4⟩,h5⟩,h6⟩:=h
 refine⟨fun y hy=>of_decide_eq_true (List.all_eq_true.mp h1 y hy),of_decide_eq_true h2,fun y hy e=>?_,fun y hy e=>.inl ?_,fun x hx=>?_,h6⟩
 ·have:=List.all_eq_true.mp h3 y hy
  simp only[Bool.or_eq_true,Bool.not_eq_true',decide_eq_false_iff_not,decide_eq_true_eq] at this
  exact this.resolve_left fun z=>z e
 ·have:=List.all_eq_true.mp h4 y hy
  simp only[Bool.or_eq_true,Bool.not_eq_true',decide_eq_false_iff_not,decide_eq_true_eq] at this
  exact this.resolve_left fun z=>z e
 ·have hx:(jP scope X.env.scope).names.lookup x=some .cell\/(jP scope X.env.scope).names.lookup x=some .free:=hx
  have q:∀k:NameKind,(k=.cell\/k=.free)->(jP scope X.env.scope).names.lookup x=some k->(x,NameKind.free)∈scope.names:=fun k hk hl=>by
   have:=List.all_eq_true.mp h5 (x,k) (PySem.mem_of_lookup hl)
   simp only[Bool.or_eq_true,Bool.not_eq_true',Bool.or_eq_false_iff,decide_eq_false_iff_not,decide_eq_true_eq] at this
   rcases this with⟨a,b⟩ |c
   ·exact(hk.elim a b).elim
   ·exact c
  rcases hx with hx |hx
  ·exact q _ (.inl rfl) hx
  ·exact q _ (.inr rfl) hx
section
variable {X:Cx} {C:Cl} {tg iter elt:Expr} {ifs:List Expr} {scope:Scope} {pos:Pos} {N:List Str} {μ:List (Option Nat)} {γ:bz} {β:cP} {p:bR} {g:Den}
theorem vm(hc:X.calm=true)(ok:CompOk X N scope μ)(hi:PDI X C tg iter γ)
  (hg:∀fp A s H,PDG (cz X N scope (clos X.env.cells scope.names []) A fp s H) C tg β) (ht:∀fp A s H,vg (cz X N scope (clos X.env.cells scope.names []) A fp s H) C ifs p) (he:∀fp A s H,PD (cz X N scope (clos X.env.cells scope.names []) A fp s H) C elt g)
  (hs:∀x,foldedSetIterable iter X.env x=pure x:=by intro _;rfl):PD X C (.ListComp elt [⟨tg,iter,ifs,0⟩] scope pos) (ji μ γ β p g) :=
 Gg hc ok.cell ok.kind ok.names ok.free ok.has ok.mu hi hg ht he hs
end
section
variable {X:Cx} {C:Cl} {x b:Expr} {g:Den} {pos:Pos}
theorem rJ{i:Nat}{n:Str}{p ap cp:Pos}(hv:PE X (.Name n p) (rm i))(he:PD X C x g)
  (hbase:attributeBase (.Name n p) "append" X.env (eval (.Name n p) X.env)=eval (.Name n p) X.env:=by rfl)
  (hline:(ap.endLine==cp.line)=true:=by rfl) (hs1:starEach [x] X.env=(false,eval x X.env)::starEach [] X.env:=by rfl)
  (hfew:((backTo cp (starEach [x] X.env)).all (fun x=>!x.1) && (backToKw cp (keywordEach [] X.env)).all (fun x=>x.1.isSome)
   && decide ([x].length+([]:List Keyword).length+(if([]:List Keyword).isEmpty then 0 else 1)<30))=true:=by rfl)
  (hpl:(backTo cp (starEach [] X.env)).any (·.1)=false:=by rfl)
  (hs:swapsWith (.Call (.Attribute (.Name n p) "append" ap) [x] [] cp) none pos.line X.env=pure false:=by rfl) :
  PDS X C (.Expr (.Call (.Attribute (.Name n p) "append" ap) [x] [] cp) pos) (kY i g):=fun e₀ =>
 dG (rz (yG PySem.F.plainAttrs_list PySem.F.slot_list_append PySem.F.type_list_append mL hv (i_ he jH hs1) hbase hfew hline hs1 hpl) hs) fun Dn σ H hw=>CQ hw
noncomputable def yP(g:Den):Den:=fun ρ Ω=>match g ρ Ω with
 | some (.int i,Ω')=>some (.int (-i),Ω')
 | _=>none
theorem Jh(h:PD X C x g):PD X C (.UnaryOp .USub x pos) (yP g):=bT (Kd Ia h) fun σ H Q hw'=>by
 obtain⟨e,Ω,ρ,d,Ω',eH,w,rl,q,kk⟩:=hw'
 unfold yP at q
 cases q1:g ρ Ω with
 | none=>rw[q1] at q;cases q
 | some p1 =>
  obtain⟨d1,Ω1⟩:=p1
  rw[q1] at q
  refine⟨e,Ω,ρ,d1,Ω1,eH,w,rl,q1,fun v e' x' w' i'=>?_⟩
  cases d1 with
  | int i =>
   rw[Is] at i'
   cases q
   exact⟨i,i',kk _ e' x' w' (by rw[Is])⟩
  | _=>cases q
end
noncomputable abbrev C0:Cl:=fun _=>none
end DL
namespace DL
open PySem
section
variable (ρ:List Sl) (Ω:List OS)
@[simp] theorem jQ(i:Nat):aj i ρ Ω=match ρ[i]? with |some (.dat d)=>some (d,Ω) |_=>none:=(rfl)
@[simp] theorem Ji(d:D):gC d ρ Ω=some (d,Ω):=(rfl)
@[simp] theorem uE(r:D->D->Option D)(f g:Den):gOp r f g ρ Ω=match f ρ Ω with
 | some (x,Ω₁)=>(match g ρ Ω₁ with
  | some (y,Ω₂)=>(match r x y with
   | some z=>some (z,Ω₂)
   | none=>none)
  | none=>none)
 | none=>none:=(rfl)
@[simp] theorem Lr(g:Den):gT g ρ Ω=match g ρ Ω with |some (.bl b,Ω')=>some (b,Ω') |_=>none:=(rfl)
@[simp] theorem gD(p q:bR):dN p q ρ Ω=match p ρ Ω with |some (true,Ω')=>q ρ Ω' |some (false,Ω')=>some (false,Ω') |none=>none:=(rfl)
@[simp] theorem Mw(p q:bR):pG p q ρ Ω=match p ρ Ω with |some (true,Ω')=>some (true,Ω') |some (false,Ω')=>q ρ Ω' |none=>none:=(rfl)
@[simp] theorem Gh(p:bR):jA p ρ Ω=match p ρ Ω with |some (k,Ω')=>some (!k,Ω') |none=>none:=(rfl)
@[simp] theorem Mx(f g:Den):yN f g ρ Ω=match f ρ Ω with |some (.bl true,Ω')=>some (.bl true,Ω') |some (.bl false,Ω')=>g ρ Ω' |_=>none:=(rfl)
@[simp] theorem Al:au ρ Ω=some ([],Ω):=(rfl)
@[simp] theorem lD(f:Den)(g:bz):ak f g ρ Ω=match f ρ Ω with
 | some (d,Ω1)=>(match g ρ Ω1 with |some (ds,Ω2)=>some (d::ds,Ω2) |none=>none)
 | none=>none:=(rfl)
@[simp] theorem Mz(g:bz):bD g ρ Ω=match g ρ Ω with |some (ds,Ω')=>(if ds.length<=100000 then some (.tup ds,Ω') else none) |none=>none:=(rfl)
@[simp] theorem Jj(g:bz):fj g ρ Ω=match g ρ Ω with |some (ds,Ω')=>(if ds.length<=100000 then some (.lst ds,Ω') else none) |none=>none:=(rfl)
@[simp] theorem MT(r:List D->Option D)(g:bz):gCB r g ρ Ω=match g ρ Ω with |some (ds,Ω1)=>(match r ds with |some z=>some (z,Ω1) |none=>none) |none=>none:=(rfl)
@[simp] theorem MF(g:Den):yP g ρ Ω=match g ρ Ω with |some (.int i,Ω')=>some (.int (-i),Ω') |_=>none:=(rfl)
@[simp] theorem Gi(f:bf)(g:bz):aL f g ρ Ω=match g ρ Ω with |some (ds,Ω1)=>f ds Ω1 |none=>none:=(rfl)
@[simp] theorem Jk(g:Den):kZ g ρ Ω=match g ρ Ω with |some (d,Ω')=>(match CT d with |some ds=>some (ds,Ω') |none=>none) |none=>none:=(rfl)
@[simp] theorem jo(r:List D->Option (List D))(g:bz):dg r g ρ Ω=match g ρ Ω with |some (ds,Ω')=>(match r ds with |some es=>some (es,Ω') |none=>none) |none=>none:=(rfl)
@[simp] theorem xO(μ:List (Option Nat))(γ:bz)(β:cP)(p:bR)(g:Den):ji μ γ β p g ρ Ω=match γ ρ Ω with
 | some (ds,Ω1)=>(if ds.length<=100000 then(match cW β p g ds (di μ ρ) Ω1 with |some (ys,Ω2)=>some (.lst ys,Ω2) |none=>none) else none)
 | none=>none:=(rfl)
@[simp] theorem Mj:bc ρ Ω=some (.nx ρ Ω):=(rfl)
@[simp] theorem rK(s t:aO):aH s t ρ Ω=match s ρ Ω with |some (.nx ρ' Ω')=>t ρ' Ω' |r=>r:=(rfl)
@[simp] theorem Ls(γ:List Sl->Option (List Sl))(s:aO):mO γ s ρ Ω=match γ ρ with |some ρ'=>s ρ' Ω |none=>none:=(rfl)
@[simp] theorem jq(i:Nat)(g:Den):a_ i g ρ Ω=match g ρ Ω with |some (d,Ω')=>some (.nx (ρ.set i (.dat d)) Ω') |none=>none:=(rfl)
@[simp] theorem Jl(g:Den):cg g ρ Ω=match g ρ Ω with |some (d,Ω')=>some (.rt d Ω') |none=>none:=(rfl)
@[simp] theorem d_(p:bR)(s t:aO):sIf p s t ρ Ω=match p ρ Ω with |some (true,Ω')=>s ρ Ω' |some (false,Ω')=>t ρ Ω' |none=>none:=(rfl)
@[simp] theorem MJ(i:Nat)(g:bz):uZ i g ρ Ω=match g ρ Ω with |some (ds,Ω')=>(if ds.length<=100000 then some (.nx (ρ.set i (.own ds)) Ω') else none) |none=>none:=(rfl)
@[simp] theorem MK(i:Nat)(g:Den):kY i g ρ Ω=match g ρ Ω with
 | some (d,Ω')=>(match ρ[i]? with |some (.own ds)=>(if ds.length<100000 then some (.nx (ρ.set i (.own (ds++[d]))) Ω') else none) |_=>none)
 | none=>none:=(rfl)
@[simp] theorem Jm(β:cP)(g:Den):u_ β g ρ Ω=match g ρ Ω with |some (d,Ω')=>(match β d ρ with |some ρ'=>some (.nx ρ' Ω') |none=>none) |none=>none:=(rfl)
@[simp] theorem gr(γ:bz)(β:cP)(s:aO):du γ β s ρ Ω=match γ ρ Ω with |some (ds,Ω')=>cV β s ds ρ Ω' |none=>none:=(rfl)
@[simp] theorem Lw(i:Nat)(d:D):aV i d ρ=some (ρ.set i (.dat d)):=(rfl)
@[simp] theorem Ml(β:cP)(s:aO):cV β s [] ρ Ω=some (.nx ρ Ω):=(rfl)
theorem cG(β:cP)(s:aO)(d:D)(ds:List D):cV β s (d::ds) ρ Ω=match β d ρ with
  | some ρ1=>(match s ρ1 Ω with
   | some (.nx ρ' Ω')=>cV β s ds ρ' Ω'
   | some (.ct ρ' Ω')=>cV β s ds ρ' Ω'
   | some (.bk ρ' Ω')=>some (.nx ρ' Ω')
   | some (.rt z Ω')=>some (.rt z Ω')
   | none=>none)
  | none=>none:=(rfl)
@[simp] theorem Lx(β:cP)(p:bR)(g:Den):cW β p g [] ρ Ω=some ([],Ω):=(rfl)
theorem mR(β:cP)(p:bR)(g:Den)(d:D)(ds:List D):cW β p g (d::ds) ρ Ω=match β d ρ with
  | some ρ1=>(match p ρ1 Ω with
   | some (true,Ω1)=>(match g ρ1 Ω1 with
    | some (y,Ω2)=>(match cW β p g ds ρ1 Ω2 with
     | some (ys,Ω3)=>some (y::ys,Ω3)
     | none=>none)
    | none=>none)
   | some (false,Ω1)=>cW β p g ds ρ1 Ω1
   | none=>none)
  | none=>none:=(rfl)
theorem vo(n m:Nat)(s:aO)(ds:List D):cF n m s ds Ω=if ds.length=n then(match s (ds.map Sl.dat++List.replicate (m-n) Sl.und) Ω with
  | some (.rt d Ω')=>some (d,Ω')
  | some (.nx _ Ω')=>some (.non,Ω')
  | _=>none)
 else none:=(rfl)
@[simp] theorem M_(c:Int->Int->Bool)(f:Int->Int->Int)(i j:Int):dI c f (.int i) (.int j)=if c i j=true then some (.int (f i j)) else none:=(rfl)
@[simp] theorem Nb(f:Int->Int->Bool)(i j:Int):dB f (.int i) (.int j)=some (.bl (f i j)):=(rfl)
@[simp] theorem add_int(i j:Int):bG (.int i) (.int j)=some (.int (i+j)):=(rfl)
@[simp] theorem Jo(xs:List D)(i:Int):ixD (.lst xs) (.int i)=L2.atI xs i:=(rfl)
@[simp] theorem zR(xs:List D)(i:Int):ixD (.tup xs) (.int i)=L2.atI xs i:=(rfl)
@[simp] theorem Mm(xs:List D):rH [.lst xs]=some (.int xs.length):=(rfl)
@[simp] theorem Nf(i j:Int):uD [.int i,.int j]=some (.int (if j<i then j else i)):=(rfl)
@[simp] theorem Gj(ns:List Int):CT (.scr ns)=some (ns.map D.int):=(rfl)
theorem qm{j:Int}(h0:-1000000<=j)(h:j<=1000000):fX [.int j]=some (upD 0 j.toNat):=iD (by omega)
theorem yQ{i j:Int}(h0:-1000000<=i)(h:i<=1000000)(h1:-1000000<=j)(h2:j<=1000000):jO [.int i,.int j]=some (upD i (j-i).toNat):=iD (by omega)
theorem oJ{i j:Int}(h:(-1000000000000000000<i/\i<1000000000000000000)\/(-1000000000000000000<j/\j<1000000000000000000)):dM (.int i) (.int j)=some (.int (i*j)):=iD (by omega)
end
theorem cN{n m:Nat}{s:aO}{ds:List D}{Ω Ω':List OS}{d:D}(hl:ds.length=n)(h:s (ds.map Sl.dat++List.replicate (m-n) Sl.und) Ω=some (.rt d Ω')):cF n m s ds Ω=some (d,Ω'):=by
 rw[vo,if_pos hl,h]
theorem aN{s t:aO}{ρ ρ':List Sl}{Ω Ω':List OS}(h:s ρ Ω=some (.nx ρ' Ω')):aH s t ρ Ω=t ρ' Ω':=by rw[rK,h]
theorem iU{s t:aO}{ρ:List Sl}{Ω Ω':List OS}{d:D}(h:s ρ Ω=some (.rt d Ω')):aH s t ρ Ω=some (.rt d Ω'):=by rw[rK,h]
theorem Am{i:Nat}{g:Den}{ρ:List Sl}{Ω Ω':List OS}{d:D}(h:g ρ Ω=some (d,Ω')):a_ i g ρ Ω=some (.nx (ρ.set i (.dat d)) Ω'):=by rw[jq,h]
theorem fY{β:Type}(xs:List β)(i:Nat)(h:i<xs.length):L2.atI xs (i:Int)=some xs[i]:=L2.Fv (List.getElem?_eq_getElem h)
theorem An{β:Type}{xs:List β}{i:Int}(h0:0<=i)(h:i.toNat<xs.length):L2.atI xs i=some xs[i.toNat]:=by
 have e:i=(i.toNat:Int):=by omega
 have q:=fY xs i.toNat h
 rw[<-e] at q
 exact q
theorem rM{β γ:Type}(f:β->γ)(xs:List β)(i:Int):L2.atI (xs.map f) i=(L2.atI xs i).map f:=by
 unfold L2.atI
 rw[List.length_map]
 cases L2.ixN xs.length i with
 | none=>rfl
 | some j=>simp
theorem qp(i:Int):SeqAt.shaped (toP (.int i))=true:=by rw[toP];rfl
@[simp] theorem Kr(neg:Bool)(i j:Int):eqD neg (.int i) (.int j)=some (.bl (if neg then !decide (i=j) else decide (i=j))):=by
 unfold eqD
 rw[qp,qp]
 have e:PyData.eqv (toP (.int i)) (toP (.int j))=decide (i=j):=by
  rw[toP,toP,PyData.eqv]
  by_cases h:i=j<;>simp[h]
 rw[e]
 rfl
end DL
namespace DL
open PySem PySem.Spec PyProof.Rows L2
theorem kj(p:bR)(s:aO)(n:Nat)(ρ:List Sl)(Ω:List OS):eQ p s (n+1) ρ Ω=match p ρ Ω with
  | some (true,Ω1)=>(match s ρ Ω1 with
   | some (.nx ρ' Ω')=>eQ p s n ρ' Ω'
   | some (.ct ρ' Ω')=>eQ p s n ρ' Ω'
   | some (.bk ρ' Ω')=>some (.nx ρ' Ω')
   | some (.rt z Ω')=>some (.rt z Ω')
   | none=>none)
  | some (false,Ω1)=>some (.nx ρ Ω1)
  | none=>none:=(rfl)
end DL
namespace DL
open PySem PySem.Spec PyProof.Rows L2
noncomputable def OIs(K:PySem.W.Frag)(α:List Addr)(F:Hp):Option D->Option V->Prop
 | none,none=>True
 | some d,some v=>Is K α F d v
 | _,_=>False
section
variable {κ:Type} [DecidableEq κ]
noncomputable def cC(kvs:List (κ×D))(k:κ):Option D:=(kvs.find? fun kv=>decide (kv.1=k)).map (·.2)
noncomputable def putD(kvs:List (κ×D))(k:κ)(v:D):List (κ×D) :=
 if(kvs.any fun kv=>decide (kv.1=k))=true then kvs.map (fun kv=>if kv.1=k then(kv.1,v) else kv) else kvs++[(k,v)]
noncomputable def ie(kvs:List (κ×D))(k:κ):List (κ×D):=kvs.filter fun kv=>decide (kv.1≠k)
variable {K:PySem.W.Frag} {α:List Addr} {F:Hp}
theorem bO.len:∀{ps:List (κ×D)} {vs:List (κ×V)},bO K α F ps vs->ps.length=vs.length
 | [],_,h=>by rw[show _=[] from h];rfl
 | p::r,_,⟨v,t,e,_,q⟩=>by rw[e,List.length_cons,List.length_cons,q.len]
theorem bO.keys:∀{ps:List (κ×D)} {vs:List (κ×V)},bO K α F ps vs->ps.map (·.1)=vs.map (·.1)
 | [],_,h=>by rw[show _=[] from h];rfl
 | p::r,_,⟨v,t,e,_,q⟩=>by rw[e,List.map_cons,List.map_cons,q.keys]
theorem bO.val(k:κ):∀{ps:List (κ×D)} {vs:List (κ×V)},bO K α F ps vs->OIs K α F (cC ps k) (fV vs k)
 | [],_,h=>by rw[show _=[] from h];exact trivial
 | p::r,_,⟨v,t,e,i,q⟩=>by
  subst e
  by_cases h:p.1=k
  ·have e1:cC (p::r) k=some p.2:=by simp[cC,List.find?_cons,h]
   rw[e1,lQ h];exact i
  ·have e1:cC (p::r) k=cC r k:=by simp[cC,List.find?_cons,h]
   rw[e1,lR h];exact q.val k
theorem bO.repl(k:κ){d:D}{y:V}(iy:Is K α F d y):∀{ps:List (κ×D)} {vs:List (κ×V)},bO K α F ps vs->bO K α F (ps.map fun kv=>if kv.1=k then(kv.1,d) else kv) (vs.map fun kv=>if kv.1=k then(kv.1,y) else kv)
 | [],_,h=>by rw[show _=[] from h];exact rfl
 | p::r,_,⟨v,t,e,i,q⟩=>by
  subst e
  rw[List.map_cons,List.map_cons]
  by_cases h:p.1=k
  ·rw[if_pos h,if_pos h];exact⟨y,_,rfl,iy,q.repl k iy⟩
  ·rw[if_neg h,if_neg h];exact⟨v,_,rfl,i,q.repl k iy⟩
theorem bO.snoc(k:κ){d:D}{y:V}(iy:Is K α F d y):∀{ps:List (κ×D)} {vs:List (κ×V)},bO K α F ps vs->bO K α F (ps++[(k,d)]) (vs++[(k,y)])
 | [],_,h=>by rw[show _=[] from h];exact⟨y,[],rfl,iy,rfl⟩
 | p::r,_,⟨v,t,e,i,q⟩=>by
  subst e
  exact⟨v,_,rfl,i,q.snoc k iy⟩
theorem bO.any(k:κ):∀{ps:List (κ×D)} {vs:List (κ×V)},bO K α F ps vs->(ps.any fun kv=>decide (kv.1=k))=vs.any fun kv=>decide (kv.1=k)
 | [],_,h=>by rw[show _=[] from h];rfl
 | p::r,_,⟨v,t,e,i,q⟩=>by
  subst e
  rw[List.any_cons,List.any_cons,q.any k]
theorem bO.put{ps:List (κ×D)}{vs:List (κ×V)}(h:bO K α F ps vs)(k:κ){d:D}{y:V}(iy:Is K α F d y):bO K α F (putD ps k d) (putK vs k y):=by
 unfold putD putK
 rw[h.any k]
 split
 ·exact h.repl k iy
 ·exact h.snoc k iy
theorem bO.drop(k:κ):∀{ps:List (κ×D)} {vs:List (κ×V)},bO K α F ps vs->bO K α F (ie ps k) (fG vs k)
 | [],_,h=>by rw[show _=[] from h];exact rfl
 | p::r,_,⟨v,t,e,i,q⟩=>by
  subst e
  unfold ie fG
  by_cases h:p.1=k
  ·rw[List.filter_cons_of_neg (by simp[h]),List.filter_cons_of_neg (by simp[h])];exact q.drop k
  ·rw[List.filter_cons_of_pos (by simp[h]),List.filter_cons_of_pos (by simp[h])];exact⟨v,_,rfl,i,q.drop k⟩
end
section
variable {K:PySem.W.Frag} {α:List Addr} {F:Hp}
theorem bO.look(f:Str):∀{ps:List (Str×D)} {vs:List (Str×V)},bO K α F ps vs->OIs K α F (ps.lookup f) (vs.lookup f)
 | [],_,h=>by rw[show _=[] from h];exact trivial
 | (g,d)::r,_,⟨v,t,e,i,q⟩=>by
  subst e
  by_cases h:(f==g)=true
  ·rw[List.lookup_cons,List.lookup_cons,h];exact i
  ·have h':(f==g)=false:=by cases z:(f==g) with |true=>exact absurd z h |false=>rfl
   rw[List.lookup_cons,List.lookup_cons,h'];exact q.look f
noncomputable def gJ(f:Str)(v:D):List (Str×D)->List (Str×D)
 | []=>[(f,v)]
 | (g,x)::r=>if g=f then(g,v)::r else(g,x)::gJ f v r
theorem bO.eG(f:Str){d:D}{y:V}(iy:Is K α F d y):∀{ps:List (Str×D)} {vs:List (Str×V)},bO K α F ps vs->bO K α F (gJ f d ps) (L2.eG f y vs)
 | [],_,h=>by rw[show _=[] from h];exact⟨y,[],rfl,iy,rfl⟩
 | (g,x)::r,_,⟨v,t,e,i,q⟩=>by
  subst e
  unfold gJ L2.eG
  by_cases h:g=f
  ·rw[if_pos h,if_pos h];exact⟨y,t,rfl,iy,q⟩
  ·rw[if_neg h,if_neg h];exact⟨v,_,rfl,i,q.eG f iy⟩
end
noncomputable def E4.obj(e:E4)(p:Addr)(H':Hp):E4:=⟨e.α++[p],e.F,fun b=>e.A b\/b=p,H'⟩
noncomputable def E4.at(e:E4)(a:Addr)(o:HO):E4:=⟨e.α,e.F,e.A,upd e.H a o⟩
section
variable {K:PySem.W.Frag} {C:Cl} {e:E4} {Ω:List OS}
theorem Wf.objA(w:Wf K C e Ω){n:Nat}{a:Addr}(h:e.α[n]? = some a):e.A a/\∃o,Ω[n]? = some o:=by
 have hl:n<Ω.length:=by rw[<-w.ol];exact(List.getElem?_eq_some_iff.mp h).1
 exact⟨(w.ob n a _ h (List.getElem?_eq_getElem hl)).1,_,List.getElem?_eq_getElem hl⟩
theorem Wf.obj(w:Wf K C e Ω){p:Addr}{H':Hp}{o:OS}(hp:e.H p=none)(hk:∀b u,e.H b=some u->H' b=some u)(hn:H' p≠none/\∀xs,H' p≠some (.tup xs))(ho:pD K C (e.obj p H') p o) :
  Wf K C (e.obj p H') (Ω++[o])/\Ext e (e.obj p H'):=by
 have nA:¬e.A p:=fun z=>(w.ah p z).1 hp
 have npα:p∉e.α:=fun z=>by
  obtain⟨n,h⟩:=List.getElem?_of_mem z
  exact nA (w.objA h).1
 refine⟨⟨fun b u h=>hk b u (w.fh b u h),fun b h=>?_,fun b h=>?_,?_,?_,fun n b u h1 h2=>?_⟩,⟨fun b o' u h=>hk b _ h,fun b u h _=>hk b u h,fun b u h=>⟨u,hk b u h⟩,bB.refl _,fun b u h=>.inl h,fun b h=>?_,fun b h=>.inl h,[p],rfl⟩⟩
 ·rcases h with h |rfl
  ·exact w.fa b h
  ·exact w.nF hp
 ·rcases h with h |rfl
  ·obtain⟨h1,h2⟩:=w.ah b h
   cases q:e.H b with
   | none=>exact absurd q h1
   | some u =>
    show H' b≠none/\∀xs,H' b≠some (.tup xs)
    rw[hk b u q,<-q]
    exact⟨h1,h2⟩
  ·exact hn
 ·show(e.α++[p]).length=(Ω++[o]).length
  rw[List.length_append,List.length_append,w.ol];rfl
 ·show(e.α++[p]).Nodup
  rw[List.nodup_append]
  refine⟨w.nd,by simp,fun x hx y hy=>?_⟩
  simp only[List.mem_singleton] at hy
  subst hy
  exact fun z=>npα (z ▸ hx)
 ·have h1:(e.α++[p])[n]? = some b:=h1
  by_cases hl:n<e.α.length
  ·rw[List.getElem?_append_left hl] at h1
   rw[List.getElem?_append_left (by rw[<-w.ol];exact hl)] at h2
   exact⟨.inl (w.ob n b u h1 h2).1,(w.ob n b u h1 h2).2.keep (fun v hv=>hk b v hv) (bB.refl _) ⟨[p],rfl⟩⟩
  ·have en:n=e.α.length:=by
    have:=(List.getElem?_eq_some_iff.mp h1).1
    rw[List.length_append] at this
    simp at this
    omega
   subst en
   rw[List.getElem?_append_right (Nat.le_refl _),Nat.sub_self] at h1
   rw[w.ol,List.getElem?_append_right (Nat.le_refl _),Nat.sub_self] at h2
   cases h1
   cases h2
   exact⟨.inr rfl,ho⟩
 ·rcases h with h |rfl
  ·exact .inl h
  ·exact .inr hp
theorem Wf.atW(w:Wf K C e Ω){n:Nat}{a:Addr}{o':OS}{ho:HO}(hα:e.α[n]? = some a)(hn:∀xs,ho ≠ .tup xs)(h':pD K C (e.at a ho) a o'):Wf K C (e.at a ho) (Ω.set n o'):=by
 have hA:=(w.objA hα).1
 have hF:=w.fa a hA
 have neF:∀b u,e.F b=some u->b≠a:=fun b u h z=>by subst z;rw[hF] at h;cases h
 refine⟨fun b u h=>?_,w.fa,fun b h=>?_,by simp[E4.at,w.ol],w.nd,fun m b u h1 h2=>?_⟩
 ·show upd e.H a ho b=some u
  rw[aB (neF b u h)];exact w.fh b u h
 ·show upd e.H a ho b≠none/\∀xs,upd e.H a ho b≠some (.tup xs)
  by_cases z:b=a
  ·subst z;rw[aK];exact⟨by simp,fun xs q=>hn xs (Option.some.inj q)⟩
  ·rw[aB z];exact w.ah b h
 ·by_cases z:m=n
  ·subst z
   have h1:e.α[m]? = some b:=h1
   rw[hα] at h1
   cases h1
   have hl:m<Ω.length:=by rw[<-w.ol];exact(List.getElem?_eq_some_iff.mp hα).1
   rw[List.getElem?_set_self hl] at h2
   cases h2
   exact⟨hA,h'⟩
  ·rw[List.getElem?_set_ne (fun q=>z q.symm)] at h2
   have nb:b≠a:=fun q=>by
    subst q
    exact z ((List.getElem?_inj (List.getElem?_eq_some_iff.mp h1).1 w.nd).mp (h1.trans hα.symm))
   refine⟨(w.ob m b u h1 h2).1,(w.ob m b u h1 h2).2.keep (fun v hv=>?_) (bB.refl _) ⟨[],by simp[E4.at]⟩⟩
   show upd e.H a ho b=some v
   rw[aB nb];exact hv
theorem Wf.at(w:Wf K C e Ω){n:Nat}{a:Addr}{o':OS}{ho:HO}(hα:e.α[n]? = some a)(hn:∀xs,ho ≠ .tup xs)(h':pD K C (e.at a ho) a o')(hz:∀o u,e.H a≠some (.frz o u)) :
  Wf K C (e.at a ho) (Ω.set n o')/\Ext e (e.at a ho):=by
 have hA:=(w.objA hα).1
 refine⟨w.atW hα hn h',⟨fun b o' u h=>?_,fun b u h hn=>?_,fun b u h=>?_,bB.refl _,fun b u h=>.inl h,fun b h=>.inl h,fun b h=>h,[],by simp[E4.at]⟩⟩
 ·show upd e.H a ho b=some (.frz o' u)
  rw[aB (fun z=>hz o' u (by rw[<-z];exact h))];exact h
 ·show upd e.H a ho b=some u
  rw[aB (fun z=>hn (by rw[z];exact hA))];exact h
 ·by_cases z:b=a
  ·subst z;exact⟨ho,aK⟩
  ·exact⟨u,by show upd e.H a ho b=some u;rw[aB z];exact h⟩
end
noncomputable def jR:D->Option Key
 | .int i=>some (.inl i)
 | .str x=>some (.inr x)
 | _=>none
noncomputable def qt:List D->Option (List Key)
 | []=>some []
 | d::ds=>match jR d with
  | some k=>(match qt ds with |some ks=>some (k::ks) |none=>none)
  | none=>none
noncomputable def jC:D->Option (List Key)
 | .tup xs=>qt xs
 | _=>none
noncomputable def ofK:Key->D
 | .inl i=>.int i
 | .inr x=>.str x
section
variable {K:PySem.W.Frag} {α:List Addr} {F:Hp}
theorem mU{d:D}{k:Key}{v:V}(h:jR d=some k)(i:Is K α F d v):v=kV k:=by
 cases d<;>first |cases h |skip
 ·rw[Is] at i;exact i
 ·rw[Is] at i;exact i
theorem xP:∀{ds:List D} {ks:List Key} {vs:List V},qt ds=some ks->IsL K α F ds vs->vs=ks.map kV
 | [],ks,vs,h,i=>by cases h;rw[i.of_nil];rfl
 | d::ds,ks,vs,h,i=>by
  obtain⟨v,r,rfl,i1,i2⟩:=i.of_cons
  unfold qt at h
  cases q:jR d with
  | none=>rw[q] at h;cases h
  | some k =>
   rw[q] at h
   dsimp only at h
   cases q2:qt ds with
   | none=>rw[q2] at h;cases h
   | some ks' =>
    rw[q2] at h
    cases h
    rw[List.map_cons,mU q i1,xP q2 i2]
theorem oK{d:D}{ks:List Key}{v:V}(h:jC d=some ks)(i:Is K α F d v):∃b,v=.ref b/\F b=some (.tup (ks.map kV)):=by
 cases d<;>first |cases h |skip
 rw[Is] at i
 obtain⟨a,vs,rfl,e,q⟩:=i
 rw[xP h q] at e
 exact⟨a,rfl,e⟩
theorem Ao(k:Key):Is K α F (ofK k) (kV k):=by
 cases k with
 | inl i=>show Is K α F (.int i) (.int i);rw[Is]
 | inr x=>show Is K α F (.str x) (.str x);rw[Is]
end
noncomputable def fH:OS->D->Option (Option D)
 | .fzK kvs,d=>(match jR d with |some k=>some (cC kvs k) |none=>none)
 | .dK kvs,d=>(match jR d with |some k=>some (cC kvs k) |none=>none)
 | .dT kvs,d=>(match jC d with |some k=>some (cC kvs k) |none=>none)
 | .fzT kvs,d=>(match jC d with |some k=>some (cC kvs k) |none=>none)
 | _,_=>none
noncomputable def mV:OS->D->D->Option OS
 | .dK kvs,d,v=>(match jR d with |some k=>if kvs.length<100000 then some (.dK (putD kvs k v)) else none |none=>none)
 | .dT kvs,d,v=>(match jC d with |some k=>if kvs.length<100000 then some (.dT (putD kvs k v)) else none |none=>none)
 | _,_,_=>none
noncomputable def jj:OS->Bool
 | .fzK _=>true
 | .dK _=>true
 | .dT _=>true
 | .fzT _=>true
 | _=>false
section
variable {K:PySem.W.Frag} {C:Cl} {e:E4} {Ω:List OS}
theorem rN(w:Wf K C e Ω){n:Nat}{a:Addr}{o:OS}{d:D}{r:Option D}{y:V}(hα:e.α[n]? = some a)(hΩ:Ω[n]? = some o)(hl:fH o d=some r)(i:Is K e.α e.F d y) :
  ∃r',gM e.H a y r'/\OIs K e.α e.F r r':=by
 have ob:=(w.ob n a o hα hΩ).2
 unfold fH at hl
 cases o with
 | fzK kvs =>
  obtain⟨vs,ob',h1,h2⟩:=ob
  dsimp only at hl
  cases q:jR d with
  | none=>rw[q] at hl;cases hl
  | some k =>
   rw[q] at hl
   cases hl
   rw[mU q i]
   exact⟨_,.inl ⟨vs,k,.inr ⟨_,h1⟩,rfl,rfl⟩,h2.val k⟩
 | dK kvs =>
  obtain⟨vs,h1,h2⟩:=ob
  dsimp only at hl
  cases q:jR d with
  | none=>rw[q] at hl;cases hl
  | some k =>
   rw[q] at hl
   cases hl
   rw[mU q i]
   exact⟨_,gM.k h1,h2.val k⟩
 | dT kvs =>
  obtain⟨vs,h1,h2⟩:=ob
  dsimp only at hl
  cases q:jC d with
  | none=>rw[q] at hl;cases hl
  | some k =>
   rw[q] at hl
   cases hl
   obtain⟨b,rfl,hb⟩:=oK q i
   exact⟨_,gM.t h1 (w.fh _ _ hb),h2.val k⟩
 | fzT kvs =>
  obtain⟨vs,ob',h1,h2⟩:=ob
  dsimp only at hl
  cases q:jC d with
  | none=>rw[q] at hl;cases hl
  | some k =>
   rw[q] at hl
   cases hl
   obtain⟨b,rfl,hb⟩:=oK q i
   exact⟨_,.inr ⟨vs,k,b,.inr ⟨_,h1⟩,rfl,w.fh _ _ hb,rfl⟩,h2.val k⟩
 | _=>cases hl
theorem Aq(w:Wf K C e Ω){n:Nat}{a:Addr}{o:OS}(hα:e.α[n]? = some a)(hΩ:Ω[n]? = some o)(h:jj o=true):IsD e.H a:=by
 have ob:=(w.ob n a o hα hΩ).2
 cases o with
 | fzK kvs=>obtain⟨vs,ob',h1,_⟩:=ob;exact .inl ⟨vs,.inr ⟨_,h1⟩⟩
 | dK kvs=>obtain⟨vs,h1,_⟩:=ob;exact .inl ⟨vs,.inl h1⟩
 | dT kvs=>obtain⟨vs,h1,_⟩:=ob;exact .inr ⟨vs,.inl h1⟩
 | fzT kvs=>obtain⟨vs,ob',h1,_⟩:=ob;exact .inr ⟨vs,.inr ⟨_,h1⟩⟩
 | _=>cases h
theorem Gk(w:Wf K C e Ω){n:Nat}{a:Addr}{o o':OS}{d x:D}{y v:V}(hα:e.α[n]? = some a)(hΩ:Ω[n]? = some o)(hp:mV o d x=some o')(i:Is K e.α e.F d y)(ix:Is K e.α e.F x v) :
  ∃H',lW e.H a y v H'/\∃e',e'.H=H'/\Wf K C e' (Ω.set n o')/\Ext e e':=by
 have ob:=(w.ob n a o hα hΩ).2
 unfold mV at hp
 cases o with
 | dK kvs =>
  obtain⟨vs,h1,h2⟩:=ob
  dsimp only at hp
  cases q:jR d with
  | none=>rw[q] at hp;cases hp
  | some k =>
   rw[q] at hp
   dsimp only at hp
   split at hp
   ·rename_i hl
    cases hp
    rw[mU q i]
    refine⟨_,lW.k h1 (by rw[<-h2.len];exact lB hl),e.at a _,rfl,w.at hα (fun xs z=>nomatch z) ⟨_,aK,h2.put k ix⟩ fun o u z=>by rw[h1] at z;cases z⟩
   ·cases hp
 | dT kvs =>
  obtain⟨vs,h1,h2⟩:=ob
  dsimp only at hp
  cases q:jC d with
  | none=>rw[q] at hp;cases hp
  | some k =>
   rw[q] at hp
   dsimp only at hp
   split at hp
   ·rename_i hl
    cases hp
    obtain⟨b,rfl,hb⟩:=oK q i
    refine⟨_,lW.t h1 (w.fh _ _ hb) (by rw[<-h2.len];exact lB hl),e.at a _,rfl,w.at hα (fun xs z=>nomatch z) ⟨_,aK,h2.put k ix⟩ fun o u z=>by rw[h1] at z;cases z⟩
   ·cases hp
 | _=>cases hp
end
noncomputable def iV:Den:=fun _ Ω=>some (.obj Ω.length,Ω++[.dK []])
noncomputable def uF:Den:=fun _ Ω=>some (.obj Ω.length,Ω++[.dT []])
noncomputable def aJ(go gi:Den):Den:=fun ρ Ω=>match go ρ Ω with
 | some (.obj n,Ω1)=>(match gi ρ Ω1 with
  | some (k,Ω2)=>(match Ω2[n]? with
   | some o=>(match fH o k with |some (some d)=>some (d,Ω2) |_=>none)
   | none=>none)
  | none=>none)
 | _=>none
noncomputable def gG(neg:Bool)(gk go:Den):Den:=fun ρ Ω=>match gk ρ Ω with
 | some (k,Ω1)=>(match go ρ Ω1 with
  | some (.obj n,Ω2)=>(match Ω2[n]? with
   | some o=>(match fH o k with |some r=>some (.bl (if neg then !r.isSome else r.isSome),Ω2) |none=>none)
   | none=>none)
  | _=>none)
 | none=>none
noncomputable def lE(go gk:Den):Den:=fun ρ Ω=>match go ρ Ω with
 | some (.obj n,Ω1)=>(match Ω1[n]? with
  | some o=>if jj o=true then(match gk ρ Ω1 with
   | some (k,Ω2)=>(match Ω2[n]? with
    | some o2=>(match fH o2 k with |some r=>some (r.getD .non,Ω2) |none=>none)
    | none=>none)
   | none=>none) else none
  | none=>none)
 | _=>none
noncomputable def eF(go gi gv:Den):aO:=fun ρ Ω=>match gv ρ Ω with
 | some (v,Ω1)=>(match go ρ Ω1 with
  | some (.obj n,Ω2)=>(match gi ρ Ω2 with
   | some (k,Ω3)=>(match Ω3[n]? with
    | some o=>(match mV o k v with |some o'=>some (.nx ρ (Ω3.set n o')) |none=>none)
    | none=>none)
   | none=>none)
  | _=>none)
 | none=>none
section
variable {X:Cx} {C:Cl} {a b c x y:Expr} {f g h:Den} {pos pos' ap cp:Pos}
theorem lF:PD X C (.Dict [] [] pos) iV:=bT Cq fun σ H Q hw'=>by
 obtain⟨e,Ω,ρ,d,Ω',eH,w,rl,q,kk⟩:=hw'
 subst eH
 cases q
 intro p hp
 obtain⟨w',x'⟩:=w.obj (H':=upd e.H p (.dK [])) (o:=.dK []) hp (fun b u hb=>by rw[aB (aM hb hp)];exact hb) (by rw[aK];exact⟨by simp,fun xs z=>nomatch z⟩) ⟨[],aK,rfl⟩
 refine kk _ (e.obj p _) x' w' ?_
 rw[Is]
 exact⟨p,by show(e.α++[p])[Ω.length]? = some p;rw[<-w.ol];simp,rfl⟩
theorem Gm:PD X C (.Dict [] [] pos) uF:=bT Cr fun σ H Q hw'=>by
 obtain⟨e,Ω,ρ,d,Ω',eH,w,rl,q,kk⟩:=hw'
 subst eH
 cases q
 intro p hp
 obtain⟨w',x'⟩:=w.obj (H':=upd e.H p (.dT [])) (o:=.dT []) hp (fun b u hb=>by rw[aB (aM hb hp)];exact hb) (by rw[aK];exact⟨by simp,fun xs z=>nomatch z⟩) ⟨[],aK,rfl⟩
 refine kk _ (e.obj p _) x' w' ?_
 rw[Is]
 exact⟨p,by show(e.α++[p])[Ω.length]? = some p;rw[<-w.ol];simp,rfl⟩
theorem OIs.some_of{K:PySem.W.Frag}{α:List Addr}{F:Hp}{d:D}{r:Option V}(h:OIs K α F (some d) r):∃v,r=some v/\Is K α F d v:=by
 cases r with
 | none=>exact h.elim
 | some v=>exact⟨v,rfl,h⟩
theorem OIs.isSome{K:PySem.W.Frag}{α:List Addr}{F:Hp}{d:Option D}{r:Option V}(h:OIs K α F d r):r.isSome=d.isSome:=by
 cases r<;>cases d<;>first |rfl |exact h.elim
theorem OIs.getD{K:PySem.W.Frag}{α:List Addr}{F:Hp}{d:Option D}{r:Option V}{x:D}{v:V}(h:OIs K α F d r)(i:Is K α F x v):Is K α F (d.getD x) (r.getD v):=by
 cases r<;>cases d<;>first |exact h.elim |exact i |exact h
theorem aZ(hu:X.A.units+1<cLine)(ho:PD X C a f)(hi:PD X C b g)(hs:Cm b):PD X C (.Subscript a b pos) (aJ f g):=bT (FJ hu ho hi hs) fun σ H Q hw'=>by
 obtain⟨e,Ω,ρ,d,Ω',eH,w,rl,q,kk⟩:=hw'
 unfold aJ at q
 cases q1:f ρ Ω with
 | none=>rw[q1] at q;cases q
 | some p1 =>
  obtain⟨d1,Ω1⟩:=p1
  rw[q1] at q
  cases d1 with
  | obj n =>
   dsimp only at q
   cases q2:g ρ Ω1 with
   | none=>rw[q2] at q;cases q
   | some p2 =>
    obtain⟨k,Ω2⟩:=p2
    rw[q2] at q
    dsimp only at q
    cases q3:Ω2[n]? with
    | none=>rw[q3] at q;cases q
    | some o =>
     rw[q3] at q
     dsimp only at q
     cases q4:fH o k with
     | none=>rw[q4] at q;cases q
     | some r =>
      rw[q4] at q
      cases r with
      | none=>cases q
      | some d' =>
       cases q
       refine⟨e,Ω,ρ,_,Ω1,eH,w,rl,q1,fun v e1 x1 w1 i1=>?_⟩
       refine⟨e1,Ω1,ρ,k,_,rfl,w1,rl.ext x1,q2,fun u e2 x2 w2 i2=>?_⟩
       have i3:=i1.ext x2
       rw[Is] at i3
       obtain⟨p,hα,rfl⟩:=i3
       obtain⟨r',g1,o1⟩:=rN w2 hα q3 q4 i2
       obtain⟨v',rfl,iv⟩:=o1.some_of
       exact⟨p,v',rfl,g1,kk v' e2 (x1.trans x2) w2 iv⟩
  | _=>cases q
theorem vp{K:PySem.W.Frag}{neg:Bool}{σ:St}{H:Hp}{Q:VK}(h:tD K C (gG neg f g) σ H Q) :
  tD K C f σ H fun y H1=>tD K C g σ H1 fun x H2=>∃a o,x=.ref a/\gM H2 a y o/\Q (.bl (if neg then !o.isSome else o.isSome)) H2:=by
 obtain⟨e,Ω,ρ,d,Ω',eH,w,rl,q,kk⟩:=h
 unfold gG at q
 cases q1:f ρ Ω with
 | none=>rw[q1] at q;cases q
 | some p1 =>
  obtain⟨k,Ω1⟩:=p1
  rw[q1] at q
  dsimp only at q
  cases q2:g ρ Ω1 with
  | none=>rw[q2] at q;cases q
  | some p2 =>
   obtain⟨d2,Ω2⟩:=p2
   rw[q2] at q
   cases d2 with
   | obj n =>
    dsimp only at q
    cases q3:Ω2[n]? with
    | none=>rw[q3] at q;cases q
    | some o =>
     rw[q3] at q
     dsimp only at q
     cases q4:fH o k with
     | none=>rw[q4] at q;cases q
     | some r =>
      rw[q4] at q
      cases q
      refine⟨e,Ω,ρ,k,Ω1,eH,w,rl,q1,fun v e1 x1 w1 i1=>?_⟩
      refine⟨e1,Ω1,ρ,_,_,rfl,w1,rl.ext x1,q2,fun u e2 x2 w2 i2=>?_⟩
      rw[Is] at i2
      obtain⟨p,hα,rfl⟩:=i2
      obtain⟨r',g1,o1⟩:=rN w2 hα q3 q4 (i1.ext x2)
      refine⟨p,r',rfl,g1,?_⟩
      rw[o1.isSome]
      exact kk _ e2 (x1.trans x2) w2 (by rw[Is])
   | _=>cases q
theorem oM(hu:X.A.units+1<cLine)(hk:PD X C a f)(ho:PD X C b g)(h1:behindInMarks .In b=false:=by rfl):PDT X C (.Compare a [.In] [b] pos) (gT (gG false f g)) :=
 lz (zB (Iz hu hk ho) h1) fun σ H Q h=>vp (lA h)
theorem qu(hu:X.A.units+1<cLine)(hk:PD X C a f)(ho:PD X C b g)(h1:behindInMarks .NotIn b=false:=by rfl):PDT X C (.Compare a [.NotIn] [b] pos) (gT (gG true f g)) :=
 lz (zB (zV hu hk ho) h1) fun σ H Q h=>vp (lA h)
theorem vq(hu:X.A.units+1<cLine)(ho:PD X C a f)(hi:PD X C b g)(m:M1 X a "get" ap b cp):PD X C (.Call (.Attribute a "get" ap) [b] [] cp) (lE f g):=bT (Cv hu ho hi m) fun σ H Q hw'=>by
 obtain⟨e,Ω,ρ,d,Ω',eH,w,rl,q,kk⟩:=hw'
 unfold lE at q
 cases q1:f ρ Ω with
 | none=>rw[q1] at q;cases q
 | some p1 =>
  obtain⟨d1,Ω1⟩:=p1
  rw[q1] at q
  cases d1 with
  | obj n =>
   dsimp only at q
   cases q0:Ω1[n]? with
   | none=>rw[q0] at q;cases q
   | some o0 =>
    rw[q0] at q
    dsimp only at q
    by_cases hd:jj o0=true
    ·rw[if_pos hd] at q
     cases q2:g ρ Ω1 with
     | none=>rw[q2] at q;cases q
     | some p2 =>
      obtain⟨k,Ω2⟩:=p2
      rw[q2] at q
      dsimp only at q
      cases q3:Ω2[n]? with
      | none=>rw[q3] at q;cases q
      | some o =>
       rw[q3] at q
       dsimp only at q
       cases q4:fH o k with
       | none=>rw[q4] at q;cases q
       | some r =>
        rw[q4] at q
        cases q
        refine⟨e,Ω,ρ,_,Ω1,eH,w,rl,q1,fun v e1 x1 w1 i1=>?_⟩
        rw[Is] at i1
        obtain⟨p,hα,rfl⟩:=i1
        refine⟨p,rfl,Aq w1 hα q0 hd,?_⟩
        refine⟨e1,Ω1,ρ,k,_,rfl,w1,rl.ext x1,q2,fun u e2 x2 w2 i2=>?_⟩
        have hα2:e2.α[n]? = some p:=by
         have i3:Is X.K e2.α e2.F (.obj n) (.ref p):=Is.ext x2 (by rw[Is];exact⟨p,hα,rfl⟩)
         rw[Is] at i3
         obtain⟨p',z,zz⟩:=i3
         cases zz
         exact z
        obtain⟨r',g1,o1⟩:=rN w2 hα2 q3 q4 i2
        exact⟨r',g1,kk _ e2 (x1.trans x2) w2 (o1.getD (by rw[Is]))⟩
    ·rw[if_neg hd] at q;cases q
  | _=>cases q
theorem ig(hu:X.A.units+1<cLine)(ho:PD X C a f)(hi:PD X C b g)(hv:PD X C x h)(hs:swapsWith x (some (.Subscript a b pos')) pos.line X.env=pure false:=by rfl) :
  PDS X C (.Assign [.Subscript a b pos'] x pos) (eF f g h):=fun e₀=>dG (FN hu ho hi hv hs) fun Dn σ H hw'=>by
 obtain⟨e,Ω,ρ,o,eH,r,q,k⟩:=hw'
 unfold eF at q
 cases q1:h ρ Ω with
 | none=>rw[q1] at q;cases q
 | some p1 =>
  obtain⟨v,Ω1⟩:=p1
  rw[q1] at q
  dsimp only at q
  cases q2:f ρ Ω1 with
  | none=>rw[q2] at q;cases q
  | some p2 =>
   obtain⟨d2,Ω2⟩:=p2
   rw[q2] at q
   cases d2 with
   | obj n =>
    dsimp only at q
    cases q3:g ρ Ω2 with
    | none=>rw[q3] at q;cases q
    | some p3 =>
     obtain⟨kd,Ω3⟩:=p3
     rw[q3] at q
     dsimp only at q
     cases q4:Ω3[n]? with
     | none=>rw[q4] at q;cases q
     | some ob =>
      rw[q4] at q
      dsimp only at q
      cases q5:mV ob kd v with
      | none=>rw[q5] at q;cases q
      | some ob' =>
       rw[q5] at q
       cases q
       refine⟨e,Ω,ρ,v,Ω1,eH,r.wf,r.rel,q1,fun uv e1 x1 w1 i1=>?_⟩
       refine⟨e1,Ω1,ρ,_,Ω2,rfl,w1,r.rel.ext x1,q2,fun uo e2 x2 w2 i2=>?_⟩
       refine⟨e2,Ω2,ρ,kd,Ω3,rfl,w2,(r.rel.ext x1).ext x2,q3,fun uk e3 x3 w3 i3=>?_⟩
       have i2':=i2.ext x3
       rw[Is] at i2'
       obtain⟨p,hα,rfl⟩:=i2'
       obtain⟨H',hp,e4,rfl,w4,x4⟩:=Gk w3 hα q4 q5 i3 (i1.ext (x2.trans x3))
       exact⟨p,e4.H,rfl,hp,k e4 σ (r.to (((x1.trans x2).trans x3).trans x4) w4)⟩
   | _=>cases q
end
end DL
namespace DR
open PySem PyProof.Rows
open Sem (wp)
noncomputable def vy(h:Heap)(a:Addr)(es:Array DictEntry)(ep:Nat):Prop:=∃o,h.get? a=some o/\o.ExactDict/\o.data=.dict es ep
theorem vy.ty{s:Shared}{a:Addr}{es:Array DictEntry}{ep:Nat}(r:vy s.heap a es ep):s.TypeIs (.ref a) "dict":=let⟨o,h1,h2,_⟩:=r;⟨o,h1,h2.1⟩
section
variable {prog:Program} {w:World} {A:Around} {E:Value->Shared->Prop} {s:Shared} {d it:Addr} {es:Array DictEntry} {ep i:Nat}
theorem vz{Q:Value->Shared->Prop}(hd:(d==sysModules)=false)(hm:vy s.heap d es ep)
  (hq:Q (.ref s.heap.objs.size) { s with heap:=s.heap.push { cls:=.type "dict_keyiterator",data:=.fields #[.ref d,.int 0 0,.int es.size 0,.int ep 0] } }):wpAny (model prog w) A (pyIter (.ref d)) Q E s:=by
 obtain⟨o,ho,hc,hx⟩:=id hm
 have ty:=hm.ty
 refine wpAny_pyIter_slot ty F.slot_dict_iter (wpAny_call_entry F.slot_dict_iter ty F.entry_dict_iter ?_ (F.args_dict_iter_1 _))
 unfold Builtin.«dict.__iter__»;refine wpAny_bind ?_
 unfold Builtin.Dict.dictSlotNone;refine wpAny_bind (wpAny_notOrdered_dict ty ?_)
 show wpAny _ _ (pure (Value.ref d)) _ _ s;refine wpAny_pure ?_
 show wpAny _ _ (Builtin.Dict.showsAll d>>=_) _ _ s;unfold Builtin.Dict.showsAll
 rw[if_neg (by rw[hd];exact Bool.false_ne_true)];refine wpAny_bind (wpAny_pure ?_)
 refine wpAny_bind (wpAny_dictEntries ho hx ?_);refine wpAny_bind (wpAny_dictEpoch ho hx ?_)
 refine wpAny_bind (wpAny_newObj_type (wpAny_pure ⟨_,rfl,"dict_keyiterator",_,⟨_,Heap.get?_push_size _ rfl,rfl⟩,F.slot_dict_keyiterator_next.lookup,?_⟩));simpa [rawInt] using hq
theorem vA{Q:Option Value->Shared->Prop}(hit:s.heap.IsKeyIter it d i es.size ep)(hm:vy s.heap d es ep)(hl:i<es.size)
  (hq:∀h',h'.IsKeyIter it d (i+1) es.size ep->Heap.SameBut it s.heap h'->Q (some es[i].key) { s with heap:=h' }):wpAny (model prog w) A (pyNext (.ref it)) Q E s:=by
 obtain⟨o,ho,hc,hd⟩:=id hit
 obtain⟨od,hod,hcd,hdd⟩:=id hm
 unfold pyNext
 refine wpAny_bind (wpAny_attempt (wpAny_callSpecial?_slot (name:=Str.ofString "__next__") hit.typeIs F.slot_dict_keyiterator_next (wpAny_call_entry F.slot_dict_keyiterator_next hit.typeIs F.entry_dict_keyiterator_next ?_ (F.args_dict_keyiterator_next_1 _))))
 refine wpAny_bind (wpAny_pure ?_);refine wpAny_bind ?_;refine wpAny_bind ?_
 first |exact(wpAny_bind (wpAny_typeNameOfWhole_keyiter hit.typeIs (wpAny_pure (by fail)))) |(first |refine wpAny_bind (wpAny_typeNameOfWhole_keyiter hit.typeIs (wpAny_pure ?_)) |refine wpAny_bind (wpAny_typeNameOf_keyiter hit.typeIs (wpAny_pure ?_)))
 refine wpAny_bind (wpAny_fieldsOf ho hd ?_);have own0:Builtin.Dict_items.ownsTuple "dict_keyiterator" = false:=by decide
 simp only[own0,Bool.false_eq_true,if_false];show wpAny _ _ (if(Value.ref d==Value.none)=true then _ else _) _ _ s
 rw[if_neg (show ¬((Value.ref d==Value.none)=true) from Bool.false_ne_true)];refine wpAny_bind (wpAny_pure ?_)
 refine wpAny_bind (wpAny_dictEntries hod hdd ?_);rw[if_neg (by simp)]
 refine wpAny_bind (wpAny_pure ?_);refine wpAny_bind (wpAny_dictEpoch hod hdd ?_)
 rw[if_neg (by simp)];refine wpAny_pure ?_
 simp only[show ¬((i:Int)<0) from by omega,if_false,Int.toNat_natCast,Array.getElem?_eq_getElem hl];refine wpAny_bind ?_
 first |refine wpAny_bind (wpAny_typeNameOfWhole_keyiter hit.typeIs (wpAny_pure ?_)) |skip
 first |refine wpAny_bind (wpAny_typeNameOf_keyiter hit.typeIs (wpAny_pure ?_)) |skip
 refine wpAny_bind (wpAny_isOneOf_keyiter hit.typeIs ?_);show wpAny _ _ (setField (.ref it) 1 (rawInt ((i:Int)+1))>>=_) _ _ s
 refine wpAny_bind (wpAny_setField ho hd (by simp) ?_)
 have it2:(s.heap.update it (Obj.mapFields (·.setIfInBounds 1 (rawInt ((i:Int)+1))))).IsKeyIter it d (i+1) es.size ep :=
  ⟨_,Heap.get?_update_self _ ho (Obj.isFreed_of_fields (Obj.data_mapFields hd _)),(Obj.cls_mapFields ..).trans hc,by rw[Obj.data_mapFields hd];simp[rawInt]⟩
 refine wpAny_bind (wpAny_holding ?_);refine wpAny_bind (wpAny_isOneOf_keyiter (s:={ s with heap:=s.heap.update it (Obj.mapFields (·.setIfInBounds 1 (rawInt ((i:Int)+1)))) }) it2.typeIs ?_)
 show wpAny _ _ (pure es[i].key) _ _ _;exact wpAny_pure (wpAny_pure ⟨_,rfl,wpAny_pure (hq _ it2 (Heap.SameBut.update ..))⟩)
theorem xQ{Q:Option Value->Shared->Prop}(hh:A.handled=none)(hit:s.heap.IsKeyIter it d i es.size ep)(hm:vy s.heap d es ep)(hl:es.size<=i)
  (hq:∀h',Heap.ExtBut it s.heap h'->Q none { s with heap:=h' }):wpAny (model prog w) A (pyNext (.ref it)) Q E s:=by
 obtain⟨o,ho,hc,hd⟩:=id hit
 obtain⟨od,hod,hcd,hdd⟩:=id hm
 unfold pyNext
 refine wpAny_bind (wpAny_attempt (wpAny_callSpecial?_slot (name:=Str.ofString "__next__") hit.typeIs F.slot_dict_keyiterator_next (wpAny_call_entry F.slot_dict_keyiterator_next hit.typeIs F.entry_dict_keyiterator_next ?_ (F.args_dict_keyiterator_next_1 _))))
 refine wpAny_bind (wpAny_pure ?_);refine wpAny_bind ?_;refine wpAny_bind ?_
 first |exact(wpAny_bind (wpAny_typeNameOfWhole_keyiter hit.typeIs (wpAny_pure (by fail)))) |(first |refine wpAny_bind (wpAny_typeNameOfWhole_keyiter hit.typeIs (wpAny_pure ?_)) |refine wpAny_bind (wpAny_typeNameOf_keyiter hit.typeIs (wpAny_pure ?_)))
 refine wpAny_bind (wpAny_fieldsOf ho hd ?_);have own0:Builtin.Dict_items.ownsTuple "dict_keyiterator" = false:=by decide
 simp only[own0,Bool.false_eq_true,if_false];show wpAny _ _ (if(Value.ref d==Value.none)=true then _ else _) _ _ s
 rw[if_neg (show ¬((Value.ref d==Value.none)=true) from Bool.false_ne_true)];refine wpAny_bind (wpAny_pure ?_)
 refine wpAny_bind (wpAny_dictEntries hod hdd ?_);rw[if_neg (by simp)]
 refine wpAny_bind (wpAny_pure ?_);refine wpAny_bind (wpAny_dictEpoch hod hdd ?_)
 rw[if_neg (by simp)];refine wpAny_pure ?_
 simp only[show ¬((i:Int)<0) from by omega,if_false,Int.toNat_natCast,Array.getElem?_eq_none hl];refine wpAny_bind ?_
 first |refine wpAny_bind (wpAny_typeNameOfWhole_keyiter hit.typeIs (wpAny_pure ?_)) |skip
 first |refine wpAny_bind (wpAny_typeNameOf_keyiter hit.typeIs (wpAny_pure ?_)) |skip
 show wpAny _ _ (setField (.ref it) 0 .none>>=_) _ _ s;refine wpAny_bind (wpAny_setField ho hd (by simp) ?_)
 show wpAny _ _ (newExc (.type "StopIteration") []>>=_) _ _ _;refine wpAny_bind ?_
 simp only[newExc,newTuple];refine wpAny_bind (wpAny_newObj_type ?_ (by size_fits))
 refine wpAny_bind (m:=firstArgMember _ _) (wpAny_of_eq (a:=Value.none) (by first |rfl |(simp only[firstArgMember];rfl)) ?_);refine wpAny_newObj_type ?_ (by size_fits)
 simp only[raiseNew];refine wpAny_bind (wpAny_handled ?_)
 rw[show A.in1.handled=none from hh];refine wpAny_bind (wpAny_pure (wpAny_throw ?_))
 refine wpAny_bind (wpAny_isInstance (T:="StopIteration") (b:=true) ⟨_,Heap.get?_push_size _ rfl,rfl⟩ isSubtype_stop ?_);exact wpAny_pure (hq _ (((Heap.SameBut.update ..).extBut.push _).push _))
end
section
variable {κ:Type} [DecidableEq κ]
noncomputable def mW(xs:List (κ×Addr×Value))(k:κ):List (κ×Addr×Value):=xs.filter fun x=>decide (x.1≠k)
theorem Gn:∀{xs:List (κ×Addr×Value)} {k:κ},k∉xs.map (·.1)->mW xs k=xs:=fun {xs k} h=>by
 unfold mW
 rw[List.filter_eq_self]
 intro x hx
 exact decide_eq_true fun e=>h (List.mem_map.mpr ⟨x,hx,e⟩)
theorem qw:∀{xs:List (κ×Addr×Value)} {k:κ} {j:Nat} {p:Addr×Value},(xs.map (·.1)).Nodup->xs[j]? = some (k,p)->mW xs k=xs.eraseIdx j
 | [],_,_,_,_,h=>by simp at h
 | x::r,k,0,p,hn,h=>by
  rw[List.getElem?_cons_zero] at h
  cases h
  rw[List.map_cons,List.nodup_cons] at hn
  rw[List.eraseIdx_cons_zero]
  show List.filter _ _=_
  rw[List.filter_cons_of_neg (by simp)]
  exact Gn hn.1
 | x::r,k,j+1,p,hn,h=>by
  rw[List.getElem?_cons_succ] at h
  rw[List.map_cons,List.nodup_cons] at hn
  have ne:¬x.1=k:=fun e=>hn.1 (e ▸ List.mem_map.mpr ⟨(k,p),List.mem_of_getElem? h,rfl⟩)
  rw[List.eraseIdx_cons_succ,<-qw hn.2 h]
  show List.filter _ _=_
  rw[List.filter_cons_of_pos (by simp[ne])]
  rfl
theorem tM{α β:Type}(f:α->β):∀(l:List α) (j:Nat),(l.eraseIdx j).map f=(l.map f).eraseIdx j
 | [],_=>rfl
 | _::_,0=>rfl
 | x::l,j+1=>by rw[List.eraseIdx_cons_succ,List.map_cons,List.map_cons,List.eraseIdx_cons_succ,tM f l j]
variable {prog:Program} {w:World} {knd:HeapKind prog w κ} {A:Around} {E:Value->Shared->Prop} {s:Shared}
theorem CZ{d a:Addr}{xs:List (κ×Addr×Value)}{k:κ}{p:Addr×Value}{Q:Option DictEntry->Shared->Prop}(hu:knd.room A)(hkey:knd.is s.heap k a)(hm:s.heap.DictOfH knd d xs)(hp:atKey xs k=some p)
  (hsome:∀e h',e.val=p.2->h'.DictOfH knd d (mW xs k)->Heap.SameBut d s.heap h'->Q (some e) { s with heap:=h',toks:=s.toks+knd.draws k }) (hsz:xs.length<=sizeLine) :
  wpAny (model prog w) A (Builtin.Dict.takeOut d (.ref a)) Q E s:=by
 obtain⟨o,es,ep,ho,hc,hd,he,his,hn⟩:=hm
 unfold Builtin.Dict.takeOut
 try with_reducible refine wpAny_holding ?_
 refine wpAny_bind (knd.pyHash hu hkey (wpAny_bind (wpAny_dictFind_heap (s:={ s with toks:=s.toks+knd.draws k }) hu hkey ho hd he his hn (fun hno=>?_) (fun j p' hj=>?_))))
 ·rw[atKey_none_of_get hno] at hp;cases hp
 ·rw[atKey_of_get hn hj] at hp
  cases hp
  refine wpAny_bind (wpAny_dictEntries (s:={ s with toks:=s.toks+knd.draws k }) ho hd ?_)
  rw[entry_at he j,hj]
  refine wpAny_bind (wpAny_updateDictKeys (hz:=by have e:=size_of_entries he;omega) (s:={ s with toks:=s.toks+knd.draws k }) ho hd (wpAny_pure (hsome _ _ rfl ⟨_,_,ep+1,Heap.get?_update_self _ ho (Obj.isFreed_of_dict (Obj.data_mapDictKeys hd _)),hc.mapDictKeys _,Obj.data_mapDictKeys hd _,?_,?_,?_⟩ (Heap.SameBut.update ..))))
  ·rw[qw hn hj,tM,<-he]
   obtain⟨l⟩:=es
   simp
  ·intro x hx
   exact knd.keeps (his x (List.mem_filter.mp hx).1) ho hd (Heap.SameBut.update ..)
  ·exact hn.sublist (List.filter_sublist.map _)
theorem C_{d a:Addr}{xs:List (κ×Addr×Value)}{k:κ}{p:Addr×Value}{R:Result->Shared->Prop}(hu:knd.room A.in1)(hkey:knd.is s.heap k a)(hm:s.heap.DictOfH knd d xs)(hp:atKey xs k=some p)(hsz:xs.length<=sizeLine)
  (h:∀h',h'.DictOfH knd d (mW xs k)->Heap.SameBut d s.heap h'->R (.ok (.ret p.2)) { s with heap:=h',toks:=s.toks+knd.draws k }) :
  wpAny (model prog w) A.in1 (Builtin.«dict.pop» ⟨[.ref d,.ref a],[]⟩) (fun fin s'=>match fin with |.done f=>R (.ok f) s' |.again c'=>c'.quiet=true/\codeAny (model prog w) A c' R s') (fun e s'=>R (.error e) s') s:=by
 obtain⟨o,es,ep,ho,hc,hd,he,his,hn⟩:=id hm
 have ne:es.isEmpty=false:=by
  rw[Array.isEmpty_eq_false_iff]
  intro z
  rw[z] at he
  have e2:xs=[]:=by
   cases xs with
   | nil=>rfl
   | cons x r=>simp at he
  rw[e2] at hp
  cases hp
 unfold Builtin.«dict.pop»;refine wpAny_bind ?_
 unfold Builtin.Dict.keyAndDefault;refine wpAny_bind (wpAny_notOrdered_dict hm.typeIs ?_)
 show wpAny _ _ (pure (d,Value.ref a,none)) _ _ s;refine wpAny_pure ?_
 dsimp only;rw[if_neg (show ¬((keyPart (Value.ref a)).isSome=true) from by simp[keyPart])]
 refine wpAny_bind (wpAny_dictEntries ho hd ?_);refine wpAny_bind (wpAny_pure ?_)
 rw[ne];simp only[Bool.false_eq_true,if_false]
 refine wpAny_bind (CZ hu hkey hm hp (fun e h' hv hm' hs'=>?_) hsz)
 simp only[Option.isNone_some,Bool.false_eq_true,if_false];refine wpAny_bind (wpAny_letGo (wpAny_pure ?_))
 show R (.ok (.ret e.val)) _
 rw[hv];exact h h' hm' hs'
theorem Ly(d a:Addr):MeetsIn prog w (Builtin.«dict.pop» ⟨[.ref d,.ref a],[]⟩) (fun A R s=>knd.room A.in1/\∃k xs p,knd.is s.heap k a/\s.heap.DictOfH knd d xs/\atKey xs k=some p/\xs.length<=sizeLine /\
  ∀h',h'.DictOfH knd d (mW xs k)->Heap.SameBut d s.heap h'->R (.ok (.ret p.2)) { s with heap:=h',toks:=s.toks+knd.draws k }) :=
 fun A R s hw'=>by obtain⟨hu,k,xs,p,h1,h2,h3,h4,h⟩:=hw';exact C_ hu h1 h2 h3 h4 h
end
end DR
namespace L2
open PySem PySem.Spec PyProof.Rows
theorem KT.out{H:Hp}{kvs:List (List Key×V)}{xs:List (List Key×Addr×Value)}(r:KT H kvs xs)(k:List Key):KT H (fG kvs k) (DR.mW xs k):=by
 induction r with
 | nil=>exact .nil
 | @cons p q ps qs h t ih =>
  unfold fG DR.mW
  by_cases e:p.1=k
  ·rw[List.filter_cons_of_neg (by simp[e]),List.filter_cons_of_neg (by simp[<-h.1,e])];exact ih
  ·rw[List.filter_cons_of_pos (by simp[e]),List.filter_cons_of_pos (by simp[<-h.1,e])];exact .cons h ih
section
variable {X:Cx} {pins:List (Addr×Obj)} {σ:St} {H:Hp} {s:Shared} {a b:Addr} {A:Around} {E:Value->Shared->Prop}
theorem Jp{kvs:List (List Key×V)}{k:List Key}{v:V}{Q:Value->Shared->Prop}(hu:A.units+1<cLine)(I:Inv X pins σ H s)(e:H a=some (.dT kvs))(eb:H b=some (.tup (k.map kV)))(l:fV kvs k=some v)
  (h:∀w' s',Inv X pins σ (upd H a (.dT (fG kvs k))) s'->RelV v w'->Q w' s'):wpAny (model X.prog X.w) A (call (.builtin "dict.pop") [.ref a,.ref b]) Q E s:=by
 obtain⟨z,hd,xs,rel,dd⟩:=El I.hok e
 obtain⟨w',hw,rw'⟩:=fJ.some_of (v:=v) (o:=(atKey xs k).map (·.2)) (by rw[<-l];exact rel.val k)
 obtain⟨p,hp,hp2⟩:=Option.map_eq_some_iff.mp hw
 have hz:xs.length<=sizeLine:=by rw[<-Paired.length rel];exact z
 have hl:(fG kvs k).length<=sizeLine:=Nat.le_trans (uR kvs k) z
 refine call_meetsIn PySem.F.slot_dict_pop dd.typeIs PySem.F.entry_dict_pop (PySem.F.args_dict_pop_2 _ _) (DR.Ly (knd:=tupleKind (cD X.prog X.w)) a b) ⟨tupleKind_room_in1 hu,k,xs,p,jK I.hok eb,dd,hp,hz,fun h' dd' hs=>?_⟩
 obtain⟨q,es,ep,hq,h2,h3,h4,_,h5⟩:=dd'
 show Q p.2 _
 rw[hp2]
 refine h w' _ (lu I (by rw[e];exact True.intro) hs ⟨q,hq⟩ ⟨hl,hd,_,(rel.out k).keeps fun c ys ec=>?_,q,es,ep,hq,h2,h3,h4,h5⟩) rw'
 rw[aB (Ed ec e (fun z=>nomatch z))]
 exact ec
end
noncomputable def Lz(td ty:TE):TE:=fun σ H Q=>td σ H fun x H1=>∃a,x=.ref a/\IsD H1 a/\ty σ H1 fun y H2=>(∃kvs k v,H2 a=some (.dK kvs)/\y=kV k/\fV kvs k=some v/\Q v (upd H2 a (.dK (fG kvs k)))) \/
 ∃kvs k b v,H2 a=some (.dT kvs)/\y=.ref b/\H2 b=some (.tup (k.map kV))/\fV kvs k=some v/\Q v (upd H2 a (.dT (fG kvs k)))
section
variable {X:Cx} {o e:Expr} {apos cpos:Pos} {td ty:TE}
theorem Jq(hu:X.A.units+1<cLine)(ho:PE X o td)(he:PE X e ty)(m:M1 X o "pop" apos e cpos):PE X (.Call (.Attribute o "pop" apos) [e] [] cpos) (Lz td ty):=by
 intro pins s σ H Q I h
 refine wpAny_Call_method m.base m.few m.line PySem.F.plainAttrs_dict PySem.F.slot_dict_pop PySem.F.type_dict_pop (thn (ho pins s σ H _ I h) fun u s1 hw'=>?_)
 obtain⟨x,H1,I1,rx,a,ex,d,q1⟩:=hw'
 subst ex;obtain rfl:u=Value.ref a:=rx
 obtain⟨t1,t2,_⟩:=zW I1 d
 refine⟨t1,t2,?_⟩;rw[m.trees]
 refine Calls.callWith_builtin rfl (Calls.evalArgs_plain (Calls.spliced_cons (thn (he pins s1 σ H1 _ I1 q1) fun iv s2 ⟨y,H2,I2,ry,q2⟩=>Calls.spliced_nil ?_)))
 rcases q2 with⟨kvs,k,v,ea,ey,l,q2⟩ |⟨kvs,k,b,v,ea,ey,eb,l,q2⟩
 ·subst ey;exact Kl I2 ea ry l (.inl rfl) fun w' s3 I3 rw'=>⟨v,_,I3,rw',q2⟩
 ·subst ey;obtain rfl:iv=Value.ref b:=ry;exact Jp hu I2 ea eb l fun w' s3 I3 rw'=>⟨v,_,I3,rw',q2⟩
end
end L2
namespace DL
open PySem PySem.Spec PyProof.Rows L2
noncomputable def l_:OS->D->Option (D×OS)
 | .dK kvs,d=>(match jR d with |some k=>(match cC kvs k with |some v=>some (v,.dK (ie kvs k)) |none=>none) |none=>none)
 | .dT kvs,d=>(match jC d with |some k=>(match cC kvs k with |some v=>some (v,.dT (ie kvs k)) |none=>none) |none=>none)
 | _,_=>none
noncomputable def km(go gk:Den):Den:=fun ρ Ω=>match go ρ Ω with
 | some (.obj n,Ω1)=>(match Ω1[n]? with
  | some o=>if jj o=true then(match gk ρ Ω1 with
   | some (k,Ω2)=>(match Ω2[n]? with
    | some o2=>(match l_ o2 k with |some (v,o3)=>some (v,Ω2.set n o3) |none=>none)
    | none=>none)
   | none=>none) else none
  | none=>none)
 | _=>none
section
variable {K:PySem.W.Frag} {C:Cl} {e:E4} {Ω:List OS}
theorem Wf.tups(w:Wf K C e Ω):∃e1:E4,e1.H=e.H/\e1.α=e.α/\Ext e e1/\Wf K C e1 Ω/\∀b xs,e.H b=some (.tup xs)->e1.F b=some (.tup xs):=by
 let F':Hp:=fun b=>match e.H b with
  | some (.tup xs)=>some (.tup xs)
  | _=>e.F b
 have ft:∀b xs,e.H b=some (.tup xs)->F' b=some (.tup xs):=fun b xs h=>by show(match e.H b with |some (.tup xs)=>some (HO.tup xs) |_=>e.F b)=_;rw[h]
 have fo:∀b,(∀xs,e.H b≠some (.tup xs))->F' b=e.F b:=fun b h=>by
  show(match e.H b with |some (.tup xs)=>some (HO.tup xs) |_=>e.F b)=_
  cases q:e.H b with
  | none=>rfl
  | some o=>cases o<;>first |rfl |exact absurd q (h _)
 have ff:bB e.F F':=fun b o h=>by
  by_cases q:∃xs,e.H b=some (.tup xs)
  ·obtain⟨xs,q⟩:=q
   rw[ft b xs q,<-q];exact w.fh b o h
  ·rw[fo b fun xs z=>q ⟨xs,z⟩];exact h
 have fh:bB F' e.H:=fun b o h=>by
  by_cases q:∃xs,e.H b=some (.tup xs)
  ·obtain⟨xs,q⟩:=q
   rw[ft b xs q] at h;rw[q];exact h
  ·rw[fo b fun xs z=>q ⟨xs,z⟩] at h;exact w.fh b o h
 refine⟨⟨e.α,F',e.A,e.H⟩,rfl,rfl,⟨fun _ _ _ h=>h,fun _ _ h _=>h,fun _ o h=>⟨o,h⟩,ff,fun b o h=>?_,fun _ h=>.inl h,fun _ h=>h,[],by simp⟩,⟨fh,fun b h=>?_,w.ah,w.ol,w.nd,fun n a o h1 h2=>⟨(w.ob n a o h1 h2).1,(w.ob n a o h1 h2).2.keep (fun _ z=>z) ff ⟨[],by simp⟩⟩⟩,ft⟩
 ·have h:F' b=some o:=h
  by_cases q:∃xs,e.H b=some (.tup xs)
  ·obtain⟨xs,q⟩:=q
   rw[ft b xs q] at h
   cases h
   exact .inr (.inr ⟨⟨xs,rfl⟩,q,fun z=>(w.ah b z).2 xs q⟩)
  ·rw[fo b fun xs z=>q ⟨xs,z⟩] at h;exact .inl h
 ·show F' b=none
  rw[fo b (w.ah b h).2];exact w.fa b h
theorem Gp(w:Wf K C e Ω){n:Nat}{a:Addr}{o o':OS}{d x:D}{y:V}{Q:VK}(hα:e.α[n]? = some a)(hΩ:Ω[n]? = some o)(hp:l_ o d=some (x,o'))(i:Is K e.α e.F d y)
  (k:∀v e',Ext e e'->Wf K C e' (Ω.set n o')->Is K e'.α e'.F x v->Q v e'.H) :
  (∃kvs k v,e.H a=some (.dK kvs)/\y=kV k/\fV kvs k=some v/\Q v (upd e.H a (.dK (fG kvs k)))) \/
  ∃kvs k b v,e.H a=some (.dT kvs)/\y=.ref b/\e.H b=some (.tup (k.map kV))/\fV kvs k=some v/\Q v (upd e.H a (.dT (fG kvs k))):=by
 have ob:=(w.ob n a o hα hΩ).2
 unfold l_ at hp
 cases o with
 | dK kvs =>
  obtain⟨vs,h1,h2⟩:=ob
  dsimp only at hp
  cases q:jR d with
  | none=>rw[q] at hp;cases hp
  | some kk =>
   rw[q] at hp
   dsimp only at hp
   cases q2:cC kvs kk with
   | none=>rw[q2] at hp;cases hp
   | some v0 =>
    rw[q2] at hp
    cases hp
    have ov:=h2.val kk
    rw[q2] at ov
    obtain⟨v,e1,iv⟩:=ov.some_of
    obtain⟨w',x'⟩:=w.at (o':=.dK (ie kvs kk)) (ho:=.dK (fG vs kk)) hα (fun xs z=>nomatch z) ⟨_,aK,h2.drop kk⟩ fun o u z=>by rw[h1] at z;cases z
    exact .inl ⟨vs,kk,v,h1,mU q i,e1,k v (e.at a _) x' w' iv⟩
 | dT kvs =>
  obtain⟨vs,h1,h2⟩:=ob
  dsimp only at hp
  cases q:jC d with
  | none=>rw[q] at hp;cases hp
  | some kk =>
   rw[q] at hp
   dsimp only at hp
   cases q2:cC kvs kk with
   | none=>rw[q2] at hp;cases hp
   | some v0 =>
    rw[q2] at hp
    cases hp
    have ov:=h2.val kk
    rw[q2] at ov
    obtain⟨v,e1,iv⟩:=ov.some_of
    obtain⟨b,rfl,hb⟩:=oK q i
    obtain⟨w',x'⟩:=w.at (o':=.dT (ie kvs kk)) (ho:=.dT (fG vs kk)) hα (fun xs z=>nomatch z) ⟨_,aK,h2.drop kk⟩ fun o u z=>by rw[h1] at z;cases z
    exact .inr ⟨vs,kk,b,v,h1,rfl,w.fh _ _ hb,e1,k v (e.at a _) x' w' iv⟩
 | _=>cases hp
end
theorem rO{K:PySem.W.Frag}{e e':E4}{n:Nat}{p:Addr}(x:Ext e e')(h:e.α[n]? = some p):e'.α[n]? = some p:=by
 obtain⟨more,z⟩:=x.al
 rw[z,List.getElem?_append_left (List.getElem?_eq_some_iff.mp h).1];exact h
section
variable {X:Cx} {C:Cl} {a b x:Expr} {f g h:Den} {ga:bz} {pos pos' ap cp:Pos}
theorem rP(hu:X.A.units+1<cLine)(ho:PD X C a f)(hi:PD X C b g)(m:M1 X a "pop" ap b cp):PD X C (.Call (.Attribute a "pop" ap) [b] [] cp) (km f g):=bT (Jq hu ho hi m) fun σ H Q hw'=>by
 obtain⟨e,Ω,ρ,d,Ω',eH,w,rl,q,kk⟩:=hw'
 unfold km at q
 cases q1:f ρ Ω with
 | none=>rw[q1] at q;cases q
 | some p1 =>
  obtain⟨d1,Ω1⟩:=p1
  rw[q1] at q
  cases d1 with
  | obj n =>
   dsimp only at q
   cases q0:Ω1[n]? with
   | none=>rw[q0] at q;cases q
   | some o0 =>
    rw[q0] at q
    dsimp only at q
    by_cases hd:jj o0=true
    ·rw[if_pos hd] at q
     cases q2:g ρ Ω1 with
     | none=>rw[q2] at q;cases q
     | some p2 =>
      obtain⟨k,Ω2⟩:=p2
      rw[q2] at q
      dsimp only at q
      cases q3:Ω2[n]? with
      | none=>rw[q3] at q;cases q
      | some o =>
       rw[q3] at q
       dsimp only at q
       cases q4:l_ o k with
       | none=>rw[q4] at q;cases q
       | some r =>
        obtain⟨v0,o3⟩:=r
        rw[q4] at q
        cases q
        refine⟨e,Ω,ρ,_,Ω1,eH,w,rl,q1,fun v e1 x1 w1 i1=>?_⟩
        rw[Is] at i1
        obtain⟨p,hα,rfl⟩:=i1
        refine⟨p,rfl,Aq w1 hα q0 hd,?_⟩
        refine⟨e1,Ω1,ρ,k,_,rfl,w1,rl.ext x1,q2,fun u e2 x2 w2 i2=>?_⟩
        exact Gp w2 (rO (K:=X.K) x2 hα) q3 q4 i2 fun v e' x' w' iv=>kk v e' ((x1.trans x2).trans x') w' iv
    ·rw[if_neg hd] at q;cases q
  | _=>cases q
structure ClD(K:PySem.W.Frag)(C:Cl)(c:Str):Prop where
 ex:∃Ca,C c=some Ca/\Cls K Ca
noncomputable def NoA(K:PySem.W.Frag)(C:Cl)(c f:Str):Prop:=∀Ca,C c=some Ca->jm K Ca f
noncomputable def gH(c fl:Str)(g:Den):Den:=fun ρ Ω=>match g ρ Ω with
 | some (.obj n,Ω1)=>(match Ω1[n]? with
  | some (.ins c' fs)=>if c'=c then(match fs.lookup fl with |some d=>some (d,Ω1) |none=>none) else none
  | _=>none)
 | _=>none
noncomputable def jD(c fl:Str)(go gv:Den):aO:=fun ρ Ω=>match gv ρ Ω with
 | some (v,Ω1)=>(match go ρ Ω1 with
  | some (.obj n,Ω2)=>(match Ω2[n]? with
   | some (.ins c' fs)=>if c'=c/\fs.length<1000 then some (.nx ρ (Ω2.set n (.ins c (gJ fl v fs)))) else none
   | _=>none)
  | _=>none)
 | none=>none
theorem gw{c fl:Str}(T:ClD X.K C c)(hn:NoA X.K C c fl)(h:PD X C a f)(hb:attributeBase a fl X.env (eval a X.env)=eval a X.env:=by rfl):PD X C (.Attribute a fl pos) (gH c fl f):=bT (Ie h hb) fun σ H Q hw'=>by
 obtain⟨e,Ω,ρ,d,Ω',eH,w,rl,q,kk⟩:=hw'
 obtain⟨Ca,hC,cl⟩:=T.ex
 unfold gH at q
 cases q1:f ρ Ω with
 | none=>rw[q1] at q;cases q
 | some p1 =>
  obtain⟨d1,Ω1⟩:=p1
  rw[q1] at q
  cases d1 with
  | obj n =>
   dsimp only at q
   cases q0:Ω1[n]? with
   | none=>rw[q0] at q;cases q
   | some o0 =>
    rw[q0] at q
    refine⟨e,Ω,ρ,_,Ω1,eH,w,rl,q1,fun v e1 x1 w1 i1=>?_⟩
    rw[Is] at i1
    obtain⟨p,hα,rfl⟩:=i1
    have ob:=(w1.ob n p _ hα q0).2
    cases o0 with
    | ins c' fs =>
     dsimp only at q
     by_cases ec:c'=c
     ·rw[if_pos ec] at q
      subst ec
      cases q2:fs.lookup fl with
      | none=>rw[q2] at q;cases q
      | some v0 =>
       rw[q2] at q
       cases q
       obtain⟨Cb,dx,fvs,h1,h2,h3⟩:=ob
       rw[hC] at h1
       cases h1
       have ov:=h3.look fl
       rw[q2] at ov
       obtain⟨v',e2,iv⟩:=ov.some_of
       exact⟨p,Ca,dx,fvs,v',rfl,h2,cl,hn Ca hC,e2,kk _ e1 x1 w1 iv⟩
     ·rw[if_neg ec] at q;cases q
    | _=>cases q
  | _=>cases q
theorem rQ{c fl:Str}(T:ClD X.K C c)(hn:NoA X.K C c fl)(ho:PD X C a f)(hv:PD X C x g)(hs:swapsWith x (some (.Attribute a fl pos')) pos.line X.env=pure false:=by rfl) :
  PDS X C (.Assign [.Attribute a fl pos'] x pos) (jD c fl f g):=fun e₀=>dG (Ig ho hv hs) fun Dn σ H hw'=>by
 obtain⟨e,Ω,ρ,o,eH,r,q,k⟩:=hw'
 obtain⟨Ca,hC,cl⟩:=T.ex
 unfold jD at q
 cases q1:g ρ Ω with
 | none=>rw[q1] at q;cases q
 | some p1 =>
  obtain⟨v,Ω1⟩:=p1
  rw[q1] at q
  dsimp only at q
  cases q2:f ρ Ω1 with
  | none=>rw[q2] at q;cases q
  | some p2 =>
   obtain⟨d2,Ω2⟩:=p2
   rw[q2] at q
   cases d2 with
   | obj n =>
    dsimp only at q
    cases q0:Ω2[n]? with
    | none=>rw[q0] at q;cases q
    | some o0 =>
     rw[q0] at q
     refine⟨e,Ω,ρ,v,Ω1,eH,r.wf,r.rel,q1,fun uv e1 x1 w1 i1=>?_⟩
     refine⟨e1,Ω1,ρ,_,Ω2,rfl,w1,r.rel.ext x1,q2,fun uo e2 x2 w2 i2=>?_⟩
     rw[Is] at i2
     obtain⟨p,hα,rfl⟩:=i2
     have ob:=(w2.ob n p _ hα q0).2
     cases o0 with
     | ins c' fs =>
      dsimp only at q
      by_cases ec:c'=c/\fs.length<1000
      ·rw[if_pos ec] at q
       obtain⟨rfl,hl⟩:=ec
       cases q
       obtain⟨Cb,dx,fvs,h1,h2,h3⟩:=ob
       rw[hC] at h1
       cases h1
       obtain⟨w',x'⟩:=w2.at (o':=.ins c' (gJ fl v fs)) (ho:=.ins Ca dx (eG fl uv fvs)) hα (fun xs z=>nomatch z) ⟨Ca,dx,_,hC,aK,h3.eG fl (i1.ext x2)⟩ fun o u z=>by rw[h2] at z;cases z
       exact⟨p,Ca,dx,fvs,rfl,h2,cl,hn Ca hC,by rw[<-h3.len];exact hl,k (e2.at p _) σ (r.to ((x1.trans x2).trans x') w')⟩
      ·rw[if_neg ec] at q;cases q
     | _=>cases q
   | _=>cases q
structure Mt(P:Program)(w:World)(K:PySem.W.Frag)(mg:Str->Option Value)(base:Heap)(C:Cl)(k:Nat)(c m:Str)(F:bf)(dfl:List D):Prop where
 ex:∃Ca f fd ps ds dvs,C c=some Ca/\Cls K Ca/\Meth K Ca m f/\Binds K fd ps ds/\Vals dvs ds/\(∀α H,IsL K α H dfl dvs)/\FnOk P w K mg base CX0 k f fd ps (spD K C F)
noncomputable def bI(c m:Str)(F:bf)(dfl:List D)(go:Den)(ga:bz):Den:=fun ρ Ω=>match go ρ Ω with
 | some (.obj n,Ω1)=>(match Ω1[n]? with
  | some (.ins c' fs)=>if c'=c then(match fs.lookup m with
   | none=>(match ga ρ Ω1 with |some (ds,Ω2)=>F (.obj n::(ds++dfl)) Ω2 |none=>none)
   | some _=>none) else none
  | _=>none)
 | _=>none
theorem Ar{K:PySem.W.Frag}{c m:Str}{F:bf}{dfl:List D}{dvs:List V}{Ca:Addr}(hC:C c=some Ca)(hd:∀α H,IsL K α H dfl dvs){σ:St}{H:Hp}{Q:VK}{E:XK}(hw:tD K C (bI c m F dfl f ga) σ H Q) :
  Eh Ca m (spD K C F) dvs E (tD K C f) (tDA K C ga) σ H Q:=by
 obtain⟨e,Ω,ρ,d,Ω',eH,w,rl,q,kk⟩:=hw
 unfold bI at q
 cases q1:f ρ Ω with
 | none=>rw[q1] at q;cases q
 | some p1 =>
  obtain⟨d1,Ω1⟩:=p1
  rw[q1] at q
  cases d1 with
  | obj n =>
   dsimp only at q
   cases q0:Ω1[n]? with
   | none=>rw[q0] at q;cases q
   | some o0 =>
    rw[q0] at q
    refine⟨e,Ω,ρ,_,Ω1,eH,w,rl,q1,fun v e1 x1 w1 i1=>?_⟩
    rw[Is] at i1
    obtain⟨p,hα,rfl⟩:=i1
    have ob:=(w1.ob n p _ hα q0).2
    cases o0 with
    | ins c' fs =>
     dsimp only at q
     by_cases ec:c'=c
     ·rw[if_pos ec] at q
      subst ec
      cases q2:fs.lookup m with
      | some v0=>rw[q2] at q;cases q
      | none =>
       rw[q2] at q
       dsimp only at q
       cases q3:ga ρ Ω1 with
       | none=>rw[q3] at q;cases q
       | some p3 =>
        obtain⟨ds,Ω2⟩:=p3
        rw[q3] at q
        obtain⟨Cb,dx,fvs,h1,h2,h3⟩:=ob
        rw[hC] at h1
        cases h1
        have ov:=h3.look m
        rw[q2] at ov
        have e2:fvs.lookup m=none:=by
         cases z:fvs.lookup m with
         | none=>rfl
         | some v=>rw[z] at ov;exact ov.elim
        refine⟨p,dx,fvs,rfl,h2,e2,e1,Ω1,ρ,ds,Ω2,rfl,w1,rl.ext x1,q3,fun vs e3 x3 w3 i3=>?_⟩
        exact⟨e3,Ω2,_,d,Ω',rfl,w3,.cons (by rw[Is];exact⟨p,rO (K:=K) x3 hα,rfl⟩) (i3.append (hd _ _)),q,fun v' e4 x4 w4 i4=>kk v' e4 ((x1.trans x3).trans x4) w4 i4⟩
     ·rw[if_neg ec] at q;cases q
    | _=>cases q
  | _=>cases q
theorem dF{k:Nat}{c m:Str}{F:bf}{dfl:List D}{es:List Expr}{pl:Sem Bool}(G:Mt X.prog X.w X.K X.mg X.base C k c m F dfl)(hr:Room k X.A)(ho:PD X C a f)(ha:PDA X C (x::es) ga)
  (hst:starEach (x::es) X.env=(false,eval x X.env)::starEach es X.env:=by rfl) (hpl:(backTo cp (starEach es X.env)).any (·.1)=false:=by rfl)
  (ht:eval (.Call (.Attribute a m ap) (x::es) [] cp) X.env=(do
   let ov <-eval a X.env
   standAt ap.atName
   let (f,first) <-holding [ov] (getMethod ov m pl)
   callWith cp f first (backTo cp (starEach (x::es) X.env)) (backToKw cp (keywordEach [] X.env))):=by rfl) :
  PD X C (.Call (.Attribute a m ap) (x::es) [] cp) (bI c m F dfl f ga):=by
 obtain⟨Ca,fa,fd,ps,ds,dvs,hC,cl,me,hb,hd,hdd,ok⟩:=G.ex
 exact bT (Fq ho cl me ok hr hb hd yH ha hst hpl ht) fun _ _ _ hw=>Ar hC hdd hw
structure MkD(P:Program)(w:World)(K:PySem.W.Frag)(mg:Str->Option Value)(base:Heap)(C:Cl)(k:Nat)(c:Str)(F:bf)(dfl:List D):Prop where
 ex:∃Ca f fd ps ds dvs,C c=some Ca/\mg c=some (.ref Ca)/\Mk K Ca f/\Binds K fd ps ds/\Vals dvs ds/\(∀α H,IsL K α H dfl dvs)/\FnOk P w K mg base CX0 k f fd ps (spD K C F)
noncomputable def jE(c:Str)(F:bf)(dfl:List D)(ga:bz):Den:=fun ρ Ω=>match ga ρ Ω with
 | some (ds,Ω1)=>(match F (.obj Ω1.length::(ds++dfl)) (Ω1++[.ins c []]) with
  | some (.non,Ω2)=>some (.obj Ω1.length,Ω2)
  | _=>none)
 | none=>none
theorem Av{K:PySem.W.Frag}{c:Str}{F:bf}{dfl:List D}{dvs:List V}{Ca:Addr}(hC:C c=some Ca)(hd:∀α H,IsL K α H dfl dvs){σ:St}{H:Hp}{Q:VK}{E:XK}(hw:tD K C (jE c F dfl ga) σ H Q) :
  Ei Ca (spD K C F) dvs E (tDA K C ga) σ H Q:=by
 obtain⟨e,Ω,ρ,d,Ω',eH,w,rl,q,kk⟩:=hw
 unfold jE at q
 cases q1:ga ρ Ω with
 | none=>rw[q1] at q;cases q
 | some p1 =>
  obtain⟨ds,Ω1⟩:=p1
  rw[q1] at q
  dsimp only at q
  cases q2:F (.obj Ω1.length::(ds++dfl)) (Ω1++[.ins c []]) with
  | none=>rw[q2] at q;cases q
  | some p2 =>
   obtain⟨d2,Ω2⟩:=p2
   rw[q2] at q
   cases d2 with
   | non =>
    cases q
    refine⟨e,Ω,ρ,ds,Ω1,eH,w,rl,q1,fun vs e1 x1 w1 i1 p dx hp hdx hne=>?_⟩
    obtain⟨w2,x2⟩:=w1.obj (H':=upd (upd e1.H dx (.own p)) p (.ins Ca dx [])) (o:=.ins c []) hp (fun b u hb=>by rw[aB (aM hb hp),aB (aM hb hdx)];exact hb)
     (by rw[aK];exact⟨by simp,fun xs z=>nomatch z⟩) ⟨Ca,dx,[],hC,aK,rfl⟩
    have ip:(e1.obj p (upd (upd e1.H dx (.own p)) p (.ins Ca dx []))).α[Ω1.length]? = some p:=by show(e1.α++[p])[Ω1.length]? = some p;rw[<-w1.ol];simp
    refine⟨e1.obj p (upd (upd e1.H dx (.own p)) p (.ins Ca dx [])),Ω1++[.ins c []],_,.non,_,rfl,w2,.cons (by rw[Is];exact⟨p,ip,rfl⟩) ((i1.ext x2).append (hd _ _)),q2,fun v' e4 x4 w4 i4=>?_⟩
    rw[Is] at i4
    exact⟨i4,kk _ e4 ((x1.trans x2).trans x4) w4 (by rw[Is];exact⟨p,rO (K:=K) x4 ip,rfl⟩)⟩
   | _=>cases q
theorem Dc{k:Nat}{c:Str}{F:bf}{dfl:List D}{p:Pos}(G:MkD X.prog X.w X.K X.mg X.base C k c F dfl)(hr:Room (k+1) X.A)(hg:Gl X c)
  (hdb:(c==("__debug__":Str))=false:=by decide):PD X C (.Call (.Name c p) [] [] cp) (jE c F dfl au):=by
 obtain⟨Ca,fa,fd,ps,ds,dvs,hC,hm,mk,hb,hd,hdd,ok⟩:=G.ex
 exact bT (Ce mk ok hr hg hm hb hd yH hdb) fun σ H Q hw=>by
  have z:=Av (ga:=au) (E:=E0) hC hdd hw
  obtain⟨e,Ω,ρ,ds5,Ω',eH,w,rl,q,kk⟩:=z
  cases q
  have:=kk [] e (Ext.refl _) w .nil
  rw[eH] at this
  exact this
end
theorem Gq{K:PySem.W.Frag}{C:Cl}{F:bf}{H:Hp}{a:Addr}{ns:List Int}{E:XK}(hS:SqL K H a (ns.map V.int))(h:∃Ω,F [.scr ns] []=some (.bl true,Ω)):spD K C F [.ref a] H (fun v _=>v=.bl true) E:=by
 obtain⟨Ω,h⟩:=h
 refine⟨⟨[],H,fun _=>False,H⟩,[],[.scr ns],.bl true,Ω,rfl,⟨bB.refl _,fun _ h=>h.elim,fun _ h=>h.elim,rfl,List.nodup_nil,fun n a o h=>by simp at h⟩,?_,h,fun v e' _ _ i=>?_⟩
 ·exact .cons (by rw[Is];exact⟨a,rfl,hS⟩) .nil
 ·rw[Is] at i;exact i
end DL
namespace DL
open PySem PySem.Spec PyProof.Rows L2
structure FunV(K:PySem.W.Frag)(x qual:Str)(st:Stmt)(dV:Value)(f:Addr)(fd:FuncData):Prop where
 ex:∃(oc:Value) (od:Option Addr) (kV doc pm:Value) (an:Option Addr) (cdv ct:Value) (osl:Array (Option Value)),
  fd=PySem.W.fnOf x qual (aW st) (aQ st) (az st) dV kV doc pm an cdv ct/\K.lookup f=some ⟨oc,od,.func fd,osl⟩/\PySem.W.codeIn K cdv qual=true
theorem je{K:PySem.W.Frag}{x qual:Str}{st:Stmt}{dV:Value}{f:Addr}{oc:Value}{od an:Option Addr}{osl:Array (Option Value)}{kV doc pm cdv ct:Value}
  (l:K.lookup f=some ⟨oc,od,.func (PySem.W.fnOf x qual (aW st) (aQ st) (az st) dV kV doc pm an cdv ct),osl⟩) (c:PySem.W.codeIn K cdv qual=true) :
  FunV K x qual st dV f (PySem.W.fnOf x qual (aW st) (aQ st) (az st) dV kV doc pm an cdv ct):=⟨oc,od,kV,doc,pm,an,cdv,ct,osl,rfl,l,c⟩
theorem mj{P:Program}{w:World}{K:PySem.W.Frag}{mg:Str->Option Value}{base:Heap}{C:Cl}{x qual:Str}{st:Stmt}{dV:Value}{f:Addr}{fd:FuncData}{N ps:List Str}{k n m:Nat}{s:aO}(F:FunV K x qual st dV f fd)(S:FnScope N ps (az st))(hn:ps.length=n)(hm:N.length=m)
  (hbody:∀(cdv:Value) (A:Around) (outer:List Env) (sh:Shared) (H:Hp) (E:XK),Room k (A.deeper (envOfC qual (az st) sh.heap.objs.size f cdv)) ->
   PDB (cH CX0 P w K mg base N qual (az st) f cdv A outer sh H E).nox C (aQ st) s):FnOk P w K mg base CX0 (k+1) f fd ps (spD K C (cF n m s)):=by
 obtain⟨oc,od,kV,doc,pm,an,cdv,ct,osl,rfl,lk,hcd⟩:=F.ex
 refine Ej lk hcd S (fun vs H Q E h=>?_) fun A outer sh H vs Q E hr h=>?_
 ·obtain⟨e,Ω,ds,d,Ω',_,_,i,q,_⟩:=h
  unfold cF at q
  by_cases hl:ds.length=n
  ·rw[<-i.length,hl,hn]
  ·rw[if_neg hl] at q;cases q
 ·obtain⟨e,Ω,ds,d,Ω',eH,wf,i,q,kk⟩:=h
  unfold cF at q
  by_cases hl:ds.length=n
  ·rw[if_pos hl] at q
   cases q1:s (ds.map Sl.dat++List.replicate (m-n) Sl.und) Ω with
   | none=>rw[q1] at q;cases q
   | some o =>
    rw[q1] at q
    refine⟨_,(hbody cdv A outer sh H E hr e).nox,e,Ω,_,o,eH,tK wf i,by rw[hl,hm];exact q1,?_⟩
    cases o with
    | rt d' Ω2=>cases q;exact fun e' v x' w' i'=>kk v e' x' w' i'
    | nx ρ' Ω2=>cases q;exact fun e' σ' r'=>kk .non e' r'.ext r'.wf (by rw[Is])
    | bk ρ' Ω2=>cases q
    | ct ρ' Ω2=>cases q
  ·rw[if_neg hl] at q;cases q
theorem jT{K:PySem.W.Frag}{fd:FuncData}{ps:List Str}(h:∀us:List Value,us.length=ps.length->bindArgs fd ⟨us,[]⟩=pure (ps.zip us)):Binds K fd ps []:=.all h
noncomputable def spC(K:PySem.W.Frag)(F:bf):Sp:=fun vs H Q E=>∀C:Cl,spD K C F vs H Q E
theorem Gr{K:PySem.W.Frag}{F:bf}{H:Hp}{a:Addr}{ns:List Int}{E:XK}(hS:SqL K H a (ns.map V.int))(h:∃Ω,F [.scr ns] []=some (.bl true,Ω)):spC K F [.ref a] H (fun v _=>v=.bl true) E:=fun C=>Gq hS h
noncomputable def bC(C:Cl)(c:Str)(a:Addr):Cl:=fun x=>if x=c then some a else C x
theorem yR{C:Cl}{c:Str}{a:Addr}:bC C c a c=some a:=if_pos rfl
theorem vB{K:PySem.W.Frag}{C:Cl}{c f:Str}{a:Addr}(h:C c=some a)(n:jm K a f):NoA K C c f:=fun Ca e=>by rw[h] at e;cases e;exact n
section
variable (ρ:List Sl) (Ω:List OS)
@[simp] theorem xR:iV ρ Ω=some (.obj Ω.length,Ω++[.dK []]):=(rfl)
@[simp] theorem Gs:uF ρ Ω=some (.obj Ω.length,Ω++[.dT []]):=(rfl)
@[simp] theorem rR(go gi:Den):aJ go gi ρ Ω=match go ρ Ω with
 | some (.obj n,Ω1)=>(match gi ρ Ω1 with
  | some (k,Ω2)=>(match Ω2[n]? with
   | some o=>(match fH o k with |some (some d)=>some (d,Ω2) |_=>none)
   | none=>none)
  | none=>none)
 | _=>none:=(rfl)
@[simp] theorem MN(neg:Bool)(gk go:Den):gG neg gk go ρ Ω=match gk ρ Ω with
 | some (k,Ω1)=>(match go ρ Ω1 with
  | some (.obj n,Ω2)=>(match Ω2[n]? with
   | some o=>(match fH o k with |some r=>some (.bl (if neg then !r.isSome else r.isSome),Ω2) |none=>none)
   | none=>none)
  | _=>none)
 | none=>none:=(rfl)
@[simp] theorem LC(go gk:Den):lE go gk ρ Ω=match go ρ Ω with
 | some (.obj n,Ω1)=>(match Ω1[n]? with
  | some o=>(if jj o=true then(match gk ρ Ω1 with
   | some (k,Ω2)=>(match Ω2[n]? with
    | some o2=>(match fH o2 k with |some r=>some (r.getD .non,Ω2) |none=>none)
    | none=>none)
   | none=>none) else none)
  | none=>none)
 | _=>none:=(rfl)
@[simp] theorem xT(go gi gv:Den):eF go gi gv ρ Ω=match gv ρ Ω with
 | some (v,Ω1)=>(match go ρ Ω1 with
  | some (.obj n,Ω2)=>(match gi ρ Ω2 with
   | some (k,Ω3)=>(match Ω3[n]? with
    | some o=>(match mV o k v with |some o'=>some (.nx ρ (Ω3.set n o')) |none=>none)
    | none=>none)
   | none=>none)
  | _=>none)
 | none=>none:=(rfl)
@[simp] theorem Gu(go gk:Den):km go gk ρ Ω=match go ρ Ω with
 | some (.obj n,Ω1)=>(match Ω1[n]? with
  | some o=>(if jj o=true then(match gk ρ Ω1 with
   | some (k,Ω2)=>(match Ω2[n]? with
    | some o2=>(match l_ o2 k with |some (v,o3)=>some (v,Ω2.set n o3) |none=>none)
    | none=>none)
   | none=>none) else none)
  | none=>none)
 | _=>none:=(rfl)
@[simp] theorem MP(c fl:Str)(g:Den):gH c fl g ρ Ω=match g ρ Ω with
 | some (.obj n,Ω1)=>(match Ω1[n]? with
  | some (.ins c' fs)=>(if c'=c then(match fs.lookup fl with |some d=>some (d,Ω1) |none=>none) else none)
  | _=>none)
 | _=>none:=(rfl)
@[simp] theorem Gv(c fl:Str)(go gv:Den):jD c fl go gv ρ Ω=match gv ρ Ω with
 | some (v,Ω1)=>(match go ρ Ω1 with
  | some (.obj n,Ω2)=>(match Ω2[n]? with
   | some (.ins c' fs)=>(if c'=c/\fs.length<1000 then some (.nx ρ (Ω2.set n (.ins c (gJ fl v fs)))) else none)
   | _=>none)
  | _=>none)
 | none=>none:=(rfl)
@[simp] theorem Mp(c m:Str)(F:bf)(dfl:List D)(go:Den)(ga:bz):bI c m F dfl go ga ρ Ω=match go ρ Ω with
 | some (.obj n,Ω1)=>(match Ω1[n]? with
  | some (.ins c' fs)=>(if c'=c then(match fs.lookup m with
   | none=>(match ga ρ Ω1 with |some (ds,Ω2)=>F (.obj n::(ds++dfl)) Ω2 |none=>none)
   | some _=>none) else none)
  | _=>none)
 | _=>none:=(rfl)
@[simp] theorem Mq(c:Str)(F:bf)(dfl:List D)(ga:bz):jE c F dfl ga ρ Ω=match ga ρ Ω with
 | some (ds,Ω1)=>(match F (.obj Ω1.length::(ds++dfl)) (Ω1++[.ins c []]) with
  | some (.non,Ω2)=>some (.obj Ω1.length,Ω2)
  | _=>none)
 | none=>none:=(rfl)
@[simp] theorem oO(g:Den):bw g ρ Ω=match g ρ Ω with |some (_,Ω')=>some (.nx ρ Ω') |none=>none:=(rfl)
end
end DL
namespace KS
open PySem PySem.W PyProof.Rows
noncomputable def kw{α:Type}(N:Nat)(lt:Nat->Nat->Bool):KasT α->(α->Prop)->Prop
 | .ret a,Q=>Q a
 | .ask i j k,Q=>i<N/\j<N/\kw N lt (k (lt i j)) Q
theorem jG{α β:Type}{N:Nat}{lt:Nat->Nat->Bool}{f:α->KasT β}{Q:β->Prop}:∀t:KasT α,kw N lt t (fun a=>kw N lt (f a) Q)->kw N lt (t.bind f) Q
 | .ret _,h=>h
 | .ask i j k,⟨h1,h2,h3⟩=>⟨h1,h2,jG (k (lt i j)) h3⟩
theorem Aw{α:Type}{N:Nat}{lt:Nat->Nat->Bool}{cmp:Nat->Nat->(Bool->Shared->Prop)->Shared->Prop}{Q:α->Prop}{Q':α->Shared->Prop}{s:Shared}
  (hc:∀i j (C:Bool->Shared->Prop),i<N->j<N->C (lt i j) s->cmp i j C s) (hq:∀a,Q a->Q' a s):∀t:KasT α,kw N lt t Q->t.kasWp cmp Q' s
 | .ret a,h=>hq a h
 | .ask i j k,⟨h1,h2,h3⟩=>hc i j _ h1 h2 (Aw hc hq (k (lt i j)) h3)
noncomputable abbrev rk(r:Nat->Nat)(p:Array Nat)(m:Nat):Nat:=r (p.getD m 0)
structure Pm(N:Nat)(p:Array Nat):Prop where
 perm:p.Perm (List.range N).toArray
 pos:0<N
theorem Pm.size{N:Nat}{p:Array Nat}(h:Pm N p):p.size=N:=by rw[h.perm.size_eq];simp
theorem Pm.lt{N:Nat}{p:Array Nat}(h:Pm N p)(m:Nat):p.getD m 0<N:=by
 by_cases hm:m<p.size
 ·have e:p.getD m 0=p[m]:=by simp[Array.getD,hm]
  rw[e]
  have:p[m]∈(List.range N).toArray:=h.perm.mem_iff.mp (Array.getElem_mem hm)
  simpa using this
 ·have e:p.getD m 0=0:=by simp[Array.getD,hm]
  rw[e];exact h.pos
theorem jf{p:Array Nat}(m:Nat):p.getD m 0=(p[m]?).getD 0:=by simp[Array.getD_eq_getD_getElem?]
theorem mX(r:Nat->Nat){p:Array Nat}{i j:Nat}(hj:j<=p.size)(k:Nat):rk r (kas_rev p i j) k=if i<=k/\k<j then rk r p (i+j-1-k) else rk r p k:=by
 have e:=getElem?_mirror_all (i:=i) hj k
 unfold rk kas_rev
 rw[jf,jf,jf,e]
 split<;>rfl
theorem tO(r:Nat->Nat){p:Array Nat}{src d:Nat}(hs:src<p.size)(hd:d<=src)(k:Nat) :
  rk r (bubble p src d) k=if k=src-d then rk r p src else if src-d<k/\k<=src then rk r p (k-1) else rk r p k:=by
 have e:=getElem?_bubble hs d hd k
 unfold rk
 rw[jf,jf,jf,jf,e]
 split
 ·rfl
 ·split<;>rfl
noncomputable def Up(r:Nat->Nat)(p:Array Nat)(n:Nat):Prop:=∀i j,i<=j->j<n->rk r p i<=rk r p j
noncomputable def Dn(r:Nat->Nat)(p:Array Nat)(n:Nat):Prop:=∀i j,i<=j->j<n->rk r p j<=rk r p i
section
variable {N:Nat} {r:Nat->Nat}
noncomputable abbrev ltR(r:Nat->Nat)(i j:Nat):Bool:=decide (r i<r j)
theorem Pm.rev{p:Array Nat}(h:Pm N p)(i j:Nat):Pm N (kas_rev p i j):=⟨(mirror_perm p i j _).trans h.perm,h.pos⟩
theorem Pm.bub{p:Array Nat}(h:Pm N p)(i j:Nat):Pm N (bubble p i j):=⟨(bubble_perm p i j).trans h.perm,h.pos⟩
theorem Gw{p:Array Nat}{n:Nat}(h:Up r p n)(h1:1<=n)(hl:rk r p (n-1)<=rk r p n):Up r p (n+1):=fun i j hij hj=>by
 by_cases hjn:j<n
 ·exact h i j hij hjn
 ·have:j=n:=by omega
  subst this
  by_cases hi:i=j
  ·subst hi;exact Nat.le_refl _
  ·exact Nat.le_trans (h i (j-1) (by omega) (by omega)) hl
theorem lG{p:Array Nat}{n:Nat}(h:Dn r p n)(h1:1<=n)(hl:rk r p n<=rk r p (n-1)):Dn r p (n+1):=fun i j hij hj=>by
 by_cases hjn:j<n
 ·exact h i j hij hjn
 ·have:j=n:=by omega
  subst this
  by_cases hi:i=j
  ·subst hi;exact Nat.le_refl _
  ·exact Nat.le_trans hl (h i (j-1) (by omega) (by omega))
theorem asc{p:Array Nat}{Q:Nat->Prop}(hB:Pm N p):∀(f n:Nat),1<=n->n+f<=N->Up r p n->(∀m,n<=m->m<=n+f->Up r p m->(m=n+f\/rk r p m<rk r p (m-1))->Q m)->kw N (ltR r) (kas_asc p f n) Q
 | 0,n,h1,hn,hs,h=>h n (Nat.le_refl _) (Nat.le_refl _) hs (.inl rfl)
 | f+1,n,h1,hn,hs,h=>by
  refine⟨hB.lt n,hB.lt (n-1),?_⟩
  by_cases hc:rk r p n<rk r p (n-1)
  ·have e:ltR r (p.getD n 0) (p.getD (n-1) 0)=true:=decide_eq_true hc
   rw[e];dsimp only;rw[if_pos rfl]
   exact h n (Nat.le_refl _) (by omega) hs (.inr hc)
  ·have e:ltR r (p.getD n 0) (p.getD (n-1) 0)=false:=decide_eq_false hc
   rw[e];dsimp only;rw[if_neg (by decide)]
   exact asc hB f (n+1) (by omega) (by omega) (Gw hs h1 (by omega)) fun m a b c d=>h m (by omega) (by omega) c (d.elim (fun d=>.inl (by omega)) .inr)
theorem k_{p:Array Nat}{i j:Nat}(hj:j<=p.size)(he:∀k,i<=k->k<j->rk r p k=rk r p (j-1))(k:Nat):rk r (kas_rev p i j) k=rk r p k:=by
 rw[mX r hj]
 split
 ·rw[he _ (by omega) (by omega),he k (by omega) (by omega)]
 ·rfl
theorem desc{Q:Array Nat×Nat×Nat->Prop}{hi:Nat}:∀(f:Nat) (p:Array Nat) (n q:Nat),Pm N p->1<=n->n+f=hi->hi<=N->Dn r p n->q+1<=n->(∀i,n-(q+1)<=i->i<n->rk r p i=rk r p (n-1)) ->
  (∀p' m q',Pm N p'->1<=m->m<=hi->Dn r p' m->q'+1<=m->(∀i,m-(q'+1)<=i->i<m->rk r p' i=rk r p' (m-1))->Q (p',m,q'))->kw N (ltR r) (kas_desc f p n q) Q
 | 0,p,n,q,hB,h1,hn,hN,hs,hq,he,h=>h p n q hB h1 (by omega) hs hq he
 | f+1,p,n,q,hB,h1,hn,hN,hs,hq,he,h=>by
  have hsz:=hB.size
  refine⟨hB.lt n,hB.lt (n-1),?_⟩
  by_cases hc:rk r p n<rk r p (n-1)
  ·have e:ltR r (p.getD n 0) (p.getD (n-1) 0)=true:=decide_eq_true hc
   rw[e];dsimp only;rw[if_pos rfl]
   by_cases hq0:q>0
   ·rw[if_pos hq0]
    have same:=k_ (r:=r) (p:=p) (i:=n-(q+1)) (j:=n) (by omega) he
    refine desc f _ (n+1) 0 (hB.rev _ _) (by omega) (by omega) hN ?_ (by omega) (fun i a b=>by congr 1;congr 1;omega) h
    refine lG (fun i j a b=>?_) h1 ?_
    ·rw[same,same];exact hs i j a b
    ·rw[same,same];omega
   ·rw[if_neg hq0]
    exact desc f p (n+1) 0 hB (by omega) (by omega) hN (lG hs h1 (by omega)) (by omega) (fun i a b=>by congr 1;congr 1;omega) h
  ·have e:ltR r (p.getD n 0) (p.getD (n-1) 0)=false:=decide_eq_false hc
   rw[e];dsimp only;rw[if_neg (by decide)]
   refine⟨hB.lt (n-1),hB.lt n,?_⟩
   by_cases hd:rk r p (n-1)<rk r p n
   ·have e:ltR r (p.getD (n-1) 0) (p.getD n 0)=true:=decide_eq_true hd
    rw[e];dsimp only;rw[if_pos rfl]
    exact h p n q hB h1 (by omega) hs hq he
   ·have e:ltR r (p.getD (n-1) 0) (p.getD n 0)=false:=decide_eq_false hd
    rw[e];dsimp only;rw[if_neg (by decide)]
    refine desc f p (n+1) (q+1) hB (by omega) (by omega) hN (lG hs h1 (by omega)) (by omega) (fun i a b=>?_) h
    show rk r p i=rk r p n
    by_cases hi:i=n
    ·rw[hi]
    ·rw[he i (by omega) (by omega)];omega
theorem tail3{p:Array Nat}{Q:Nat×Array Nat->Prop}{n nrem:Nat}(hB:Pm N p)(h1:1<=n)(hn:n<=nrem)(hN:nrem<=N)(hs:Dn r p n)
  (h:∀m p',Pm N p'->1<=m->m<=nrem->Up r p' m->Q (m,p')):kw N (ltR r) (kas_tail3 n nrem p) Q:=by
 have hsz:=hB.size
 unfold kas_tail3
 refine jG _ (asc (hB.rev 0 n) _ n h1 (by omega) (fun i j a b=>?_) fun m a b c _=>h m _ (hB.rev 0 n) (by omega) (by omega) c)
 rw[mX r (by omega),mX r (by omega),if_pos (by omega),if_pos (by omega)]
 exact hs _ _ (by omega) (by omega)
theorem descPart{p:Array Nat}{Q:Nat×Array Nat->Prop}{n nrem:Nat}(hB:Pm N p)(hn:n+1<=nrem)(hN:nrem<=N)(hs:Dn r p (n+1))
  (h:∀m p',Pm N p'->1<=m->m<=nrem->Up r p' m->Q (m,p')):kw N (ltR r) (kas_descPart n nrem p) Q:=by
 unfold kas_descPart
 refine jG _ (desc (hi:=nrem) _ p (n+1) 0 hB (by omega) (by omega) hN hs (by omega) (fun i a b=>by congr 1;congr 1;omega) fun p' m q' hB' m1 m2 hs' hq' he'=>?_)
 dsimp only
 have hsz:=hB'.size
 by_cases hq0:q'>0
 ·rw[if_pos hq0]
  have same:=k_ (r:=r) (p:=p') (i:=m-(q'+1)) (j:=m) (by omega) he'
  exact tail3 (hB'.rev _ _) m1 m2 hN (fun i j a b=>by rw[same,same];exact hs' i j a b) h
 ·rw[if_neg hq0]
  exact tail3 hB' m1 m2 hN hs' h
theorem count{p:Array Nat}{Q:Nat×Array Nat->Prop}{nrem:Nat}(hB:Pm N p)(h1:1<=nrem)(hN:nrem<=N)
  (h:∀m p',Pm N p'->1<=m->m<=nrem->Up r p' m->Q (m,p')):kw N (ltR r) (kas_count nrem p) Q:=by
 have hsz:=hB.size
 unfold kas_count
 refine jG _ (asc hB _ 1 (Nat.le_refl _) (by omega) (fun i j a b=>by have:i=j:=(by omega);subst this;exact Nat.le_refl _) fun n n1 n2 hs hor=>?_)
 by_cases hnn:n=nrem
 ·rw[if_pos (by simpa using hnn)]
  exact h n p hB n1 (by omega) hs
 ·rw[if_neg (by simpa using hnn)]
  have hlt:rk r p n<rk r p (n-1):=hor.resolve_left (by omega)
  by_cases hg:n>1
  ·rw[if_pos hg]
   refine⟨hB.lt 0,hB.lt (n-1),?_⟩
   by_cases hc:rk r p 0<rk r p (n-1)
   ·have e:ltR r (p.getD 0 0) (p.getD (n-1) 0)=true:=decide_eq_true hc
    rw[e];dsimp only;rw[if_pos rfl]
    exact h n p hB n1 (by omega) hs
   ·have e:ltR r (p.getD 0 0) (p.getD (n-1) 0)=false:=decide_eq_false hc
    rw[e];dsimp only;rw[if_neg (by decide)]
    have all:∀k,0<=k->k<n->rk r p k=rk r p (n-1):=fun k _ hk=>by
     have a1:=hs 0 k (by omega) hk
     have a2:=hs k (n-1) (by omega) (by omega)
     omega
    have same:=k_ (r:=r) (p:=p) (i:=0) (j:=n) (by omega) all
    refine descPart (hB.rev _ _) (by omega) hN (lG (fun i j a b=>?_) n1 ?_) h
    ·rw[same,same,all i (by omega) (by omega),all j (by omega) b];exact Nat.le_refl _
    ·rw[same,same];omega
  ·rw[if_neg hg]
   have:n=1:=by omega
   subst this
   exact descPart hB (by omega) hN (lG (fun i j a b=>by have:i=j:=(by omega);subst this;exact Nat.le_refl _) (Nat.le_refl _) (by omega)) h
theorem place{p:Array Nat}{Q:Nat->Prop}{k:Nat}(hB:Pm N p)(hs:Up r p k):∀(f l q:Nat),l<=q->q<=k->q-l<=f->(∀i,i<l->rk r p i<=rk r p k)->(∀i,q<=i->i<k->rk r p k<rk r p i) ->
  (∀m,m<=k->(∀i,i<m->rk r p i<=rk r p k)->(∀i,m<=i->i<k->rk r p k<rk r p i)->Q m)->kw N (ltR r) (kas_place p k f l q) Q
 | 0,l,q,a,b,c,lo,hi,h=>h l (by omega) lo (fun i x y=>hi i (by omega) y)
 | f+1,l,q,a,b,c,lo,hi,h=>by
  unfold kas_place
  by_cases hge:l ≥ q
  ·rw[if_pos hge]
   exact h l (by omega) lo (fun i x y=>hi i (by omega) y)
  ·rw[if_neg hge]
   refine⟨hB.lt k,hB.lt _,?_⟩
   by_cases hc:rk r p k<rk r p ((l+q) / 2)
   ·have e:ltR r (p.getD k 0) (p.getD ((l+q) / 2) 0)=true:=decide_eq_true hc
    rw[e];dsimp only;rw[if_pos rfl]
    exact place hB hs f l ((l+q) / 2) (by omega) (by omega) (by omega) lo (fun i x y=>Nat.lt_of_lt_of_le hc (hs _ _ x y)) h
   ·have e:ltR r (p.getD k 0) (p.getD ((l+q) / 2) 0)=false:=decide_eq_false hc
    rw[e];dsimp only;rw[if_neg (by decide)]
    exact place hB hs f ((l+q) / 2+1) q (by omega) (by omega) (by omega) (fun i x=>Nat.le_trans (hs i ((l+q) / 2) (by omega) (by omega)) (by omega)) hi h
theorem ins{p:Array Nat}{k l:Nat}(hB:Pm N p)(hk:k<N)(hl:l<=k)(hs:Up r p k)(lo:∀i,i<l->rk r p i<=rk r p k)(hi:∀i,l<=i->i<k->rk r p k<rk r p i):Up r (bubble p k (k-l)) (k+1):=fun i j a b=>by
 have hsz:=hB.size
 rw[tO r (by omega) (by omega),tO r (by omega) (by omega),show k-(k-l)=l by omega]
 by_cases c1:i=l
 ·rw[if_pos c1]
  by_cases d1:j=l
  ·rw[if_pos d1];exact Nat.le_refl _
  ·rw[if_neg d1,if_pos (by omega)]
   exact Nat.le_of_lt (hi (j-1) (by omega) (by omega))
 ·rw[if_neg c1]
  by_cases c2:l<i/\i<=k
  ·rw[if_pos c2,if_neg (by omega),if_pos (by omega)]
   exact hs _ _ (by omega) (by omega)
  ·rw[if_neg c2]
   by_cases d1:j=l
   ·rw[if_pos d1];exact lo i (by omega)
   ·rw[if_neg d1]
    by_cases d2:l<j/\j<=k
    ·rw[if_pos d2];exact hs _ _ (by omega) (by omega)
    ·rw[if_neg d2];exact hs _ _ (by omega) (by omega)
theorem bin{Q:Array Nat->Prop}:∀(f:Nat) (p:Array Nat) (k:Nat),Pm N p->k+f=N->1<=k->Up r p k->(∀p',Pm N p'->Up r p' N->Q p')->kw N (ltR r) (kas_bin f p k) Q
 | 0,p,k,hB,hf,h1,hs,h=>h p hB (by rw[<-hf];exact hs)
 | f+1,p,k,hB,hf,h1,hs,h=>by
  unfold kas_bin
  exact jG _ (place hB hs k 0 k (by omega) (Nat.le_refl _) (by omega) (fun i x=>by omega) (fun i x y=>by omega) fun m hm lo hi =>
   bin f _ (k+1) (hB.bub _ _) (by omega) (by omega) (ins hB (by omega) hm hs lo hi) h)
theorem sort{Q:Array Nat->Prop}(h2:2<=N)(h:∀p,Pm N p->Up r p N->Q p):kw N (ltR r) (kas_sort N) Q:=by
 unfold kas_sort
 have hB:Pm N (List.toArray (List.range N)):=⟨Array.Perm.refl _,by omega⟩
 refine jG _ (count hB (by omega) (Nat.le_refl _) fun m p' hB' m1 m2 hs=>?_)
 dsimp only
 by_cases hm:m<N
 ·rw[if_pos hm]
  rw[show max m 1=m by omega]
  exact bin _ p' m hB' (by omega) m1 hs h
 ·rw[if_neg hm]
  exact h p' hB' (by have:m=N:=(by omega);subst this;exact hs)
end
section
variable {β:Type} (lt:β->β->Bool)
noncomputable def rank(ks:List β)(x:β):Nat:=(ks.filter fun y=>lt y x).length
theorem Gx(ir:∀a,lt a a=false)(tr:∀a b c,lt a b=true->lt b c=true->lt a c=true){ks:List β}{x y:β}(hx:x∈ks)(h:lt x y=true):rank lt ks x<rank lt ks y:=by
 unfold rank
 have sub:∀l:List β,(l.filter fun z=>lt z x).length<=(l.filter fun z=>lt z y).length/\(x∈l->(l.filter fun z=>lt z x).length<(l.filter fun z=>lt z y).length):=by
  intro l
  induction l with
  | nil=>exact⟨Nat.le_refl _,fun h=>nomatch h⟩
  | cons a l ih =>
   by_cases ha:lt a x=true
   ·rw[List.filter_cons_of_pos (p:=fun z=>lt z x) ha,List.filter_cons_of_pos (p:=fun z=>lt z y) (tr _ _ _ ha h)]
    refine⟨Nat.succ_le_succ ih.1,fun hm=>?_⟩
    rcases List.mem_cons.mp hm with rfl |hm
    ·rw[ir] at ha;cases ha
    ·exact Nat.succ_lt_succ (ih.2 hm)
   ·rw[List.filter_cons_of_neg (p:=fun z=>lt z x) ha]
    by_cases hy:lt a y=true
    ·rw[List.filter_cons_of_pos (p:=fun z=>lt z y) hy]
     exact⟨Nat.le_succ_of_le ih.1,fun _=>Nat.lt_succ_of_le ih.1⟩
    ·rw[List.filter_cons_of_neg (p:=fun z=>lt z y) hy]
     refine⟨ih.1,fun hm=>?_⟩
     rcases List.mem_cons.mp hm with rfl |hm
     ·exact absurd h hy
     ·exact ih.2 hm
 exact(sub ks).2 hx
theorem Gy(nt:∀a b c,lt a c=true->lt a b=true\/lt b c=true){ks:List β}{x y:β}(h:lt y x=false):rank lt ks x<=rank lt ks y:=by
 unfold rank
 induction ks with
 | nil=>exact Nat.le_refl _
 | cons a l ih =>
  by_cases ha:lt a x=true
  ·have:lt a y=true:=by
    rcases nt a y x ha with z |z
    ·exact z
    ·rw[h] at z;cases z
   rw[List.filter_cons_of_pos (p:=fun z=>lt z x) ha,List.filter_cons_of_pos (p:=fun z=>lt z y) this];exact Nat.succ_le_succ ih
  ·rw[List.filter_cons_of_neg (p:=fun z=>lt z x) ha]
   by_cases hy:lt a y=true
   ·rw[List.filter_cons_of_pos (p:=fun z=>lt z y) hy];exact Nat.le_succ_of_le ih
   ·rw[List.filter_cons_of_neg (p:=fun z=>lt z y) hy];exact ih
end
end KS
namespace KS
open PySem PySem.W PySem.Calls PyProof.Rows
section
variable {prog:Program} {w:World} {A:Around} {E:Value->Shared->Prop} {s:Shared} {a kS:Addr} {vs ks:List Value} {κ:SortKind}
noncomputable def Kept(s:Shared)(h':Heap)(bs:List Addr):Prop:=∀b o,b∉bs->s.heap.get? b=some o->h'.get? b=some o
end
end KS
namespace L2
open PySem PySem.Spec PyProof.Rows KS PySem.W
theorem xU{prog:Program}{w:World}{A:Around}{s:Shared}{b fin:Bool}{Q:Bool->Shared->Prop}:∀{xs ys:List Value} {ns ms:List Int} (i:Nat),IntsAre xs ns->IntsAre ys ms->fin=decide (xs.length<ys.length)->Q (HT.lexLt ns ms) s->KatLex prog w A b fin Q (xs.zip ys) i s
 | _,_,_,_,i,.nil,.nil,hf,h=>by subst hf;exact h
 | _,_,_,_,i,.nil,.cons m u h2,hf,h=>by subst hf;exact h
 | _,_,_,_,i,.cons n t h1,.nil,hf,h=>by subst hf;exact h
 | _,_,_,_,i,.cons n t h1,.cons m u h2,hf,h=>by
  rw[List.zip_cons_cons]
  refine kat_cons (wpAny_eqBool_int ?_)
  rw[HT.dw] at h
  by_cases e:n=m
  ·subst e
   rw[beq_self_eq_true]
   rw[if_pos rfl] at h
   exact kat_yes (xU (i+1) h1 h2 (by rw[hf];simp) h)
  ·have e':(n==m)=false:=by simpa using e
   rw[e']
   rw[if_neg e] at h
   refine kat_no ?_
   cases z:(b && i==0) with
   | true=>exact oneLt_int h
   | false=>exact kat_one _ _ (lt_int (show PySem.W.BoolBack Q (.bool (decide (n<m))) s from h))
theorem getD_get{β:Type}{l:List β}{i:Nat}{d:β}(h:i<l.length):l.getD i d=l[i]:=by rw[List.getD_eq_getElem?_getD,List.getElem?_eq_getElem h];rfl
theorem Ep{X:Cx}{pins:List (Addr×Obj)}{H H':Hp}{b:Addr}(f:dJ X pins H b)(h:H' b=none):dJ X pins H' b:=⟨h,f.2⟩
theorem Inv.adopt{X:Cx}{pins:List (Addr×Obj)}{σ:St}{H:Hp}{s:Shared}{h':Heap}{kS D:Addr}{its:List Value}{xs:List V}{c:Nat}(I:Inv X pins σ H s)(fk:dJ X pins H kS)(fd:dJ X pins H D)(k:Kept s h' [kS,D])
  (hD:h'.get? D=some (seqObj "list" (List.toArray its) c)) (hv:Vals xs its) (hz:xs.length<=sizeLine):Inv X pins σ (upd H D (.lst xs)) { s with heap:=h' }:=by
 obtain⟨k0,k1,k2,k3,k4,k5⟩:=fk
 obtain⟨d0,d1,d2,d3,d4,d5⟩:=fd
 have nk:∀b u,H b=some u->b≠kS:=fun b u e z=>by rw[z,k0] at e;cases e
 have nD:∀b u,H b=some u->b≠D:=fun b u e z=>by rw[z,d0] at e;cases e
 have kp:∀b o,b∉[kS,D]->s.heap.get? b=some o->h'.get? b=some o:=k
 refine I.step (g':=s.gens) (d':=s.drawn) (t':=s.toks) (ch:=[kS,D]) (fun b hb=>?_) (fun b o _ _ hc e _=>kp b o hc e) (fun b o _ _ hc e _=>⟨o.slots,kp b o hc e⟩) (fun b o hc e n=>?_) (fun b o hc e=>⟨o,kp b o hc e⟩)
  (fun b ys e=>by rw[aB (nD b _ e)];exact e) (fun b o u e=>by rw[aB (nD b _ e)];exact e) (fun b ps e=>⟨#[],by rw[aB (nD b _ e),e];simp⟩) (fun m hm=>?_) (fun b u e=>?_) I.bare
 ·rw[List.mem_cons,List.mem_singleton] at hb
  rcases hb with rfl |rfl
  ·exact⟨k3,k1,k4,k5⟩
  ·exact⟨d3,d1,d4,d5⟩
 ·rw[aB (fun z=>hc (by simp[z]))];exact n
 ·obtain⟨o,es,ep,ho,r⟩:=hm
  exact⟨o,es,ep,kp _ o (by simp[Ne.symm k1,Ne.symm d1]) ho,r⟩
 ·by_cases z:b=D
  ·subst z
   rw[aK] at e
   cases e
   exact⟨hz,its,c,hv,hD⟩
  ·rw[aB z] at e
   refine(I.hok b u e).stay (fun c v hc q=>kp c v ?_ q) (fun c q=>by rw[aB (nD c _ q)];exact q) fun c ys q=>by rw[aB (nD c _ q)];exact q
   rw[List.mem_cons,List.mem_singleton,not_or]
   rcases hc with z |z
   ·rw[z];exact⟨nk b u e,nD b u e⟩
   ·exact⟨nk c _ z,nD c _ z⟩
noncomputable def KeysAre(H:Hp)(vks:List V)(nss:List (List Int)):Prop:=Paired (fun(v:V) (ns:List Int)=>∃b,v=.ref b/\H b=some (.tup (ns.map V.int))/\ns≠[]) vks nss
section
variable {X:Cx} {k:Nat} {f:Addr} {fd:FuncData} {ps:List Str} {sp:Sp} {pins:List (Addr×Obj)} {σ:St} {H:Hp} {s:Shared}
theorem Paired.get{α β:Type}{R:α->β->Prop}:∀{xs:List α} {ys:List β} {i:Nat} {x:α},Paired R xs ys->xs[i]? = some x->∃y,ys[i]? = some y/\R x y
 | _,_,0,_,.cons r _,e=>by cases e;exact⟨_,rfl,r⟩
 | _,_,i+1,x,.cons _ t,e=>by
  obtain⟨y,h1,h2⟩:=Paired.get (i:=i) (x:=x) t e
  exact⟨y,h1,h2⟩
 | _,_,_,_,.nil,e=>by simp at e
theorem gQ:∀a,HT.lexLt a a=false
 | []=>rfl
 | x::a=>by rw[HT.dw,if_pos rfl];exact gQ a
theorem jk:∀a b c,HT.lexLt a b=true->HT.lexLt b c=true->HT.lexLt a c=true
 | [],[],_,h,_=>by cases h
 | [],_::_,[],_,h=>by cases h
 | [],_::_,_::_,_,_=>rfl
 | _::_,[],_,h,_=>by cases h
 | x::a,y::b,[],_,h=>by cases h
 | x::a,y::b,z::c,h1,h2=>by
  rw[HT.dw] at h1 h2 ⊢
  split at h1
  ·rename_i e
   subst e
   split at h2
   ·rename_i e
    subst e
    rw[if_pos rfl];exact jk a b c h1 h2
   ·rename_i ne
    rw[if_neg ne];exact h2
  ·rename_i ne
   split at h2
   ·rename_i e
    subst e
    rw[if_neg ne];exact h1
   ·have h1:=of_decide_eq_true h1
    have h2:=of_decide_eq_true h2
    rw[if_neg (by omega)];exact decide_eq_true (by omega)
theorem mY:∀a b c,HT.lexLt a c=true->HT.lexLt a b=true\/HT.lexLt b c=true
 | [],[],_,h=>.inr h
 | [],_::_,_,h=>.inl rfl
 | x::a,[],[],h=>by cases h
 | x::a,[],_::_,h=>.inr rfl
 | x::a,y::b,[],h=>by cases h
 | x::a,y::b,z::c,h=>by
  rw[HT.dw] at h
  rw[HT.dw,HT.dw]
  by_cases e1:x=y
  ·subst e1
   rw[if_pos rfl]
   by_cases e2:x=z
   ·subst e2
    rw[if_pos rfl] at h ⊢
    exact mY a b c h
   ·rw[if_neg e2] at h ⊢
    exact .inr h
  ·rw[if_neg e1]
   by_cases e2:y=z
   ·subst e2
    rw[if_neg e1] at h
    exact .inl h
   ·rw[if_neg e2]
    by_cases e3:x=z
    ·subst e3
     rcases Int.lt_trichotomy x y with q |q |q
     ·exact .inl (decide_eq_true q)
     ·exact absurd q e1
     ·exact .inr (decide_eq_true q)
    ·rw[if_neg e3] at h
     have h:=of_decide_eq_true h
     by_cases q:x<y
     ·exact .inl (decide_eq_true q)
     ·exact .inr (decide_eq_true (by omega))
theorem pI:∀a b,HT.lexLt a b=false->HT.lexLt b a=false->a=b
 | [],[],_,_=>rfl
 | [],_::_,h,_=>by cases h
 | _::_,[],_,h=>by cases h
 | x::a,y::b,h1,h2=>by
  rw[HT.dw] at h1 h2
  by_cases e:x=y
  ·subst e
   rw[if_pos rfl] at h1 h2
   rw[pI a b h1 h2]
  ·rw[if_neg e] at h1
   rw[if_neg (fun z=>e z.symm)] at h2
   have h1:=of_decide_eq_false h1
   have h2:=of_decide_eq_false h2
   omega
noncomputable def rankOf(nss:List (List Int))(i:Nat):Nat:=rank HT.lexLt nss (nss.getD i [])
theorem vC{nss:List (List Int)}{i j:Nat}(hi:i<nss.length)(hj:j<nss.length):ltR (rankOf nss) i j=HT.lexLt nss[i] nss[j]:=by
 have ei:nss.getD i []=nss[i]:=by simp[hi]
 have ej:nss.getD j []=nss[j]:=by simp[hj]
 unfold ltR rankOf
 rw[ei,ej]
 cases h:HT.lexLt nss[i] nss[j] with
 | true=>exact decide_eq_true (Gx HT.lexLt gQ jk (List.getElem_mem hi) h)
 | false=>exact decide_eq_false (Nat.not_lt.mpr (Gy HT.lexLt mY h))
noncomputable def oR(nss:List (List Int))(xs out:List V):Prop:=∃p:List Nat,p.Perm (List.range xs.length)/\out=p.map (fun i=>xs.getD i .non)/\∀i j,i<=j->j<p.length->HT.lexLt (nss.getD (p.getD j 0) []) (nss.getD (p.getD i 0) [])=false
theorem tQ{xs:List V}{its:List Value}(r:Vals xs its):∀p:List Nat,(∀i∈p,i<xs.length)->Vals (p.map fun i=>xs.getD i .non) (p.map fun i=>its.getD i Value.none)
 | [],_=>.nil
 | i::p,h=>by
  refine .cons ?_ (tQ r p fun j hj=>h j (List.mem_cons_of_mem _ hj))
  have hi:=h i List.mem_cons_self
  obtain⟨u,e1,e2⟩:=r.get (List.getElem?_eq_getElem hi)
  have e3:xs.getD i V.non=xs[i]:=by simp[hi]
  have e4:its.getD i Value.none=u:=by rw[List.getD_eq_getElem?_getD,e1];rfl
  show RelV (xs.getD i V.non) (its.getD i Value.none)
  rw[e3,e4];exact e2
end
end L2
namespace DL
open PySem
mutual
noncomputable def pl:D->Bool
 | .non=>true
 | .int _=>true
 | .str x=>(PyData.str x).canLay0
 | .tup xs=>plL xs
 | .lst xs=>plL xs
 | _=>false
noncomputable def plL:List D->Bool
 | []=>true
 | d::ds=>pl d && plL ds
end
mutual
noncomputable def dep:D->Nat
 | .tup xs=>gR xs+1
 | .lst xs=>gR xs+1
 | _=>0
noncomputable def gR:List D->Nat
 | []=>0
 | d::ds=>max (dep d) (gR ds)
end
mutual
theorem Ax:∀d:D,pl d=true->(toP d).canLay0=true
 | .non,_=>by rw[toP];rfl
 | .int _,_=>by rw[toP];rfl
 | .str x,h=>by rw[pl] at h;rw[toP];exact h
 | .tup xs,h=>by rw[pl] at h;rw[toP,PyData.canLay0];exact rT xs h
 | .lst xs,h=>by rw[pl] at h;rw[toP,PyData.canLay0];exact rT xs h
 | .bl _,h=>by simp[pl] at h
 | .scr _,h=>by simp[pl] at h
 | .obj _,h=>by simp[pl] at h
theorem rT:∀ds:List D,plL ds=true->PyData.canLayAll0 (e_ ds)=true
 | [],_=>by rw[e_];rfl
 | d::ds,h=>by
  rw[plL,Bool.and_eq_true] at h
  rw[e_,PyData.canLayAll0,Bool.and_eq_true]
  exact⟨Ax d h.1,rT ds h.2⟩
end
mutual
theorem Ay:∀d:D,pl d=true->(toP d).depth=dep d
 | .non,_=>by rw[toP,dep];rfl;all_goals (intro _ z;cases z)
 | .int _,_=>by rw[toP,dep];rfl;all_goals (intro _ z;cases z)
 | .str x,h=>by rw[toP,dep];rfl;all_goals (intro _ z;cases z)
 | .tup xs,h=>by rw[pl] at h;rw[toP,dep,PyData.depth,rW xs h]
 | .lst xs,h=>by rw[pl] at h;rw[toP,dep,PyData.depth,rW xs h]
 | .bl _,h=>by simp[pl] at h
 | .scr _,h=>by simp[pl] at h
 | .obj _,h=>by simp[pl] at h
theorem rW:∀ds:List D,plL ds=true->PyData.depthAll (e_ ds)=gR ds
 | [],_=>by rw[e_,gR];rfl
 | d::ds,h=>by
  rw[plL,Bool.and_eq_true] at h
  rw[e_,gR,PyData.depthAll,Ay d h.1,rW ds h.2]
end
theorem mZ{d:D}(h:pl d=true)(hd:dep d<=64):SeqAt.shaped (toP d)=true:=by
 unfold SeqAt.shaped
 rw[Ax d h,Ay d h]
 simp[hd]
mutual
theorem vD:∀(p q:D),pl p=true->pl q=true->(PyData.eqv (toP p) (toP q)=true↔p=q)
 | .non,q,_,hq=>by cases q<;>simp[toP,PyData.eqv,pl] at hq ⊢
 | .int i,q,_,hq=>by cases q<;>simp[toP,PyData.eqv,pl] at hq ⊢
 | .str x,q,_,hq=>by cases q<;>simp[toP,PyData.eqv,pl] at hq ⊢
 | .tup xs,q,hp,hq=>by
  cases q with
  | tup ys =>
   rw[pl] at hp hq
   rw[toP,toP,PyData.eqv,rY xs ys hp hq]
   exact⟨fun h=>by rw[h],fun h=>by injection h⟩
  | _=>simp[toP,PyData.eqv,pl] at hq ⊢
 | .lst xs,q,hp,hq=>by
  cases q with
  | lst ys =>
   rw[pl] at hp hq
   rw[toP,toP,PyData.eqv,rY xs ys hp hq]
   exact⟨fun h=>by rw[h],fun h=>by injection h⟩
  | _=>simp[toP,PyData.eqv,pl] at hq ⊢
 | .bl _,_,h,_=>by simp[pl] at h
 | .scr _,_,h,_=>by simp[pl] at h
 | .obj _,_,h,_=>by simp[pl] at h
theorem rY:∀(ps qs:List D),plL ps=true->plL qs=true->(PyData.eqvAll (e_ ps) (e_ qs)=true↔ps=qs)
 | [],[],_,_=>by simp[e_,PyData.eqvAll]
 | [],_::_,_,_=>by simp[e_,PyData.eqvAll]
 | _::_,[],_,_=>by simp[e_,PyData.eqvAll]
 | p::ps,q::qs,hp,hq=>by
  rw[plL,Bool.and_eq_true] at hp hq
  rw[e_,e_,PyData.eqvAll,Bool.and_eq_true,vD p q hp.1 hq.1,rY ps qs hp.2 hq.2]
  exact⟨fun h=>by rw[h.1,h.2],fun h=>by injection h with a b;exact⟨a,b⟩⟩
end
theorem qx(neg:Bool){p:D}(h:pl p=true)(hd:dep p<=64):eqD neg p p=some (.bl (!neg)):=by
 unfold eqD
 rw[mZ h hd,(vD p p h h).mpr rfl]
 cases neg<;>rfl
theorem vG(neg:Bool){p q:D}(hp:pl p=true)(hq:pl q=true)(dp:dep p<=64)(dq:dep q<=64)(n:p≠q):eqD neg p q=some (.bl neg):=by
 unfold eqD
 have e:PyData.eqv (toP p) (toP q)=false:=by
  cases z:PyData.eqv (toP p) (toP q) with
  | false=>rfl
  | true=>exact absurd ((vD p q hp hq).mp z) n
 rw[mZ hp dp,mZ hq dq,e]
 cases neg<;>rfl
end DL
namespace KS
open PySem PySem.W PySem.Calls PyProof.Rows
section
variable {prog:Program} {w:World} {A:Around} {E:Value->Shared->Prop} {s:Shared} {a:Addr} {vs:List Value}
theorem Dd(vs:List Value):((List.toArray (List.range vs.length)).toList.map fun i=>vs.getD i Value.none)=vs:=by
 rw[List.toList_toArray]
 apply List.ext_getElem?
 intro i
 rw[List.getElem?_map]
 by_cases hi:i<vs.length
 ·simp[hi]
 ·simp[List.getElem?_eq_none (Nat.le_of_not_lt hi),List.getElem?_eq_none (show(List.range vs.length).length<=i by simp;omega)]
noncomputable def De(prog:Program)(w:World)(A:Around)(vs:List Value)(a:Addr)(s:Shared)(P:Shared->Prop):Prop:=∃(κ:SortKind) (r:Nat->Nat),(2<=vs.length->∀(Q:SortKind->Shared->Prop) (E:Value->Shared->Prop),Q κ s->wpAny (model prog w) A (keyKind' vs.toArray) Q E s) /\
 (2<=vs.length->∀(i j:Nat) (C:Bool->Shared->Prop),i<vs.length->j<vs.length->C (ltR r i j) s->kas_ask prog w A κ vs i j C s) /\
 ∀(p:Array Nat) h' c,p.Perm (List.range vs.length).toArray->Up r p vs.length->Kept s h' [a]->h'.get? a=some (seqObj "list" (List.toArray (p.toList.map fun i=>vs.getD i Value.none)) c)->P { s with heap:=h' }
theorem yS{n:Nat}{P:PySem.Fin->Shared->Prop}(ho:s.heap.get? a=some (seqObj "list" vs.toArray n))(h64:vs.length<64)
  (h:∀e1 h',(∀b o,b≠a->s.heap.get? b=some o->h'.get? b=some o)->h'.get? a=some (seqObj "list" #[] e1)->De prog w A vs a { s with heap:=h' } fun s3=>P (.done (.ret .none)) s3) :
  wpAny (model prog w) A (Builtin.«list.sort» ⟨[.ref a],[]⟩) P E s:=by
 have s1:=Heap.SameBut.update s.heap a (Obj.mapSeq fun _=>(#[]:Array Value))
 obtain⟨e1,ho1⟩:∃e1,(s.heap.update a (Obj.mapSeq fun _=>(#[]:Array Value))).get? a=some (seqObj "list" #[] e1):=⟨_,get?_update_seq ho fun _=>#[]⟩
 obtain⟨κ,r,hkind,hcmp,fin⟩:=h e1 (((s.heap.update a (Obj.mapSeq fun _=>(#[]:Array Value))).push (seqObj "tuple" vs.toArray 0)).push (seqObj "list" #[] 0))
  (fun b o hb q=>Heap.get?_push_of_some _ (Heap.get?_push_of_some _ ((s1.2 b hb).trans q))) (Heap.get?_push_of_some _ (Heap.get?_push_of_some _ ho1))
 have na:(((s.heap.update a (Obj.mapSeq fun _=>(#[]:Array Value))).push (seqObj "tuple" vs.toArray 0)).push (seqObj "list" #[] 0)).get? a=some (seqObj "list" #[] e1):=Heap.get?_push_of_some _ (Heap.get?_push_of_some _ ho1)
 rw[list_sort_plain];refine wpAny_bind (listItems_at ho rfl ?_)
 refine wpAny_bind (listUpdate_at ho rfl ?_ (by rw[List.size_toArray,sizeLine_eq];omega) (Nat.zero_le _));refine wpAny_bind (seqEpoch_at ho1 rfl ?_)
 refine wpAny_bind (wpAny_newTuple ?_ (by show vs.length<=_;rw[sizeLine_eq];omega));refine wpAny_bind (wpAny_newList ?_ (Nat.zero_le _));refine wpAny_holding ?_
 show wpAny (model prog w) A _ P E { s with heap:=((s.heap.update a (Obj.mapSeq fun _=>(#[]:Array Value))).push (seqObj "tuple" vs.toArray 0)).push (seqObj "list" #[] 0) }
 generalize ((s.heap.update a (Obj.mapSeq fun _=>(#[]:Array Value))).push (seqObj "tuple" vs.toArray 0)).push (seqObj "list" #[] 0)=hh at *
 try dsimp only
 by_cases hn:vs.length<2
 ·have hn2:vs.toArray.size<2:=by rw[List.size_toArray];exact hn
  rw[if_pos hn2,if_pos hn2];refine wpAny_bind (wpAny_pure ?_)
  rw[StateT.run_pure];refine wpAny_bind (wpAny_pure ?_)
  try dsimp only
  have s2:=Heap.SameBut.update hh a (Obj.mapSeq fun _=>List.toArray vs)
  obtain⟨c2,hc2⟩:∃c2,(hh.update a (Obj.mapSeq fun _=>List.toArray vs)).get? a=some (seqObj "list" (List.toArray vs) c2):=⟨_,get?_update_seq na fun _=>List.toArray vs⟩
  have hout:∀κ:SortKind,(arrOf (SortSt.mk' κ (vs.toArray.zip vs.toArray) #[] 7 none)).map (·.2)=List.toArray vs:=fun κ=>by
   show((vs.toArray.zip vs.toArray).map (·.2))=List.toArray vs
   apply Array.toList_inj.mp
   rw[Array.toList_map,ksk_zip];exact List.map_snd_zip (Nat.le_refl _)
  have hf:∀κ:SortKind,failedOf (SortSt.mk' κ (vs.toArray.zip vs.toArray) #[] 7 none)=none:=fun _=>rfl
  rw[hout];refine wpAny_bind (seqEpoch_at na rfl ?_)
  refine wpAny_bind (listUpdate_at na rfl ?_ (Nat.zero_le _) (by rw[List.size_toArray,sizeLine_eq];omega))
  simp only[bne_self_eq_false,Bool.false_eq_true,if_false]
  exact wpAny_pure (fin (List.toArray (List.range vs.length)) _ c2 (Array.Perm.refl _) (fun i j x y=>by have:i=j:=(by omega);subst this;exact Nat.le_refl _) (fun b o hb q=>(s2.2 b (by simpa using hb)).trans q) (by rw[Dd];exact hc2))
 ·have h2:2<=vs.length:=by omega
  have hn2:¬vs.toArray.size<2:=by rw[List.size_toArray];omega
  rw[if_neg hn2,if_neg hn2];refine wpAny_bind (hkind h2 _ _ ?_)
  have run:=Aw (s:={ s with heap:=hh }) (Q':=fun p s'=>s'={ s with heap:=hh }/\Pm vs.length p/\Up r p vs.length) (hcmp h2) (fun p hp=>⟨rfl,hp⟩) _ (sort (N:=vs.length) (r:=r) (Q:=fun p=>Pm vs.length p/\Up r p vs.length) h2 fun p h1 h2=>⟨h1,h2⟩)
  refine wpAny_bind (wpAny_mono (kat_run (Q:=fun st' s'=>∃p:Array Nat,arrOf st'=p.map (kas_item (vs.toArray.zip vs.toArray))/\failedOf st'=none/\s'={ s with heap:=hh }/\Pm vs.length p/\Up r p vs.length) rfl h2 h64 (fun p' st' s' a1 a2 a3 a4=>⟨p',a2,a3,a4⟩) run) ?_ fun _ _ e=>e)
  rintro⟨⟨⟩,st'⟩ s' ⟨p,har,hf,rfl,hp,hu⟩
  try dsimp only
  have hout:=kat_snds rfl har
  have hsz:(List.toArray (p.toList.map fun i=>vs.getD i Value.none)).size=vs.length:=by rw[List.size_toArray,List.length_map,Array.length_toList,hp.size]
  rw[hout]
  have s2:=Heap.SameBut.update hh a (Obj.mapSeq fun _=>List.toArray (p.toList.map fun i=>vs.getD i Value.none))
  obtain⟨c2,hc2⟩:∃c2,(hh.update a (Obj.mapSeq fun _=>List.toArray (p.toList.map fun i=>vs.getD i Value.none))).get? a=some (seqObj "list" (List.toArray (p.toList.map fun i=>vs.getD i Value.none)) c2):=⟨_,get?_update_seq na fun _=>_⟩
  refine wpAny_bind (seqEpoch_at na rfl ?_)
  refine wpAny_bind (listUpdate_at na rfl ?_ (Nat.zero_le _) (Nat.le_trans (Nat.le_of_eq hsz) (by rw[sizeLine_eq];omega)))
  rw[hf];simp only[bne_self_eq_false,Bool.false_eq_true,if_false]
  exact wpAny_pure (fin p _ c2 hp.perm hu (fun b o hb q=>(s2.2 b (by simpa using hb)).trans q) hc2)
end
end KS
namespace DL
open PySem PySem.Spec PyProof.Rows L2
noncomputable def leK(a b:List Int×D):Bool:=!HT.lexLt b.1 a.1
noncomputable def srt(nss:List (List Int))(ds:List D):List D:=((nss.zip ds).mergeSort leK).map (·.2)
noncomputable def qy(nss:List (List Int))(ds:List D):Prop:=∀a∈nss.zip ds,∀b∈nss.zip ds,a.1=b.1->a=b
theorem m_(a b c:List Int×D)(h1:leK a b=true)(h2:leK b c=true):leK a c=true:=by
 unfold leK at *
 cases h:HT.lexLt c.1 a.1 with
 | false=>rfl
 | true =>
  rcases mY c.1 b.1 a.1 h with q |q
  ·rw[q] at h2;cases h2
  ·rw[q] at h1;cases h1
theorem nj(a b:List Int×D):(leK a b || leK b a)=true:=by
 unfold leK
 cases h:HT.lexLt b.1 a.1 with
 | false=>rfl
 | true =>
  cases h2:HT.lexLt a.1 b.1 with
  | false=>rfl
  | true =>
   have:=jk a.1 b.1 a.1 h2 h
   rw[gQ] at this
   cases this
theorem rZ{β:Type}(l:List β)(d:β):(List.range l.length).map (fun i=>l.getD i d)=l:=by
 apply List.ext_getElem?
 intro i
 rw[List.getElem?_map]
 by_cases hi:i<l.length
 ·simp[hi]
 ·simp[List.getElem?_eq_none (Nat.le_of_not_lt hi),List.getElem?_eq_none (show(List.range l.length).length<=i by simp;omega)]
theorem yU{nss:List (List Int)}{ds:List D}{p:List Nat}(hl:nss.length=ds.length)(ok:qy nss ds)(hp:p.Perm (List.range ds.length))(hu:∀i j,i<=j->j<p.length->HT.lexLt (nss.getD (p.getD j 0) []) (nss.getD (p.getD i 0) [])=false) :
  p.map (fun i=>ds.getD i .non)=srt nss ds:=by
 have hz:(nss.zip ds).length=ds.length:=by simp[hl]
 have hlt:∀i∈p,i<ds.length:=fun i hi=>by simpa using hp.mem_iff.mp hi
 have eZ:∀i,i<ds.length->(nss.zip ds).getD i ([],.non)=(nss.getD i [],ds.getD i .non):=fun i hi=>by
  have h1:i<nss.length:=by omega
  have h2:i<(nss.zip ds).length:=by omega
  rw[getD_get h1,getD_get hi,getD_get h2,List.getElem_zip]
 have e1:p.map (fun i=>ds.getD i .non)=(p.map fun i=>(nss.zip ds).getD i ([],.non)).map (·.2):=by
  rw[List.map_map]
  apply List.map_congr_left
  intro i hi
  show _=((nss.zip ds).getD i ([],.non)).2
  rw[eZ i (hlt i hi)]
 rw[e1]
 unfold srt
 congr 1
 have pm:(p.map fun i=>(nss.zip ds).getD i ([],.non)).Perm (nss.zip ds):=by
  have:=hp.map fun i=>(nss.zip ds).getD i ([],.non)
  rw[<-hz,rZ] at this
  exact this
 refine List.Perm.eq_of_pairwise (le:=fun a b=>leK a b=true) ?_ ?_ (List.pairwise_mergeSort m_ nj _) (pm.trans (List.mergeSort_perm _ _).symm)
 ·intro a b ha hb h1 h2
  refine ok a (pm.mem_iff.mp ha) b ((List.mergeSort_perm _ _).mem_iff.mp hb) ?_
  unfold leK at h1 h2
  exact pI a.1 b.1 (by simpa using h2) (by simpa using h1)
 ·rw[List.pairwise_iff_getElem]
  intro i j hi hj hij
  rw[List.length_map] at hi hj
  have hu':=hu i j (by omega) hj
  rw[getD_get hi,getD_get hj] at hu'
  rw[List.getElem_map,List.getElem_map,eZ _ (hlt _ (List.getElem_mem hi)),eZ _ (hlt _ (List.getElem_mem hj))]
  unfold leK
  dsimp only
  rw[hu'];rfl
noncomputable def vH(nss:List (List Int))(ds:List D):Option D:=grd (ds.length<64/\nss.length=ds.length/\qy nss ds) (some (.lst (srt nss ds)))
theorem vI{K:PySem.W.Frag}{α:List Addr}{F:Hp}{ds:List D}{vs:List V}(h:IsL K α F ds vs):∀p:List Nat,(∀i∈p,i<ds.length)->IsL K α F (p.map fun i=>ds.getD i .non) (p.map fun i=>vs.getD i .non)
 | [],_=>.nil
 | i::p,hp=>by
  refine .cons ?_ (vI h p fun j hj=>hp j (List.mem_cons_of_mem _ hj))
  have hi:=hp i List.mem_cons_self
  obtain⟨v,e1,e2⟩:=h.get (List.getElem?_eq_getElem hi)
  show Is K α F (ds.getD i .non) (vs.getD i .non)
  rw[getD_get hi,List.getD_eq_getElem?_getD,e1]
  exact e2
section
variable {X:Cx} {C:Cl} {n:Str} {p pos kpos npos:Pos} {a:Expr} {g:Den} {k:Nat}
theorem Df{pins:List (Addr×Obj)}{σ:St}{H:Hp}{s:Shared}{l:Addr}{xs:List V}(I:Inv X pins σ H s)(h:H l=some (.lst xs)):∃vs,Vals xs vs/\∀(A:Around) (E:Value->Shared->Prop) (Q':List Value->Shared->Prop),(∀h1,KS.Kept s h1 []->Q' vs { s with heap:=h1 })->wpAny (model X.prog X.w) A (collect (.ref l)) Q' E s:=by
 obtain⟨its,r,⟨o,m,e1,e2,_,e3⟩,hz⟩:=I.list (SqL.of h)
 refine⟨its,r,fun A E Q' hq=>wpAny_collect_seq l (.inl rfl) e1 e2 e3 (fun h' kp=>?_) ?_⟩
 ·have:=hq h' fun b o _ q=>kp b o q
  simpa using this
 ·rw[List.size_toArray,<-r.length];exact hz
noncomputable def qz:List D->Option (List Int)
 | []=>some []
 | .int i::r=>match qz r with
  | some ns=>some (i::ns)
  | none=>none
 | _=>none
noncomputable def jt:D->Option (List Int)
 | .tup ds=>match qz ds with
  | some (n::ns)=>some (n::ns)
  | _=>none
 | _=>none
noncomputable def cB(F:bf):List D->List OS->Option (List (List Int)×List OS)
 | [],Ω=>some ([],Ω)
 | d::ds,Ω=>match F [d] Ω with
  | some (k,Ω1)=>match jt k with
   | some ns=>match cB F ds Ω1 with
    | some (nss,Ω2)=>some (ns::nss,Ω2)
    | none=>none
   | none=>none
  | none=>none
theorem tR:∀{ds:List D} {ns:List Int},qz ds=some ns->ds=ns.map D.int
 | [],ns,h=>by cases h;rfl
 | .int i::r,ns,h=>by
  unfold qz at h
  cases q:qz r with
  | none=>rw[q] at h;cases h
  | some ms=>rw[q] at h;cases h;rw[tR q];rfl
 | .non::_,_,h=>nomatch h
 | .bl _::_,_,h=>nomatch h
 | .str _::_,_,h=>nomatch h
 | .tup _::_,_,h=>nomatch h
 | .lst _::_,_,h=>nomatch h
 | .scr _::_,_,h=>nomatch h
 | .obj _::_,_,h=>nomatch h
theorem sr{d:D}{ns:List Int}(h:jt d=some ns):d=.tup (ns.map D.int)/\ns≠[]:=by
 unfold jt at h
 split at h
 ·split at h
  ·rename_i e
   cases h
   exact⟨by rw[tR e],by simp⟩
  ·cases h
 ·cases h
theorem pJ{K:PySem.W.Frag}{α:List Addr}{F:Hp}:∀{ns:List Int} {vs:List V},IsL K α F (ns.map D.int) vs->vs=ns.map V.int
 | [],_,h=>h.of_nil
 | n::ns,_,h=>by
  obtain⟨v,r,rfl,h1,t⟩:=h.of_cons
  rw[Is] at h1
  rw[pJ t,h1];rfl
theorem tU{F:bf}:∀{ds:List D} {Ω Ω':List OS} {nss:List (List Int)} {i:Nat},cB F ds Ω=some (nss,Ω')->i<=ds.length->∃ms Ωi,cB F (ds.take i) Ω=some (ms,Ωi)/\ms=nss.take i/\cB F (ds.drop i) Ωi=some (nss.drop i,Ω')
 | ds,Ω,Ω',nss,0,h,_=>⟨[],Ω,rfl,rfl,h⟩
 | [],Ω,Ω',nss,i+1,h,hi=>by simp at hi
 | d::ds,Ω,Ω',nss,i+1,h,hi=>by
  unfold cB at h
  cases q1:F [d] Ω with
  | none=>rw[q1] at h;cases h
  | some p1 =>
   obtain⟨kd,Ω1⟩:=p1
   rw[q1] at h
   dsimp only at h
   cases q2:jt kd with
   | none=>rw[q2] at h;cases h
   | some ns =>
    rw[q2] at h
    dsimp only at h
    cases q3:cB F ds Ω1 with
    | none=>rw[q3] at h;cases h
    | some p3 =>
     obtain⟨ms,Ω2⟩:=p3
     rw[q3] at h
     cases h
     obtain⟨ms',Ωi,h1,h2,h3⟩:=tU (i:=i) q3 (by simpa using hi)
     refine⟨ns::ms',Ωi,?_,by rw[h2];rfl,h3⟩
     show cB F (d::ds.take i) Ω=_
     unfold cB
     rw[q1]
     dsimp only
     rw[q2]
     dsimp only
     rw[h1]
theorem tV{F:bf}:∀{ds:List D} {Ω Ω':List OS} {nss:List (List Int)},cB F ds Ω=some (nss,Ω')->nss.length=ds.length
 | [],_,_,_,h=>by cases h;rfl
 | d::ds,Ω,Ω',nss,h=>by
  unfold cB at h
  cases q1:F [d] Ω with
  | none=>rw[q1] at h;cases h
  | some p1 =>
   obtain⟨kd,Ω1⟩:=p1
   rw[q1] at h
   dsimp only at h
   cases q2:jt kd with
   | none=>rw[q2] at h;cases h
   | some ns =>
    rw[q2] at h
    dsimp only at h
    cases q3:cB F ds Ω1 with
    | none=>rw[q3] at h;cases h
    | some p3 =>
     obtain⟨ms,Ω2⟩:=p3
     rw[q3] at h
     cases h
     simp[tV q3]
theorem xV{K:PySem.W.Frag}{α:List Addr}{F H:Hp}(ff:bB F H):∀{nss:List (List Int)} {vs:List V},(∀ns∈nss,ns≠[])->IsL K α F (nss.map fun ns=>D.tup (ns.map D.int)) vs->KeysAre H vs nss
 | [],vs,_,h=>by rw[h.of_nil];exact .nil
 | ns::nss,vs,hn,h=>by
  obtain⟨v,r,rfl,h1,t⟩:=h.of_cons
  refine .cons ?_ (xV ff (fun m hm=>hn m (List.mem_cons_of_mem _ hm)) t)
  rw[Is] at h1
  obtain⟨b,us,rfl,hb,ib⟩:=h1
  rw[pJ ib] at hb
  exact⟨b,rfl,ff _ _ hb,hn ns List.mem_cons_self⟩
theorem vJ{F:bf}:∀{ds:List D} {Ω Ω':List OS} {nss:List (List Int)},cB F ds Ω=some (nss,Ω')->∀ns∈nss,ns≠[]
 | [],_,_,_,h,ns,hn=>by cases h;cases hn
 | d::ds,Ω,Ω',nss,h,ns,hn=>by
  unfold cB at h
  cases q1:F [d] Ω with
  | none=>rw[q1] at h;cases h
  | some p1 =>
   obtain⟨kd,Ω1⟩:=p1
   rw[q1] at h
   dsimp only at h
   cases q2:jt kd with
   | none=>rw[q2] at h;cases h
   | some ms =>
    rw[q2] at h
    dsimp only at h
    cases q3:cB F ds Ω1 with
    | none=>rw[q3] at h;cases h
    | some p3 =>
     obtain⟨mss,Ω2⟩:=p3
     rw[q3] at h
     cases h
     rcases List.mem_cons.mp hn with rfl |hn
     ·exact(sr q2).2
     ·exact vJ q3 ns hn
theorem qC{F:bf}:∀{ds:List D} {d:D} {Ω Ωi Ωj Ωk:List OS} {ms ms':List (List Int)} {kd:D},cB F ds Ω=some (ms,Ωi)->F [d] Ωi=some (kd,Ωj)->cB F (ds++[d]) Ω=some (ms',Ωk)->Ωj=Ωk
 | [],d,Ω,Ωi,Ωj,Ωk,ms,ms',kd,h1,h2,h3=>by
  cases h1
  rw[List.nil_append] at h3
  unfold cB at h3
  rw[h2] at h3
  dsimp only at h3
  cases q:jt kd with
  | none=>rw[q] at h3;cases h3
  | some ns=>rw[q] at h3;cases h3;rfl
 | c::ds,d,Ω,Ωi,Ωj,Ωk,ms,ms',kd,h1,h2,h3=>by
  rw[List.cons_append] at h3
  unfold cB at h1 h3
  cases q1:F [c] Ω with
  | none=>rw[q1] at h1;cases h1
  | some p1 =>
   obtain⟨cd,Ω1⟩:=p1
   rw[q1] at h1 h3
   dsimp only at h1 h3
   cases q2:jt cd with
   | none=>rw[q2] at h1;cases h1
   | some ns =>
    rw[q2] at h1 h3
    dsimp only at h1 h3
    cases q3:cB F ds Ω1 with
    | none=>rw[q3] at h1;cases h1
    | some p3 =>
     obtain⟨mss,Ω2⟩:=p3
     rw[q3] at h1
     cases h1
     cases q4:cB F (ds++[d]) Ω1 with
     | none=>rw[q4] at h3;cases h3
     | some p4 =>
      obtain⟨nss,Ω3⟩:=p4
      rw[q4] at h3
      cases h3
      exact qC q3 h2 q4
end
end DL
namespace DL
open PySem PySem.Spec PyProof.Rows L2
noncomputable def tDL(K:PySem.W.Frag)(C:Cl)(g:bz):TE:=fun σ H Q=>∃e Ω ρ ds Ω',e.H=H/\Wf K C e Ω/\RelE K e σ ρ/\g ρ Ω=some (ds,Ω') /\
 ∀a vs e',Ext e e'->Wf K C e' Ω'->(∀e'' Ω'',Ext e' e''->Wf K C e'' Ω''->e''.H a=some (.lst vs))->IsL K e'.α e'.F ds vs->Q (.ref a) e'.H
noncomputable def PDL(X:Cx)(C:Cl)(x:Expr)(g:bz):Prop:=PE X x (tDL X.K C g)
noncomputable def gO(i:Nat):bz:=fun ρ Ω=>match ρ[i]? with
 | some (.own ds)=>some (ds,Ω)
 | _=>none
noncomputable def qD(gl:bz):Den:=fun ρ Ω=>match gl ρ Ω with
 | some (ds,Ω1)=>some (.int ds.length,Ω1)
 | none=>none
noncomputable def mq:List D->Option (List (List Int))
 | []=>some []
 | d::ds=>match jt d with
  | some ns=>match mq ds with
   | some nss=>some (ns::nss)
   | none=>none
  | none=>none
theorem tW{K:PySem.W.Frag}{α:List Addr}{F H:Hp}(ff:bB F H):∀{ds:List D} {nss:List (List Int)} {vs:List V},mq ds=some nss->IsL K α F ds vs->KeysAre H vs nss
 | [],nss,vs,h,i=>by cases h;rw[i.of_nil];exact .nil
 | d::ds,nss,vs,h,i=>by
  obtain⟨v,r,rfl,i1,t⟩:=i.of_cons
  unfold mq at h
  cases q1:jt d with
  | none=>rw[q1] at h;cases h
  | some ns =>
   rw[q1] at h
   dsimp only at h
   cases q2:mq ds with
   | none=>rw[q2] at h;cases h
   | some mss =>
    rw[q2] at h
    cases h
    refine .cons ?_ (tW ff q2 t)
    obtain⟨rfl,ne⟩:=sr q1
    rw[Is] at i1
    obtain⟨b,us,rfl,hb,ib⟩:=i1
    rw[pJ ib] at hb
    exact⟨b,rfl,ff _ _ hb,ne⟩
section
variable {X:Cx} {C:Cl} {x a b:Expr} {f g:Den} {gl:bz} {n:Str} {p pos:Pos}
theorem Gz{i:Nat}(hv:PE X (.Name n p) (rm i)):PDL X C (.Name n p) (gO i):=bT hv fun σ H Q hw'=>by
 obtain⟨e,Ω,ρ,ds,Ω',eH,w,rl,q,kk⟩:=hw'
 unfold gO at q
 split at q
 ·rename_i h
  cases q
  obtain⟨a,vs,e1,e2,il,n1,n2⟩:=rl.own _ _ h
  exact⟨.ref a,e1,by rw[<-eH];exact kk a vs e (Ext.refl e) w (fun e'' _ x' _=>x'.hk a _ e2 n2) il⟩
 ·cases q
theorem Jr(hg:Gl X n)(hm:X.mg n=none)(hv:bootBuiltins n=some (.builtin "len"))(ho:PDL X C a gl)(hn:n ≠ "__name__":=by decide)(hdb:(n==("__debug__":Str))=false:=by decide)
  (he:starEach [a] X.env=(false,eval a X.env)::starEach [] X.env:=by rfl) (hpl:(backTo pos (starEach [] X.env)).any (·.1)=false:=by rfl):PD X C (.Call (.Name n p) [a] [] pos) (qD gl) :=
 bT (pB BX hg hm hv (i_ ho jH he) hn hdb he hpl) fun σ H Q hw'=>by
  obtain⟨e,Ω,ρ,d,Ω',eH,w,rl,q,kk⟩:=hw'
  unfold qD at q
  cases q1:gl ρ Ω with
  | none=>rw[q1] at q;cases q
  | some p1 =>
   obtain⟨ds,Ω1⟩:=p1
   rw[q1] at q
   cases q
   refine⟨e,Ω,ρ,ds,_,eH,w,rl,q1,fun l vs e1 x1 w1 st il=>⟨.ref l,vs.length,rfl,.inl ⟨vs,SqL.of (st e1 _ (Ext.refl e1) w1),rfl⟩,?_⟩⟩
   exact kk _ e1 x1 w1 (by rw[Is,il.length])
end
end DL
namespace DL
open PySem PySem.Spec PyProof.Rows L2
@[elab_as_elim] theorem len0{p:List Value->Prop}(us:List Value)(hl:us.length=0)(h:p []):p us:=by
 cases us with
 | nil=>exact h
 | cons a us=>cases hl
@[elab_as_elim] theorem su{p:List Value->Prop}(us:List Value)(hl:us.length=1)(h:∀a,p [a]):p us:=by
 cases us with
 | nil=>cases hl
 | cons a us=>exact len0 (p:=fun us=>p (a::us)) us (Nat.succ.inj hl) (h a)
@[elab_as_elim] theorem ju{p:List Value->Prop}(us:List Value)(hl:us.length=2)(h:∀a b,p [a,b]):p us:=by
 cases us with
 | nil=>cases hl
 | cons a us=>exact su (p:=fun us=>p (a::us)) us (Nat.succ.inj hl) (fun b=>h a b)
@[elab_as_elim] theorem pL{p:List Value->Prop}(us:List Value)(hl:us.length=3)(h:∀a b c,p [a,b,c]):p us:=by
 cases us with
 | nil=>cases hl
 | cons a us=>exact ju (p:=fun us=>p (a::us)) us (Nat.succ.inj hl) (fun b c=>h a b c)
@[elab_as_elim] theorem Js{p:List Value->Prop}(us:List Value)(hl:us.length=4)(h:∀a b c d,p [a,b,c,d]):p us:=by
 cases us with
 | nil=>cases hl
 | cons a us=>exact pL (p:=fun us=>p (a::us)) us (Nat.succ.inj hl) (fun b c d=>h a b c d)
@[elab_as_elim] theorem LK{p:List Value->Prop}(us:List Value)(hl:us.length=5)(h:∀a b c d e,p [a,b,c,d,e]):p us:=by
 cases us with
 | nil=>cases hl
 | cons a us=>exact Js (p:=fun us=>p (a::us)) us (Nat.succ.inj hl) (fun b c d e=>h a b c d e)
end DL
namespace L2
open PySem PySem.Spec PyProof.Rows
section
variable {X:Cx} {pins:List (Addr×Obj)} {σ:St} {H:Hp} {s:Shared} {a:Addr}
theorem Inv.freeze{kvs:List (Key×V)}{o:Obj}(I:Inv X pins σ H s)(e:H a=some (.dK kvs))(ho:s.heap.get? a=some o):Inv X pins σ (upd H a (.frz o (.dK kvs))) s:=by
 have neA:∀b u,H b=some u->(∀k,u ≠ .dK k)->b≠a:=fun b u h n z=>by rw[z,e] at h;cases h;exact n _ rfl
 refine I.write (x:=a) (e:=a) (o:=.frz o (.dK kvs)) (t':=s.toks) (h':=s.heap) (by rw[e];trivial) (.inl rfl) (fun b u _ q=>q) ⟨o,ho⟩ ⟨ho,?_⟩
 exact(I.hok a _ e).stay (fun _ _ _ q=>q) (fun b q=>by rw[aB (neA b _ q fun k z=>nomatch z)];exact q) fun b xs q=>by rw[aB (neA b _ q fun k z=>nomatch z)];exact q
theorem Inv.thaw{o:Obj}{u:HO}(I:Inv X pins σ H s)(e:H a=some (.frz o u))(h0:∀o u,X.H₀ a≠some (.frz o u))(hu:∀b,u ≠ .own b):Inv X pins σ (upd H a u) s:=by
 have nn:∀b,H b=none->b≠a:=fun b q z=>by rw[z,e] at q;cases q
 have neA:∀b v,H b=some v->(∀o u,v ≠ .frz o u)->b≠a:=fun b v h n z=>by rw[z,e] at h;cases h;exact n _ _ rfl
 refine⟨I.ok,I.os,I.bare,⟨I.base.keep,I.base.slot,fun b ob h1 h2 h3=>?_,I.base.there,fun b xs h=>?_,fun b ob v h=>?_,fun b ps h=>?_⟩,I.loc,I.cell,?_,fun x c h=>?_,fun p hp=>?_,fun b v h=>?_,I.len⟩
 ·have q:=I.base.free b ob h1 h2 h3
  rw[aB (nn b q)];exact q
 ·have q:=I.base.tups b xs h
  rw[aB (neA b _ q fun _ _ z=>nomatch z)];exact q
 ·have q:=I.base.frzs b ob v h
  rw[aB (fun z=>by rw[z] at h;exact h0 _ _ h)];exact q
 ·obtain⟨more,q⟩:=I.base.tbls b ps h
  exact⟨more,by rw[aB (neA b _ q fun _ _ z=>nomatch z)];exact q⟩
 ·rw[aB (nn _ I.free)];exact I.free
 ·rcases I.freeC x c h with fc |⟨q1,o1,b1,fc⟩
  ·exact .inl (by rw[aB (nn _ fc)];exact fc)
  ·exact .inr ⟨q1,o1,b1,by rw[aB (fun z=>by rw[z,e] at fc;cases fc;exact hu _ rfl)];exact fc⟩
 ·obtain⟨p1,p2,p3⟩:=I.pin p hp
  exact⟨p1,by rw[aB (nn _ p2)];exact p2,p3⟩
 ·have ow:∀c d,H c=some (.own d)->upd H a u c=some (.own d):=fun c d q=>by rw[aB (neA c _ q fun _ _ z=>nomatch z)];exact q
  have tp:∀c xs,H c=some (.tup xs)->upd H a u c=some (.tup xs):=fun c xs q=>by rw[aB (neA c _ q fun _ _ z=>nomatch z)];exact q
  by_cases z:b=a
  ·subst z
   rw[aK] at h
   cases h
   exact(show b_ X.prog X.w H s.heap b (.frz o u) from I.hok b _ e).2.stay (fun _ _ _ q=>q) (fun c q=>ow c b q) fun c xs q=>tp c xs q
  ·rw[aB z] at h
   exact(I.hok b v h).stay (fun _ _ _ q=>q) (fun c q=>ow c b q) fun c xs q=>tp c xs q
end
noncomputable def Ends.thaw(D:Ends)(a:Addr):Ends :=
 { nx:=fun σ H=>∃o u,H a=some (.frz o u)/\(∀b,u ≠ .own b)/\D.nx σ (upd H a u),rt:=fun v H=>∃o u,H a=some (.frz o u)/\(∀b,u ≠ .own b)/\D.rt v (upd H a u),bk:=fun σ H=>∃o u,H a=some (.frz o u)/\(∀b,u ≠ .own b)/\D.bk σ (upd H a u),ct:=fun σ H=>∃o u,H a=some (.frz o u)/\(∀b,u ≠ .own b)/\D.ct σ (upd H a u) }
theorem GC{X:Cx}{st:Stmt}{t:TS}(h:PS X st t):PS X st (fun D σ H=>∃a,(∀o u,H a≠some (.frz o u))/\t (D.thaw a) σ H):=by
 rintro pins s σ H D I ⟨a,hn,q⟩
 have h0:∀o u,X.H₀ a≠some (.frz o u):=fun o u z=>hn o u (I.base.frzs a o u z)
 refine wpAny_mono (h pins s σ H _ I q) (fun fl s1 r=>?_) fun _ _ z=>z
 cases fl with
 | next=>obtain⟨σ',H',I',o,u,e,hu,d⟩:=r;exact⟨σ',_,I'.thaw e h0 hu,d⟩
 | brk=>obtain⟨σ',H',I',o,u,e,hu,d⟩:=r;exact⟨σ',_,I'.thaw e h0 hu,d⟩
 | cont=>obtain⟨σ',H',I',o,u,e,hu,d⟩:=r;exact⟨σ',_,I'.thaw e h0 hu,d⟩
 | ret v=>obtain⟨v',σ',H',I',rv,o,u,e,hu,d⟩:=r;exact⟨v',σ',_,I'.thaw e h0 hu,rv,d⟩
theorem Az{P:Program}{w:World}{es:List DictEntry}{vs:List (Key×Value)}(h:Pairs (cD P w) es vs):∀(i:Nat) (e:DictEntry),es[i]? = some e->∃k,(vs[i]?).map (·.1)=some k/\RelV (kV k) e.key:=by
 induction h with
 | nil=>intro i e q;simp at q
 | cons h1 h2 _ ih =>
  intro i e q
  cases i with
  | zero =>
   simp at q
   subst q
   rename_i e kv _ _ _
   refine⟨kv.1,rfl,?_⟩
   rcases cU h1 with⟨j,t,e1,e2⟩ |⟨x,t,e1,e2⟩
   ·rw[e1];exact⟨t,e2⟩
   ·rw[e1];exact⟨t,e2⟩
  | succ i=>simpa using ih i e (by simpa using q)
noncomputable def Itk(a:Addr)(o:Obj)(kvs:List (Key×V)):It :=
 ⟨fun i H=>H a=some (.frz o (.dK kvs))/\i<kvs.length,fun i H x H'=>H'=H/\∃k,(kvs[i]?).map (·.1)=some k/\x=kV k,fun i H=>H a=some (.frz o (.dK kvs))/\i=kvs.length⟩
theorem A_{P:Program}{w:World}{K:PySem.W.Frag}{tg:Expr}(a it:Addr){o:Obj}{es:Array DictEntry}{ep:Nat}{kvs:List (Key×V)}(hx:o.ExactDict)(hd:o.data=.dict es ep)(hlen:es.size=kvs.length)
  (hkey:∀(i:Nat) (e:DictEntry),es[i]? = some e->∃k,(kvs[i]?).map (·.1)=some k/\RelV (kV k) e.key) (hne:a≠it) :
  Turn P w K tg (Itk a o kvs) [it] it (fun i h=>h.IsKeyIter it a i es.size ep) where
 mem:=by simp
 obj:=fun i h st b hb=>by
  have e:b=it:=by simpa using hb
  subst e
  obtain⟨ob,h1,h2,h3⟩:=st
  exact⟨ob,h1,fun v z=>by rw[h3] at z;cases z⟩
 keep:=fun i h h' st k=>by
  obtain⟨ob,h1,h2⟩:=st
  exact⟨ob,k it (by simp) _ h1,h2⟩
 item:=by
  intro X hP hw hK hc i pins s σ H E I hf st hg
  subst hP hw hK
  obtain⟨hg,hi⟩:=hg
  obtain⟨f0,f1,f2,f3,f4,f5⟩:=hf it (by simp)
  have ho:s.heap.get? a=some o:=(show b_ X.prog X.w H s.heap a (.frz o (.dK kvs)) from I.hok a _ hg).1
  have hl:i<es.size:=by rw[hlen];exact hi
  refine DR.vA st ⟨o,ho,hx,hd⟩ hl fun h' st' sb=>?_
  obtain⟨k,hk,rk⟩:=hkey i es[i] (Array.getElem?_eq_getElem hl)
  have J1:Inv X pins σ H { s with heap:=h' }:=I.turned (t':=s.toks) (fun b ob hb e=>(sb.2 b hb).trans e) f0 f1 f3 f4 f5
  obtain⟨ob,g1,g2,g3⟩:=id st'
  exact⟨_,rfl,uB (s:={ s with heap:=h' }) (n:="dict_keyiterator") g1 g2 g3 (by decide) ⟨kV k,H,J1,rk,⟨rfl,k,hk,rfl⟩,st',fun b hb=>(hf b hb).1⟩⟩
 done:=by
  intro X hP hw hK hc i pins s σ H E I hf st hg
  subst hP hw hK
  obtain⟨hg,hi⟩:=hg
  obtain⟨f0,f1,f2,f3,f4,f5⟩:=hf it (by simp)
  have ho:s.heap.get? a=some o:=(show b_ X.prog X.w H s.heap a (.frz o (.dK kvs)) from I.hok a _ hg).1
  exact DR.xQ (I.ok.hd hc) st ⟨o,ho,hx,hd⟩ (by rw[hlen,hi];exact Nat.le_refl _) fun h' eb=>⟨rfl,I.turned (t':=s.toks) (fun b ob hb e=>eb b ob hb e) f0 f1 f3 f4 f5⟩
 self:=fun A i s Q E st h=>by
  obtain⟨ob,h1,h2,h3⟩:=id st
  exact wpAny_pyIter_keyiter st h
noncomputable def iFd(tl:TE):TI:=fun σ H R=>tl σ H fun x H1=>∃a kvs,x=.ref a/\H1 a=some (.dK kvs)/\∀o,R (Itk a o kvs) (upd H1 a (.frz o (.dK kvs)))
theorem Ks{X:Cx}{tg l:Expr}{tl:TE}(hl:PE X l tl):PI X tg l (iFd tl):=by
 intro pins s σ H R I h
 refine thn (hl pins s σ H _ I h) fun v s1 hw'=>?_
 obtain⟨x,H1,I1,r1,q1⟩:=hw'
 obtain⟨a,kvs,e,ha,q⟩:=q1
 subst e
 cases r1
 obtain⟨hz,hm,vs,rel,o,es,ep,ho,hx,hd,_,hp,_⟩:=uC I1.hok ha
 have hlen:es.size=kvs.length:=by
  have:=hp.length
  rw[rel.length,<-this]
  simp
 have hkey:∀(i:Nat) (e:DictEntry),es[i]? = some e->∃k,(kvs[i]?).map (·.1)=some k/\RelV (kV k) e.key:=fun i e hi=>by
  obtain⟨k,hk,rk⟩:=Az hp i e (by simpa using hi)
  refine⟨k,?_,rk⟩
  have q2:(kvs.map (·.1))[i]? = (vs.map (·.1))[i]?:=by rw[rel.keys]
  rw[List.getElem?_map,List.getElem?_map,hk] at q2
  exact q2
 have lt:a<s1.heap.objs.size:=Heap.lt_size ho
 have I2:=I1.freeze ha ho
 refine DR.vz hm ⟨o,ho,hx,hd⟩ ⟨s1.heap.objs.size,[s1.heap.objs.size],_,_,_,rfl,I2.kept (t':=s1.toks) fun b ob e=>Heap.get?_push_of_some _ e,A_ a _ hx hd hlen hkey (Nat.ne_of_lt lt),⟨_,Heap.get?_push_size _ rfl,rfl,rfl⟩,fun b hb=>?_,q o⟩
 have e:b=s1.heap.objs.size:=by simpa using hb
 subst e
 exact I2.fpOk (Nat.le_refl _) (I2.hok.fresh (Nat.le_refl _))
end L2
namespace DL
open PySem PySem.Spec PyProof.Rows L2
noncomputable def my(n:Nat)(kvs:List (Key×D))(Ω:List OS):Option (List OS):=match Ω[n]? with
 | some (.fzK kvs')=>if kvs'.map (·.1)=kvs.map (·.1) then some (Ω.set n (.dK kvs')) else none
 | _=>none
noncomputable def yV(n:Nat)(kvs:List (Key×D)):Option Out->Option Out
 | some (.nx ρ Ω)=>(match my n kvs Ω with |some Ω'=>some (.nx ρ Ω') |none=>none)
 | some (.rt d Ω)=>(match my n kvs Ω with |some Ω'=>some (.rt d Ω') |none=>none)
 | _=>none
noncomputable def qF(g:Den)(β:cP)(s:aO):aO:=fun ρ Ω=>match g ρ Ω with
 | some (.obj n,Ω1)=>(match Ω[n]?,Ω1[n]? with
  | some (.dK _),some (.dK kvs)=>yV n kvs (cV β s (kvs.map fun x=>ofK x.1) ρ (Ω1.set n (.fzK kvs)))
  | _,_=>none)
 | _=>none
theorem xW{K:PySem.W.Frag}{C:Cl}{e₀ e:E4}{Ω Ω':List OS}{n:Nat}{a:Addr}{o:Obj}{kvs:List (Key×D)}{vs:List (Key×V)}(w:Wf K C e Ω)(hα:e.α[n]? = some a)(ha:e.H a=some (.frz o (.dK vs)))(h:my n kvs Ω=some Ω') :
  Wf K C (e.at a (.dK vs)) Ω':=by
 unfold my at h
 cases q:Ω[n]? with
 | none=>rw[q] at h;cases h
 | some os =>
  rw[q] at h
  cases os with
  | fzK kvs' =>
   dsimp only at h
   split at h
   ·cases h
    obtain⟨vs',o',h1,h2⟩:=(w.ob n a _ hα q).2
    rw[ha] at h1
    cases h1
    exact w.atW hα (fun xs z=>nomatch z) ⟨vs,aK,h2⟩
   ·cases h
  | _=>cases h
theorem pM{e₀ e:E4}{a:Addr}{o:Obj}{u:HO}(x:Ext e₀ e)(ha:e.H a=some (.frz o u))(h0:∀o u,e₀.H a≠some (.frz o u)):Ext e₀ (e.at a u):=by
 refine⟨fun b o' u' h=>?_,fun b v h hn=>?_,fun b v h=>?_,x.ff,x.fn,x.an,x.aa,x.al⟩
 ·show upd e.H a u b=some (.frz o' u')
  rw[aB (fun z=>h0 o' u' (by rw[<-z];exact h))];exact x.fz b o' u' h
 ·show upd e.H a u b=some v
  have q:=x.hk b v h hn
  rw[aB (fun z=>by rw[z] at q h;rw[ha] at q;cases q;exact h0 _ _ h)];exact q
 ·by_cases z:b=a
  ·subst z;exact⟨u,aK⟩
  ·obtain⟨v',q⟩:=x.dm b v h
   exact⟨v',by show upd e.H a u b=some v';rw[aB z];exact q⟩
theorem Dg{K:PySem.W.Frag}{e:E4}{a:Addr}{o:Obj}{u:HO}{σ:St}{ρ:List Sl}(r:RelE K e σ ρ)(ha:e.H a=some (.frz o u)):RelE K (e.at a u) σ ρ:=by
 refine⟨r.len,r.dat,fun i ds h=>?_,r.sep⟩
 obtain⟨b,vs,e1,e2,q,n1,n2⟩:=r.own i ds h
 refine⟨b,vs,e1,?_,q,n1,n2⟩
 show upd e.H a u b=some (.lst vs)
 rw[aB (fun z=>by rw[z,ha] at e2;cases e2)];exact e2
section
variable {X:Cx} {C:Cl} {tg iter:Expr} {g:Den} {β:cP} {s:aO} {body:List Stmt} {pos:Pos}
theorem Dh(hp:PassesOwn (model X.prog X.w) X.A X.env X.xe)(hc:X.calm=true)(hi:PD X C iter g)(hg:PDG X C tg β)(hb:PDB X C body s)
  (hs:∀x,foldedSetIterable iter X.env x=pure x:=by intro _;rfl):PDS X C (.For tg iter body [] pos) (qF g β s):=by
 refine fun e₀=>dG (GC (zK hp hc (Ks hi) hg (vf hb) hs)) fun Dn σ H hw'=>?_
 obtain⟨e,Ω,ρ,o,eH,r,q,k⟩:=hw'
 unfold qF at q
 cases q1:g ρ Ω with
 | none=>rw[q1] at q;cases q
 | some p1 =>
  obtain⟨d1,Ω1⟩:=p1
  rw[q1] at q
  cases d1 with
  | obj n =>
   dsimp only at q
   cases q2:Ω[n]? with
   | none=>rw[q2] at q;cases q
   | some o2 =>
    rw[q2] at q
    cases o2 with
    | dK kvs0 =>
     cases q3:Ω1[n]? with
     | none=>rw[q3] at q;cases q
     | some o3 =>
      rw[q3] at q
      cases o3 with
      | dK kvs =>
       dsimp only at q
       have hn:n<e.α.length:=by rw[r.wf.ol];exact(List.getElem?_eq_some_iff.mp q2).1
       have hα:e.α[n]? = some e.α[n]:=List.getElem?_eq_getElem hn
       generalize e.α[n]=a at hα
       obtain⟨vs0,ha0,_⟩:=(r.wf.ob n a _ hα q2).2
       have nz:∀o u,e.H a≠some (.frz o u):=fun o u z=>by rw[ha0] at z;cases z
       have nz0:∀o u,e₀.H a≠some (.frz o u):=fun o u z=>nz o u (r.ext.fz a o u z)
       refine⟨a,by rw[<-eH];exact nz,e,Ω,ρ,.obj n,Ω1,eH,r.wf,r.rel,q1,fun v e' x' w' i'=>?_⟩
       rw[Is] at i'
       obtain⟨a',hα',rfl⟩:=i'
       have ea:a'=a:=by
        obtain⟨more,z⟩:=x'.al
        rw[z,List.getElem?_append_left hn,hα] at hα'
        exact(Option.some.inj hα').symm
       subst ea
       obtain⟨vs,ha,hps⟩:=(w'.ob n a' _ hα' q3).2
       refine⟨a',vs,rfl,ha,fun ob=>?_⟩
       have nz':∀o u,e'.H a'≠some (.frz o u):=fun o u z=>by rw[ha] at z;cases z
       obtain⟨wf,xf⟩:=w'.at (o':=.fzK kvs) (ho:=.frz ob (.dK vs)) hα' (fun xs z=>nomatch z) ⟨vs,ob,aK,hps⟩ nz'
       have rf:=r.to (x'.trans xf) wf
       have hkeys:vs.map (·.1)=kvs.map (·.1):=hps.keys.symm
       have hlen:vs.length=kvs.length:=hps.len.symm
       cases q4:cV β s (kvs.map fun x=>ofK x.1) ρ (Ω1.set n (.fzK kvs)) with
       | none=>rw[q4] at q;cases q
       | some o4 =>
        rw[q4] at q
        have fin_nx:∀{e5:E4} {Ω5:List OS} {σ5:St} {ρ5:List Sl},o4=.nx ρ5 Ω5->RelS X.K C e₀ e5 Ω5 σ5 ρ5->e5.α[n]? = some a'->e5.H a'=some (.frz ob (.dK vs))->(Dn.thaw a').nx σ5 e5.H:=fun {e5 Ω5 σ5 ρ5} eo r5 h1 h2=>by
         subst eo
         unfold yV at q
         dsimp only at q
         cases q5:my n kvs Ω5 with
         | none=>rw[q5] at q;cases q
         | some Ω' =>
          rw[q5] at q
          cases q
          exact⟨ob,.dK vs,h2,(fun b z=>nomatch z),k (e5.at a' (.dK vs)) σ5 ⟨xW (e₀:=e₀) r5.wf h1 h2 q5,Dg r5.rel h2,pM r5.ext h2 nz0,r5.fresh⟩⟩
        have fin_rt:∀{e5:E4} {Ω5:List OS} {v5:V} {d5:D},o4=.rt d5 Ω5->Ext e₀ e5->Wf X.K C e5 Ω5->Is X.K e5.α e5.F d5 v5->e5.α[n]? = some a'->e5.H a'=some (.frz ob (.dK vs))->(Dn.thaw a').rt v5 e5.H:=fun {e5 Ω5 v5 d5} eo x5 w5 i5 h1 h2=>by
         subst eo
         unfold yV at q
         dsimp only at q
         cases q5:my n kvs Ω5 with
         | none=>rw[q5] at q;cases q
         | some Ω' =>
          rw[q5] at q
          cases q
          exact⟨ob,.dK vs,h2,(fun b z=>nomatch z),k (e5.at a' (.dK vs)) v5 (pM x5 h2 nz0) (xW (e₀:=e₀) w5 h1 h2 q5) i5⟩
        refine⟨fun i m σ H=>m=(kvs.map fun x=>ofK x.1).length-i/\i<=(kvs.map fun x=>ofK x.1).length/\∃e2 Ω2 ρ2,e2.H=H/\RelS X.K C e₀ e2 Ω2 σ ρ2/\e2.α[n]? = some a'/\e2.H a'=some (.frz ob (.dK vs))/\cV β s ((kvs.map fun x=>ofK x.1).drop i) ρ2 Ω2=some o4,
         ⟨(kvs.map fun x=>ofK x.1).length,by simp,Nat.zero_le _,e'.at a' (.frz ob (.dK vs)),_,ρ,rfl,rf,hα',aK,by simpa using q4⟩,?_⟩
        generalize hds:(kvs.map fun x=>ofK x.1)=ds at *
        have dl:ds.length=vs.length:=by rw[<-hds,List.length_map,hlen]
        rintro i m σ2 H2 ⟨rfl,hil,e2,Ω2,ρ2,rfl,r2,hα2,ha2,q2'⟩
        by_cases hlt:i<ds.length
        ·have edrop:ds.drop i=ds[i]::ds.drop (i+1):=List.drop_eq_getElem_cons hlt
         rw[edrop] at q2'
         refine .inr ⟨⟨ha2,by rw[<-dl];exact hlt⟩,fun σ' H'=>∃e3 Ω3 ρ3,e3.H=H'/\RelS X.K C e₀ e3 Ω3 σ' ρ3/\e3.α[n]? = some a'/\e3.H a'=some (.frz ob (.dK vs))/\cV β s (ds.drop (i+1)) ρ3 Ω3=some o4,fun σ' H' hN=>⟨ds.length-(i+1),by omega,rfl,hlt,hN⟩,fun x H' hy=>?_⟩
         obtain⟨rfl,kk,hk,rfl⟩:=hy
         have ekk:ds[i]? = some (ofK kk):=by
          have z1:(kvs.map (·.1))[i]? = some kk:=by rw[<-hkeys,List.getElem?_map];exact hk
          rw[<-hds]
          rw[List.getElem?_map] at z1 ⊢
          cases z2:kvs[i]? with
          | none=>rw[z2] at z1;cases z1
          | some kv=>rw[z2] at z1;cases z1;rfl
         have ekk':ds[i]=ofK kk:=by
          rw[List.getElem?_eq_getElem hlt] at ekk
          exact Option.some.inj ekk
         have ix:Is X.K e2.α e2.F ds[i] (kV kk):=by rw[ekk'];exact Ao kk
         unfold cV at q2'
         cases q5:β ds[i] ρ2 with
         | none=>rw[q5] at q2';cases q2'
         | some ρ3 =>
          rw[q5] at q2'
          dsimp only at q2'
          refine⟨e2,Ω2,ρ2,_,ρ3,rfl,r2.wf,r2.rel,ix,q5,fun σ3 r3 o3=>?_⟩
          have r3':=r2.by r3 o3
          obtain⟨e₁,hF,hα₁,r4,toE,toN,fz₁⟩:=r3'.mark
          have hl2:n<e2.α.length:=(List.getElem?_eq_some_iff.mp hα2).1
          have place:∀{e5:E4},Ext e₁ e5->e5.α[n]? = some a'/\e5.H a'=some (.frz ob (.dK vs)):=fun {e5} x5=>by
           refine⟨?_,x5.fz a' _ _ (fz₁ a' _ _ ha2)⟩
           obtain⟨m2,z2⟩:=x5.al
           rw[z2,hα₁,List.getElem?_append_left hl2]
           exact hα2
          have back:∀{e5:E4} {Ω5:List OS} {σ5:St} {ρ5:List Sl},RelS X.K C e₁ e5 Ω5 σ5 ρ5->RelS X.K C e₀ e5 Ω5 σ5 ρ5:=fun {e5 Ω5 σ5 ρ5} r5 =>
           ⟨r5.wf,r5.rel,toE _ r5.ext,fun i ds a h1 h2=>toN _ (r5.fresh i ds a h1 h2)⟩
          cases q6:s ρ3 Ω2 with
          | none=>rw[q6] at q2';cases q2'
          | some o5 =>
           rw[q6] at q2'
           refine⟨e₁,e2,Ω2,ρ3,o5,rfl,r4,q6,?_⟩
           cases o5 with
           | nx ρ5 Ω5=>exact fun e5 σ5 r5=>⟨e5,Ω5,ρ5,rfl,back r5,(place r5.ext).1,(place r5.ext).2,q2'⟩
           | ct ρ5 Ω5=>exact fun e5 σ5 r5=>⟨e5,Ω5,ρ5,rfl,back r5,(place r5.ext).1,(place r5.ext).2,q2'⟩
           | bk ρ5 Ω5=>exact fun e5 σ5 r5=>fin_nx (Option.some.inj q2').symm (back r5) (place r5.ext).1 (place r5.ext).2
           | rt z Ω5=>exact fun e5 v5 x5 w5 i5=>fin_rt (Option.some.inj q2').symm (toE _ x5) w5 i5 (place x5).1 (place x5).2
        ·have ei:i=ds.length:=by omega
         subst ei
         rw[List.drop_length] at q2'
         exact .inl ⟨⟨ha2,dl⟩,fin_nx (Option.some.inj q2').symm r2 hα2 ha2⟩
      | _=>cases q
    | _=>cases q
  | _=>cases q
end
end DL
namespace KS
open PySem PySem.W PySem.Calls PyProof.Rows
noncomputable def mz:Option (Value×Value)->Array Value
 | none=>#[]
 | some (v,k)=>#[v,k]
noncomputable def upS(s:Shared)(S:Addr)(xs:Array Value):Shared:={ s with heap:=s.heap.update S (Obj.mapSeq fun _=>xs) }
section
variable {prog:Program} {w:World} {A:Around} {R:Result->Shared->Prop} {I S:Addr} {kv:Value} {kw:List (Str×Value)} {n:Nat}
noncomputable def Ba(prog:Program)(w:World)(A:Around)(kv v:Value)(Q:Value->Shared->Prop)(s:Shared):Prop:=match kv with
 | .none=>Q v s
 | _=>∀E,wpAny (model prog w) A (call kv [v]) Q E s
theorem Di(hkv:kv=.none\/∃q,kv=.ref q)(J:Nat->Option (Value×Value)->Shared->Prop)(JK:Nat->Option (Value×Value)->Value->Value->Shared->Prop)
  (hS:∀i b s,J i b s->∃c,s.heap.get? S=some (seqObj "list" (mz b) c))
  (hSK:∀i b v k s,JK i b v k s->∃c,s.heap.get? S=some (seqObj "list" (mz b) c))
  (item:∀i b s (Q:Option Value->Shared->Prop) (E:Value->Shared->Prop),i<n->J i b s->(∀v s1,Ba prog w A.in1 kv v (fun k s2=>JK i b v k s2) s1->Q (some v) s1)->wpAny (model prog w) A.in1 (pyNext (.ref I)) Q E s)
  (cmp:∀i vb kb v k s (Q:Value->Shared->Prop) (E:Value->Shared->Prop),JK i (some (vb,kb)) v k s->(∀b:Bool,(b=true->J (i+1) (some (v,k)) (upS s S #[v,k]))->(b=false->J (i+1) (some (vb,kb)) s)->Q (.bool b) s)->wpAny (model prog w) A.in1 (richCompare .Lt k kb) Q E s)
  (put:∀i v k s,JK i none v k s->J (i+1) (some (v,k)) (upS s S #[v,k]))
  (done:∀b s (Q:Option Value->Shared->Prop) (E:Value->Shared->Prop),J n b s->(∀s1,(∀v k,b=some (v,k)->(∃c,s1.heap.get? S=some (seqObj "list" #[v,k] c))/\R (.ok (.ret v)) (upS s1 S #[]))->(b=none->∃x d,kw=[(x,d)]/\R (.ok (.ret d)) s1)->Q none s1)->wpAny (model prog w) A.in1 (pyNext (.ref I)) Q E s) :
  ∀(r i:Nat) (b:Option (Value×Value)) (s:Shared),n-i=r->i<=n->J i b s->codeAny (model prog w) A (.builtin "min.loop" ⟨[.ref I,kv,.ref S],kw⟩) R s:=by
 have hname:(toString "min" ++ toString ".loop":String) = "min.loop":=by decide
 intro r
 induction r with
 | zero =>
  intro i b s hr hi hJ
  have hin:i=n:=by omega
  subst hin
  obtain⟨c,oS⟩:=hS _ _ _ hJ
  refine codeAny_builtin PySem.F.entry_min_loop ?_
  rw[Around.under_plainId PySem.F.plain_min_loop _]
  show wpAny _ A.in1 (seqItems? (.ref S)>>=_) _ _ s
  refine wpAny_bind (wpAny_seqItems oS rfl ?_)
  show wpAny _ A.in1 (tryCatch (pyNext (.ref I)) _>>=_) _ _ s
  refine wpAny_bind (wpAny_tryCatch (done b s _ _ hJ fun s1 h1 h2=>?_))
  cases b with
  | none =>
   obtain⟨x,d,rfl,hR⟩:=h2 rfl
   show wpAny _ A.in1 (rule _>>=_) _ _ _
   refine wpAny_bind (wpAny_rule ?_)
   exact wpAny_pure hR
  | some p =>
   obtain⟨v,k⟩:=p
   obtain⟨⟨c',o'⟩,hR⟩:=h1 v k rfl
   show wpAny _ A.in1 (updateSeq S (fun _=>#[])>>=_) _ _ _
   refine wpAny_bind ?_
   refine wpAny_updateSeq o' rfl (wpAny_bind (wpAny_letGo (wpAny_pure ?_)))
   exact hR
 | succ r ih =>
  intro i b s hr hi hJ
  have hlt:i<n:=by omega
  obtain⟨c,oS⟩:=hS _ _ _ hJ
  refine codeAny_builtin PySem.F.entry_min_loop ?_
  rw[Around.under_plainId PySem.F.plain_min_loop _]
  show wpAny _ A.in1 (seqItems? (.ref S)>>=_) _ _ s
  refine wpAny_bind (wpAny_seqItems oS rfl ?_)
  show wpAny _ A.in1 (tryCatch (pyNext (.ref I)) _>>=_) _ _ s
  refine wpAny_bind (wpAny_tryCatch (item i b s _ _ hlt hJ fun v s1 hK=>?_))
  have rest:∀k s2,JK i b v k s2->wpAny (model prog w) A.in1 (do
    let old:=(mz b).toList
    let failing {α:Type} (first:List Value) (m:Sem α):Sem α:=m.tryCatch fun e=>do
     updateSeq S fun _=>#[]
     letGo (first++old.reverse) [e]
     throw e
    match old with
    | [oldItem,oldVal] =>
     let better <-failing [k,v] <| holding [v,k] do
      let answer <-richCompare .Lt k oldVal
      let yes <-holding [answer] (truthy answer)
      letGo [answer]
      pure yes
     if better then
      updateSeq S fun _=>#[v,k]
      letGo [oldVal,oldItem]
     else letGo [v,k]
    | _=>updateSeq S fun _=>#[v,k]
    again (.builtin (toString "min" ++ toString ".loop") ⟨[.ref I,kv,.ref S],kw⟩)) (fun fin s'=>match fin with
     | .done f=>R (.ok f) s'
     | .again c'=>c'.quiet=true/\codeAny (model prog w) A c' R s') (fun e s'=>R (.error e) s') s2:=by
   intro k s2 hJK
   obtain⟨c2,o2⟩:=hSK _ _ _ _ _ hJK
   cases b with
   | none =>
    show wpAny _ A.in1 (updateSeq S (fun _=>#[v,k])>>=_) _ _ _
    refine wpAny_bind ?_
    refine wpAny_updateSeq o2 rfl ?_
    rw[hname]
    exact wpAny_pure ⟨plainId_quiet PySem.F.plain_min_loop _,ih (i+1) _ _ (by omega) hlt (put i v k s2 hJK)⟩
   | some p =>
    obtain⟨vb,kb⟩:=p
    show wpAny _ A.in1 (tryCatch (holding [v,k] (richCompare .Lt k kb>>=_)) _>>=_) _ _ _
    refine wpAny_bind (wpAny_tryCatch (wpAny_holding (wpAny_bind (cmp i vb kb v k s2 _ _ hJK fun bb hT hF=>?_))))
    refine wpAny_bind (wpAny_holding (wpAny_truthy_bool ?_))
    refine wpAny_bind (wpAny_letGo (wpAny_pure ?_))
    cases bb with
    | true =>
     simp only[if_true]
     refine wpAny_bind ?_
     refine wpAny_updateSeq o2 rfl (wpAny_bind (wpAny_letGo ?_)) (by show 2<=sizeLine;decide)
     rw[hname]
     exact wpAny_pure ⟨plainId_quiet PySem.F.plain_min_loop _,ih (i+1) _ _ (by omega) hlt (hT rfl)⟩
    | false =>
     simp only[Bool.false_eq_true,if_false]
     refine wpAny_bind (wpAny_letGo ?_)
     rw[hname]
     exact wpAny_pure ⟨plainId_quiet PySem.F.plain_min_loop _,ih (i+1) _ _ (by omega) hlt (hF rfl)⟩
  rcases hkv with rfl |⟨q,rfl⟩
  ·exact rest v s1 hK
  ·show wpAny _ A.in1 (tryCatch (holding [v] (call (.ref q) [v])) _>>=_) _ _ _
   refine wpAny_bind (wpAny_tryCatch (wpAny_holding (wpAny_mono (hK (fun _ _=>False)) (fun k s2 hJK=>?_) fun _ _ hF=>hF.elim)))
   exact rest k s2 hJK
end
end KS
namespace L2
open PySem PySem.Spec PyProof.Rows KS PySem.W
noncomputable def mIx(nss:List (List Int)):Nat->Nat
 | 0=>0
 | k+1=>if HT.lexLt (nss.getD (k+1) []) (nss.getD (mIx nss k) []) then k+1 else mIx nss k
theorem vK(nss:List (List Int)):∀k,mIx nss k<=k
 | 0=>Nat.le_refl _
 | k+1=>by
  unfold mIx
  split
  ·exact Nat.le_refl _
  ·exact Nat.le_succ_of_le (vK nss k)
section
variable {X:Cx} {pins:List (Addr×Obj)} {σ:St} {H:Hp} {s:Shared}
noncomputable def Bst(nss:List (List Int))(xs vks:List V):Nat->Option (Value×Value)->Prop
 | 0,b=>b=none
 | i+1,b=>∃v k,b=some (v,k)/\RelV (xs.getD (mIx nss i) .non) v/\RelV (vks.getD (mIx nss i) .non) k
theorem xX{vks:List V}{nss:List (List Int)}{H:Hp}{i j:Nat}(h:KeysAre H vks (nss.take i))(hj:j<i)(hn:j<nss.length):∃b,vks.getD j .non=.ref b/\H b=some (.tup ((nss.getD j []).map V.int)):=by
 have hl:=Paired.length h
 rw[List.length_take] at hl
 have hjv:j<vks.length:=by omega
 obtain⟨ns,e1,b,e2,e3,e4⟩:=Paired.get h (List.getElem?_eq_getElem hjv)
 rw[List.getElem?_take_of_lt hj,List.getElem?_eq_getElem hn] at e1
 cases e1
 exact⟨b,by rw[getD_get hjv,e2],by rw[getD_get hn];exact e3⟩
theorem vN{β:Type}{l:List β}{x d:β}{j:Nat}(h:j<l.length):(l++[x]).getD j d=l.getD j d:=by
 rw[getD_get h,getD_get (by rw[List.length_append];omega),List.getElem_append_left h]
theorem mG{β:Type}{l:List β}{x d:β}:(l++[x]).getD l.length d=x:=by
 rw[getD_get (by simp)];simp
theorem GD{l:Addr}{xs:List V}{nss:List (List Int)}{Q:VK}{kv:Value}{kws kw:List (Str×Value)}{R:Result->Shared->Prop}(hkv:kv=.none\/∃q,kv=.ref q)(hh:X.A.handled=none)(hu:X.A.units+64<cLine)
  (W:Nat->List V->Hp->Prop)
  (KR:∀(pins':List (Addr×Obj)) (i:Nat) (x:V) (v:Value) (vks:List V) (H':Hp) (s':Shared),xs[i]? = some x->RelV x v->W i vks H'->Inv X pins' σ H' s'->Ba X.prog X.w X.A.in1 kv v (fun k s2=>∃vk H2,Inv X pins' σ H2 s2/\RelV vk k/\W (i+1) (vks++[vk]) H2) s')
  (wl:∀i vks H',W i vks H'->H' l=some (.lst xs)) (wk:∀i vks H',W i vks H'->KeysAre H' vks (nss.take i)) (hn:nss.length=xs.length)
  (wend:∀vks H',W xs.length vks H'->xs≠[]->Q (xs.getD (mIx nss (xs.length-1)) .non) H')
  (wnil:∀vks H',W xs.length vks H'->xs=[]->∃x,kw=[(x,.none)]/\Q .non H')
  (hR:∀v s',EP X pins σ Q v s'->R (.ok (.ret v)) s')
  {I0 S0:Addr} (hIS:S0≠I0) (h0:∃H',Inv X pins σ H' s/\dJ X pins H' I0/\dJ X pins H' S0/\W 0 [] H') (hI0:s.heap.IsListIter I0 l 0) (hS0:∃c,s.heap.get? S0=some (seqObj "list" #[] c)) :
  codeAny (model X.prog X.w) X.A (.builtin "min.loop" ⟨[.ref I0,kv,.ref S0],kw⟩) R s:=by
 have hh1:X.A.in1.handled=none:=hh
 have hu1:X.A.in1.units<cLine:=by show X.A.units+1<cLine;omega
 have turn:∀{H':Hp} {s':Shared} {h2:Heap} {t2:Nat} {b:Addr},Inv X pins σ H' s'->dJ X pins H' b->(∀c o,c≠b->s'.heap.get? c=some o->h2.get? c=some o)->Inv X pins σ H' { s' with heap:=h2,toks:=t2 } :=
  fun I' f kp=>I'.turned kp f.1 f.2.1 f.2.2.2.1 f.2.2.2.2.1 f.2.2.2.2.2
 refine Di (n:=xs.length) hkv
  (fun i b s'=>∃vks H',Inv X pins σ H' s'/\dJ X pins H' I0/\dJ X pins H' S0/\s'.heap.IsListIter I0 l i/\(∃c,s'.heap.get? S0=some (seqObj "list" (mz b) c))/\W i vks H'/\Bst nss xs vks i b)
  (fun i b v k s'=>∃vks vk x H',i<xs.length/\Inv X pins σ H' s'/\dJ X pins H' I0/\dJ X pins H' S0/\s'.heap.IsListIter I0 l (i+1)/\(∃c,s'.heap.get? S0=some (seqObj "list" (mz b) c))/\W (i+1) (vks++[vk]) H'/\vks.length=i/\xs[i]? = some x/\RelV x v/\RelV vk k/\Bst nss xs vks i b)
  (fun i b s' hw'=>by obtain⟨_,_,_,_,_,_,h,_⟩:=hw';exact h) (fun i b v k s' hw'=>by obtain⟨_,_,_,_,_,_,_,_,_,h,_⟩:=hw';exact h) ?item ?cmp ?put ?done xs.length 0 none s (by omega) (Nat.zero_le _) ?init
 case init =>
  obtain⟨H',I',f1,f2,hW⟩:=h0
  exact⟨[],H',I',f1,f2,hI0,hS0,hW,rfl⟩
 case item =>
  rintro i b s' Q' E' hi ⟨vks,H',I',f1,f2,hit,⟨c,oS⟩,hW,hB⟩ hQ
  obtain⟨its,r,⟨o,m,e1,e2,_,e3⟩,hz⟩:=I'.list (SqL.of (wl _ _ _ hW))
  have hlI:l≠I0:=fun z=>by have:=wl _ _ _ hW;rw[z,f1.1] at this;cases this
  have Wk:=Walks.list (prog:=X.prog) (w:=X.w) (A:=X.A.in1) hh1 I0 l hlI its.toArray
  have hsz:its.toArray.size=xs.length:=by rw[List.size_toArray];exact r.length.symm
  refine Wk.item i s' _ _ (by rw[hsz];exact hi) ⟨hit,⟨o,e1,e2,m,e3⟩⟩ fun v h' tk hP hst hk=>?_
  have ex:xs[i]? = some xs[i]:=List.getElem?_eq_getElem hi
  obtain⟨u,q1,q2⟩:=r.get ex
  have hv:its[i]? = some v:=by simpa using hP
  rw[hv] at q1
  cases q1
  have I1:Inv X pins σ H' { s' with heap:=h',toks:=tk }:=turn I' f1 fun c o hc q=>hk c o (by simpa using hc) q
  have oS1:=hk S0 _ (by simpa using hIS) oS
  obtain⟨oI,hoI,hoc,hod⟩:=id hst.1
  have pk:∀p∈pins++[(S0,seqObj "list" (mz b) c),(I0,oI)],h'.get? p.1=some p.2/\H' p.1=none/\p.1≠X.env.locals/\p.1∉X.fs/\∀v,p.2.data ≠ .cell v:=fun p hp=>by
   rcases List.mem_append.mp hp with z |z
   ·exact I1.pin p (List.mem_append_right _ z)
   ·rw[List.mem_cons,List.mem_singleton] at z
    rcases z with rfl |rfl
    ·exact⟨oS1,f2.1,f2.2.1,f2.2.2.1,fun v z=>nomatch z⟩
    ·exact⟨hoI,f1.1,f1.2.1,f1.2.2.1,fun v z=>by rw[hod] at z;cases z⟩
  have Ip:=I1.pins_of pk
  have lv:vks.length=i:=by
   have:=Paired.length (wk _ _ _ hW)
   rw[List.length_take] at this
   omega
  have goal:∀k s2,(∃vk H2,Inv X (pins++[(S0,seqObj "list" (mz b) c),(I0,oI)]) σ H2 s2/\RelV vk k/\W (i+1) (vks++[vk]) H2)->∃vks vk x H',i<xs.length/\Inv X pins σ H' s2/\dJ X pins H' I0/\dJ X pins H' S0/\s2.heap.IsListIter I0 l (i+1)/\(∃c,s2.heap.get? S0=some (seqObj "list" (mz b) c))/\W (i+1) (vks++[vk]) H'/\vks.length=i/\xs[i]? = some x/\RelV x v/\RelV vk k/\Bst nss xs vks i b:=by
   rintro k s2 ⟨vk,H2,I2,rk,hW2⟩
   have p1:=I2.pin (S0,seqObj "list" (mz b) c) (List.mem_append_right _ (List.mem_append_right _ (.head _)))
   have p2:=I2.pin (I0,oI) (List.mem_append_right _ (List.mem_append_right _ (.tail _ (.head _))))
   exact⟨vks,vk,xs[i],H2,hi,I2.unpinned,Ep f1 p2.2.1,Ep f2 p1.2.1,⟨oI,p2.1,hoc,hod⟩,⟨c,p1.1⟩,hW2,lv,ex,q2,rk,hB⟩
  have hK:=KR _ i xs[i] v vks H' _ ex q2 hW Ip
  refine hQ v _ ?_
  rcases hkv with rfl |⟨q,rfl⟩
  ·exact goal v _ hK
  ·exact fun E=>wpAny_mono (hK E) (fun k s2 z=>goal k s2 z) fun _ _ e=>e
 case cmp =>
  rintro i vb kb v k s' Q' E' ⟨vks,vk,x,H',hi,I',f1,f2,hit,⟨c,oS⟩,hW,lv,ex,rx,rk,hB⟩ hQ
  cases i with
  | zero=>cases hB
  | succ j =>
   obtain⟨v',k',e',r1,r2⟩:=hB
   cases e'
   have hm:=vK nss j
   have K:=wk _ _ _ hW
   obtain⟨b1,z1,t1⟩:=xX (j:=j+1) K (by omega) (by omega)
   obtain⟨b2,z2,t2⟩:=xX (j:=mIx nss j) K (by omega) (by omega)
   rw[<-lv,mG] at z1
   rw[vN (by omega)] at z2
   subst z1
   rw[z2] at r2
   cases rk
   cases r2
   obtain⟨its1,ra,p1,_⟩:=I'.tuple (SqT.of t1)
   obtain⟨its2,rb,p2,_⟩:=I'.tuple (SqT.of t2)
   refine HT.yF p1 p2 (intsAre_of ra) (intsAre_of rb) hu1 (hQ _ (fun hT=>?_) fun hF=>?_)
   ·have s1:=Heap.SameBut.update s'.heap S0 (Obj.mapSeq fun _=>#[v,.ref b1])
    obtain⟨c2,hc2⟩:∃c2,(s'.heap.update S0 (Obj.mapSeq fun _=>#[v,.ref b1])).get? S0=some (seqObj "list" #[v,.ref b1] c2):=⟨_,get?_update_seq oS fun _=>#[v,.ref b1]⟩
    refine⟨vks++[.ref b1],H',turn (t2:=s'.toks) I' f2 fun c o hc q=>(s1.2 c hc).trans q,f1,f2,hit.at fun o q=>(s1.2 I0 hIS.symm).trans q,⟨c2,hc2⟩,hW,v,.ref b1,rfl,?_,?_⟩
    ·rw[show mIx nss (j+1)=j+1 from if_pos hT,List.getD_eq_getElem?_getD,ex];exact rx
    ·rw[show mIx nss (j+1)=j+1 from if_pos hT,<-lv,mG];rfl
   ·have em:mIx nss (j+1)=mIx nss j:=if_neg (by rw[hF];simp)
    refine⟨vks++[.ref b1],H',I',f1,f2,hit,⟨c,oS⟩,hW,vb,.ref b2,rfl,by rw[em];exact r1,?_⟩
    rw[em,vN (by omega),z2];rfl
 case put =>
  rintro i v k s' ⟨vks,vk,x,H',hi,I',f1,f2,hit,⟨c,oS⟩,hW,lv,ex,rx,rk,hB⟩
  cases i with
  | succ j=>obtain⟨v',k',e',r1,r2⟩:=hB;cases e'
  | zero =>
   have s1:=Heap.SameBut.update s'.heap S0 (Obj.mapSeq fun _=>#[v,k])
   obtain⟨c2,hc2⟩:∃c2,(s'.heap.update S0 (Obj.mapSeq fun _=>#[v,k])).get? S0=some (seqObj "list" #[v,k] c2):=⟨_,get?_update_seq oS fun _=>#[v,k]⟩
   have ez:vks=[]:=List.length_eq_zero_iff.mp lv
   subst ez
   exact⟨[]++[vk],H',turn (t2:=s'.toks) I' f2 fun c o hc q=>(s1.2 c hc).trans q,f1,f2,hit.at fun o q=>(s1.2 I0 hIS.symm).trans q,⟨c2,hc2⟩,hW,v,k,rfl,by rw[show mIx nss 0=0 from rfl,List.getD_eq_getElem?_getD,ex];exact rx,rk⟩
 case done =>
  rintro b s' Q' E' ⟨vks,H',I',f1,f2,hit,⟨c,oS⟩,hW,hB⟩ hQ
  obtain⟨its,r,⟨o,m,e1,e2,_,e3⟩,hz⟩:=I'.list (SqL.of (wl _ _ _ hW))
  have hlI:l≠I0:=fun z=>by have:=wl _ _ _ hW;rw[z,f1.1] at this;cases this
  have Wk:=Walks.list (prog:=X.prog) (w:=X.w) (A:=X.A.in1) hh1 I0 l hlI its.toArray
  have hsz:its.toArray.size=xs.length:=by rw[List.size_toArray];exact r.length.symm
  refine Wk.done s' _ _ ⟨by rw[hsz];exact hit,⟨o,e1,e2,m,e3⟩⟩ fun h' tk hk=>?_
  have I1:Inv X pins σ H' { s' with heap:=h',toks:=tk }:=turn I' f1 fun c o hc q=>hk c o (by simpa using hc) q
  have oS1:=hk S0 _ (by simpa using hIS) oS
  refine hQ _ (fun v k eb=>?_) fun eb=>?_
  ·subst eb
   refine⟨⟨c,oS1⟩,?_⟩
   have s1:=Heap.SameBut.update h' S0 (Obj.mapSeq fun _=>(#[]:Array Value))
   cases hx:xs.length with
   | zero=>rw[hx] at hB;cases hB
   | succ j =>
    rw[hx] at hB
    obtain⟨v',k',e',r1,r2⟩:=hB
    cases e'
    have hne:xs≠[]:=fun z=>by rw[z] at hx;cases hx
    have:=wend _ _ hW hne
    rw[hx] at this
    exact hR _ _ ⟨_,H',turn (t2:=tk) I1 f2 fun c o hc q=>(s1.2 c hc).trans q,r1,this⟩
  ·subst eb
   cases hx:xs.length with
   | succ j=>rw[hx] at hB;obtain⟨v',k',e',_⟩:=hB;cases e'
   | zero =>
    obtain⟨x,ek,hq⟩:=wnil _ _ hW (List.length_eq_zero_iff.mp hx)
    exact⟨x,.none,ek,hR _ _ ⟨.non,H',I1,rfl,hq⟩⟩
end
end L2
namespace L2
open PySem PySem.Spec PyProof.Rows KS PySem.W
theorem wO(a v d:Value):argsOk "min" ⟨[a],[(Str.ofString "key",v),(Str.ofString "default",d)]⟩:=by unfold argsOk;kernel_rfl
section
variable {X:Cx} {k:Nat} {f:Addr} {fd:FuncData} {ps:List Str} {sp:Sp} {pins:List (Addr×Obj)} {σ:St} {H:Hp} {s:Shared}
theorem GF{x:V}{v:Value}{P:V->Hp->Prop}(G:FnOk X.prog X.w X.K X.mg X.base CX0 k f fd ps sp)(hr:Room (k+1) X.A)(hb:Binds X.K fd ps [])(I:Inv X pins σ H s)(ru:RelV x v)(hsp:sp [x] H P E0)(E:Value->Shared->Prop) :
  wpAny (model X.prog X.w) X.A.in1 (call (.ref f) [v]) (fun u s2=>∃vk H2,Inv X pins σ H2 s2/\RelV vk u/\P vk H2) E s:=by
 have hlen:([v]++([]:List Value)).length=ps.length:=by have:=G.len _ _ _ _ hsp;simpa using this
 refine wpAny_call (codeAny_mono (G.run X.A.in1 X.stack s H ⟨[v],[]⟩ ([v]++[]) [x] _ E0 (Room.in1 hr) I.env0.in1 (hb s [v] I.kIn hlen) (.cons ru .nil) hsp) fun r s'' hq=>?_)
 cases r with
 | error e=>exact hq.elim
 | ok fl =>
  cases fl with
  | ret kv=>exact I.after hq
  | next=>exact False.elim hq
  | brk=>exact False.elim hq
  | cont=>exact False.elim hq
theorem Bb{l:Addr}{xs:List V}{kv:Value}{kws kw:List (Str×Value)}{Q:Value->Shared->Prop}{E:Value->Shared->Prop}(I:Inv X pins σ H s)(hl:H l=some (.lst xs))
  (ha:argsOk "min" ⟨[.ref l],kws⟩) {ok od:Option Value} (hb:Builtin.Builtins.bindParams "min" ["key","default"] 0 ⟨[],kws⟩=pure [ok,od]) (ek:ok.getD .none=kv) (ed:(od.toList.map fun d=>(Str.ofString "default",d))=kw)
  (go:∀(I0 S0:Addr) (s1:Shared) (R:Result->Shared->Prop),S0≠I0->Inv X pins σ H s1->dJ X pins H I0->dJ X pins H S0->s1.heap.IsListIter I0 l 0->(∃c,s1.heap.get? S0=some (seqObj "list" #[] c))->(∀v s',Q v s'->R (.ok (.ret v)) s') ->
   codeAny (model X.prog X.w) X.A (.builtin "min.loop" ⟨[.ref I0,kv,.ref S0],kw⟩) R s1) :
  wpAny (model X.prog X.w) X.A (call (.builtin "min") [.ref l] kws) Q E s:=by
 have hname:(toString "min" ++ toString ".loop":String) = "min.loop":=by decide
 obtain⟨its,r,⟨o,m,e1,e2,_,e3⟩,hz⟩:=I.list (SqL.of hl)
 refine kmk_tree PySem.F.kind_min PySem.F.plain_min PySem.F.entry_min ha ?_
 show wpAny _ X.A.in1 (Builtin.Builtins.bindParams "min" ["key","default"] 0 ⟨[],kws⟩>>=_) _ _ s
 refine wpAny_bind (wpAny_of_eq hb ?_)
 refine wpAny_bind (wpAny_pure ?_)
 refine wpAny_bind (wpAny_pyIter_list ⟨o,e1,e2,m,e3⟩ ?_)
 refine wpAny_bind (wpAny_newList ?_ (Nat.zero_le _))
 rw[hname,ek]
 have ed':(od.toList.map fun d=>(("default":Str),d))=kw:=ed
 rw[ed']
 have gI:((s.heap.push { cls:=.type "list_iterator",data:=.fields #[.ref l,.int 0 0] }).push (seqObj "list" #[] 0)).get? s.heap.objs.size=some { cls:=.type "list_iterator",data:=.fields #[.ref l,.int 0 0] } :=
  Heap.get?_push_of_some _ (Heap.get?_push_size _ rfl)
 have gS:((s.heap.push { cls:=.type "list_iterator",data:=.fields #[.ref l,.int 0 0] }).push (seqObj "list" #[] 0)).get? (s.heap.push { cls:=.type "list_iterator",data:=.fields #[.ref l,.int 0 0] }).objs.size=some (seqObj "list" #[] 0):=Heap.get?_push_size _ rfl
 have hS:(s.heap.push { cls:=.type "list_iterator",data:=.fields #[.ref l,.int 0 0] }).objs.size=s.heap.objs.size+1:=size_push' ..
 have hSI:(s.heap.push { cls:=.type "list_iterator",data:=.fields #[.ref l,.int 0 0] }).objs.size≠s.heap.objs.size:=by rw[hS];exact Nat.ne_of_gt (Nat.lt_succ_self _)
 have hle:s.heap.objs.size<=(s.heap.push { cls:=.type "list_iterator",data:=.fields #[.ref l,.int 0 0] }).objs.size:=by rw[hS];exact Nat.le_succ _
 refine wpAny_pure ⟨plainId_quiet PySem.F.plain_min_loop _,?_⟩
 exact go _ _ _ _ hSI (I.kept (t':=s.toks) fun b u q=>Heap.get?_push_of_some _ (Heap.get?_push_of_some _ q)) (I.fpOk (Nat.le_refl _) (I.hok.fresh (Nat.le_refl _))) (I.fpOk hle (I.hok.fresh hle)) ⟨_,gI,rfl,rfl⟩ ⟨0,gS⟩ fun v s' q=>q
end
end L2
namespace DL
open PySem PySem.Spec PyProof.Rows L2
noncomputable def minD(nss:List (List Int))(ds:List D):D:=ds.getD (mIx nss (ds.length-1)) .non
noncomputable def uG(F:bf)(g:Den):Den:=fun ρ Ω=>match g ρ Ω with
 | some (.lst ds,Ω1)=>match cB F ds Ω1 with
  | some (nss,Ω2)=>some (minD nss ds,Ω2)
  | none=>none
 | _=>none
section
variable {X:Cx} {C:Cl} {n:Str} {p pos kpos npos kpos2 cpos:Pos} {a:Expr} {g:Den} {k:Nat}
theorem GJ{K:PySem.W.Frag}{α:List Addr}{F:Hp}{ds:List D}{vs:List V}(h:IsL K α F ds vs)(i:Nat):Is K α F (ds.getD i .non) (vs.getD i .non):=by
 by_cases hi:i<ds.length
 ·obtain⟨v,e1,e2⟩:=h.get (List.getElem?_eq_getElem hi)
  rw[getD_get hi,List.getD_eq_getElem?_getD,e1]
  exact e2
 ·have hl:=h.length
  rw[List.getD_eq_getElem?_getD,List.getElem?_eq_none (Nat.le_of_not_lt hi),List.getD_eq_getElem?_getD,List.getElem?_eq_none (by omega)]
  show Is K α F .non .non
  rw[Is]
theorem GK{m:Str}{F:bf}{j:Nat}(G:Fn X.prog X.w X.K X.mg X.base C k m F)(hr:Room (k+2) X.A)(hgm:Gl X m)(hg:Gl X n)(hm:X.mg n=none)(hv:bootBuiltins n=some (.builtin "min"))(ho:PD X C a g)(hn:n ≠ "__name__":=by decide)(hdb:(n==("__debug__":Str))=false:=by decide)(hdm:(m==("__debug__":Str))=false:=by decide)
  (he:starEach [a] X.env=(false,eval a X.env)::starEach [] X.env:=by rfl) (he2:backTo pos (starEach [a] X.env)=(false,eval a X.env)::backTo pos (starEach [] X.env):=by rfl) (hpl:(backTo pos (starEach [a] X.env)).any (·.1)=false:=by rfl)
  (hall:(backToKw pos (keywordEach [⟨some (Str.ofString "key"),.Name m npos,kpos⟩,⟨some (Str.ofString "default"),.Constant .none j cpos,kpos2⟩] X.env)).all (·.1.isSome)=true:=by rfl) (hkw:(backToKw pos (keywordEach [⟨some (Str.ofString "key"),.Name m npos,kpos⟩,⟨some (Str.ofString "default"),.Constant .none j cpos,kpos2⟩] X.env)).any (·.1.isNone)=false:=by rfl)
  (hks:(backToKw pos (keywordEach [⟨some (Str.ofString "key"),.Name m npos,kpos⟩,⟨some (Str.ofString "default"),.Constant .none j cpos,kpos2⟩] X.env)).filterMap (·.1)=[Str.ofString "key",Str.ofString "default"]:=by rfl):PD X C (.Call (.Name n p) [a] [⟨some (Str.ofString "key"),.Name m npos,kpos⟩,⟨some (Str.ofString "default"),.Constant .none j cpos,kpos2⟩] pos) (uG F g):=by
 obtain⟨f,fd,ps,hf,hkp,hb,ok⟩:=G.ex
 rintro pins s σ H Q I ⟨e,Ω,ρ,d,Ω',eH,w,rl,q,kk⟩
 unfold uG at q
 cases q1:g ρ Ω with
 | none=>rw[q1] at q;cases q
 | some p1 =>
  obtain⟨d1,Ω1⟩:=p1
  rw[q1] at q
  cases d1 with
  | lst ds =>
   dsimp only at q
   cases q2:cB F ds Ω1 with
   | none=>rw[q2] at q;cases q
   | some p2 =>
    obtain⟨nss,Ω2⟩:=p2
    rw[q2] at q
    cases q
    have hl:=tV q2
    refine wpAny_Call_Name_kw (pU I hg hm hv ?_ hn hdb)
    refine callWith_kw ?_ he2 hpl hall hkw
    rw[hks]
    refine thn ((i_ ho jH he) pos pins s σ H (fun us H1=>∃l vs e1,us=[V.ref l]/\e1.H=H1/\Ext e e1/\Wf X.K C e1 Ω1/\e1.F l=some (.lst vs)/\IsL X.K e1.α e1.F ds vs) I ?_) fun us s1 ⟨vs,H1,I1,r1,l,ys,e1,z1,z2,x1,w1,hF,il⟩=>?_
    ·refine⟨e,Ω,ρ,_,_,eH,w,rl,q1,fun v e1 x1 w1 i1=>?_⟩
     rw[Is] at i1
     obtain⟨l,vs,rfl,hF,il⟩:=i1
     exact⟨l,vs,e1,rfl,rfl,x1,w1,hF,il⟩
    ·subst z1
     subst z2
     obtain⟨u,rfl,ru⟩:=vals1 r1
     cases ru
     refine thn (wY (Ez hgm hf (v:=.ref f) rfl hdm) (wY zy Ii) pos pins s1 σ e1.H (fun zs H2=>zs=[V.ref f,V.non]/\H2=e1.H) I1 ⟨rfl,rfl⟩) fun ws s2 hw'=>?_
     obtain⟨zs,H2,I2,r2,y1,y2⟩:=hw'
     subst y1
     subst y2
     obtain⟨u2,ur,rfl,ru2,rt⟩:∃u2 ur,ws=u2::ur/\RelV (V.ref f) u2/\Vals [V.non] ur:=by cases r2 with |cons a b=>exact⟨_,_,rfl,a,b⟩
     obtain⟨u3,rfl,ru3⟩:=vals1 rt
     cases ru2
     cases ru3
     have len:=il.length
     refine Bb (kv:=.ref f) (kw:=[(Str.ofString "default",.none)]) I2 (w1.fh _ _ hF) (wO _ _ _) (ok:=some (.ref f)) (od:=some .none) rfl rfl rfl fun I0 S0 s3 R hne' I3 f1 f2 hI hS hR=>?_
     refine GD (Q:=Q) (xs:=ys) (nss:=nss) (kws:=[]) (.inr ⟨f,rfl⟩) hr.hd hr.units (fun i vks H'=>∃e' ms Ωi,e'.H=H'/\Ext e1 e'/\Wf X.K C e' Ωi/\i<=ds.length/\cB F (ds.take i) Ω1=some (ms,Ωi)/\ms=nss.take i/\cB F (ds.drop i) Ωi=some (nss.drop i,Ω')/\IsL X.K e'.α e'.F (ms.map fun ns=>D.tup (ns.map D.int)) vks) ?_
      (fun i vks H' hw'=>by obtain⟨e',ms,Ωi,eh,x',w',_⟩:=hw';rw[<-eh];exact w'.fh _ _ (x'.ff _ _ hF))
      (fun i vks H' hw'=>by
       obtain⟨e',ms,Ωi,eh,x',w',hi,k1,k2,k3,ik⟩:=hw'
       rw[<-eh,<-k2]
       exact xV w'.fh (fun ns hns=>vJ q2 ns (by rw[k2] at hns;exact List.mem_of_mem_take hns)) ik) (by omega) ?_ ?_ hR hne' ⟨e1.H,I3,f1,f2,e1,[],Ω1,rfl,Ext.refl e1,w1,Nat.zero_le _,rfl,rfl,q2,.nil⟩ hI hS
     ·rintro pins' i x v vks H' s' ex rx ⟨e',ms,Ωi,rfl,x',w',hi,k1,k2,k3,ik⟩ I'
      have hix:i<ds.length:=by rw[len];exact(List.getElem?_eq_some_iff.mp ex).1
      obtain⟨v',ev,iv⟩:=il.get (List.getElem?_eq_getElem hix)
      rw[ex] at ev
      cases ev
      rw[List.drop_eq_getElem_cons hix] at k3
      have hin:i<nss.length:=by omega
      rw[List.drop_eq_getElem_cons hin] at k3
      unfold cB at k3
      cases t1:F [ds[i]] Ωi with
      | none=>rw[t1] at k3;cases k3
      | some pp =>
       obtain⟨kd,Ωj⟩:=pp
       rw[t1] at k3
       dsimp only at k3
       cases t2:jt kd with
       | none=>rw[t2] at k3;cases k3
       | some ns =>
        rw[t2] at k3
        dsimp only at k3
        cases t3:cB F (ds.drop (i+1)) Ωj with
        | none=>rw[t3] at k3;cases k3
        | some p3 =>
         obtain⟨mss,Ωk⟩:=p3
         rw[t3] at k3
         simp only[Option.some.injEq,Prod.mk.injEq,List.cons.injEq] at k3
         obtain⟨⟨n1,n2⟩,n3⟩:=k3
         obtain⟨ms',Ωi',c1,c2,c3⟩:=tU (i:=i+1) q2 (by omega)
         have cj:Ωi'=Ωj:=by
          have:ds.take (i+1)=ds.take i++[ds[i]]:=List.take_succ_eq_append_getElem hix
          rw[this] at c1
          exact(qC k1 t1 c1).symm
         rw[cj] at c1 c3
         refine fun E=>GF ok (hr.mono (by omega)) hb I' rx ?_ E
         refine⟨e',Ωi,[ds[i]],kd,Ωj,rfl,w',.cons (Is.ext x' iv) .nil,t1,fun v e'' x'' w'' i''=>⟨e'',ms',Ωj,rfl,x'.trans x'',w'',by omega,c1,c2,c3,?_⟩⟩
         rw[c2,List.take_succ_eq_append_getElem hin,List.map_append,<-k2]
         refine IsL.append (ik.ext x'') (.cons ?_ .nil)
         rw[<-n1]
         show Is X.K e''.α e''.F (D.tup (ns.map D.int)) v
         rw[<-(sr t2).1]
         exact i''
     ·rintro vks H' ⟨e',ms,Ωi,rfl,x',w',hi,k1,k2,k3,ik⟩ hne
      rw[<-len,List.drop_length] at k3
      have hΩ:Ωi=Ω':=by
       have e0:some (([]:List (List Int)),Ωi)=some (nss.drop ds.length,Ω'):=k3
       simp only[Option.some.injEq,Prod.mk.injEq] at e0
       exact e0.2
      subst hΩ
      refine kk _ e' (x1.trans x') w' ?_
      have hb:=GJ (il.ext x') (mIx nss (ds.length-1))
      rw[<-len];exact hb
     ·rintro vks H' ⟨e',ms,Ωi,rfl,x',w',hi,k1,k2,k3,ik⟩ hne
      have hd0:ds=[]:=List.length_eq_zero_iff.mp (by rw[len,hne];rfl)
      subst hd0
      rw[hne] at k3
      have hΩ:Ωi=Ω':=by
       have e0:some (([]:List (List Int)),Ωi)=some (nss.drop 0,Ω'):=k3
       simp only[Option.some.injEq,Prod.mk.injEq] at e0
       exact e0.2
      subst hΩ
      refine⟨_,rfl,kk _ e' (x1.trans x') w' ?_⟩
      show Is X.K e'.α e'.F .non .non
      rw[Is]
  | _=>cases q
end
end DL
namespace DL
open PySem PySem.Spec PyProof.Rows L2
noncomputable def gK:List (Str×Den)->List Sl->List OS->Option (List (Key×D)×List OS)
 | [],_,Ω=>some ([],Ω)
 | (z,g)::r,ρ,Ω=>match g ρ Ω with
  | some (d,Ω1)=>match gK r ρ Ω1 with
   | some (kvs,Ω2)=>some ((.inr z,d)::kvs,Ω2)
   | none=>none
  | none=>none
noncomputable def nq(kvs more:List (Key×D)):List (Key×D):=more.foldl (fun acc kv=>putD acc kv.1 kv.2) kvs
noncomputable def qG(kgs:List (Str×Den)):Den:=fun ρ Ω=>match gK kgs ρ (Ω++[.dK []]) with
 | some (kvs,Ω')=>(match Ω'[Ω.length]? with
  | some (.dK [])=>some (.obj Ω.length,Ω'.set Ω.length (.dK (nq [] kvs)))
  | _=>none)
 | none=>none
theorem bO.merge{K:PySem.W.Frag}{α:List Addr}{F:Hp}:∀{more:List (Key×D)} {ms:List (Key×V)} {kvs:List (Key×D)} {vs:List (Key×V)},bO K α F more ms->bO K α F kvs vs->bO K α F (nq kvs more) (jL vs ms)
 | [],ms,kvs,vs,h,h2=>by rw[show ms=[] from h];exact h2
 | p::r,ms,kvs,vs,⟨v,t,e,i,q⟩,h2=>by
  rw[e]
  exact bO.merge (kvs:=putD kvs p.1 p.2) (vs:=putK vs p.1 v) q (h2.put p.1 i)
section
variable {X:Cx} {C:Cl} {pos:Pos}
theorem xY{K:PySem.W.Frag}{σ:St}{ρ:List Sl}:∀{kgs:List (Str×Den)} {e:E4} {Ω Ω':List OS} {kvs:List (Key×D)} {Q:List (V×V)->Hp->Prop},gK kgs ρ Ω=some (kvs,Ω')->Wf K C e Ω->RelE K e σ ρ ->
  (∀e' ps,Ext e e'->Wf K C e' Ω'->bO K e'.α e'.F kvs ps->Q (ps.map fun kv=>(kV kv.1,kv.2)) e'.H)->pW (kgs.map fun kg=>(tC (.str kg.1),tD K C kg.2)) σ e.H Q
 | [],e,Ω,Ω',kvs,Q,h,w,rl,kk=>by cases h;exact kk e [] (Ext.refl e) w rfl
 | (z,g)::r,e,Ω,Ω',kvs,Q,h,w,rl,kk=>by
  unfold gK at h
  cases q1:g ρ Ω with
  | none=>rw[q1] at h;cases h
  | some p1 =>
   obtain⟨d,Ω1⟩:=p1
   rw[q1] at h
   dsimp only at h
   cases q2:gK r ρ Ω1 with
   | none=>rw[q2] at h;cases h
   | some p2 =>
    obtain⟨kvs2,Ω2⟩:=p2
    rw[q2] at h
    cases h
    refine⟨e,Ω,ρ,d,Ω1,rfl,w,rl,q1,fun v e1 x1 w1 i1=>?_⟩
    refine xY q2 w1 (rl.ext x1) fun e2 ps x2 w2 ip=>?_
    exact kk e2 ((.inr z,v)::ps) (x1.trans x2) w2 ⟨v,ps,rfl,i1.ext x2,ip⟩
inductive PDP(X:Cx)(C:Cl):List (Option Expr)->List Expr->List (Str×Den)->Prop
 | nil:PDP X C [] [] []
 | cons {z:Str} {j:Nat} {p:Pos} {x:Expr} {g:Den} {ks:List (Option Expr)} {vs:List Expr} {kgs:List (Str×Den)}:PD X C x g->PDP X C ks vs kgs->PDP X C (some (.Constant (.str z) j p)::ks) (x::vs) ((z,g)::kgs)
theorem PDP.pps{ks:List (Option Expr)}{vs:List Expr}{kgs:List (Str×Den)}(h:PDP X C ks vs kgs):PPs X pos ks vs (kgs.map fun kg=>(tC (.str kg.1),tD X.K C kg.2)):=by
 induction h with
 | nil=>exact FP
 | cons h1 _ ih=>exact Cu zA h1 ih
theorem PDP.all{ks:List (Option Expr)}{vs:List Expr}{kgs:List (Str×Den)}(h:PDP X C ks vs kgs):ks.all (·.isSome)=true/\ks.length=vs.length/\kgs.length=ks.length:=by
 induction h with
 | nil=>exact⟨rfl,rfl,rfl⟩
 | cons _ _ ih=>exact⟨by rw[List.all_cons,ih.1];rfl,by rw[List.length_cons,List.length_cons,ih.2.1],by rw[List.length_cons,List.length_cons,ih.2.2]⟩
theorem tX{ρ:List Sl}:∀{kgs:List (Str×Den)} {Ω Ω':List OS} {kvs:List (Key×D)},gK kgs ρ Ω=some (kvs,Ω')->kvs.length=kgs.length
 | [],_,_,_,h=>by cases h;rfl
 | (z,g)::r,Ω,Ω',kvs,h=>by
  unfold gK at h
  cases q1:g ρ Ω with
  | none=>rw[q1] at h;cases h
  | some p1 =>
   obtain⟨d,Ω1⟩:=p1
   rw[q1] at h
   dsimp only at h
   cases q2:gK r ρ Ω1 with
   | none=>rw[q2] at h;cases h
   | some p2 =>
    obtain⟨kvs2,Ω2⟩:=p2
    rw[q2] at h
    cases h
    rw[List.length_cons,List.length_cons,tX q2]
theorem GP{ks:List (Option Expr)}{vs:List Expr}{kgs:List (Str×Den)}(h:PDP X C ks vs kgs)(h0:ks≠[])(h15:ks.length<=15):PD X C (.Dict ks vs pos) (qG kgs) :=
 bT (FQ h.pps h.all.1 h.all.2.1 h0 h15) fun σ H Q hw'=>by
  obtain⟨e,Ω,ρ,d,Ω',eH,w,rl,q,kk⟩:=hw'
  subst eH
  intro p hp
  unfold qG at q
  cases q1:gK kgs ρ (Ω++[.dK []]) with
  | none=>rw[q1] at q;cases q
  | some p1 =>
   obtain⟨kvs,Ω1⟩:=p1
   rw[q1] at q
   dsimp only at q
   cases q2:Ω1[Ω.length]? with
   | none=>rw[q2] at q;cases q
   | some o =>
    rw[q2] at q
    cases o with
    | dK l =>
     cases l with
     | cons _ _=>cases q
     | nil =>
      cases q
      obtain⟨w',x'⟩:=w.obj (H':=upd e.H p (.dK [])) (o:=.dK []) hp (fun b u hb=>by rw[aB (aM hb hp)];exact hb) (by rw[aK];exact⟨by simp,fun xs z=>nomatch z⟩) ⟨[],aK,rfl⟩
      refine xY q1 w' (rl.ext x') fun e2 ps x2 w2 ip=>?_
      have hα:e2.α[Ω.length]? = some p:=by
       obtain⟨more,em⟩:=x2.al
       rw[em,List.getElem?_append_left]
       ·show(e.α++[p])[Ω.length]? = some p
        rw[<-w.ol];simp
       ·show Ω.length<(e.α++[p]).length
        rw[<-w.ol];simp
      obtain⟨vs0,h1,h2⟩:=(w2.ob _ p _ hα q2).2
      have e0:vs0=[]:=h2
      subst e0
      refine⟨h1,ps,rfl,?_,?_⟩
      ·rw[<-ip.len,tX q1,h.all.2.2];exact h15
      ·obtain⟨w3,x3⟩:=w2.at (o':=.dK (nq [] kvs)) (ho:=.dK (jL [] ps)) hα (fun xs z=>nomatch z) ⟨_,aK,ip.merge rfl⟩ fun o u z=>by rw[h1] at z;cases z
       refine kk _ (e2.at p _) ((x'.trans x2).trans x3) w3 ?_
       rw[Is]
       exact⟨p,hα,rfl⟩
    | _=>cases q
end
end DL
namespace DL
open PySem PySem.Spec PyProof.Rows L2
noncomputable def lg:OS->Option (List D)
 | .mls xs=>some xs
 | _=>none
noncomputable def lq:D->Option Nat
 | .obj n=>some n
 | _=>none
noncomputable def yW:D->Option Int
 | .int i=>some i
 | _=>none
theorem nu{o:OS}{xs:List D}(h:lg o=some xs):o=.mls xs:=by
 unfold lg at h
 split at h
 ·cases h;rfl
 ·cases h
theorem qH{d:D}{n:Nat}(h:lq d=some n):d=.obj n:=by
 unfold lq at h
 split at h
 ·cases h;rfl
 ·cases h
theorem Jt{d:D}{n:Int}(h:yW d=some n):d=.int n:=by
 unfold yW at h
 split at h
 ·cases h;rfl
 ·cases h
noncomputable def qI(ga:bz):Den:=fun ρ Ω=>(ga ρ Ω).bind fun p=>if p.1.length<=big then some (.obj p.2.length,p.2++[.mls p.1]) else none
noncomputable def uH(f g:Den):aO:=fun ρ Ω=>(f ρ Ω).bind fun p=>(lq p.1).bind fun n=>(p.2[n]?).bind fun o1=>(lg o1).bind fun _=>(g ρ p.2).bind fun r=>(r.2[n]?).bind fun o=>(lg o).bind fun xs =>
 if xs.length<big then some (.nx ρ (r.2.set n (.mls (xs++[r.1])))) else none
theorem Wf.mls{K:PySem.W.Frag}{C:Cl}{e:E4}{Ω:List OS}(w:Wf K C e Ω){n:Nat}{a:Addr}{xs:List D}(hα:e.α[n]? = some a)(h:Ω[n]? = some (.mls xs)):∃vs,e.H a=some (.lst vs)/\IsL K e.α e.F xs vs:=(w.ob n a _ hα h).2
section
variable {X:Cx} {C:Cl} {a b x:Expr} {es:List Expr} {f g h:Den} {ga:bz} {pos pos':Pos}
theorem GQ(ha:PDA X C es ga):PD X C (.List es pos) (qI ga):=bT (uN ha) fun σ H Q hw'=>by
 obtain⟨e,Ω,ρ,d,Ω',eH,w,rl,q,kk⟩:=hw'
 obtain⟨⟨ds,Ω1⟩,q1,q⟩:=Option.bind_eq_some_iff.mp q
 dsimp only at q
 split at q
 ·rename_i hl
  cases q
  refine⟨e,Ω,ρ,ds,_,eH,w,rl,q1,fun vs e' x' w' i'=>⟨by rw[<-i'.length];exact fW hl,fun p hp=>?_⟩⟩
  obtain⟨w2,x2⟩:=w'.obj (H':=upd e'.H p (.lst vs)) (o:=.mls ds) hp (fun b u hb=>by rw[aB (aM hb hp)];exact hb) (by rw[aK];exact⟨by simp,fun xs z=>nomatch z⟩) ⟨vs,aK,IsL.mono (bB.refl _) ⟨[p],rfl⟩ _ i'⟩
  refine kk _ (e'.obj p _) (x'.trans x2) w2 ?_
  rw[Is]
  exact⟨p,by show(e'.α++[p])[Ω1.length]? = some p;rw[<-w'.ol];simp,rfl⟩
 ·cases q
theorem Dj{ap cp:Pos}(ha:PD X C a f)(hb:PD X C b g)(hbase:attributeBase a "append" X.env (eval a X.env)=eval a X.env:=by rfl)
  (hfew:((backTo cp (starEach [b] X.env)).all (fun x=>!x.1) && (backToKw cp (keywordEach [] X.env)).all (fun x=>x.1.isSome)
   && decide (([b]:List Expr).length+([]:List Keyword).length+(if([]:List Keyword).isEmpty then 0 else 1)<30))=true:=by rfl)
  (hline:(ap.endLine==cp.line)=true:=by rfl) (hst:starEach [b] X.env=(false,eval b X.env)::starEach [] X.env:=by rfl) (hplain:(backTo cp (starEach [] X.env)).any (·.1)=false:=by rfl)
  (hs:swapsWith (.Call (.Attribute a "append" ap) [b] [] cp) none pos.line X.env=pure false:=by rfl) :
  PDS X C (.Expr (.Call (.Attribute a "append" ap) [b] [] cp) pos) (uH f g):=fun e₀ =>
 dG (rz (yG PySem.F.plainAttrs_list PySem.F.slot_list_append PySem.F.type_list_append mL ha (i_ hb jH hst) hbase hfew hline hst hplain) hs) fun Dn σ H hw'=>by
  obtain⟨e,Ω,ρ,o,eH,r,q,k⟩:=hw'
  obtain⟨⟨d1,Ω1⟩,q1,q⟩:=Option.bind_eq_some_iff.mp q
  obtain⟨n,q2,q⟩:=Option.bind_eq_some_iff.mp q
  obtain⟨o1,q3,q⟩:=Option.bind_eq_some_iff.mp q
  obtain⟨xs1,q4,q⟩:=Option.bind_eq_some_iff.mp q
  obtain⟨⟨d5,Ω5⟩,q5,q⟩:=Option.bind_eq_some_iff.mp q
  obtain⟨o6,q6,q⟩:=Option.bind_eq_some_iff.mp q
  obtain⟨xs,q7,q⟩:=Option.bind_eq_some_iff.mp q
  split at q
  ·rename_i hl
   cases q
   have e2:=qH q2
   have e4:=nu q4
   have e7:=nu q7
   dsimp only at e2 q3 q5 q6 hl
   subst e2 e4 e7
   refine⟨e,Ω,ρ,_,Ω1,eH,r.wf,r.rel,q1,fun v e1 x1 w1 i1=>?_⟩
   have i1':=i1
   rw[Is] at i1'
   obtain⟨p,hα,rfl⟩:=i1'
   obtain⟨vs1,hH1,_⟩:=w1.mls hα q3
   refine⟨.inl ⟨rfl,_,SqL.of hH1⟩,?_⟩
   refine⟨e1,Ω1,ρ,d5,Ω5,rfl,w1,r.rel.ext x1,q5,fun u e2 x2 w2 i2=>?_⟩
   have i3:=i1.ext x2
   rw[Is] at i3
   obtain⟨p',hα2,ep⟩:=i3
   cases ep
   obtain⟨vs,hH,il⟩:=w2.mls hα2 q6
   refine⟨p,vs,u,rfl,rfl,hH,by rw[<-il.length];exact lB hl,?_⟩
   obtain⟨w3,x3⟩:=w2.at (ho:=.lst (vs++[u])) (o':=.mls (xs++[d5])) hα2 (fun _ z=>nomatch z) ⟨_,aK,il.append (.cons i2 .nil)⟩ (fun o u z=>by rw[hH] at z;cases z)
   exact k (e2.at p _) σ (r.to ((x1.trans x2).trans x3) w3)
  ·cases q
end
end DL
namespace DL
open PySem PySem.Spec PyProof.Rows L2
section
variable {K:PySem.W.Frag} {C:Cl} {e e':E4} {Ω:List OS} {a:Addr} {o:HO}
noncomputable def E4.bare(e:E4)(a:Addr):E4:=⟨e.α,e.F,e.A,fun b=>if b=a then none else e.H b⟩
theorem Dk(h:e.H a=some o):upd (e.bare a).H a o=e.H:=by
 funext b
 by_cases z:b=a
 ·subst z;rw[aK];exact h.symm
 ·rw[aB z];show(if b=a then none else e.H b)=e.H b;rw[if_neg z]
theorem Wf.bare(w:Wf K C e Ω)(hF:e.F a=none)(hA:¬e.A a):Wf K C (e.bare a) Ω:=by
 have hb:∀b,b≠a->(e.bare a).H b=e.H b:=fun b z=>by show(if b=a then none else e.H b)=e.H b;rw[if_neg z]
 refine⟨fun b u h=>?_,w.fa,fun b h=>?_,w.ol,w.nd,fun n b u h1 h2=>⟨(w.ob n b u h1 h2).1,(w.ob n b u h1 h2).2.keep (fun v hv=>?_) (bB.refl _) ⟨[],by simp[E4.bare]⟩⟩⟩
 ·rw[hb b (fun z=>by subst z;rw[show e.F b=some u from h] at hF;cases hF)];exact w.fh b u h
 ·rw[hb b (fun z=>hA (by rw[<-z];exact h))];exact w.ah b h
 ·rw[hb b (fun z=>hA (by rw[<-z];exact(w.ob n b u h1 h2).1))];exact hv
theorem Ext.bare(x:Ext e e')(ha:e.H a=none):Ext e (e'.bare a):=by
 have hb:∀b,b≠a->(e'.bare a).H b=e'.H b:=fun b z=>by show(if b=a then none else e'.H b)=e'.H b;rw[if_neg z]
 refine⟨fun b o' u h=>?_,fun b u h hn=>?_,fun b u h=>?_,x.ff,x.fn,x.an,x.aa,x.al⟩
 ·rw[hb b (aM h ha)];exact x.fz b o' u h
 ·rw[hb b (aM h ha)];exact x.hk b u h hn
 ·obtain⟨u',z⟩:=x.dm b u h
  exact⟨u',by rw[hb b (aM h ha)];exact z⟩
end
end DL
namespace KS
open PySem PySem.W PySem.Calls PyProof.Rows
section
variable {prog:Program} {w:World} {A:Around} {E:Value->Shared->Prop} {s:Shared} {a:Addr} {vs:List Value}
theorem GR{it:Value}{R:List Value->Heap->Nat->Prop}{Q:Value->Shared->Prop}(hcol:∀(E:Value->Shared->Prop) (Q':List Value->Shared->Prop),(∀vs h1 tk,R vs h1 tk->Q' vs { s with heap:=h1,toks:=tk })->wpAny (model prog w) A.in1 (collect it) Q' E s)(h64:∀vs h1 tk,R vs h1 tk->vs.length<64)
  (hend:∀vs h1 tk D e1 h',R vs h1 tk->h1.objs.size<=D->(∀b o,h1.get? b=some o->h'.get? b=some o)->h'.get? D=some (seqObj "list" #[] e1)->De prog w A.in1.in1 vs D { s with heap:=h',toks:=tk } fun s3=>Q (.ref D) s3) :
  wpAny (model prog w) A (call (.builtin "sorted") [it]) Q E s:=by
 refine Calls.call_function_entry kind_sorted plain_sorted entry_sorted (args_sorted1 _) ?_
 unfold Builtin.«sorted»;refine wpAny_bind (m:=checkCount "sorted" 1 1 _) (wpAny_pure ?_)
 refine wpAny_bind (hcol _ _ fun vs h1 tk keep1=>?_)
 have l64:=h64 vs h1 tk keep1
 refine wpAny_bind (wpAny_newList ?_ (by rw[sizeLine_eq];omega))
 have oL:(h1.push (seqObj "list" vs.toArray 0)).get? h1.objs.size=some (seqObj "list" vs.toArray 0):=Heap.get?_push_size _ rfl
 have keep:∀b o,h1.get? b=some o->(h1.push (seqObj "list" vs.toArray 0)).get? b=some o:=fun b o q=>Heap.get?_push_of_some _ q
 show wpAny _ _ _ _ _ { s with heap:=h1.push (seqObj "list" vs.toArray 0),toks:=tk }
 refine wpAny_bind (wpAny_holding (wpAny_call_entry slot_list_sort ⟨_,oL,rfl⟩ entry_list_sort ?body (args_list_sort _)))
 case body =>
  refine yS (s:={ s with heap:=h1.push (seqObj "list" vs.toArray 0),toks:=tk }) oL l64 fun e1 h' kp hD=>?_
  obtain⟨κ,r,p1,p2,p3⟩:=hend vs h1 tk h1.objs.size e1 h' keep1 (Nat.le_refl _) (fun b o q=>kp b o (Nat.ne_of_lt (Heap.lt_size q)) (keep b o q)) hD
  exact⟨κ,r,p1,p2,fun p h'' c hp hu k1 k2=>⟨_,rfl,wpAny_pure ⟨_,rfl,p3 p h'' c hp hu k1 k2⟩⟩⟩
end
end KS
namespace L2
open PySem PySem.Spec PyProof.Rows KS PySem.W
section
variable {X:Cx} {pins:List (Addr×Obj)} {σ:St} {H:Hp} {s:Shared}
theorem Dl{vs:List Value}{xs:List V}{Q:VK}{nss:List (List Int)}{h1 h':Heap}{tk e1:Nat}{D:Addr}(I1:Inv X pins σ H { s with heap:=h1,toks:=tk })(rv:Vals xs vs)(h64:xs.length<64)(hK:KeysAre H xs nss)(fin:∀out p,H p=none->oR nss xs out->Q (.ref p) (upd H p (.lst out)))
  (zD:h1.objs.size<=D) (kk:∀b o,h1.get? b=some o->h'.get? b=some o) (oD:h'.get? D=some (seqObj "list" #[] e1)):De X.prog X.w X.A.in1.in1 vs D { s with heap:=h',toks:=tk } fun s3=>EP X pins σ Q (.ref D) s3:=by
 have hl:=rv.length
 have hn:nss.length=xs.length:=(Paired.length hK).symm
 have fD:=I1.fpOk zD (I1.hok.fresh zD)
 have I2:Inv X pins σ H { s with heap:=h',toks:=tk }:=I1.kept (t':=tk) kk
 have tup:∀j,j<vs.length->∃b o its n ns,vs[j]? = some (.ref b)/\nss[j]? = some ns/\h'.get? b=some o/\o.cls=.type "tuple" /\ o.data=.seq (List.toArray its) n/\IntsAre its ns/\ns≠[]:=fun j hj=>by
  have hj':j<xs.length:=by omega
  obtain⟨ns,e1,b,e2,e3,e4⟩:=Paired.get hK (List.getElem?_eq_getElem hj')
  obtain⟨u,e5,e6⟩:=rv.get (List.getElem?_eq_getElem hj')
  rw[e2] at e6
  cases (show u=Value.ref b from e6)
  obtain⟨_,its,ri,o,h1,h2,n,h3⟩:=(show b_ X.prog X.w H h' b (.tup (ns.map V.int)) from I2.hok b _ e3)
  exact⟨b,o,its,n,ns,e5,e1,h1,h2,h3,intsAre_of ri,e4⟩
 refine⟨tuples' true,rankOf nss,fun h2 Q' E' hq=>?_,fun h2 i j C hi hj hC=>?_,fun p h'' c hp hu kp hD=>?_⟩
 ·have kt:∀(l:List Value) (off:Nat),(∀j,j<l.length->∃b o its n ns,l[j]? = some (.ref b)/\nss[off+j]? = some ns/\h'.get? b=some o/\o.cls=.type "tuple" /\ o.data=.seq (List.toArray its) n/\IntsAre its ns/\ns≠[]) ->
    ∃fs,KatTups h' l fs/\fs.length=l.length/\∀v∈fs,∃n t,v=.int n t:=by
   intro l
   induction l with
   | nil=>intro off _;exact⟨[],trivial,rfl,fun v hv=>nomatch hv⟩
   | cons x l ih =>
    intro off ht
    obtain⟨b,o,its,n,ns,e1,e2,e3,e4,e5,e6,e7⟩:=ht 0 (by simp)
    simp at e1
    subst e1
    obtain⟨fs,k1,k2,k3⟩:=ih (off+1) fun j hj=>by
     obtain⟨b,o,its,n,ns,q1,q2,q3⟩:=ht (j+1) (by simpa using hj)
     exact⟨b,o,its,n,ns,by simpa using q1,by rw[show off+1+j=off+(j+1) by omega];exact q2,q3⟩
    cases e6 with
    | nil=>exact absurd rfl e7
    | cons m t r =>
     refine⟨_::fs,KatTups.cons e3 e4 e5 (f:=.int m t) (by simp) k1,by simp[k2],fun v hv=>?_⟩
     rcases List.mem_cons.mp hv with rfl |hv
     ·exact⟨m,t,rfl⟩
     ·exact k3 v hv
  obtain⟨fs,k1,k2,k3⟩:=kt vs 0 fun j hj=>by simpa using tup j hj
  refine kat_kind (T:=.type "int") k1 (by rw[k2];omega) (fun v hv=>?_) rfl hq
  obtain⟨n,t,rfl⟩:=k3 v hv
  exact .now
 ·obtain⟨b1,o1,i1,n1,s1,a1,a2,a3,a4,a5,a6,a7⟩:=tup i (by omega)
  obtain⟨b2,o2,i2,n2,s2,c1,c2,c3,c4,c5,c6,c7⟩:=tup j (by omega)
  unfold kas_ask
  rw[List.getD_eq_getElem?_getD,List.getD_eq_getElem?_getD,a1,c1]
  refine kat_lt a3 a5 c3 c5 (xU 0 a6 c6 (by simp) ?_)
  have hi':i<nss.length:=by omega
  have hj':j<nss.length:=by omega
  rw[vC hi' hj'] at hC
  rw[List.getElem?_eq_getElem hi'] at a2
  rw[List.getElem?_eq_getElem hj'] at c2
  cases a2
  cases c2
  exact hC
 ·have hpl:p.toList.Perm (List.range vs.length):=by have:=Array.perm_iff_toList_perm.mp hp;simpa using this
  have hpn:p.toList.length=vs.length:=by rw[hpl.length_eq];simp
  have hlt:∀i∈p.toList,i<xs.length:=fun i hi=>by have:=hpl.mem_iff.mp hi;rw[List.mem_range] at this;omega
  have so:oR nss xs (p.toList.map fun i=>xs.getD i .non):=by
   refine⟨p.toList,by rw[hl];exact hpl,rfl,fun i j hij hj=>?_⟩
   have u:=hu i j hij (by omega)
   have g:∀m,m<p.toList.length->p.getD m 0=p.toList.getD m 0/\p.toList.getD m 0<nss.length:=fun m hm=>by
    have hm':m<p.size:=by simpa using hm
    refine⟨by simp[Array.getD,hm'],?_⟩
    have:p.toList.getD m 0∈p.toList:=by
     rw[List.getD_eq_getElem?_getD,List.getElem?_eq_getElem hm];exact List.getElem_mem hm
    have:=hlt _ this
    omega
   obtain⟨gi,li⟩:=g i (by omega)
   obtain⟨gj,lj⟩:=g j hj
   have ei:nss.getD (p.toList.getD i 0) []=nss[p.toList.getD i 0]:=getD_get li
   have ej:nss.getD (p.toList.getD j 0) []=nss[p.toList.getD j 0]:=getD_get lj
   rw[ei,ej,<-vC lj li]
   refine decide_eq_false ?_
   have u':rankOf nss (p.getD i 0)<=rankOf nss (p.getD j 0):=u
   rw[gi,gj] at u'
   omega
  refine⟨.ref D,upd H D (.lst (p.toList.map fun i=>xs.getD i .non)),?_,rfl,fin _ D fD.1 so⟩
  refine I2.adopt fD fD (fun b o hb q=>kp b o (by simpa using hb) q) hD (tQ rv p.toList hlt) ?_
  ·rw[List.length_map,hpn,sizeLine_eq];omega
theorem Bc{it:Value}{vs:List Value}{xs:List V}{Q:VK}{nss:List (List Int)}(I:Inv X pins σ H s)(rv:Vals xs vs)(h64:xs.length<64)
  (hcol:∀(A:Around),A.handled=X.A.handled->∀(E:Value->Shared->Prop) (Q':List Value->Shared->Prop),(∀h1 tk,Kept s h1 []->Q' vs { s with heap:=h1,toks:=tk })->wpAny (model X.prog X.w) A (collect it) Q' E s)
  (hK:KeysAre H xs nss) (fin:∀out p,H p=none->oR nss xs out->Q (.ref p) (upd H p (.lst out))) :
  wpAny (model X.prog X.w) X.A (call (.builtin "sorted") [it]) (EP X pins σ Q) X.xe s:=by
 have hl:=rv.length
 refine GR (R:=fun us h1 tk=>us=vs/\Kept s h1 []) (fun E Q' hq=>hcol X.A.in1 rfl E Q' fun h1 tk k=>hq vs h1 tk ⟨rfl,k⟩) (fun us h1 tk e=>by rw[e.1];omega) fun us h1 tk D e1 h' k1 zD kk oD=>?_
 obtain⟨rfl,k1⟩:=k1
 exact Dl (I.kept (t':=tk) fun b u q=>k1 b u (by simp) q) rv h64 hK fin zD kk oD
end
end L2
namespace L2
open PySem PySem.Spec PyProof.Rows KS PySem.W
section
variable {X:Cx}
theorem yX(hh:X.A.handled=none):lO X (.builtin "sorted") (fun xs H Q=>∃l ys nss,xs=[V.ref l]/\H l=some (.lst ys)/\ys.length<64/\KeysAre H ys nss/\∀out p,H p=none->oR nss ys out->Q (.ref p) (upd H p (.lst out))):=by
 intro pins s σ H xs us Q I r h
 obtain⟨l,ys,nss,rfl,hl,h64,hK,fin⟩:=h
 obtain⟨u,rfl,ru⟩:=vals1 r
 cases ru
 obtain⟨vs,rv,hcol⟩:=DL.Df I hl
 exact Bc I rv h64 (fun A _ E Q' hq=>hcol A E Q' fun h1 k=>hq h1 s.toks k) hK fin
end
end L2
namespace DL
open PySem PySem.Spec PyProof.Rows L2
noncomputable def yZ:D->Option (List D)
 | .lst xs=>some xs
 | _=>none
theorem Ju{d:D}{xs:List D}(h:yZ d=some xs):d=.lst xs:=by
 unfold yZ at h
 split at h
 ·cases h;rfl
 ·cases h
noncomputable def nC(g:Den):Den:=fun ρ Ω=>(g ρ Ω).bind fun p=>(yZ p.1).bind fun ds=>(mq ds).bind fun nss=>(vH nss ds).bind fun z=>some (z,p.2)
noncomputable def dTO:OS->Option (List (List Key×D))
 | .dT kvs=>some kvs
 | _=>none
theorem Er{o:OS}{kvs:List (List Key×D)}(h:dTO o=some kvs):o=.dT kvs:=by
 unfold dTO at h
 split at h
 ·cases h;rfl
 ·cases h
section
variable {X:Cx} {C:Cl} {n:Str} {p pos:Pos} {a b:Expr} {f g:Den} {k:Nat}
theorem Dm(hr:Room k X.A)(hg:Gl X n)(hm:X.mg n=none)(hv:bootBuiltins n=some (.builtin "sorted"))(ho:PD X C a g)(hn:n ≠ "__name__":=by decide)(hdb:(n==("__debug__":Str))=false:=by decide)
  (he:starEach [a] X.env=(false,eval a X.env)::starEach [] X.env:=by rfl) (hpl:(backTo pos (starEach [] X.env)).any (·.1)=false:=by rfl):PD X C (.Call (.Name n p) [a] [] pos) (nC g) :=
 bT (pB (yX hr.hd) hg hm hv (i_ ho jH he) hn hdb he hpl) fun σ H Q hw'=>by
  obtain⟨e,Ω,ρ,d,Ω',eH,w,rl,q,kk⟩:=hw'
  obtain⟨⟨d1,Ω1⟩,q1,qa⟩:=Option.bind_eq_some_iff.mp q
  obtain⟨ds,q2,qb⟩:=Option.bind_eq_some_iff.mp qa
  obtain⟨nss,q3,qc⟩:=Option.bind_eq_some_iff.mp qb
  obtain⟨z,q4,qd⟩:=Option.bind_eq_some_iff.mp qc
  clear q qa qb qc
  have e2:=Ju q2
  dsimp only at e2 qd
  subst e2
  cases qd
  obtain⟨⟨h64,hl,one⟩,ez⟩:=pF q4
  cases ez
  refine⟨e,Ω,ρ,_,_,eH,w,rl,q1,fun v e1 x1 w1 i1=>?_⟩
  rw[Is] at i1
  obtain⟨l,vs,rfl,hF,il⟩:=i1
  have len:=il.length
  refine⟨l,vs,nss,rfl,w1.fh _ _ hF,by omega,tW w1.fh q3 il,fun out p' hp so=>?_⟩
  obtain⟨pm,hpm,rfl,hup⟩:=so
  rw[<-len] at hpm
  refine kk _ (e1.new p' _) (x1.trans (w1.new_ext hp)) (w1.new hp) ?_
  rw[<-yU hl one hpm hup,Is]
  exact⟨p',_,rfl,aK,(vI il pm fun i hi=>by simpa using hpm.mem_iff.mp hi).ext (w1.new_ext hp)⟩
end
end DL
namespace DL
open PySem PySem.Spec PyProof.Rows L2
section
variable {X:Cx} {C:Cl} {a b x:Expr} {f g:Den} {ga:bz} {n:Str} {p pos:Pos} {k:Nat}
noncomputable def vO(neg:Bool)(f g:Den):Den:=fun ρ Ω=>(f ρ Ω).bind fun p=>(lq p.1).bind fun n=>(g ρ p.2).bind fun q=>(q.2[n]?).bind fun o=>(lg o).bind fun xs=>(eqD neg (.lst xs) q.1).bind fun z=>some (z,q.2)
noncomputable def Jv(X:Cx)(C:Cl)(neg:Bool):R2:=fun x y H Q=>∃e Ω l vs xs d z,e.H=H/\Wf X.K C e Ω/\x=.ref l/\e.H l=some (.lst vs)/\IsL X.K e.α e.F xs vs/\Is X.K e.α e.F d y/\eqD neg (.lst xs) d=some (.bl z)/\Q (.bl z) H
theorem xZ{neg:Bool}{p q z:D}(h:eqD neg p q=some z):SeqAt.shaped (toP p)=true/\SeqAt.shaped (toP q)=true/\z=.bl (if neg then !PyData.eqv (toP p) (toP q) else PyData.eqv (toP p) (toP q)):=by
 unfold eqD at h
 split at h
 ·rename_i hs
  rw[Bool.and_eq_true] at hs
  cases h
  exact⟨hs.1,hs.2,rfl⟩
 ·cases h
theorem Be{pins:List (Addr×Obj)}{s:Shared}{σ:St}{e:E4}(I:Inv X pins σ e.H s)(fh:bB e.F e.H){l:Addr}{vs:List V}{xs:List D}(hl:e.H l=some (.lst vs))(il:IsL X.K e.α e.F xs vs)(hc:(toP (.lst xs)).canLay0=true):∃as,Reads s.heap (.ref l) (toP (.lst xs)) as:=by
 obtain⟨_,its,n,rv,e1⟩:=(show b_ X.prog X.w e.H s.heap l (.lst vs) from I.hok l _ hl)
 rw[toP] at hc ⊢
 obtain⟨as,z⟩:=j_ I rfl fh xs (by simpa [PyData.canLay0] using hc) il rv
 exact⟨_,.list e1 rfl rfl (by simpa using z)⟩
theorem Jw(hu:X.A.units+64<cLine):OpR X (compareOp .NotEq) (Jv X C true):=by
 intro pins s σ H x y v u Q I rx ry h
 obtain⟨e,Ω,l,vs,xs,d,z,rfl,w,rfl,hl,il,iy,q,kk⟩:=h
 obtain⟨s1,s2,ez⟩:=xZ q
 cases ez
 cases rx
 obtain⟨as,r1⟩:=Be I w.fh hl il (SeqAt.canLay_of_shaped s1)
 obtain⟨bs,r2⟩:=jb I rfl w.fh d (SeqAt.canLay_of_shaped s2) iy ry
 exact ne_dataH r1 r2 s1 s2 hu ⟨.bl _,e.H,I,rfl,kk⟩
theorem Dp{neg:Bool}{σ:St}{H:Hp}{Q:VK}(hw:tD X.K C (vO neg f g) σ H Q):tOp (Jv X C neg) (tD X.K C f) (tD X.K C g) σ H Q:=by
 obtain⟨e,Ω,ρ,d,Ω',eH,w,rl,q,kk⟩:=hw
 obtain⟨⟨d1,Ω1⟩,q1,qa⟩:=Option.bind_eq_some_iff.mp q
 obtain⟨m,q2,qb⟩:=Option.bind_eq_some_iff.mp qa
 obtain⟨⟨d3,Ω3⟩,q3,qc⟩:=Option.bind_eq_some_iff.mp qb
 obtain⟨o,q4,qd⟩:=Option.bind_eq_some_iff.mp qc
 obtain⟨xs,q5,qe⟩:=Option.bind_eq_some_iff.mp qd
 obtain⟨z,q6,qf⟩:=Option.bind_eq_some_iff.mp qe
 clear q qa qb qc qd qe
 have e2:=qH q2
 have e5:=nu q5
 dsimp only at e2 q3 q4 q6 qf
 subst e2 e5
 cases qf
 obtain⟨_,_,ez⟩:=xZ q6
 subst ez
 refine⟨e,Ω,ρ,_,Ω1,eH,w,rl,q1,fun v e1 x1 w1 i1=>?_⟩
 refine⟨e1,Ω1,ρ,d3,_,rfl,w1,rl.ext x1,q3,fun u e2 x2 w2 i2=>?_⟩
 have i1':=i1.ext x2
 rw[Is] at i1'
 obtain⟨l,hα,rfl⟩:=i1'
 obtain⟨vs,hH,il⟩:=w2.mls hα q4
 exact⟨e2,_,l,vs,xs,d3,_,rfl,w2,rfl,hH,il,i2,q6,kk _ e2 (x1.trans x2) w2 (by rw[Is])⟩
theorem GX(hu:X.A.units+64<cLine)(ha:PD X C a f)(hb:PD X C b g)(hm:behindInMarks .NotEq b=false:=by first |exact nobehind _ (by decide) (by decide) |rfl):PDT X C (.Compare a [.NotEq] [b] pos) (gT (vO true f g)) :=
 lz (wX (Jw (C:=C) hu) ha hb hm) fun _ _ _ h=>Dp (lA h)
end
end DL
namespace DL
open PySem PySem.Spec PyProof.Rows L2
section
variable {X:Cx} {C:Cl} {a b x:Expr} {f g:Den} {n:Str} {p pos ap cp:Pos} {k:Nat}
noncomputable def uI(f g:Den):Den:=fun ρ Ω=>(f ρ Ω).bind fun p=>(lq p.1).bind fun n=>(p.2[n]?).bind fun o1=>(lg o1).bind fun _=>(g ρ p.2).bind fun r=>(yW r.1).bind fun i=>(r.2[n]?).bind fun o=>(lg o).bind fun xs =>
 if i=0 then(match xs with |[]=>none |d::t=>some (d,r.2.set n (.mls t))) else none
theorem GZ(ha:PD X C a f)(hb:PD X C b g)(hbase:attributeBase a "pop" X.env (eval a X.env)=eval a X.env:=by rfl)
  (hfew:((backTo cp (starEach [b] X.env)).all (fun x=>!x.1) && (backToKw cp (keywordEach [] X.env)).all (fun x=>x.1.isSome)
   && decide (([b]:List Expr).length+([]:List Keyword).length+(if([]:List Keyword).isEmpty then 0 else 1)<30))=true:=by rfl)
  (hline:(ap.endLine==cp.line)=true:=by rfl) (hst:starEach [b] X.env=(false,eval b X.env)::starEach [] X.env:=by rfl) (hplain:(backTo cp (starEach [] X.env)).any (·.1)=false:=by rfl) :
  PD X C (.Call (.Attribute a "pop" ap) [b] [] cp) (uI f g) :=
 bT (yG PySem.F.plainAttrs_list PySem.F.slot_list_pop PySem.F.type_list_pop Ck ha (i_ hb jH hst) hbase hfew hline hst hplain) fun σ H Q hw'=>by
  obtain⟨e,Ω,ρ,d,Ω',eH,w,rl,q,kk⟩:=hw'
  obtain⟨⟨d1,Ω1⟩,q1,qa⟩:=Option.bind_eq_some_iff.mp q
  obtain⟨m,q2,qb⟩:=Option.bind_eq_some_iff.mp qa
  obtain⟨o1,q3,qc⟩:=Option.bind_eq_some_iff.mp qb
  obtain⟨xs1,q4,qd⟩:=Option.bind_eq_some_iff.mp qc
  obtain⟨⟨d5,Ω5⟩,q5,qe⟩:=Option.bind_eq_some_iff.mp qd
  obtain⟨i,q6,qf⟩:=Option.bind_eq_some_iff.mp qe
  obtain⟨o7,q7,qg⟩:=Option.bind_eq_some_iff.mp qf
  obtain⟨xs,q8,qh⟩:=Option.bind_eq_some_iff.mp qg
  clear q qa qb qc qd qe qf qg
  have e2:=qH q2
  have e4:=nu q4
  have e6:=Jt q6
  have e8:=nu q8
  dsimp only at e2 q3 q5 e6 q7 qh
  subst e2 e4 e6 e8
  split at qh
  ·rename_i hi
   subst hi
   cases xs with
   | nil=>cases qh
   | cons z t =>
    cases qh
    refine⟨e,Ω,ρ,_,Ω1,eH,w,rl,q1,fun v e1 x1 w1 i1=>?_⟩
    have i1':=i1
    rw[Is] at i1'
    obtain⟨l,hα,rfl⟩:=i1'
    obtain⟨vs1,hH1,_⟩:=w1.mls hα q3
    refine⟨.inl ⟨rfl,_,SqL.of hH1⟩,e1,Ω1,ρ,_,Ω5,rfl,w1,rl.ext x1,q5,fun u e2 x2 w2 i2=>?_⟩
    have i3:=i1.ext x2
    rw[Is] at i3
    obtain⟨p',hα2,ep⟩:=i3
    cases ep
    obtain⟨vs,hH,il⟩:=w2.mls hα2 q7
    obtain⟨v0,r,rfl,iv0,ir⟩:=il.of_cons
    rw[Is] at i2
    subst i2
    refine⟨l,_,0,0,v0,rfl,rfl,hH,by decide,by decide,?_,rfl,?_⟩
    ·show seqIndex? 0 (r.length+1)=some 0
     simp[seqIndex?]
    ·obtain⟨w3,x3⟩:=w2.at (ho:=.lst r) (o':=.mls t) hα2 (fun _ z=>nomatch z) ⟨_,aK,ir⟩ (fun o u z=>by rw[hH] at z;cases z)
     exact kk v0 (e2.at l _) ((x1.trans x2).trans x3) w3 (iv0.ext x3)
  ·cases qh
end
end DL
namespace L2
open PySem PySem.Spec PyProof.Rows
section
variable {X:Cx} {pins:List (Addr×Obj)} {σ:St} {H:Hp} {s:Shared} {a:Addr}
theorem Inv.freezeT{kvs:List (List Key×V)}{o:Obj}(I:Inv X pins σ H s)(e:H a=some (.dT kvs))(ho:s.heap.get? a=some o):Inv X pins σ (upd H a (.frz o (.dT kvs))) s:=by
 have neA:∀b u,H b=some u->(∀k,u ≠ .dT k)->b≠a:=fun b u h n z=>by rw[z,e] at h;cases h;exact n _ rfl
 refine I.write (x:=a) (e:=a) (o:=.frz o (.dT kvs)) (t':=s.toks) (h':=s.heap) (by rw[e];trivial) (.inl rfl) (fun b u _ q=>q) ⟨o,ho⟩ ⟨ho,?_⟩
 exact(I.hok a _ e).stay (fun _ _ _ q=>q) (fun b q=>by rw[aB (neA b _ q fun k z=>nomatch z)];exact q) fun b xs q=>by rw[aB (neA b _ q fun k z=>nomatch z)];exact q
end
noncomputable def ItT(a:Addr)(o:Obj)(kvs:List (List Key×V)):It :=
 ⟨fun i H=>H a=some (.frz o (.dT kvs))/\i<kvs.length,fun i H x H'=>H'=H/\∃k b,(kvs[i]?).map (·.1)=some k/\x=.ref b/\H b=some (.tup (k.map kV)),fun i H=>H a=some (.frz o (.dT kvs))/\i=kvs.length⟩
theorem tY{α β:Type}{R:α->β->Prop}:∀{l:List α} {m:List β},Paired R l m->∀(i:Nat) (y:β),m[i]? = some y->∃x,l[i]? = some x/\R x y
 | [],[],.nil,i,y,h=>by simp at h
 | x::l,z::m,.cons h t,0,y,e=>by
  simp at e
  subst e
  exact⟨x,rfl,h⟩
 | x::l,z::m,.cons h t,i+1,y,e=>by simpa using tY t i y (by simpa using e)
theorem y_{P:Program}{w:World}{K:PySem.W.Frag}{tg:Expr}(a it:Addr){o:Obj}{es:Array DictEntry}{ep:Nat}{kvs:List (List Key×V)}(hx:o.ExactDict)(hd:o.data=.dict es ep)(hlen:es.size=kvs.length)(hne:a≠it) :
  Turn P w K tg (ItT a o kvs) [it] it (fun i h=>h.IsKeyIter it a i es.size ep) where
 mem:=by simp
 obj:=fun i h st b hb=>by
  have e:b=it:=by simpa using hb
  subst e
  obtain⟨ob,h1,h2,h3⟩:=st
  exact⟨ob,h1,fun v z=>by rw[h3] at z;cases z⟩
 keep:=fun i h h' st k=>by
  obtain⟨ob,h1,h2⟩:=st
  exact⟨ob,k it (by simp) _ h1,h2⟩
 item:=by
  intro X hP hw hK hc i pins s σ H E I hf st hg
  subst hP hw hK
  obtain⟨hg,hi⟩:=hg
  obtain⟨f0,f1,f2,f3,f4,f5⟩:=hf it (by simp)
  obtain⟨ho,_,_,xs,rel,o',es',ep',h1,h2,h3,h4,h5⟩:=(show b_ X.prog X.w H s.heap a (.frz o (.dT kvs)) from I.hok a _ hg)
  rw[ho] at h1
  cases h1
  rw[hd] at h3
  cases h3
  have hl:i<es.size:=by rw[hlen];exact hi
  refine DR.vA st ⟨o,ho,hx,hd⟩ hl fun h' st' sb=>?_
  have J1:Inv X pins σ H { s with heap:=h' }:=I.turned (t':=s.toks) (fun b ob hb e=>(sb.2 b hb).trans e) f0 f1 f3 f4 f5
  obtain⟨ob,g1,g2,g3⟩:=id st'
  have hxs:i<xs.length:=by rw[<-Paired.length rel];exact hi
  obtain⟨kv,hkv,e1,e2,_⟩:=tY rel i xs[i] (List.getElem?_eq_getElem hxs)
  have hk:es[i].key=.ref xs[i].2.1:=by
   have:=entry_at h4 i
   rw[Array.getElem?_eq_getElem hl,List.getElem?_eq_getElem hxs] at this
   have:=Option.some.inj this
   rw[this]
   rfl
  rw[hk]
  refine⟨_,rfl,uB (s:={ s with heap:=h' }) (n:="dict_keyiterator") g1 g2 g3 (by decide) ⟨V.ref xs[i].2.1,H,J1,rfl,⟨rfl,kv.1,xs[i].2.1,by rw[hkv];rfl,rfl,e2⟩,st',fun b hb=>(hf b hb).1⟩⟩
 done:=by
  intro X hP hw hK hc i pins s σ H E I hf st hg
  subst hP hw hK
  obtain⟨hg,hi⟩:=hg
  obtain⟨f0,f1,f2,f3,f4,f5⟩:=hf it (by simp)
  have ho:s.heap.get? a=some o:=(show b_ X.prog X.w H s.heap a (.frz o (.dT kvs)) from I.hok a _ hg).1
  exact DR.xQ (I.ok.hd hc) st ⟨o,ho,hx,hd⟩ (by rw[hlen,hi];exact Nat.le_refl _) fun h' eb=>⟨rfl,I.turned (t':=s.toks) (fun b ob hb e=>eb b ob hb e) f0 f1 f3 f4 f5⟩
 self:=fun A i s Q E st h=>by
  obtain⟨ob,h1,h2,h3⟩:=id st
  exact wpAny_pyIter_keyiter st h
noncomputable def LQ(tl:TE):TI:=fun σ H R=>tl σ H fun x H1=>∃a kvs,x=.ref a/\H1 a=some (.dT kvs)/\∀o,R (ItT a o kvs) (upd H1 a (.frz o (.dT kvs)))
theorem Jx{X:Cx}{tg l:Expr}{tl:TE}(hl:PE X l tl):PI X tg l (LQ tl):=by
 intro pins s σ H R I h
 refine thn (hl pins s σ H _ I h) fun v s1 hw'=>?_
 obtain⟨x,H1,I1,r1,q1⟩:=hw'
 obtain⟨a,kvs,e,ha,q⟩:=q1
 subst e
 cases r1
 obtain⟨hz,hm,xs,rel,o,es,ep,ho,hx,hd,h4,h5⟩:=(show b_ X.prog X.w H1 s1.heap a (.dT kvs) from I1.hok a _ ha)
 have hlen:es.size=kvs.length:=by rw[<-Array.length_toList,h4,List.length_map,Paired.length rel]
 have lt:a<s1.heap.objs.size:=Heap.lt_size ho
 have I2:=I1.freezeT ha ho
 refine DR.vz hm ⟨o,ho,hx,hd⟩ ⟨s1.heap.objs.size,[s1.heap.objs.size],_,_,_,rfl,I2.kept (t':=s1.toks) fun b ob e=>Heap.get?_push_of_some _ e,y_ a _ hx hd hlen (Nat.ne_of_lt lt),⟨_,Heap.get?_push_size _ rfl,rfl,rfl⟩,fun b hb=>?_,q o⟩
 have e:b=s1.heap.objs.size:=by simpa using hb
 subst e
 exact I2.fpOk (Nat.le_refl _) (I2.hok.fresh (Nat.le_refl _))
theorem G_{X:Cx}{x:Expr}{t:TE}(h:PE X x t):PE X x (fun σ H Q=>∃a,(∀o u,H a≠some (.frz o u))/\t σ H fun v H'=>∃o u,H' a=some (.frz o u)/\(∀b,u ≠ .own b)/\Q v (upd H' a u)):=by
 rintro pins s σ H Q I ⟨a,hn,q⟩
 have h0:∀o u,X.H₀ a≠some (.frz o u):=fun o u z=>hn o u (I.base.frzs a o u z)
 refine wpAny_mono (h pins s σ H _ I q) (fun v s1 r=>?_) fun _ _ z=>z
 obtain⟨x,H',I',rv,o,u,e,hu,d⟩:=r
 exact⟨x,_,I'.thaw e h0 hu,rv,d⟩
end L2
namespace DL
open PySem PySem.Spec PyProof.Rows L2
noncomputable def nG(n:Nat)(kvs:List (List Key×D))(Ω:List OS):Option (List OS):=match Ω[n]? with
 | some (.fzT kvs')=>if kvs'.map (·.1)=kvs.map (·.1) then some (Ω.set n (.dT kvs')) else none
 | _=>none
theorem Dq{K:PySem.W.Frag}{C:Cl}{e₀ e:E4}{Ω Ω':List OS}{n:Nat}{a:Addr}{o:Obj}{kvs:List (List Key×D)}{vs:List (List Key×V)}(w:Wf K C e Ω)(hα:e.α[n]? = some a)(ha:e.H a=some (.frz o (.dT vs)))(h:nG n kvs Ω=some Ω') :
  Wf K C (e.at a (.dT vs)) Ω':=by
 unfold nG at h
 cases q:Ω[n]? with
 | none=>rw[q] at h;cases h
 | some os =>
  rw[q] at h
  cases os with
  | fzT kvs' =>
   dsimp only at h
   split at h
   ·cases h
    obtain⟨vs',o',h1,h2⟩:=(w.ob n a _ hα q).2
    rw[ha] at h1
    cases h1
    exact w.atW hα (fun xs z=>nomatch z) ⟨vs,aK,h2⟩
   ·cases h
  | _=>cases h
theorem ks_is{K:PySem.W.Frag}{α:List Addr}{F:Hp}:∀ks:List Key,IsL K α F (ks.map ofK) (ks.map kV)
 | []=>.nil
 | k::ks=>.cons (Ao k) (ks_is ks)
theorem Ha{K:PySem.W.Frag}{α:List Addr}{F:Hp}{ks:List Key}{b:Addr}(h:F b=some (.tup (ks.map kV))):Is K α F (.tup (ks.map ofK)) (.ref b):=by
 rw[Is]
 exact⟨b,_,rfl,h,ks_is ks⟩
noncomputable def za:aO:=fun ρ Ω=>some (.bk ρ Ω)
theorem Hb{X:Cx}{C:Cl}{pos:Pos}:PDS X C (.Break pos) za:=fun e₀=>dG BJ fun Dn σ H hw'=>by
 obtain⟨e,Ω,ρ,o,eH,r,q,k⟩:=hw'
 cases q
 have:=k e σ r
 rw[eH] at this
 exact this
theorem Dr{X:Cx}{C:Cl}{pos:Pos}:PDS X C (.Return none pos) (cg (gC .non)):=fun e₀=>dG Fd fun Dn σ H hw'=>by
 obtain⟨e,Ω,ρ,o,eH,r,q,k⟩:=hw'
 cases q
 have:=k e .non r.ext r.wf (by rw[Is])
 rw[eH] at this
 exact this
noncomputable def lH(μ:List (Option Nat))(f:Den)(β:cP)(p:bR)(g:Den):Den:=fun ρ Ω=>(f ρ Ω).bind fun q=>(lq q.1).bind fun n=>(Ω[n]?).bind fun o0=>(dTO o0).bind fun _=>(q.2[n]?).bind fun o=>(dTO o).bind fun kvs =>
 if kvs.length<=big then(cW β p g (kvs.map fun x=>D.tup (x.1.map ofK)) (di μ ρ) (q.2.set n (.fzT kvs))).bind fun r=>(nG n kvs r.2).bind fun Ω'=>some (.lst r.1,Ω') else none
section
variable {K:PySem.W.Frag} {C:Cl} {β:cP} {p:bR} {g:Den} {μ:List (Option Nat)}
structure CIT(K:PySem.W.Frag)(C:Cl)(β:cP)(p:bR)(g:Den)(ds:List D)(a:Addr)(ysAll:List D)(Ωf:List OS)(e':E4)(i:Nat)(σ':St)(e2:E4)(Ω2:List OS)(ρ2:List Sl)(vs:List V)(ys0 ys1:List D):Prop where
 w:Wf K C e2 Ω2
 r:RelE K e2 σ' ρ2
 no:∀(j:Nat) (es:List D),ρ2[j]? ≠ some (.own es)
 ha:e2.H a=some (.lst vs)
 hF:e2.F a=none
 hA:¬e2.A a
 iy:IsL K e2.α e2.F ys0 vs
 x:Ext e' e2
 q:cW β p g (ds.drop i) ρ2 Ω2=some (ys1,Ωf)
 ey:ys0++ys1=ysAll
 hy:ys0.length<=i
noncomputable def Es(K:PySem.W.Frag)(C:Cl)(β:cP)(p:bR)(g:Den)(ds:List D)(a:Addr)(ysAll:List D)(Ωf:List OS)(e':E4)(i:Nat)(σ':St)(H':Hp):Prop :=
 ∃e2 Ω2 ρ2 vs ys0 ys1,e2.H=H'/\CIT K C β p g ds a ysAll Ωf e' i σ' e2 Ω2 ρ2 vs ys0 ys1
theorem Bf{σ:St}{Q:VK}{ob:Obj}{ax:Addr}{e':E4}{Ω1 Ωf:List OS}{ρ:List Sl}{ksv:List (List Key×V)}{ds ysAll:List D}(w':Wf K C e' Ω1)(rl:RelE K e' σ ρ)(hz:e'.H ax=some (.frz ob (.dT ksv)))(hds:ds=ksv.map fun x=>D.tup (x.1.map ofK))(hbig:ds.length<=big)(q2:cW β p g ds (di μ ρ) Ω1=some (ysAll,Ωf))
  (fin:∀a vs e2,Ext e' e2->Wf K C e2 Ωf->e2.H a=some (.lst vs)->e2.F a=none->¬e2.A a->e'.H a=none->IsL K e2.α e2.F ysAll vs->Q (.ref a) e2.H):yJ μ (tDG K C β) (tDT K C p) (tD K C g) σ Q (ItT ax ob ksv) e'.H:=by
 have dl:ds.length=ksv.length:=by rw[hds,List.length_map]
 intro a ha
 refine⟨fun i m σ' H'=>m=ds.length-i/\i<=ds.length/\Es K C β p g ds a ysAll Ωf e' i σ' H',⟨ds.length,by simp,Nat.zero_le _,⟨e'.α,e'.F,e'.A,upd e'.H a (.lst [])⟩,Ω1,di μ ρ,[],[],ysAll,rfl,⟨?_,?_,fun j es=>iG,aK,w'.nF ha,fun z=>(w'.ah a z).1 ha,.nil,?_,by simpa using q2,rfl,Nat.zero_le _⟩⟩,?_⟩
 ·refine⟨fun b u hb=>?_,w'.fa,fun b hb=>?_,w'.ol,w'.nd,fun n b u h1 h2=>⟨(w'.ob n b u h1 h2).1,(w'.ob n b u h1 h2).2.keep (fun z hz=>?_) (bB.refl _) ⟨[],by simp⟩⟩⟩
  ·show upd e'.H a _ b=some u
   rw[aB (aM (w'.fh b u hb) ha)];exact w'.fh b u hb
  ·show upd e'.H a _ b≠none/\∀xs,upd e'.H a _ b≠some (.tup xs)
   rw[aB (fun z=>(w'.ah b hb).1 (by rw[z];exact ha))];exact w'.ah b hb
  ·show upd e'.H a _ b=some z
   rw[aB (aM hz ha)];exact hz
 ·have r1:=tL (μ:=μ) rl
  exact⟨r1.len,r1.dat,fun j es h=>absurd h iG,r1.sep⟩
 ·refine⟨fun b o' u hb=>by show upd e'.H a _ b=some (.frz o' u);rw[aB (aM hb ha)];exact hb,fun b u hb _=>?_,fun b u hb=>⟨u,?_⟩,bB.refl _,fun b u hb=>.inl hb,fun b hb=>.inl hb,fun b hb=>hb,[],by simp⟩
  ·show upd e'.H a _ b=some u
   rw[aB (aM hb ha)];exact hb
  ·show upd e'.H a _ b=some u
   rw[aB (aM hb ha)];exact hb
 ·rintro i m σ2 H2 ⟨rfl,hil,e2,Ω2,ρ2,vs,ys0,ys1,rfl,⟨w2,r2,no2,ha2,hF2,hA2,iy,x2,q3,ey,hy⟩⟩
  have hz2:e2.H ax=some (.frz ob (.dT ksv)):=x2.fz _ _ _ hz
  by_cases hlt:i<ds.length
  ·have edrop:ds.drop i=ds[i]::ds.drop (i+1):=List.drop_eq_getElem_cons hlt
   rw[edrop] at q3
   unfold cW at q3
   refine .inr ⟨⟨hz2,by omega⟩,fun σ' H'=>i+1<=ds.length/\Es K C β p g ds a ysAll Ωf e' (i+1) σ' H',fun σ' H' hN=>⟨ds.length-(i+1),by omega,rfl,hN⟩,fun x H' hyl=>?_⟩
   obtain⟨rfl,kk,bb,hk,rfl,hbb⟩:=hyl
   have ekk:ds[i]=D.tup (kk.map ofK):=by
    have z:ds[i]? = some (D.tup (kk.map ofK)):=by
     rw[hds,List.getElem?_map]
     cases z2:ksv[i]? with
     | none=>rw[z2] at hk;cases hk
     | some kv=>rw[z2] at hk;cases hk;rfl
    rw[List.getElem?_eq_getElem hlt] at z
    exact Option.some.inj z
   obtain⟨e2',eH2',_,x2',w2',ft'⟩:=w2.tups
   obtain⟨ha2',hF2',hA2'⟩:=x2'.keepOwn ha2 hF2 hA2
   have r2':=r2.ext x2'
   have iy':=iy.ext x2'
   have x2n:=x2.trans x2'
   have ix:Is K e2'.α e2'.F ds[i] (.ref bb):=by rw[ekk];exact Ha (ft' _ _ hbb)
   rw[<-eH2']
   cases q4:β ds[i] ρ2 with
   | none=>rw[q4] at q3;cases q3
   | some ρ3 =>
    rw[q4] at q3
    dsimp only at q3
    refine⟨e2',Ω2,ρ2,_,ρ3,rfl,w2',r2',ix,q4,fun σ3 r3 o3=>?_⟩
    have no3:∀(j:Nat) (es:List D),ρ3[j]? ≠ some (.own es):=fun j es h=>no2 j es (o3 j es h).1
    cases q5:p ρ3 Ω2 with
    | none=>rw[q5] at q3;cases q3
    | some p5 =>
     obtain⟨b,Ω3⟩:=p5
     rw[q5] at q3
     refine⟨e2',Ω2,ρ3,b,Ω3,rfl,w2',r3,q5,fun e3 x3 w3=>?_⟩
     cases b with
     | false =>
      refine Cy ?_
      obtain⟨z1,z2,z3⟩:=x3.keepOwn ha2' hF2' hA2'
      exact⟨hlt,e3,Ω3,ρ3,vs,ys0,ys1,rfl,⟨w3,r3.ext x3,no3,z1,z2,z3,iy'.ext x3,x2n.trans x3,q3,ey,Nat.le_succ_of_le hy⟩⟩
     | true =>
      refine Cz ?_
      dsimp only at q3
      cases q6:g ρ3 Ω3 with
      | none=>rw[q6] at q3;cases q3
      | some p6 =>
       obtain⟨y,Ω4⟩:=p6
       rw[q6] at q3
       dsimp only at q3
       cases q7:cW β p g (ds.drop (i+1)) ρ3 Ω4 with
       | none=>rw[q7] at q3;cases q3
       | some p7 =>
        obtain⟨ys2,Ω5⟩:=p7
        rw[q7] at q3
        cases q3
        refine⟨e3,Ω3,ρ3,y,Ω4,rfl,w3,r3.ext x3,q6,fun v e4 x4 w4 i4=>?_⟩
        obtain⟨z1,z2,z3⟩:=(x3.trans x4).keepOwn ha2' hF2' hA2'
        have x24:=x3.trans x4
        refine⟨vs,z1,by rw[<-iy'.length];exact lB (by omega),hlt,⟨e4.α,e4.F,e4.A,upd e4.H a (.lst (vs++[v]))⟩,Ω4,ρ3,_,ys0++[y],ys2,rfl,⟨⟨fun b u hb=>?_,w4.fa,fun b hb=>?_,w4.ol,w4.nd,fun n b u h1 h2=>⟨(w4.ob n b u h1 h2).1,(w4.ob n b u h1 h2).2.keep (fun z hz=>?_) (bB.refl _) ⟨[],by simp⟩⟩⟩,
         ⟨((r3.ext x3).ext x4).len,((r3.ext x3).ext x4).dat,fun j es h=>absurd h (no3 j es),((r3.ext x3).ext x4).sep⟩,no3,aK,z2,z3,(iy'.ext x24).append (.cons i4 .nil),⟨fun b o' u hb=>by show upd e4.H a _ b=some (.frz o' u);rw[aB (aM hb ha)];exact(x2n.trans x24).fz b o' u hb,fun b u hb hn=>?_,fun b u hb=>?_,(x2n.trans x24).ff,(x2n.trans x24).fn,(x2n.trans x24).an,(x2n.trans x24).aa,(x2n.trans x24).al⟩,q7,by rw[<-ey];simp,by simp;omega⟩⟩
        ·show upd e4.H a _ b=some u
         rw[aB (fun z=>by subst z;rw[z2] at hb;cases hb)];exact w4.fh b u hb
        ·show upd e4.H a _ b≠none/\∀xs,upd e4.H a _ b≠some (.tup xs)
         rw[aB (fun z=>z3 (by rw[<-z];exact hb))];exact w4.ah b hb
        ·show upd e4.H a _ b=some z
         rw[aB (fun y=>z3 (by rw[<-y];exact(w4.ob n b u h1 h2).1))];exact hz
        ·show upd e4.H a _ b=some u
         rw[aB (aM hb ha)];exact(x2n.trans x24).hk b u hb hn
        ·obtain⟨u',z⟩:=(x2n.trans x24).dm b u hb
         exact⟨u',by show upd e4.H a _ b=some u';rw[aB (aM hb ha)];exact z⟩
  ·have ei:i=ds.length:=by omega
   subst ei
   rw[List.drop_length] at q3
   unfold cW at q3
   cases q3
   rw[List.append_nil] at ey
   subst ey
   refine .inl ⟨⟨hz2,dl⟩,?_⟩
   exact fin a vs e2 x2 w2 ha2 hF2 hA2 ha iy
end
section
variable {X:Cx} {C:Cl} {tg iter elt:Expr} {ifs:List Expr} {scope:Scope} {pos:Pos} {N:List Str} {μ:List (Option Nat)} {f:Den} {β:cP} {p:bR} {g:Den}
theorem Ds(hc:X.calm=true)(ok:CompOk X N scope μ)(hi:PD X C iter f)
  (hg:∀fp A s H,PDG (cz X N scope (clos X.env.cells scope.names []) A fp s H) C tg β) (ht:∀fp A s H,vg (cz X N scope (clos X.env.cells scope.names []) A fp s H) C ifs p) (he:∀fp A s H,PD (cz X N scope (clos X.env.cells scope.names []) A fp s H) C elt g)
  (hs:∀x,foldedSetIterable iter X.env x=pure x:=by intro _;rfl):PD X C (.ListComp elt [⟨tg,iter,ifs,0⟩] scope pos) (lH μ f β p g) :=
 bT (G_ (xn (g:=tDG X.K C β) (tt:=tDT X.K C p) (te:=tD X.K C g) hc ok.cell ok.kind ok.names ok.free ok.has ok.mu (Jx hi) hg ht he hs)) fun σ H Q hw=>by
  obtain⟨e,Ω,ρ,d,Ωf,eH,w,rl,q,kk⟩:=hw
  obtain⟨⟨d1,Ω1⟩,q1,qa⟩:=Option.bind_eq_some_iff.mp q
  obtain⟨n,q2,qb⟩:=Option.bind_eq_some_iff.mp qa
  obtain⟨o0,q3,qc⟩:=Option.bind_eq_some_iff.mp qb
  obtain⟨kv0,q4,qd⟩:=Option.bind_eq_some_iff.mp qc
  obtain⟨o,q5,qe⟩:=Option.bind_eq_some_iff.mp qd
  obtain⟨kvs,q6,qf⟩:=Option.bind_eq_some_iff.mp qe
  clear q qa qb qc qd qe
  have e2:=qH q2
  have e4:=Er q4
  have e6:=Er q6
  dsimp only at e2 q5 qf
  subst e2 e4 e6
  split at qf
  ·rename_i hbig
   obtain⟨⟨ys,Ω5⟩,q7,qg⟩:=Option.bind_eq_some_iff.mp qf
   obtain⟨Ω6,q8,qh⟩:=Option.bind_eq_some_iff.mp qg
   clear qf qg
   dsimp only at q8 qh
   cases qh
   have hn:n<e.α.length:=by rw[w.ol];exact(List.getElem?_eq_some_iff.mp q3).1
   have hα:e.α[n]? = some e.α[n]:=List.getElem?_eq_getElem hn
   generalize e.α[n]=a at hα
   obtain⟨vs0,ha0,_⟩:=(w.ob n a _ hα q3).2
   have nz:∀o u,e.H a≠some (.frz o u):=fun o u z=>by rw[ha0] at z;cases z
   refine⟨a,by rw[<-eH];exact nz,e,Ω,ρ,.obj n,Ω1,eH,w,rl,q1,fun v e' x' w' i'=>?_⟩
   rw[Is] at i'
   obtain⟨a',hα',rfl⟩:=i'
   have ea:a'=a:=by
    obtain⟨more,z⟩:=x'.al
    rw[z,List.getElem?_append_left hn,hα] at hα'
    exact(Option.some.inj hα').symm
   subst ea
   obtain⟨vs,ha,hps⟩:=(w'.ob n a' _ hα' q5).2
   refine⟨a',vs,rfl,ha,fun ob=>?_⟩
   have nz':∀o u,e'.H a'≠some (.frz o u):=fun o u z=>by rw[ha] at z;cases z
   obtain⟨wf,xf⟩:=w'.at (o':=.fzT kvs) (ho:=.frz ob (.dT vs)) hα' (fun xs z=>nomatch z) ⟨vs,ob,aK,hps⟩ nz'
   have hkeys:(kvs.map fun x=>D.tup (x.1.map ofK))=vs.map fun x=>D.tup (x.1.map ofK):=by
    have z:kvs.map (·.1)=vs.map (·.1):=hps.keys
    have z2:=congrArg (List.map fun k=>D.tup (k.map ofK)) z
    rw[List.map_map,List.map_map] at z2
    exact z2
   refine Bf (e':=e'.at a' (.frz ob (.dT vs))) (ρ:=ρ) wf ((rl.ext x').ext xf) aK hkeys (by rw[List.length_map];exact hbig) q7 fun a vs' e2 x2 w2 ha2 hF2 hA2 hn2 iy=>?_
   have hz2:e2.H a'=some (.frz ob (.dT vs)):=x2.fz _ _ _ aK
   have hα2:e2.α[n]? = some a':=by
    obtain⟨more,z⟩:=x2.al
    rw[z]
    show(e'.α++more)[n]? = some a'
    rw[List.getElem?_append_left (List.getElem?_eq_some_iff.mp hα').1];exact hα'
   refine⟨ob,.dT vs,hz2,(fun b z=>nomatch z),?_⟩
   have x3:Ext e (e2.at a' (.dT vs)):=pM (x'.trans (xf.trans x2)) hz2 nz
   have w3:=Dq (e₀:=e) w2 hα2 hz2 q8
   have nea:a≠a':=fun z=>by rw[z,hz2] at ha2;cases ha2
   have ha3:(e2.at a' (.dT vs)).H a=some (.lst vs'):=by show upd e2.H a' _ a=_;rw[aB nea];exact ha2
   have hne:e.H a=none:=by
    cases z:e.H a with
    | none=>rfl
    | some u =>
     obtain⟨u',z'⟩:=(x'.trans xf).dm a u z
     rw[hn2] at z';cases z'
   have w4:=w3.bare (a:=a) hF2 hA2
   have z:=kk (.ref a) (((e2.at a' (.dT vs)).bare a).new a (.lst vs')) ((x3.bare hne).trans (w4.new_ext (if_pos rfl))) (w4.new (if_pos rfl)) (by
    rw[Is]
    exact⟨a,vs',rfl,aK,IsL.ext (w4.new_ext (if_pos rfl)) iy⟩)
   have eq:(((e2.at a' (.dT vs)).bare a).new a (.lst vs')).H=(e2.at a' (.dT vs)).H:=Dk ha3
   exact Eq.mp (congrArg (Q (.ref a)) eq) z
  ·cases qf
end
end DL
namespace Law
open PySem DL
noncomputable def jr:bf:=cF 1 4 (aH (uZ 1 au) (aH (a_ 2 (gC (.int 1))) (aH (du (kZ (aj 0)) (aV 3) (aH (a_ 2 (gOp bV (gOp bG (gOp bG (gOp dM (aj 2) (gC (.int 6364136223846793005))) (aj 3)) (gC (.int 1442695040888963407))) (gC (.int 1000000000000000003)))) (kY 1 (aj 2)))) (aH (eQ (gT (gOp ltD (qD (gO 1)) (gC (.int 48)))) (aH (a_ 2 (gOp bV (gOp bG (gOp dM (aj 2) (gC (.int 6364136223846793005))) (gC (.int 1442695040888963407))) (gC (.int 1000000000000000003)))) (kY 1 (aj 2))) 1000) (mO (frz 1) (cg (aj 1)))))))
noncomputable def bu:bf:=cF 2 2 (cg (lE (gH "Ways" "mark_of" (aj 0)) (aj 1)))
noncomputable def dZ:bf:=cF 1 1 (cg (bD (ak (yP (gOp ixD (aj 0) (gC (.int 0)))) (ak (gOp ixD (aj 0) (gC (.int 1))) (ak (gOp ixD (aj 0) (gC (.int 2))) au)))))
noncomputable def fZ:bf:=cF 2 2 (aH (sIf (gT (gOp (eqD true) (gOp ixD (aj 0) (gC (.int 0))) (gOp ixD (aj 1) (gC (.int 0))))) (cg (gOp gtD (gOp ixD (aj 0) (gC (.int 0))) (gOp ixD (aj 1) (gC (.int 0))))) bc) (cg (gOp ltD (gOp ixD (aj 0) (gC (.int 1))) (gOp ixD (aj 1) (gC (.int 1))))))
noncomputable def iH:bf:=cF 3 3 (aH (sIf (gT (gOp (isD false) (aj 2) (gC .non))) (cg (gC (.bl false))) bc) (cg (yN (gOp (isD false) (aj 0) (gC .non)) (aL fZ (ak (bD (ak (aj 1) (ak (aj 2) au))) (ak (aj 0) au))))))
noncomputable def bF:bf:=cF 2 6 (aH (a_ 2 (bI "Ways" "mark" bu [] (aj 0) (ak (aj 1) au))) (aH (uZ 3 au) (aH (qF (gH "Ways" "tellings_by" (aj 0)) (aV 4) (aH (a_ 5 (lE (aJ (gH "Ways" "tellings_by" (aj 0)) (aj 4)) (aj 1))) (sIf (dN (gT (gOp (isD true) (aj 5) (gC .non))) (gT (aL iH (ak (aj 2) (ak (gOp ixD (aj 5) (gC (.int 0))) (ak (gOp ixD (aj 5) (gC (.int 1))) au)))))) (kY 3 (bD (ak (gOp ixD (aj 5) (gC (.int 0))) (ak (gOp bG (gOp ixD (aj 5) (gC (.int 1))) (aJ (gH "Ways" "length_by" (aj 0)) (aj 4))) (ak (aj 4) au))))) bc))) (mO (frz 3) (cg (uG dZ (aj 3)))))))
noncomputable def bJ:bf:=cF 2 4 (aH (sIf (gT (gOp (eqD false) (aj 1) (gC (.int 0)))) (cg (bD (ak (aJ (aj 0) (gC (.str "raised"))) (ak (gC (.int 0)) au)))) bc) (aH (a_ 2 (bI "Ways" "mark" bu [] (gOp ixD (aJ (aj 0) (gC (.str "ways"))) (aj 1)) (ak (gC (.int 0)) au))) (aH (sIf (gT (gOp (isD false) (aj 2) (gC .non))) (cg (gC .non)) bc) (aH (a_ 3 (bI "Ways" "way" bF [] (gOp ixD (aJ (aj 0) (gC (.str "ways"))) (aj 1)) (ak (gC (.int 0)) au))) (aH (sIf (gT (gOp (isD false) (aj 3) (gC .non))) (cg (bD (ak (gOp ixD (aj 2) (gC (.int 0))) (ak (gC .non) au)))) bc) (cg (bD (ak (gOp ixD (aj 2) (gC (.int 0))) (ak (gOp ixD (aj 3) (gC (.int 1))) au)))))))))
noncomputable def bY:bf:=cF 2 2 (sIf (gT (gG true (aj 1) (gH "Ways" "length_by" (aj 0)))) p_ bc)
noncomputable def iW:bf:=cF 3 3 (aH (sIf (pG (gT (gOp (isD false) (aj 0) (gC .non))) (gT (gOp gtD (aj 1) (gOp ixD (aj 0) (gC (.int 0)))))) (cg (bD (ak (aj 1) (ak (aj 2) au)))) bc) (cg (bD (ak (aj 1) (ak (gCB uD (ak (gOp ixD (aj 0) (gC (.int 1))) (ak (aj 2) au))) au)))))
noncomputable def fu:bf:=cF 5 6 (aH (bw (bI "Ways" "need_tie" bY [] (aj 0) (ak (aj 1) au))) (aH (eF (aJ (gH "Ways" "tellings_by" (aj 0)) (aj 1)) (aj 2) (bD (ak (aj 3) (ak (aj 4) au)))) (aH (a_ 5 (bI "Ways" "way" bF [] (aj 0) (ak (aj 2) au))) (sIf (gT (gOp (isD true) (aj 5) (gC .non))) (eF (gH "Ways" "mark_of" (aj 0)) (aj 2) (aL iW (ak (bI "Ways" "mark" bu [] (aj 0) (ak (aj 2) au)) (ak (gOp ixD (aj 5) (gC (.int 0))) (ak (gOp ixD (aj 5) (gC (.int 1))) au))))) bc))))
noncomputable def cR:bf:=cF 3 5 (aH (a_ 3 (aL bJ (ak (aj 0) (ak (aj 1) au)))) (du (kZ (aj 2)) (aV 4) (sIf (gT (gOp (isD true) (aj 3) (gC .non))) (uH (aJ (aJ (aj 0) (gC (.str "notes"))) (bD (ak (aj 1) (ak (aj 4) au)))) (aj 3)) bc)))
noncomputable def cI:bf:=cF 2 2 (cg (ji [none,some 1,some 0] (dg fX (ak (aJ (aj 0) (gC (.str "count"))) au)) (aV 0) (gT (gG false (bD (ak (aj 1) (ak (aj 0) au))) (aJ (aj 2) (gC (.str "notes"))))) (aj 0)))
noncomputable def dz:bf:=cF 3 3 (sIf (dN (gT (gOp gtD (aj 1) (gC (.int 0)))) (gT (gOp (eqD true) (aL bJ (ak (aj 0) (ak (aj 1) au))) (aj 2)))) (bw (aL cR (ak (aj 0) (ak (aj 1) (ak (aL cI (ak (aj 0) (ak (aj 1) au))) au))))) bc)
noncomputable def dO:bf:=cF 2 7 (aH (a_ 2 (nC (lH [none,some 0] (aJ (aj 0) (gC (.str "notes"))) (aV 0) (gT (vO true (aJ (aJ (aj 1) (gC (.str "notes"))) (aj 0)) (fj au))) (aj 0)))) (aH (sIf (gT (gOp (eqD false) (aj 2) (fj au))) (cg (gC .non)) bc) (aH (u_ (lZ [3,4]) (gOp ixD (aj 2) (gOp bV (aj 1) (gCB rH (ak (aj 2) au))))) (aH (a_ 5 (uI (aJ (aJ (aj 0) (gC (.str "notes"))) (bD (ak (aj 3) (ak (aj 4) au)))) (gC (.int 0)))) (sIf (gT (gOp gtD (aj 4) (gC (.int 0)))) (aH (a_ 6 (aL bJ (ak (aj 0) (ak (aj 4) au)))) (aH (bw (bI "Ways" "hear" fu [] (gOp ixD (aJ (aj 0) (gC (.str "ways"))) (aj 4)) (ak (aj 3) (ak (gC (.int 0)) (ak (gOp ixD (aj 5) (gC (.int 0))) (ak (gOp ixD (aj 5) (gC (.int 1))) au)))))) (bw (aL dz (ak (aj 0) (ak (aj 4) (ak (aj 6) au))))))) bc)))))
noncomputable def gb:bf:=cF 3 3 (aH (sIf (gT (gG false (aj 1) (gH "Ways" "length_by" (aj 0)))) p_ bc) (aH (eF (gH "Ways" "length_by" (aj 0)) (aj 1) (aj 2)) (eF (gH "Ways" "tellings_by" (aj 0)) (aj 1) iV)))
noncomputable def gf:bf:=cF 4 6 (aH (du (kZ (fj (ak (bD (ak (aj 1) (ak (aj 2) au))) (ak (bD (ak (aj 2) (ak (aj 1) au))) au)))) (lZ [4,5]) (aH (eF (aJ (aj 0) (gC (.str "notes"))) (bD (ak (aj 4) (ak (aj 5) au))) (qI au)) (sIf (gT (gOp gtD (aj 4) (gC (.int 0)))) (bw (bI "Ways" "tie" gb [] (gOp ixD (aJ (aj 0) (gC (.str "ways"))) (aj 4)) (ak (aj 5) (ak (aj 3) au)))) bc))) (du (kZ (fj (ak (bD (ak (aj 1) (ak (aj 2) au))) (ak (bD (ak (aj 2) (ak (aj 1) au))) au)))) (lZ [4,5]) (bw (aL cR (ak (aj 0) (ak (aj 4) (ak (fj (ak (aj 5) au)) au)))))))
noncomputable def aY:bf:=cF 2 3 (aH (a_ 2 (gOp bV (gOp bG (gOp bG (aj 0) (gOp dM (gC (.int 104729)) (aj 1))) (gOp dM (gOp dM (gC (.int 7919)) (aj 1)) (aj 1))) (gC (.int 998244353)))) (cg (gOp bV (gOp dM (gOp bV (gOp dM (aj 2) (aj 2)) (gC (.int 998244353))) (gC (.int 1000003))) (gC (.int 998244353)))))
noncomputable def iI:bf:=cF 2 5 (aH (du (dg fX (ak (aJ (aj 0) (gC (.str "count"))) au)) (aV 2) (du (dg jO (ak (gOp bG (aj 2) (gC (.int 1))) (ak (aJ (aj 0) (gC (.str "count"))) au))) (aV 3) (bw (aL gf (ak (aj 0) (ak (aj 2) (ak (aj 3) (ak (gOp bG (gC (.int 1)) (gOp bV (aL aY (ak (aj 1) (ak (gOp bG (gOp bG (gC (.int 40)) (gOp dM (gC (.int 6)) (aj 2))) (aj 3)) au))) (gC (.int 30)))) au)))))))) (du (dg fX (ak (gC (.int 60)) au)) (aV 4) (bw (aL dO (ak (aj 0) (ak (aL aY (ak (aj 1) (ak (gOp bG (gC (.int 100)) (aj 4)) au))) au))))))
noncomputable def dC:bf:=cF 2 2 (aH (sIf (gT (gOp ltD (aj 1) (gCB rH (ak (aj 0) au)))) (cg (gOp ixD (aj 0) (aj 1))) bc) (cg (gOp dM (gOp dM (gOp bG (aj 1) (gC (.int 3))) (gOp bG (aj 1) (gC (.int 7)))) (gC (.int 7919)))))
noncomputable def bZ:bf:=cF 1 1 (aH (jD "Ways" "length_by" (aj 0) iV) (aH (jD "Ways" "tellings_by" (aj 0) iV) (jD "Ways" "mark_of" (aj 0) iV)))
noncomputable def dD:bf:=cF 2 2 (aH (bw (bI "Ways" "need_tie" bY [] (aj 0) (ak (aj 1) au))) (aH (bw (km (gH "Ways" "length_by" (aj 0)) (aj 1))) (bw (km (gH "Ways" "tellings_by" (aj 0)) (aj 1)))))
noncomputable def iw:bf:=cF 3 6 (du (kZ (fj (ak (bD (ak (aj 1) (ak (aj 2) au))) (ak (bD (ak (aj 2) (ak (aj 1) au))) au)))) (lZ [3,4]) (aH (bw (km (aJ (aj 0) (gC (.str "notes"))) (bD (ak (aj 3) (ak (aj 4) au))))) (aH (a_ 5 (aL bJ (ak (aj 0) (ak (aj 3) au)))) (aH (sIf (gT (gOp gtD (aj 3) (gC (.int 0)))) (bw (bI "Ways" "untie" dD [] (gOp ixD (aJ (aj 0) (gC (.str "ways"))) (aj 3)) (ak (aj 4) au))) bc) (bw (aL dz (ak (aj 0) (ak (aj 3) (ak (aj 5) au)))))))))
noncomputable def h_:bf:=cF 1 4 (aH (du (dg jO (ak (gC (.int 1)) (ak (aJ (aj 0) (gC (.str "count"))) au))) (aV 1) (aH (a_ 2 (bI "Ways" "way" bF [] (gOp ixD (aJ (aj 0) (gC (.str "ways"))) (aj 1)) (ak (gC (.int 0)) au))) (sIf (gT (gOp (isD true) (aj 2) (gC .non))) (aH (a_ 3 (bI "Ways" "mark" bu [] (gOp ixD (aJ (aj 0) (gC (.str "ways"))) (aj 1)) (ak (gC (.int 0)) au))) (aH (sIf (dN (gT (gOp (eqD false) (gOp ixD (aj 2) (gC (.int 2))) (gC (.int 0)))) (gT (gOp gtD (gOp ixD (aj 3) (gC (.int 0))) (aJ (aj 0) (gC (.str "raised")))))) (cg (gC (.bl false))) bc) (sIf (dN (gT (gOp gtD (gOp ixD (aj 2) (gC (.int 2))) (gC (.int 0)))) (jA (gT (aL fZ (ak (bI "Ways" "mark" bu [] (gOp ixD (aJ (aj 0) (gC (.str "ways"))) (gOp ixD (aj 2) (gC (.int 2)))) (ak (gC (.int 0)) au)) (ak (aj 3) au)))))) (cg (gC (.bl false))) bc))) bc))) (cg (gC (.bl true))))
noncomputable def gF:bf:=cF 1 5 (aH (du (dg jO (ak (gC (.int 1)) (ak (aJ (aj 0) (gC (.str "count"))) au))) (aV 1) (aH (a_ 2 iV) (aH (a_ 3 (aj 1)) (eQ (gT (gOp gtD (aj 3) (gC (.int 0)))) (aH (sIf (gT (gG false (aj 3) (aj 2))) (cg (gC (.bl false))) bc) (aH (eF (aj 2) (aj 3) (gC (.bl true))) (aH (a_ 4 (bI "Ways" "way" bF [] (gOp ixD (aJ (aj 0) (gC (.str "ways"))) (aj 3)) (ak (gC (.int 0)) au))) (aH (sIf (gT (gOp (isD false) (aj 4) (gC .non))) za bc) (a_ 3 (gOp ixD (aj 4) (gC (.int 2)))))))) 1000)))) (cg (gC (.bl true))))
noncomputable def oU:bf:=cF 1 11 (aH (a_ 1 (aL jr (ak (aj 0) au))) (aH (a_ 2 (gOp bG (gC (.int 3)) (gOp bV (aL dC (ak (aj 1) (ak (gC (.int 0)) au))) (gC (.int 4))))) (aH (a_ 3 (qG [("count",(aj 2)),("raised",(gC (.int 1))),("notes",uF),("ways",(ji [none] (dg fX (ak (aj 2) au)) (aV 0) oH (jE "Ways" bZ [] au)))])) (aH (a_ 4 (gOp bV (gOp yM (aL dC (ak (aj 1) (ak (gC (.int 0)) au))) (gC (.int 120))) (gC (.int 2)))) (aH (sIf (gT (gOp (eqD false) (aj 4) (gC (.int 1)))) (bw (aL iI (ak (aj 3) (ak (gOp ixD (aj 1) (gC (.int 40))) au)))) bc) (aH (du (dg jO (ak (gC (.int 1)) (ak (gOp bG (gC (.int 10)) (gOp bV (gOp yM (aL dC (ak (aj 1) (ak (gC (.int 0)) au))) (gC (.int 4))) (gC (.int 30)))) au))) (aV 5) (aH (a_ 6 (gOp ixD (aj 1) (aj 5))) (aH (a_ 7 (gOp bV (aL aY (ak (aj 6) (ak (gC (.int 1)) au))) (aj 2))) (aH (a_ 8 (gOp bV (gOp bG (gOp bG (aj 7) (gC (.int 1))) (gOp bV (aL aY (ak (aj 6) (ak (gC (.int 2)) au))) (gOp CG (aj 2) (gC (.int 1))))) (aj 2))) (aH (a_ 9 (gOp ixD (fj (ak (gOp bV (aL aY (ak (aj 6) (ak (gC (.int 3)) au))) (gC (.int 9))) (ak (gOp ixD (fj (ak (gC (.int 2)) (ak (gC (.int 2)) (ak (gC (.int 2)) (ak (gC (.int 2)) (ak (gC (.int 4)) (ak (gC (.int 5)) (ak (gC (.int 6)) (ak (gC (.int 7)) (ak (gC (.int 8)) au)))))))))) (gOp bV (aL aY (ak (aj 6) (ak (gC (.int 3)) au))) (gC (.int 9)))) au))) (aj 4))) (aH (sIf (dN (gT (gOp ltD (aj 9) (gC (.int 2)))) (gT (gG true (bD (ak (aj 7) (ak (aj 8) au))) (aJ (aj 3) (gC (.str "notes")))))) (bw (aL gf (ak (aj 3) (ak (aj 7) (ak (aj 8) (ak (gOp bG (gC (.int 1)) (gOp bV (aL aY (ak (aj 6) (ak (gC (.int 4)) au))) (gC (.int 9)))) au)))))) (sIf (dN (gT (gOp (eqD false) (aj 9) (gC (.int 2)))) (dN (gT (gG false (bD (ak (aj 7) (ak (aj 8) au))) (aJ (aj 3) (gC (.str "notes"))))) (gT (gOp (eqD false) (gOp bV (aL aY (ak (aj 6) (ak (gC (.int 4)) au))) (gC (.int 2))) (gC (.int 0)))))) (bw (aL iw (ak (aj 3) (ak (aj 7) (ak (aj 8) au))))) (sIf (gT (gOp (eqD false) (aj 9) (gC (.int 3)))) (aH (eF (aj 3) (gC (.str "raised")) (gOp bG (aJ (aj 3) (gC (.str "raised"))) (gC (.int 1)))) (bw (aL cR (ak (aj 3) (ak (gC (.int 0)) (ak (aL cI (ak (aj 3) (ak (gC (.int 0)) au))) au)))))) (du (dg fX (ak (gOp bG (gC (.int 1)) (gOp bV (aL aY (ak (aj 6) (ak (gC (.int 5)) au))) (gC (.int 3)))) au)) (aV 10) (bw (aL dO (ak (aj 3) (ak (aL aY (ak (aj 6) (ak (gOp bG (gC (.int 6)) (aj 10)) au))) au)))))))) (sIf (pG (jA (gT (aL h_ (ak (aj 3) au)))) (jA (gT (aL gF (ak (aj 3) au))))) (cg (gC (.bl false))) bc))))))) (cg (gC (.bl true)))))))))
end Law
namespace Law
open PySem DL
section
variable {κ κ' β:Type} [DecidableEq κ] [DecidableEq κ']
noncomputable def aF(xs:List (κ×β))(k:κ):Option β:=(xs.find? fun r=>decide (r.1=k)).map (·.2)
noncomputable def aX(xs:List (κ×β))(k:κ)(v:β):List (κ×β):=if(xs.any fun r=>decide (r.1=k))=true then xs.map (fun r=>if r.1=k then(r.1,v) else r) else xs++[(k,v)]
noncomputable def cJ(xs:List (κ×β))(k:κ):List (κ×β):=xs.filter fun r=>decide (r.1≠k)
noncomputable def mpA(e:κ->κ')(f:β->D)(xs:List (κ×β)):List (κ'×D):=xs.map fun r=>(e r.1,f r.2)
theorem cZ(r:κ×β)(xs:List (κ×β))(k:κ):aF (r::xs) k=if r.1=k then some r.2 else aF xs k:=by
 unfold aF
 rw[List.find?_cons]
 by_cases h:r.1=k
 ·simp[h]
 ·simp[h]
theorem iY{e:κ->κ'}(he:∀a b,e a=e b↔a=b)(f:β->D)(k:κ):∀xs:List (κ×β),cC (mpA e f xs) (e k)=(aF xs k).map f
 | []=>rfl
 | r::xs=>by
  have ih:=iY he f k xs
  rw[cZ]
  unfold cC mpA at ih ⊢
  rw[List.map_cons,List.find?_cons]
  by_cases h:r.1=k
  ·simp[h]
  ·have h':¬e r.1=e k:=fun z=>h ((he _ _).mp z)
   simpa [h,h'] using ih
theorem Bg{e:κ->κ'}(he:∀a b,e a=e b↔a=b)(f:β->D)(k:κ):∀xs:List (κ×β),((mpA e f xs).any fun kv=>decide (kv.1=e k))=xs.any fun r=>decide (r.1=k)
 | []=>rfl
 | r::xs=>by
  have ih:=Bg he f k xs
  unfold mpA at ih ⊢
  rw[List.map_cons,List.any_cons,List.any_cons,ih]
  congr 1
  exact decide_eq_decide.mpr (he _ _)
theorem lJ{e:κ->κ'}(he:∀a b,e a=e b↔a=b)(f:β->D)(xs:List (κ×β))(k:κ)(v:β):putD (mpA e f xs) (e k) (f v)=mpA e f (aX xs k v):=by
 unfold putD aX
 rw[Bg he]
 split
 ·unfold mpA
  rw[List.map_map,List.map_map]
  apply List.map_congr_left
  intro r _
  show(if e r.1=e k then(e r.1,f v) else(e r.1,f r.2))=_
  by_cases h:r.1=k
  ·rw[if_pos (by rw[h])];simp[h]
  ·rw[if_neg (fun z=>h ((he _ _).mp z))];simp[h]
 ·simp[mpA]
theorem sE{e:κ->κ'}(he:∀a b,e a=e b↔a=b)(f:β->D)(xs:List (κ×β))(k:κ):ie (mpA e f xs) (e k)=mpA e f (cJ xs k):=by
 unfold ie cJ mpA
 rw[List.filter_map]
 congr 1
 apply List.filter_congr
 intro r _
 exact decide_eq_decide.mpr (not_congr (he _ _))
@[simp] theorem mC(e:κ->κ')(f:β->D)(xs:List (κ×β)):(mpA e f xs).length=xs.length:=by simp[mpA]
theorem jg{xs:List (κ×β)}{k:κ}{v:β}(h:aF xs k=some v):(k,v)∈xs:=by
 induction xs with
 | nil=>cases h
 | cons r xs ih =>
  rw[cZ] at h
  split at h
  ·rename_i e
   cases h
   rw[<-e];exact List.mem_cons_self
  ·exact List.mem_cons_of_mem _ (ih h)
theorem dR{xs:List (κ×β)}{k:κ}:aF xs k=none↔k∉xs.map (·.1):=by
 induction xs with
 | nil=>simp[aF]
 | cons r xs ih =>
  rw[cZ,List.map_cons,List.mem_cons,not_or,<-ih]
  by_cases h:r.1=k
  ·rw[if_pos h];simp[h]
  ·rw[if_neg h]
   exact⟨fun z=>⟨fun y=>h y.symm,z⟩,fun z=>z.2⟩
theorem lK{xs:List (κ×β)}{k:κ}{v:β}(hn:(xs.map (·.1)).Nodup)(h:(k,v)∈xs):aF xs k=some v:=by
 induction xs with
 | nil=>cases h
 | cons r xs ih =>
  rw[List.map_cons,List.nodup_cons] at hn
  rw[cZ]
  rcases List.mem_cons.mp h with rfl |h
  ·rw[if_pos rfl]
  ·rw[if_neg (fun z=>hn.1 (by rw[z];exact List.mem_map.mpr ⟨_,h,rfl⟩)),ih hn.2 h]
theorem lL{xs:List (κ×β)}{k:κ}:(xs.any fun r=>decide (r.1=k))=true↔k∈xs.map (·.1):=by
 rw[List.any_eq_true]
 constructor
 ·rintro⟨r,h1,h2⟩
  exact List.mem_map.mpr ⟨r,h1,by simpa using h2⟩
 ·intro h
  obtain⟨r,h1,h2⟩:=List.mem_map.mp h
  exact⟨r,h1,by simpa using h2⟩
theorem vP(xs:List (κ×β))(k k':κ)(v:β):aF (xs.map fun r=>if r.1=k then(r.1,v) else r) k'=if k'=k then(aF xs k).map fun _=>v else aF xs k':=by
 induction xs with
 | nil=>simp[aF]
 | cons r xs ih =>
  rw[List.map_cons,cZ,ih,cZ,cZ]
  by_cases h:r.1=k
  ·by_cases h2:k'=k
   ·subst h2;simp[h]
   ·have h3:¬r.1=k':=fun z=>h2 (by rw[<-z,h])
    have h4:¬k=k':=fun z=>h2 z.symm
    simp[h,h2,h4]
  ·by_cases h2:k'=k
   ·subst h2;simp[h]
   ·simp[h,h2]
theorem Dt(xs ys:List (κ×β))(k:κ):aF (xs++ys) k=match aF xs k with |some v=>some v |none=>aF ys k:=by
 induction xs with
 | nil=>rfl
 | cons r xs ih =>
  rw[List.cons_append,cZ,cZ,ih]
  by_cases h:r.1=k
  ·simp[h]
  ·simp[h]
theorem iz(xs:List (κ×β))(k k':κ)(v:β):aF (aX xs k v) k'=if k'=k then some v else aF xs k':=by
 unfold aX
 split
 ·rename_i h
  rw[vP]
  by_cases h2:k'=k
  ·rw[if_pos h2,if_pos h2]
   have:=lL.mp h
   cases q:aF xs k with
   | none=>exact absurd this (dR.mp q)
   | some w=>rfl
  ·rw[if_neg h2,if_neg h2]
 ·rename_i h
  have hn:k∉xs.map (·.1):=fun z=>h (lL.mpr z)
  rw[Dt,cZ]
  by_cases h2:k'=k
  ·subst h2
   rw[dR.mpr hn];simp
  ·have h3:¬k=k':=fun z=>h2 z.symm
   rw[if_neg h2]
   show(match aF xs k' with |some v=>some v |none=>if k=k' then some v else aF [] k')=_
   rw[if_neg h3]
   cases aF xs k'<;>rfl
theorem Du(xs:List (κ×β))(k k':κ):aF (cJ xs k) k'=if k'=k then none else aF xs k':=by
 induction xs with
 | nil=>simp[cJ,aF]
 | cons r xs ih =>
  unfold cJ at ih ⊢
  rw[List.filter_cons,cZ]
  by_cases h:r.1=k
  ·simp only[h,ne_eq,not_true,decide_false,Bool.false_eq_true,if_false,ih]
   by_cases h2:k'=k
   ·simp[h2]
   ·have h3:¬k=k':=fun z=>h2 z.symm
    simp[h2,h3]
  ·simp only[h,ne_eq,not_false_eq_true,decide_true,if_true,cZ,ih]
   by_cases h2:k'=k
   ·subst h2;simp[h]
   ·simp[h2]
theorem nH(xs:List (κ×β))(k:κ)(v:β):(aX xs k v).map (·.1)=if k∈xs.map (·.1) then xs.map (·.1) else xs.map (·.1)++[k]:=by
 unfold aX
 by_cases h:k∈xs.map (·.1)
 ·rw[if_pos (lL.mpr h),if_pos h,List.map_map]
  apply List.map_congr_left
  intro r _
  show(if r.1=k then(r.1,v) else r).1=r.1
  split<;>rfl
 ·rw[if_neg (fun z=>h (lL.mp z)),if_neg h];simp
theorem qJ{xs:List (κ×β)}(h:(xs.map (·.1)).Nodup)(k:κ)(v:β):((aX xs k v).map (·.1)).Nodup:=by
 rw[nH]
 split
 ·exact h
 ·rename_i hn
  rw[List.nodup_append]
  refine⟨h,by simp,fun a ha b hb z=>hn ?_⟩
  rw[List.mem_singleton] at hb
  rw[<-hb,<-z];exact ha
theorem kE(xs:List (κ×β))(k:κ):(cJ xs k).map (·.1)=(xs.map (·.1)).filter fun x=>decide (x≠k):=by
 unfold cJ
 rw[List.filter_map];rfl
theorem qK{xs:List (κ×β)}(h:(xs.map (·.1)).Nodup)(k:κ):((cJ xs k).map (·.1)).Nodup:=by
 rw[kE];exact h.filter _
theorem pN(xs:List (κ×β))(k:κ)(v:β):(aX xs k v).length<=xs.length+1:=by
 unfold aX
 split<;>simp
theorem vQ(xs:List (κ×β))(k:κ):(cJ xs k).length<=xs.length:=List.length_filter_le _ _
theorem iC{xs:List (κ×β)}{k:κ}(h:k∉xs.map (·.1))(v:β):aX xs k v=xs++[(k,v)]:=if_neg fun z=>h (lL.mp z)
end
end Law
namespace Law
open PySem DL
@[simp] theorem Ng{β:Type}(a:β)(l:List β):L2.atI (a::l) 0=some a:=by
 have:=fY (a::l) 0 (by simp)
 simpa using this
@[simp] theorem Nh{β:Type}(a b:β)(l:List β):L2.atI (a::b::l) 1=some b:=by
 have:=fY (a::b::l) 1 (by simp)
 simpa using this
noncomputable def Cel(x:Int):Prop:=0<=x/\x<1000000000000000003
@[simp] theorem Mr(gl:bz)(ρ:List Sl)(Ω:List OS):qD gl ρ Ω=match gl ρ Ω with |some (ds,Ω1)=>some (.int ds.length,Ω1) |none=>none:=(rfl)
@[simp] theorem Nm(i:Nat)(ρ:List Sl)(Ω:List OS):gO i ρ Ω=match ρ[i]? with |some (.own ds)=>some (ds,Ω) |_=>none:=(rfl)
theorem Jy(a:Int):dM (.int a) (.int 6364136223846793005)=some (.int (a*6364136223846793005)):=iD (.inr ⟨by decide,by decide⟩)
theorem Jz(X0:Sl)(Ω:List OS):∀(ns:List Int) (fs:List Int) (m:Int) (x:Sl),fs.length+ns.length<=63->(∀x∈fs,Cel x)->∃(gs:List Int) (m':Int) (y:Sl),gs.length=fs.length+ns.length/\(∀x∈gs,Cel x) /\
  cV (aV 3) (aH (a_ 2 (gOp bV (gOp bG (gOp bG (gOp dM (aj 2) (gC (.int 6364136223846793005))) (aj 3)) (gC (.int 1442695040888963407))) (gC (.int 1000000000000000003)))) (kY 1 (aj 2))) (ns.map D.int) [X0,.own (fs.map D.int),.dat (.int m),x] Ω
   = some (.nx [X0,.own (gs.map D.int),.dat (.int m'),y] Ω)
 | [],fs,m,x,_,h=>⟨fs,m,x,by simp,h,rfl⟩
 | n::ns,fs,m,x,hl,h=>by
  rw[List.length_cons] at hl
  have b0:0<=(m*6364136223846793005+n+1442695040888963407)%1000000000000000003:=Int.emod_nonneg _ (by decide)
  have b1:(m*6364136223846793005+n+1442695040888963407)%1000000000000000003<1000000000000000003:=Int.emod_lt_of_pos _ (by decide)
  obtain⟨gs,m',y,h1,h2,h3⟩:=Jz X0 Ω ns (fs++[(m*6364136223846793005+n+1442695040888963407)%1000000000000000003]) ((m*6364136223846793005+n+1442695040888963407)%1000000000000000003) (.dat (.int n)) (by simp;omega) (by
   intro x hx
   rcases List.mem_append.mp hx with z |z
   ·exact h x z
   ·rw[List.mem_singleton.mp z];exact⟨b0,b1⟩)
  refine⟨gs,m',y,by simp at h1 ⊢;omega,h2,?_⟩
  have hb:fs.length<100000:=by omega
  rw[<-h3,List.map_cons,cG]
  simp[Jy,hb]
theorem JB(X0:Sl)(Ω:List OS):∀(k:Nat) (fs:List Int) (m:Int) (x:Sl) (n:Nat),fs.length+k=48\/(48<=fs.length/\k=0)->fs.length<=63->k<n->(∀x∈fs,Cel x)->∃(gs:List Int) (m':Int),48<=gs.length/\gs.length<=63/\(∀x∈gs,Cel x) /\
  eQ (gT (gOp ltD (qD (gO 1)) (gC (.int 48)))) (aH (a_ 2 (gOp bV (gOp bG (gOp dM (aj 2) (gC (.int 6364136223846793005))) (gC (.int 1442695040888963407))) (gC (.int 1000000000000000003)))) (kY 1 (aj 2))) n [X0,.own (fs.map D.int),.dat (.int m),x] Ω
   = some (.nx [X0,.own (gs.map D.int),.dat (.int m'),x] Ω)
 | 0,fs,m,x,n,hk,hl,hn,h=>by
  obtain⟨n,rfl⟩:∃j,n=j+1:=⟨n-1,by omega⟩
  have h48:¬((fs.length:Int)<48):=by omega
  refine⟨fs,m,by omega,hl,h,?_⟩
  rw[kj]
  simp[h48]
 | k+1,fs,m,x,n,hk,hl,hn,h=>by
  obtain⟨n,rfl⟩:∃j,n=j+1:=⟨n-1,by omega⟩
  have b0:0<=(m*6364136223846793005+1442695040888963407)%1000000000000000003:=Int.emod_nonneg _ (by decide)
  have b1:(m*6364136223846793005+1442695040888963407)%1000000000000000003<1000000000000000003:=Int.emod_lt_of_pos _ (by decide)
  obtain⟨gs,m',h1,h2,h3,h4⟩:=JB X0 Ω k (fs++[(m*6364136223846793005+1442695040888963407)%1000000000000000003]) ((m*6364136223846793005+1442695040888963407)%1000000000000000003) x n (by simp;omega) (by simp;omega) (by omega) (by
   intro x hx
   rcases List.mem_append.mp hx with z |z
   ·exact h x z
   ·rw[List.mem_singleton.mp z];exact⟨b0,b1⟩)
  refine⟨gs,m',h1,h2,h3,?_⟩
  have h48:((fs.length:Int)<48):=by omega
  have hb:fs.length<100000:=by omega
  rw[<-h4,kj]
  simp[h48,hb,Jy]
theorem Bh{ns:List Int}(hn:ns.length<=63)(Ω:List OS):∃xs:List Int,48<=xs.length/\xs.length<=63/\(∀x∈xs,Cel x)/\jr [.scr ns] Ω=some (.lst (xs.map D.int),Ω):=by
 obtain⟨gs,m,y,h1,h2,h3⟩:=Jz (.dat (.scr ns)) Ω ns [] 1 .und (by simpa using hn) (fun x hx=>absurd hx List.not_mem_nil)
 rw[List.length_nil,Nat.zero_add] at h1
 obtain⟨xs,m',g1,g2,g3,g4⟩:=JB (.dat (.scr ns)) Ω (48-gs.length) gs m y 1000 (by omega) (by omega) (by omega) h2
 refine⟨xs,g1,g2,g3,cN rfl ?_⟩
 refine(aN (ρ':=[.dat (.scr ns),.own [],.und,.und]) (Ω':=Ω) (by simp)).trans ?_
 refine(aN (ρ':=[.dat (.scr ns),.own [],.dat (.int 1),.und]) (Ω':=Ω) (by simp)).trans ?_
 refine(aN (ρ':=[.dat (.scr ns),.own (gs.map D.int),.dat (.int m),y]) (Ω':=Ω) ?_).trans ?_
 ·simp only[gr,Jk,jQ,List.getElem?_cons_zero,Gj]
  exact h3
 refine(aN g4).trans ?_
 simp[frz]
theorem Dv{xs:List Int}{k:Nat}(hk:k<xs.length)(Ω:List OS):dC [.lst (xs.map D.int),.int k] Ω=some (.int xs[k],Ω):=by
 have h1:(k:Int)<(xs.length:Int):=by omega
 have h2:L2.atI (xs.map D.int) (k:Int)=some (.int xs[k]):=by rw[rM,fY _ _ hk];rfl
 refine cN rfl (iU ?_)
 simp[h1,h2]
end Law
namespace Law
open PySem DL
section
variable {ρ:List Sl} {Ω:List OS}
@[simp] theorem LR:p_ ρ Ω=none:=(rfl)
end
end Law
namespace Law
open PySem DL
@[simp] theorem Ni{β:Type}(a b c:β)(l:List β):L2.atI (a::b::c::l) 2=some c:=by
 have:=fY (a::b::c::l) 2 (by simp)
 simpa using this
@[simp] theorem Nj{β:Type}(a b c d:β)(l:List β):L2.atI (a::b::c::d::l) 3=some d:=by
 have:=fY (a::b::c::d::l) 3 (by simp)
 simpa using this
@[simp] theorem Nk{β:Type}(a b c d e:β)(l:List β):L2.atI (a::b::c::d::e::l) 4=some e:=by
 have:=fY (a::b::c::d::e::l) 4 (by simp)
 simpa using this
@[simp] theorem L_(kvs:List (L2.Key×D))(i:Int):fH (.dK kvs) (.int i)=some (cC kvs (.inl i)):=(rfl)
@[simp] theorem Ma(kvs:List (L2.Key×D))(i:Int):fH (.fzK kvs) (.int i)=some (cC kvs (.inl i)):=(rfl)
@[simp] theorem Dw(kvs:List (L2.Key×D))(z:Str):fH (.dK kvs) (.str z)=some (cC kvs (.inr z)):=(rfl)
@[simp] theorem Ms(kvs:List (L2.Key×D))(i:Int)(v:D):mV (.dK kvs) (.int i) v=if kvs.length<100000 then some (.dK (putD kvs (.inl i) v)) else none:=(rfl)
@[simp] theorem Mu(kvs:List (L2.Key×D))(z:Str)(v:D):mV (.dK kvs) (.str z) v=if kvs.length<100000 then some (.dK (putD kvs (.inr z) v)) else none:=(rfl)
@[simp] theorem Mf(kvs:List (L2.Key×D))(i:Int):l_ (.dK kvs) (.int i)=match cC kvs (.inl i) with |some v=>some (v,.dK (ie kvs (.inl i))) |none=>none:=(rfl)
@[simp] theorem Mg(kvs:List (L2.Key×D)):jj (.dK kvs)=true:=(rfl)
@[simp] theorem Mh(kvs:List (L2.Key×D)):jj (.fzK kvs)=true:=(rfl)
noncomputable abbrev Tl:=Int×Option Int
noncomputable def faD:Option Int->D
 | none=>.non
 | some f=>.int f
noncomputable def tlD(t:Tl):D:=.tup [.int t.1,faD t.2]
noncomputable def mkD(m:Int×Int):D:=.tup [.int m.1,.int m.2]
noncomputable def mOD(m:Option (Int×Int)):D:=(m.map mkD).getD .non
noncomputable def w3(u:Int×Int×Int):D:=.tup [.int u.1,.int u.2.1,.int u.2.2]
noncomputable def iK:Int->L2.Key:=Sum.inl
noncomputable def pK(p:Int×Int):List L2.Key:=[.inl p.1,.inl p.2]
theorem gA(a b:Int):iK a=iK b↔a=b:=by simp[iK]
theorem nJ(a b:Int×Int):pK a=pK b↔a=b:=by
 obtain⟨a1,a2⟩:=a
 obtain⟨b1,b2⟩:=b
 simp[pK]
noncomputable def eN(o:Nat):List (Str×D):=[("length_by",.obj (o+1)),("tellings_by",.obj (o+2)),("mark_of",.obj (o+3))]
theorem n21:(("tellings_by":Str) == "length_by")=false:=by decide +kernel
theorem n31:(("mark_of":Str) == "length_by")=false:=by decide +kernel
theorem n32:(("mark_of":Str) == "tellings_by")=false:=by decide +kernel
theorem lk1{o:Nat}:List.lookup ("length_by":Str) (eN o)=some (.obj (o+1)):=by simp[eN,List.lookup_cons]
theorem lk2{o:Nat}:List.lookup ("tellings_by":Str) (eN o)=some (.obj (o+2)):=by simp[eN,List.lookup_cons,n21]
theorem lk3{o:Nat}:List.lookup ("mark_of":Str) (eN o)=some (.obj (o+3)):=by simp[eN,List.lookup_cons,n31,n32]
theorem lkn{o:Nat}{f:Str}(h1:(f==("length_by":Str))=false)(h2:(f==("tellings_by":Str))=false)(h3:(f==("mark_of":Str))=false):List.lookup f (eN o)=none:=by simp[eN,List.lookup_cons,h1,h2,h3]
theorem nM{o:Nat}:List.lookup ("mark":Str) (eN o)=none:=lkn (by decide +kernel) (by decide +kernel) (by decide +kernel)
theorem uJ{o:Nat}:List.lookup ("way":Str) (eN o)=none:=lkn (by decide +kernel) (by decide +kernel) (by decide +kernel)
theorem Ku{o:Nat}:List.lookup ("tie":Str) (eN o)=none:=lkn (by decide +kernel) (by decide +kernel) (by decide +kernel)
theorem Hc{o:Nat}:List.lookup ("untie":Str) (eN o)=none:=lkn (by decide +kernel) (by decide +kernel) (by decide +kernel)
theorem JC{o:Nat}:List.lookup ("hear":Str) (eN o)=none:=lkn (by decide +kernel) (by decide +kernel) (by decide +kernel)
theorem Bj{o:Nat}:List.lookup ("need_tie":Str) (eN o)=none:=lkn (by decide +kernel) (by decide +kernel) (by decide +kernel)
structure Wy(o B:Nat)(Ω:List OS)(L:List (Int×Int))(T:List (Int×Nat))(X:Int->List (Int×Tl))(M:List (Int×(Int×Int)))(b:Nat):Prop where
 o0:Ω[o]? = some (.ins "Ways" (eN o))
 o1:Ω[o+1]? = some (.dK (mpA iK D.int L))
 o2:Ω[o+2]? = some (.dK (mpA iK D.obj T))
 o3:Ω[o+3]? = some (.dK (mpA iK mkD M))
 ot:∀n i,(n,i)∈T->B<=i/\Ω[i]? = some (.dK (mpA iK tlD (X n)))
 ti:(T.map (·.2)).Nodup
 kt:T.map (·.1)=L.map (·.1)
 kn:(L.map (·.1)).Nodup
 bL:L.length<=b
 bM:M.length<=b
 bX:∀n,(X n).length<=b
 bg:B<=Ω.length
 ob:o+4<=B
theorem vL(L:List (Int×Int))(n:Int):cC (mpA iK D.int L) (.inl n)=(aF L n).map D.int:=iY gA D.int n L
theorem vT(T:List (Int×Nat))(n:Int):cC (mpA iK D.obj T) (.inl n)=(aF T n).map D.obj:=iY gA D.obj n T
theorem vM(M:List (Int×(Int×Int)))(n:Int):cC (mpA iK mkD M) (.inl n)=(aF M n).map mkD:=iY gA mkD n M
theorem vX(X:List (Int×Tl))(n:Int):cC (mpA iK tlD X) (.inl n)=(aF X n).map tlD:=iY gA tlD n X
theorem jU{o B:Nat}{Ω:List OS}{L T X M b}(h:Wy o B Ω L T X M b)(g:Int):bu [.obj o,.int g] Ω=some (mOD (aF M g),Ω):=by
 refine cN rfl ?_
 simp[h.o0,lk3,h.o3,vM,mOD]
noncomputable def bt(a b p q:Int):Bool:=decide (a>p) || (decide (a=p) && decide (b<q))
theorem qL(a b p q:Int)(Ω:List OS):fZ [.tup [.int a,.int b],.tup [.int p,.int q]] Ω=some (.bl (bt a b p q),Ω):=by
 by_cases h:a=p
 ·subst h
  refine cN rfl ((aN (ρ':=[.dat (.tup [.int a,.int b]),.dat (.tup [.int a,.int q])]) (Ω':=Ω) (by simp)).trans ?_)
  simp[bt]
 ·refine cN rfl (iU ?_)
  simp[bt,h]
noncomputable def jw(m:Option (Int×Int))(num:Int):Option Int->Bool
 | none=>false
 | some f=>match m with
  | none=>true
  | some p=>bt num f p.1 p.2
theorem Hd(m:Option (Int×Int))(num:Int)(f:Option Int)(Ω:List OS):iH [mOD m,.int num,faD f] Ω=some (.bl (jw m num f),Ω):=by
 cases f with
 | none =>
  refine cN rfl (iU ?_)
  simp[faD,isD,isNone,jw]
 | some f =>
  refine cN rfl ((aN (ρ':=[.dat (mOD m),.dat (.int num),.dat (.int f)]) (Ω':=Ω) (by simp[faD,isD,isNone])).trans ?_)
  cases m with
  | none=>simp[mOD,isD,isNone,jw]
  | some p=>simp[mOD,mkD,isD,isNone,jw,qL]
noncomputable def us(L:List (Int×Int))(X:Int->List (Int×Tl))(m:Option (Int×Int))(g n:Int):List (Int×Int×Int):=match aF (X n) g with
 | some (num,some f)=>if jw m num (some f)=true then[(num,f+(aF L n).getD 0,n)] else[]
 | _=>[]
noncomputable def pO:aO:=(aH (a_ 5 (lE (aJ (gH "Ways" "tellings_by" (aj 0)) (aj 4)) (aj 1))) (sIf (dN (gT (gOp (isD true) (aj 5) (gC .non))) (gT (aL iH (ak (aj 2) (ak (gOp ixD (aj 5) (gC (.int 0))) (ak (gOp ixD (aj 5) (gC (.int 1))) au)))))) (kY 3 (bD (ak (gOp ixD (aj 5) (gC (.int 0))) (ak (gOp bG (gOp ixD (aj 5) (gC (.int 1))) (aJ (gH "Ways" "length_by" (aj 0)) (aj 4))) (ak (aj 4) au))))) bc))
theorem Hf{g:Den}{β:cP}{s:aO}{ρ ρ':List Sl}{Ω:List OS}{n:Nat}{kvs:List (L2.Key×D)}(hg:g ρ Ω=some (.obj n,Ω))(hn:Ω[n]? = some (.dK kvs))(hl:cV β s (kvs.map fun x=>ofK x.1) ρ (Ω.set n (.fzK kvs))=some (.nx ρ' (Ω.set n (.fzK kvs)))) :
  qF g β s ρ Ω=some (.nx ρ' Ω):=by
 have hlt:n<Ω.length:=(List.getElem?_eq_some_iff.mp hn).1
 have e1:(Ω.set n (.fzK kvs))[n]? = some (.fzK kvs):=List.getElem?_set_self hlt
 have e2:(Ω.set n (.fzK kvs)).set n (.dK kvs)=Ω:=by
  rw[List.set_set]
  apply List.ext_getElem?
  intro i
  by_cases hi:n=i
  ·subst hi;rw[List.getElem?_set_self hlt,hn]
  ·rw[List.getElem?_set_ne hi]
 unfold qF
 rw[hg]
 dsimp only
 rw[hn]
 dsimp only
 rw[hl]
 unfold yV
 dsimp only
 unfold my
 rw[e1]
 dsimp only
 rw[if_pos rfl,e2]
theorem vR{o:Nat}{Ω:List OS}{L:List (Int×Int)}{T:List (Int×Nat)}{X:Int->List (Int×Tl)}(o0:Ω[o]? = some (.ins "Ways" (eN o)))(o1:Ω[o+1]? = some (.dK (mpA iK D.int L)))(o2:Ω[o+2]? = some (.fzK (mpA iK D.obj T)))
  (ot:∀n i,(n,i)∈T->Ω[i]? = some (.dK (mpA iK tlD (X n)))) (gt:∀n i,(n,i)∈T->aF T n=some i) (gl:∀n i,(n,i)∈T->∃l,aF L n=some l) (g:Int) (m:Option (Int×Int)) :
  ∀(rest:List (Int×Nat)) (acc:List (Int×Int×Int)) (x y:Sl),(∀p∈rest,p∈T)->acc.length+rest.length<=1000->∃x' y',cV (aV 4) pO (rest.map fun p=>D.int p.1) [.dat (.obj o),.dat (.int g),.dat (mOD m),.own (acc.map w3),x,y] Ω
   = some (.nx [.dat (.obj o),.dat (.int g),.dat (mOD m),.own ((acc++rest.flatMap fun p=>us L X m g p.1).map w3),x',y'] Ω)
 | [],acc,x,y,_,_=>⟨x,y,by simp⟩
 | (n,i)::rest,acc,x,y,hT,hl=>by
  have hp:=hT (n,i) List.mem_cons_self
  obtain⟨l,hL⟩:=gl n i hp
  have e1:=ot n i hp
  have e2:=gt n i hp
  rw[List.length_cons] at hl
  have st:cV (aV 4) pO (((n,i)::rest).map fun p=>D.int p.1) [.dat (.obj o),.dat (.int g),.dat (mOD m),.own (acc.map w3),x,y] Ω
    = cV (aV 4) pO (rest.map fun p=>D.int p.1) [.dat (.obj o),.dat (.int g),.dat (mOD m),.own ((acc++us L X m g n).map w3),.dat (.int n),.dat (((aF (X n) g).map tlD).getD .non)] Ω:=by
   rw[List.map_cons,cG]
   unfold us
   cases q:aF (X n) g with
   | none=>simp[pO,o0,lk2,o2,vT,e2,e1,vX,q,isD,isNone]
   | some t =>
    obtain⟨num,f⟩:=t
    have hm:=Hd m num f Ω
    cases f with
    | none =>
     have hb:jw m num none=false:=rfl
     rw[hb] at hm
     simp[pO,o0,lk2,o2,vT,e2,e1,vX,q,isD,isNone,tlD,hm]
    | some f =>
     have ef:faD (some f)=.int f:=rfl
     rw[ef] at hm
     cases hb:jw m num (some f) with
     | false =>
      rw[hb] at hm
      simp[pO,o0,lk2,o2,vT,e2,e1,vX,q,isD,isNone,tlD,hm,ef,hb]
     | true =>
      rw[hb] at hm
      have hl':acc.length<100000:=by omega
      simp[pO,o0,lk1,lk2,o1,o2,vT,vL,e2,e1,vX,q,isD,isNone,tlD,hm,ef,hb,hL,hl',w3]
  have hu:(us L X m g n).length<=1:=by
   unfold us
   split
   ·split<;>simp
   ·simp
  obtain⟨x',y',ih⟩:=vR o0 o1 o2 ot gt gl g m rest (acc++us L X m g n) (.dat (.int n)) (.dat (((aF (X n) g).map tlD).getD .non)) (fun p hp=>hT p (List.mem_cons_of_mem _ hp)) (by rw[List.length_append];omega)
  refine⟨x',y',st.trans (ih.trans ?_)⟩
  rw[List.flatMap_cons,List.append_assoc]
end Law
namespace Law
open PySem DL
theorem pP(nss:List (List Int)):∀k j:Nat,j<=k->HT.lexLt (nss.getD j []) (nss.getD (L2.mIx nss k) [])=false
 | 0,j,h=>by
  obtain rfl:j=0:=by omega
  exact L2.gQ _
 | k+1,j,h=>by
  show HT.lexLt (nss.getD j []) (nss.getD (if HT.lexLt (nss.getD (k+1) []) (nss.getD (L2.mIx nss k) []) then k+1 else L2.mIx nss k) [])=false
  cases q:HT.lexLt (nss.getD (k+1) []) (nss.getD (L2.mIx nss k) []) with
  | true =>
   simp only[if_true]
   by_cases e:j=k+1
   ·rw[e];exact L2.gQ _
   ·cases z:HT.lexLt (nss.getD j []) (nss.getD (k+1) []) with
    | false=>rfl
    | true =>
     have:=L2.jk _ _ _ z q
     rw[pP nss k j (by omega)] at this
     cases this
  | false =>
   simp only[Bool.false_eq_true,if_false]
   by_cases e:j=k+1
   ·rw[e];exact q
   ·exact pP nss k j (by omega)
noncomputable def jx(u:Int×Int×Int):List Int:=[-u.1,u.2.1,u.2.2]
noncomputable def zb(vs:List (Int×Int×Int))(u:Int×Int×Int):Prop:=u∈vs/\∀v∈vs,HT.lexLt (jx v) (jx u)=false
noncomputable def Et(vs:List (Int×Int×Int))(d:D):Prop:=(vs=[]/\d=.non)\/∃u,zb vs u/\d=w3 u
theorem Dy{vs:List (Int×Int×Int)}:Et vs (minD (vs.map jx) (vs.map w3)):=by
 cases hv:vs with
 | nil=>exact .inl ⟨rfl,rfl⟩
 | cons v0 vr =>
  rw[<-hv]
  have hpos:0<vs.length:=by rw[hv];simp
  have hm:=L2.vK (vs.map jx) (vs.length-1)
  have hlt:L2.mIx (vs.map jx) (vs.length-1)<vs.length:=by omega
  refine .inr ⟨vs[L2.mIx (vs.map jx) (vs.length-1)],⟨List.getElem_mem _,fun v hv'=>?_⟩,?_⟩
  ·obtain⟨j,hj,e⟩:=List.getElem_of_mem hv'
   have:=pP (vs.map jx) (vs.length-1) j (by omega)
   rw[L2.getD_get (by simpa using hj),L2.getD_get (by simpa using hlt),List.getElem_map,List.getElem_map,e] at this
   exact this
  ·unfold minD
   rw[List.length_map,L2.getD_get (by simpa using hlt),List.getElem_map]
theorem Bk(u:Int×Int×Int)(Ω:List OS):dZ [w3 u] Ω=some (.tup ((jx u).map D.int),Ω):=by
 refine cN rfl ?_
 simp[w3,jx]
theorem qM(Ω:List OS):∀vs:List (Int×Int×Int),cB dZ (vs.map w3) Ω=some (vs.map jx,Ω)
 | []=>rfl
 | v::vs=>by
  rw[List.map_cons,List.map_cons]
  unfold cB
  rw[Bk]
  dsimp only
  rw[show jt (.tup ((jx v).map D.int))=some (jx v) from rfl]
  dsimp only
  rw[qM Ω vs]
@[simp] theorem Mv(F:bf)(g:Den)(ρ:List Sl)(Ω:List OS):uG F g ρ Ω=match g ρ Ω with
 | some (.lst ds,Ω1)=>(match cB F ds Ω1 with
  | some (nss,Ω2)=>some (minD nss ds,Ω2)
  | none=>none)
 | _=>none:=(rfl)
noncomputable def Us(L:List (Int×Int))(X:Int->List (Int×Tl))(m:Option (Int×Int))(g:Int):List (Int×Int×Int):=(L.map (·.1)).flatMap fun n=>us L X m g n
theorem oV{o B:Nat}{Ω:List OS}{L T X M b}(h:Wy o B Ω L T X M b)(hb:b<=500)(g:Int):∃d,Et (Us L X (aF M g) g) d/\bF [.obj o,.int g] Ω=some (d,Ω):=by
 have ho:=h.ob
 have hg:=h.bg
 have hk:=jU h g
 have hl2:o+2<Ω.length:=by have:=h.bg;omega
 have hTl:T.length=L.length:=by have:=congrArg List.length h.kt;simpa using this
 obtain⟨x',y',hloop⟩:=vR (Ω:=Ω.set (o+2) (.fzK (mpA iK D.obj T))) (L:=L) (T:=T) (X:=X) (by rw[List.getElem?_set_ne (by omega)];exact h.o0) (by rw[List.getElem?_set_ne (by omega)];exact h.o1) (List.getElem?_set_self hl2)
  (fun n i hi=>by have:=h.ot n i hi;rw[List.getElem?_set_ne (by omega)];exact this.2) (fun n i hi=>lK (by rw[h.kt];exact h.kn) hi)
  (fun n i hi=>by
   have hn:n∈L.map (·.1):=by rw[<-h.kt];exact List.mem_map.mpr ⟨_,hi,rfl⟩
   cases q:aF L n with
   | none=>exact absurd hn (dR.mp q)
   | some l=>exact⟨l,rfl⟩) g (aF M g) T [] .und .und (fun p hp=>hp) (by have:=h.bL;simp;omega)
 have eU:(T.flatMap fun p=>us L X (aF M g) g p.1)=Us L X (aF M g) g:=by
  unfold Us
  rw[<-h.kt,List.flatMap_map]
 rw[List.nil_append,eU] at hloop
 have ek:(mpA iK D.obj T).map (fun x=>ofK x.1)=T.map fun p=>D.int p.1:=by
  unfold mpA
  rw[List.map_map];rfl
 refine⟨_,Dy (vs:=Us L X (aF M g) g),cN rfl ?_⟩
 refine(aN (ρ':=[.dat (.obj o),.dat (.int g),.dat (mOD (aF M g)),.und,.und,.und]) (Ω':=Ω) (by simp[h.o0,nM,hk])).trans ?_
 refine(aN (ρ':=[.dat (.obj o),.dat (.int g),.dat (mOD (aF M g)),.own [],.und,.und]) (Ω':=Ω) (by simp)).trans ?_
 refine(aN (Hf (n:=o+2) (kvs:=mpA iK D.obj T) (by simp[h.o0,lk2]) h.o2 (by rw[ek];exact hloop))).trans ?_
 simp[frz,qM]
noncomputable def bet(m:Option (Int×Int))(a l:Int):Int×Int:=match m with
 | none=>(a,l)
 | some p=>if a>p.1 then(a,l) else(a,if l<p.2 then l else p.2)
theorem vU(m:Option (Int×Int))(a l:Int)(Ω:List OS):iW [mOD m,.int a,.int l] Ω=some (mkD (bet m a l),Ω):=by
 cases m with
 | none =>
  refine cN rfl (iU ?_)
  simp[mOD,isD,isNone,bet,mkD]
 | some p =>
  by_cases hp:a>p.1
  ·refine cN rfl (iU ?_)
   simp[mOD,isD,isNone,bet,mkD,hp]
  ·have hp':¬p.1<a:=hp
   refine cN rfl ((aN (ρ':=[.dat (mOD (some p)),.dat (.int a),.dat (.int l)]) (Ω':=Ω) (by simp[mOD,isD,isNone,mkD,hp'])).trans ?_)
   simp[mOD,mkD,bet,hp']
noncomputable def upX(X:Int->List (Int×Tl))(n:Int)(xs:List (Int×Tl)):Int->List (Int×Tl):=fun k=>if k=n then xs else X k
theorem JD{T:List (Int×Nat)}(h:(T.map (·.2)).Nodup){n n':Int}{i:Nat}(h1:(n,i)∈T)(h2:(n',i)∈T):n=n':=by
 induction T with
 | nil=>cases h1
 | cons r T ih =>
  rw[List.map_cons,List.nodup_cons] at h
  rcases List.mem_cons.mp h1 with e1 |e1
  ·rcases List.mem_cons.mp h2 with e2 |e2
   ·rw[<-e1] at e2;cases e2;rfl
   ·exact absurd (List.mem_map.mpr ⟨_,e2,by rw[<-e1]⟩) h.1
  ·rcases List.mem_cons.mp h2 with e2 |e2
   ·exact absurd (List.mem_map.mpr ⟨_,e1,by rw[<-e2]⟩) h.1
   ·exact ih h.2 e1 e2
theorem qN{Ω:List OS}{i:Nat}{x y:OS}(h:Ω[i]? = some x):(Ω.set i y)[i]? = some y:=List.getElem?_set_self (List.getElem?_eq_some_iff.mp h).1
theorem Wy.set_t{o B:Nat}{Ω:List OS}{L T X M b}(h:Wy o B Ω L T X M b){n:Int}{i:Nat}(hi:(n,i)∈T)(g:Int)(t:Tl) :
  Wy o B (Ω.set i (.dK (mpA iK tlD (aX (X n) g t)))) L T (upX X n (aX (X n) g t)) M (b+1):=by
 have ho:=h.ob
 have hg:=h.bg
 have h8:=(h.ot n i hi).1
 refine⟨by rw[List.getElem?_set_ne (by omega)];exact h.o0,by rw[List.getElem?_set_ne (by omega)];exact h.o1,by rw[List.getElem?_set_ne (by omega)];exact h.o2,by rw[List.getElem?_set_ne (by omega)];exact h.o3,fun n' i' hi'=>?_,h.ti,h.kt,h.kn,Nat.le_succ_of_le h.bL,Nat.le_succ_of_le h.bM,fun k=>?_,by rw[List.length_set];exact h.bg,h.ob⟩
 ·refine⟨(h.ot n' i' hi').1,?_⟩
  by_cases e:i=i'
  ·subst e
   obtain rfl:=JD h.ti hi hi'
   rw[qN (h.ot n i hi).2]
   unfold upX
   rw[if_pos rfl]
  ·rw[List.getElem?_set_ne e,(h.ot n' i' hi').2]
   have:¬n'=n:=fun z=>by
    subst z
    have e1:=lK (by rw[h.kt];exact h.kn) hi
    have e2:=lK (by rw[h.kt];exact h.kn) hi'
    rw[e1] at e2
    exact e (Option.some.inj e2)
   unfold upX
   rw[if_neg this]
 ·unfold upX
  split
  ·exact Nat.le_trans (pN _ _ _) (Nat.succ_le_succ (h.bX n))
  ·exact Nat.le_succ_of_le (h.bX k)
theorem Wy.set_m{o B:Nat}{Ω:List OS}{L T X M b}(h:Wy o B Ω L T X M b)(g:Int)(m:Int×Int):Wy o B (Ω.set (o+3) (.dK (mpA iK mkD (aX M g m)))) L T X (aX M g m) (b+1):=by
 have ho:=h.ob
 exact⟨by rw[List.getElem?_set_ne (by omega)];exact h.o0,by rw[List.getElem?_set_ne (by omega)];exact h.o1,by rw[List.getElem?_set_ne (by omega)];exact h.o2,qN h.o3,
  fun n i hi=>⟨(h.ot n i hi).1,by have:=(h.ot n i hi).1;rw[List.getElem?_set_ne (by omega)];exact(h.ot n i hi).2⟩,h.ti,h.kt,h.kn,Nat.le_succ_of_le h.bL,Nat.le_trans (pN _ _ _) (Nat.succ_le_succ h.bM),fun k=>Nat.le_succ_of_le (h.bX k),by rw[List.length_set];exact h.bg,h.ob⟩
noncomputable def Frm(o:Nat)(T:List (Int×Nat))(Ω Ω':List OS):Prop:=Ω.length<=Ω'.length/\∀j,j<Ω.length->j≠o+1->j≠o+2->j≠o+3->j∉T.map (·.2)->Ω'[j]? = Ω[j]?
theorem vV{o B:Nat}{Ω:List OS}{L T X M b}(h:Wy o B Ω L T X M b){n l:Int}(hn:aF L n=some l):bY [.obj o,.int n] Ω=some (.non,Ω):=by
 have ho:=h.ob
 have hg:=h.bg
 unfold bY
 rw[vo]
 simp[h.o0,lk1,h.o1,vL,hn]
end Law
namespace Law
open PySem DL
theorem fK{n m:Nat}{s:aO}{ds:List D}{ρ':List Sl}{Ω Ω':List OS}(hl:ds.length=n)(h:s (ds.map Sl.dat++List.replicate (m-n) Sl.und) Ω=some (.nx ρ' Ω')):cF n m s ds Ω=some (.non,Ω'):=by
 rw[vo,if_pos hl,h]
theorem Wy.mono{o B:Nat}{Ω:List OS}{L T X M b b'}(h:Wy o B Ω L T X M b)(hb:b<=b'):Wy o B Ω L T X M b' :=
 ⟨h.o0,h.o1,h.o2,h.o3,h.ot,h.ti,h.kt,h.kn,Nat.le_trans h.bL hb,Nat.le_trans h.bM hb,fun n=>Nat.le_trans (h.bX n) hb,h.bg,h.ob⟩
theorem Wy.lt{o B:Nat}{Ω:List OS}{L T X M b}(h:Wy o B Ω L T X M b){n:Int}{i:Nat}(hi:(n,i)∈T):i<Ω.length:=(List.getElem?_eq_some_iff.mp (h.ot n i hi).2).1
theorem Wy.len{o B:Nat}{Ω:List OS}{L T X M b}(h:Wy o B Ω L T X M b):T.length=L.length:=by have:=congrArg List.length h.kt;simpa using this
theorem Wy.get{o B:Nat}{Ω:List OS}{L T X M b}(h:Wy o B Ω L T X M b){n l:Int}(hn:aF L n=some l):∃i,aF T n=some i/\(n,i)∈T:=by
 have ho:=h.ob
 have hg:=h.bg
 have hm:n∈T.map (·.1):=by rw[h.kt];exact List.mem_map.mpr ⟨_,jg hn,rfl⟩
 cases q:aF T n with
 | none=>exact absurd hm (dR.mp q)
 | some i=>exact⟨i,rfl,jg q⟩
noncomputable def jV(o:Nat)(Ω:List OS)(L:List (Int×Int))(T:List (Int×Nat))(n l:Int):List OS:=(Ω.set (o+1) (.dK (mpA iK D.int (aX L n l)))++[OS.dK []]).set (o+2) (.dK (mpA iK D.obj (aX T n Ω.length)))
theorem oW{o:Nat}{Ω:List OS}{L T}{n l:Int}{j:Nat}(hj:j<Ω.length)(h1:j≠o+1)(h2:j≠o+2):(jV o Ω L T n l)[j]? = Ω[j]?:=by
 unfold jV
 rw[List.getElem?_set_ne (fun z=>h2 z.symm),List.getElem?_append_left (by rw[List.length_set];exact hj),List.getElem?_set_ne (fun z=>h1 z.symm)]
theorem x_{o:Nat}{Ω:List OS}{L T}{n l:Int}:(jV o Ω L T n l).length=Ω.length+1:=by unfold jV;simp
theorem Wy.tie{o B:Nat}{Ω:List OS}{L T X M b}(h:Wy o B Ω L T X M b){n:Int}(hn:aF L n=none)(l:Int):Wy o B (jV o Ω L T n l) (aX L n l) (aX T n Ω.length) (upX X n []) M (b+1):=by
 have ho:=h.ob
 have hg:=h.bg
 have h8:=h.bg
 have hnL:n∉L.map (·.1):=dR.mp hn
 have hnT:n∉T.map (·.1):=by rw[h.kt];exact hnL
 refine⟨by rw[oW (by omega) (by omega) (by omega)];exact h.o0,?_,?_,by rw[oW (by omega) (by omega) (by omega)];exact h.o3,fun n' i' hi'=>?_,?_,?_,qJ h.kn _ _,Nat.le_trans (pN _ _ _) (Nat.succ_le_succ h.bL),Nat.le_succ_of_le h.bM,fun k=>?_,by rw[x_];omega,h.ob⟩
 ·unfold jV
  rw[List.getElem?_set_ne (by omega),List.getElem?_append_left (by rw[List.length_set];omega),qN h.o1]
 ·unfold jV
  rw[List.getElem?_set_self (by simp;omega)]
 ·rw[iC hnT] at hi'
  rcases List.mem_append.mp hi' with z |z
  ·have hne:¬n'=n:=fun e=>hnT (List.mem_map.mpr ⟨_,z,e⟩)
   have a:=h.ot n' i' z
   refine⟨a.1,?_⟩
   rw[oW (h.lt z) (by omega) (by omega),a.2]
   unfold upX
   rw[if_neg hne]
  ·rw[List.mem_singleton] at z
   cases z
   refine⟨h8,?_⟩
   unfold jV upX
   rw[List.getElem?_set_ne (by omega),List.getElem?_append_right (by simp),if_pos rfl]
   simp[mpA]
 ·rw[iC hnT,List.map_append,List.nodup_append]
  refine⟨h.ti,by simp,fun a ha c hc z=>?_⟩
  obtain⟨p,hp,e⟩:=List.mem_map.mp ha
  obtain⟨n',i'⟩:=p
  have:=h.lt hp
  simp at hc
  dsimp only at e
  omega
 ·rw[nH,nH,h.kt]
 ·unfold upX
  split
  ·simp
  ·exact Nat.le_succ_of_le (h.bX k)
theorem Hg{o B:Nat}{Ω:List OS}{L T X M b}(h:Wy o B Ω L T X M b)(hb:b<=500){n:Int}(hn:aF L n=none)(l:Int):gb [.obj o,.int n,.int l] Ω=some (.non,jV o Ω L T n l):=by
 have ho:=h.ob
 have hg:=h.bg
 have h8:=h.bg
 have hl:L.length<100000:=by have:=h.bL;omega
 have hT:T.length<100000:=by rw[h.len];exact hl
 have e1:putD (mpA iK D.int L) (.inl n) (.int l)=mpA iK D.int (aX L n l):=lJ gA D.int L n l
 have e2:putD (mpA iK D.obj T) (.inl n) (.obj Ω.length)=mpA iK D.obj (aX T n Ω.length):=lJ gA D.obj T n Ω.length
 have a0:(Ω.set (o+1) (.dK (mpA iK D.int (aX L n l)))++[OS.dK []])[o]? = some (.ins "Ways" (eN o)):=by rw[List.getElem?_append_left (by rw[List.length_set];omega),List.getElem?_set_ne (by omega)];exact h.o0
 have a2:(Ω.set (o+1) (.dK (mpA iK D.int (aX L n l)))++[OS.dK []])[o+2]? = some (.dK (mpA iK D.obj T)):=by rw[List.getElem?_append_left (by rw[List.length_set];omega),List.getElem?_set_ne (by omega)];exact h.o2
 refine fK (ρ':=[.dat (.obj o),.dat (.int n),.dat (.int l)]) rfl ?_
 refine(aN (ρ':=[.dat (.obj o),.dat (.int n),.dat (.int l)]) (Ω':=Ω) (by simp[h.o0,lk1,h.o1,vL,hn])).trans ?_
 refine(aN (ρ':=[.dat (.obj o),.dat (.int n),.dat (.int l)]) (Ω':=Ω.set (o+1) (.dK (mpA iK D.int (aX L n l)))) (by simp[h.o0,lk1,h.o1,hl,e1])).trans ?_
 generalize hΩ:Ω.set (o+1) (.dK (mpA iK D.int (aX L n l)))=Ω1 at *
 have hlen:Ω1.length=Ω.length:=by rw[<-hΩ,List.length_set]
 have et:jV o Ω L T n l=(Ω1++[OS.dK []]).set (o+2) (.dK (mpA iK D.obj (aX T n Ω.length))):=by unfold jV;rw[hΩ]
 rw[et,xT,xR]
 dsimp only
 rw[hlen]
 generalize Ω1++[OS.dK []]=Ω2 at *
 simp[a0,lk2,a2,hT,e2]
noncomputable def unΩ(o:Nat)(Ω:List OS)(L:List (Int×Int))(T:List (Int×Nat))(n:Int):List OS:=(Ω.set (o+1) (.dK (mpA iK D.int (cJ L n)))).set (o+2) (.dK (mpA iK D.obj (cJ T n)))
theorem qO{o:Nat}{Ω:List OS}{L T}{n:Int}{j:Nat}(h1:j≠o+1)(h2:j≠o+2):(unΩ o Ω L T n)[j]? = Ω[j]?:=by
 unfold unΩ
 rw[List.getElem?_set_ne (fun z=>h2 z.symm),List.getElem?_set_ne (fun z=>h1 z.symm)]
theorem Wy.untie{o B:Nat}{Ω:List OS}{L T X M b}(h:Wy o B Ω L T X M b)(n:Int):Wy o B (unΩ o Ω L T n) (cJ L n) (cJ T n) X M b:=by
 have ho:=h.ob
 have hg:=h.bg
 have h8:=h.bg
 refine⟨by rw[qO (by omega) (by omega)];exact h.o0,?_,?_,by rw[qO (by omega) (by omega)];exact h.o3,fun n' i' hi'=>?_,?_,?_,qK h.kn _,Nat.le_trans (vQ _ _) h.bL,h.bM,h.bX,by unfold unΩ;rw[List.length_set,List.length_set];exact h8,h.ob⟩
 ·unfold unΩ
  rw[List.getElem?_set_ne (by omega),qN h.o1]
 ·unfold unΩ
  rw[List.getElem?_set_self (by rw[List.length_set];omega)]
 ·have hi:=(List.mem_filter.mp hi').1
  have a:=h.ot n' i' hi
  exact⟨a.1,by rw[qO (by omega) (by omega)];exact a.2⟩
 ·unfold cJ
  exact h.ti.sublist (List.filter_sublist.map _)
 ·rw[kE,kE,h.kt]
theorem Bl{o B:Nat}{Ω:List OS}{L T X M b}(h:Wy o B Ω L T X M b){n l:Int}(hn:aF L n=some l):dD [.obj o,.int n] Ω=some (.non,unΩ o Ω L T n):=by
 have ho:=h.ob
 have hg:=h.bg
 obtain⟨i,hi,_⟩:=h.get hn
 have hy:=vV h hn
 have e1:ie (mpA iK D.int L) (.inl n)=mpA iK D.int (cJ L n):=sE gA D.int L n
 have e2:ie (mpA iK D.obj T) (.inl n)=mpA iK D.obj (cJ T n):=sE gA D.obj T n
 have a0:(Ω.set (o+1) (.dK (mpA iK D.int (cJ L n))))[o]? = some (.ins "Ways" (eN o)):=by rw[List.getElem?_set_ne (by omega)];exact h.o0
 have a2:(Ω.set (o+1) (.dK (mpA iK D.int (cJ L n))))[o+2]? = some (.dK (mpA iK D.obj T)):=by rw[List.getElem?_set_ne (by omega)];exact h.o2
 refine fK (ρ':=[.dat (.obj o),.dat (.int n)]) rfl ?_
 refine(aN (ρ':=[.dat (.obj o),.dat (.int n)]) (Ω':=Ω) (by simp[h.o0,Bj,hy])).trans ?_
 refine(aN (ρ':=[.dat (.obj o),.dat (.int n)]) (Ω':=Ω.set (o+1) (.dK (mpA iK D.int (cJ L n)))) (by simp[h.o0,lk1,h.o1,vL,hn,e1])).trans ?_
 unfold unΩ
 simp[a0,lk2,a2,vT,hi,e2]
theorem yd{o:Nat}{T:List (Int×Nat)}{Ω:List OS}{i:Nat}{x:OS}(hi:i=o+3\/i∈T.map (·.2)):Frm o T Ω (Ω.set i x) :=
 ⟨by rw[List.length_set];exact Nat.le_refl _,fun j _ _ _ h3 hT=>List.getElem?_set_ne fun z=>by
  subst z
  rcases hi with e |e
  ·exact h3 e
  ·exact hT e⟩
theorem Frm.trans{o:Nat}{T:List (Int×Nat)}{Ω Ω' Ω'':List OS}(h:Frm o T Ω Ω')(h':Frm o T Ω' Ω''):Frm o T Ω Ω'' :=
 ⟨Nat.le_trans h.1 h'.1,fun j hj h1 h2 h3 hT=>(h'.2 j (Nat.lt_of_lt_of_le hj h.1) h1 h2 h3 hT).trans (h.2 j hj h1 h2 h3 hT)⟩
theorem Dz{o B:Nat}{Ω:List OS}{L T X M b}(h:Wy o B Ω L T X M b)(hb:b<=490){n l:Int}(hn:aF L n=some l)(g num:Int)(f:Option Int) :
  ∃Ω' M',fu [.obj o,.int n,.int g,.int num,faD f] Ω=some (.non,Ω')/\Wy o B Ω' L T (upX X n (aX (X n) g (num,f))) M' (b+2)/\Frm o T Ω Ω' /\
   ((Us L (upX X n (aX (X n) g (num,f))) (aF M g) g=[]/\M'=M)\/∃u,zb (Us L (upX X n (aX (X n) g (num,f))) (aF M g) g) u/\M'=aX M g (bet (aF M g) u.1 u.2.1)):=by
 have ho:=h.ob
 have hg:=h.bg
 obtain⟨i,hi,hm⟩:=h.get hn
 have hy:=vV h hn
 have w1:=h.set_t hm g (num,f)
 have hXl:(X n).length<100000:=by have:=h.bX n;omega
 have ex:putD (mpA iK tlD (X n)) (.inl g) (tlD (num,f))=mpA iK tlD (aX (X n) g (num,f)):=lJ gA tlD (X n) g (num,f)
 have ei:=(h.ot n i hm).2
 have htl:tlD (num,f)=.tup [.int num,faD f]:=rfl
 have f1:Frm o T Ω (Ω.set i (.dK (mpA iK tlD (aX (X n) g (num,f))))):=yd (.inr (List.mem_map.mpr ⟨_,hm,rfl⟩))
 obtain⟨d,hd,ed⟩:=oV w1 (by omega) g
 have s1:∀{t:aO},aH (bw (bI "Ways" "need_tie" bY [] (aj 0) (ak (aj 1) au))) t [.dat (.obj o),.dat (.int n),.dat (.int g),.dat (.int num),.dat (faD f),.und] Ω=t [.dat (.obj o),.dat (.int n),.dat (.int g),.dat (.int num),.dat (faD f),.und] Ω :=
  aN (by simp[h.o0,Bj,hy])
 have s2:∀{t:aO},aH (eF (aJ (gH "Ways" "tellings_by" (aj 0)) (aj 1)) (aj 2) (bD (ak (aj 3) (ak (aj 4) au)))) t [.dat (.obj o),.dat (.int n),.dat (.int g),.dat (.int num),.dat (faD f),.und] Ω=t [.dat (.obj o),.dat (.int n),.dat (.int g),.dat (.int num),.dat (faD f),.und] (Ω.set i (.dK (mpA iK tlD (aX (X n) g (num,f))))) :=
  aN (by simp[h.o0,lk2,h.o2,vT,hi,ei,hXl,<-htl,ex])
 generalize Ω.set i (.dK (mpA iK tlD (aX (X n) g (num,f))))=Ω1 at *
 have s3:∀{t:aO},aH (a_ 5 (bI "Ways" "way" bF [] (aj 0) (ak (aj 2) au))) t [.dat (.obj o),.dat (.int n),.dat (.int g),.dat (.int num),.dat (faD f),.und] Ω1=t [.dat (.obj o),.dat (.int n),.dat (.int g),.dat (.int num),.dat (faD f),.dat d] Ω1 :=
  aN (by simp[w1.o0,uJ,ed])
 rcases hd with⟨e0,rfl⟩ |⟨u,hu,rfl⟩
 ·refine⟨Ω1,M,fK (ρ':=[.dat (.obj o),.dat (.int n),.dat (.int g),.dat (.int num),.dat (faD f),.dat .non]) rfl (s1.trans (s2.trans (s3.trans ?_))),w1.mono (by omega),f1,.inl ⟨e0,rfl⟩⟩
  simp[isD,isNone]
 ·have hk:=jU w1 g
  have hB:=vU (aF M g) u.1 u.2.1 Ω1
  have eM:putD (mpA iK mkD M) (.inl g) (mkD (bet (aF M g) u.1 u.2.1))=mpA iK mkD (aX M g (bet (aF M g) u.1 u.2.1)):=lJ gA mkD M g _
  have hMl:M.length<100000:=by have:=h.bM;omega
  refine⟨Ω1.set (o+3) (.dK (mpA iK mkD (aX M g (bet (aF M g) u.1 u.2.1)))),_,fK (ρ':=[.dat (.obj o),.dat (.int n),.dat (.int g),.dat (.int num),.dat (faD f),.dat (w3 u)]) rfl (s1.trans (s2.trans (s3.trans ?_))),w1.set_m g _,f1.trans (yd (.inl rfl)),.inr ⟨u,hu,rfl⟩⟩
  simp[isD,isNone,w3,w1.o0,nM,hk,hB,lk3,w1.o3,hMl,eM]
end Law
namespace Law
open PySem DL
noncomputable def IV(L:List (Int×Int))(X:Int->List (Int×Tl))(M:List (Int×(Int×Int)))(g:Int):Prop:=∀n l num f,aF L n=some l->aF (X n) g=some (num,some f)->∃p,aF M g=some p/\num<=p.1/\(num=p.1->p.2<=f+l)
theorem Bm{L X m}{g n:Int}{u:Int×Int×Int}:u∈us L X m g n↔∃num f,aF (X n) g=some (num,some f)/\jw m num (some f)=true/\u=(num,f+(aF L n).getD 0,n):=by
 unfold us
 constructor
 ·intro h
  split at h
  ·rename_i num f e
   split at h
   ·rename_i hm
    rw[List.mem_singleton] at h
    exact⟨num,f,e,hm,h⟩
   ·cases h
  ·cases h
 ·rintro⟨num,f,e,hm,rfl⟩
  rw[e]
  dsimp only
  rw[if_pos hm]
  exact List.mem_singleton.mpr rfl
theorem jW{L X m}{g:Int}(kn:(L.map (·.1)).Nodup){u:Int×Int×Int}:u∈Us L X m g↔∃n l num f,aF L n=some l/\aF (X n) g=some (num,some f)/\jw m num (some f)=true/\u=(num,f+l,n):=by
 unfold Us
 rw[List.mem_flatMap]
 constructor
 ·rintro⟨n,hn,hu⟩
  obtain⟨num,f,e1,e2,e3⟩:=Bm.mp hu
  cases q:aF L n with
  | none=>exact absurd hn (dR.mp q)
  | some l=>exact⟨n,l,num,f,q,e1,e2,by rw[e3,q];rfl⟩
 ·rintro⟨n,l,num,f,h1,h2,h3,rfl⟩
  exact⟨n,List.mem_map.mpr ⟨_,jg h1,rfl⟩,Bm.mpr ⟨num,f,h2,h3,by rw[h1];rfl⟩⟩
theorem fL{a b p q:Int}:bt a b p q=true↔a>p\/(a=p/\b<q):=by simp[bt]
noncomputable def nO(M M':List (Int×(Int×Int))):Prop:=∀g p,aF M g=some p->∃p',aF M' g=some p'/\(p'=p\/bt p'.1 p'.2 p.1 p.2=true)
theorem nO.refl(M:List (Int×(Int×Int))):nO M M:=fun g p h=>⟨p,h,.inl rfl⟩
theorem ye{m:Option (Int×Int)}{num f:Int}(h:¬jw m num (some f)=true):∃p,m=some p/\num<=p.1/\(num=p.1->p.2<=f):=by
 cases m with
 | none=>exact absurd rfl h
 | some p =>
  refine⟨p,rfl,?_⟩
  have hb:¬bt num f p.1 p.2=true:=h
  rw[fL,not_or] at hb
  refine⟨by omega,fun e=>?_⟩
  have:=hb.2
  omega
theorem Hh{L X M}(kn:(L.map (·.1)).Nodup)(l0:∀n l,aF L n=some l->0<=l)(iv:∀g,IV L X M g){n g num:Int}{f:Option Int}{M':List (Int×(Int×Int))}
  (hM:(Us L (upX X n (aX (X n) g (num,f))) (aF M g) g=[]/\M'=M)\/∃u,zb (Us L (upX X n (aX (X n) g (num,f))) (aF M g) g) u/\M'=aX M g (bet (aF M g) u.1 u.2.1)) :
  (∀g',IV L (upX X n (aX (X n) g (num,f))) M' g')/\nO M M':=by
 have hX:∀g' n',g'≠g->aF (upX X n (aX (X n) g (num,f)) n') g'=aF (X n') g':=fun g' n' hg=>by
  unfold upX
  split
  ·rename_i e
   rw[e,iz,if_neg hg]
  ·rfl
 have hM':∀g',g'≠g->aF M' g'=aF M g':=fun g' hg=>by
  rcases hM with⟨_,rfl⟩ |⟨u,_,rfl⟩
  ·rfl
  ·rw[iz,if_neg hg]
 generalize upX X n (aX (X n) g (num,f))=X' at *
 refine⟨fun g'=>?_,fun g' p hp=>?_⟩
 ·intro n' l' num' f' h1 h2
  by_cases hg:g'=g
  ·subst hg
   have hl:=l0 n' l' h1
   rcases hM with⟨e0,rfl⟩ |⟨u,hB,rfl⟩
   ·have:¬jw (aF M' g') num' (some f')=true:=fun z=>by
     have:(num',f'+l',n')∈Us L X' (aF M' g') g':=(jW kn).mpr ⟨n',l',num',f',h1,h2,z,rfl⟩
     rw[e0] at this;cases this
    obtain⟨p,e1,e2,e3⟩:=ye this
    exact⟨p,e1,e2,fun z=>by have:=e3 z;omega⟩
   ·obtain⟨wn,wl,num2,f2,w1,w2,w3',rfl⟩:=(jW kn).mp hB.1
    refine⟨_,by rw[iz,if_pos rfl],?_⟩
    by_cases hm:jw (aF M g') num' (some f')=true
    ·have hv:=hB.2 _ ((jW kn).mpr ⟨n',l',num',f',h1,h2,hm,rfl⟩)
     have hv':HT.lexLt [-num',f'+l',n'] [-num2,f2+wl,wn]=false:=hv
     rw[HT.dw] at hv'
     have c1:num'<=num2/\(num'=num2->f2+wl<=f'+l'):=by
      by_cases e:-num' = -num2
      ·rw[if_pos e,HT.dw] at hv'
       refine⟨by omega,fun _=>?_⟩
       by_cases e2:f'+l'=f2+wl
       ·omega
       ·rw[if_neg e2] at hv'
        have:=of_decide_eq_false hv'
        omega
      ·rw[if_neg e] at hv'
       have:=of_decide_eq_false hv'
       exact⟨by omega,fun z=>by omega⟩
     unfold bet
     cases hq:aF M g' with
     | none=>exact c1
     | some p =>
      dsimp only
      split
      ·exact c1
      ·refine⟨c1.1,fun z=>?_⟩
       have:=c1.2 z
       dsimp only
       split<;>omega
    ·obtain⟨p,e1,e2,e3⟩:=ye hm
     rw[e1] at w3' ⊢
     have hbt:bt num2 f2 p.1 p.2=true:=w3'
     have hge:=fL.mp hbt
     unfold bet
     dsimp only
     split
     ·rename_i hgt
      exact⟨by dsimp only;omega,fun z=>by dsimp only at z;omega⟩
     ·rename_i hgt
      refine⟨by dsimp only;omega,fun z=>?_⟩
      dsimp only at z ⊢
      have:=e3 (by omega)
      split<;>omega
  ·rw[hX g' n' hg] at h2
   obtain⟨p,e1,e2⟩:=iv g' n' l' num' f' h1 h2
   exact⟨p,by rw[hM' g' hg];exact e1,e2⟩
 ·by_cases hg:g'=g
  ·subst hg
   rcases hM with⟨e0,rfl⟩ |⟨u,hB,rfl⟩
   ·exact⟨p,hp,.inl rfl⟩
   ·obtain⟨wn,wl,num2,f2,w1,w2,w3',rfl⟩:=(jW kn).mp hB.1
    refine⟨_,by rw[iz,if_pos rfl],?_⟩
    rw[hp] at w3' ⊢
    have hbt:bt num2 f2 p.1 p.2=true:=w3'
    have hge:=fL.mp hbt
    unfold bet
    dsimp only
    split
    ·rename_i hgt
     exact .inr (fL.mpr (.inl hgt))
    ·rename_i hgt
     split
     ·rename_i hlt
      exact .inr (fL.mpr (.inr ⟨by dsimp only;omega,hlt⟩))
     ·left
      obtain⟨p1,p2⟩:=p
      dsimp only at *
      have:num2=p1:=by omega
      rw[this]
  ·exact⟨p,by rw[hM' g' hg];exact hp,.inl rfl⟩
theorem Wy.of_eq{o B:Nat}{Ω Ω':List OS}{L T X M b}(h:Wy o B Ω L T X M b)(hl:Ω.length<=Ω'.length)(e:∀j,j<Ω.length->((o<=j/\j<o+4)\/j∈T.map (·.2))->Ω'[j]? = Ω[j]?):Wy o B Ω' L T X M b:=by
 have ho:=h.ob
 have hg:=h.bg
 have h8:=h.bg
 exact⟨by rw[e o (by omega) (.inl (by omega))];exact h.o0,by rw[e (o+1) (by omega) (.inl (by omega))];exact h.o1,by rw[e (o+2) (by omega) (.inl (by omega))];exact h.o2,by rw[e (o+3) (by omega) (.inl (by omega))];exact h.o3,
  fun n i hi=>⟨(h.ot n i hi).1,by rw[e i (h.lt hi) (.inr (List.mem_map.mpr ⟨_,hi,rfl⟩))];exact(h.ot n i hi).2⟩,h.ti,h.kt,h.kn,h.bL,h.bM,h.bX,Nat.le_trans h8 hl,h.ob⟩
end Law
namespace Law
open PySem DL
noncomputable abbrev TyN:=List ((Int×Int)×Nat)
noncomputable abbrev TyQ:=Int×Int->List Tl
noncomputable def wsL(c:Nat):List D:=(List.range c).map fun h=>D.obj (2+4*h)
noncomputable def wKV(c:Nat)(r:Int):List (L2.Key×D):=[(.inr "count",.int c),(.inr "raised",.int r),(.inr "notes",.obj 1),(.inr "ways",.lst (wsL c))]
theorem DG:¬(("count":Str) = "raised"):=by decide +kernel
theorem JF:¬(("count":Str) = "notes"):=by decide +kernel
theorem JG:¬(("count":Str) = "ways"):=by decide +kernel
theorem DK:¬(("raised":Str) = "notes"):=by decide +kernel
theorem DN:¬(("raised":Str) = "ways"):=by decide +kernel
theorem JH:¬(("notes":Str) = "ways"):=by decide +kernel
theorem v_c(c:Nat)(r:Int):cC (wKV c r) (.inr "count")=some (.int c):=by simp[cC,wKV]
theorem v_r(c:Nat)(r:Int):cC (wKV c r) (.inr "raised")=some (.int r):=by simp[cC,wKV,DG]
theorem v_n(c:Nat)(r:Int):cC (wKV c r) (.inr "notes")=some (.obj 1):=by simp[cC,wKV,JF,DK]
theorem v_w(c:Nat)(r:Int):cC (wKV c r) (.inr "ways")=some (.lst (wsL c)):=by simp[cC,wKV,JG,DN,JH]
theorem Kv(c:Nat)(r r':Int):putD (wKV c r) (.inr "raised") (.int r')=wKV c r':=by simp[putD,wKV,DG,Ne.symm DK,Ne.symm DN]
theorem Eu{c h:Nat}(hc:h<c):ixD (.lst (wsL c)) (.int h)=some (.obj (2+4*h)):=by
 have hl:(wsL c).length=c:=by simp[wsL]
 have e:L2.atI (wsL c) (h:Int)=some (.obj (2+4*h)):=by
  rw[An (by omega) (by rw[hl];omega)]
  simp[wsL]
 rw[DL.Jo,e]
noncomputable def sG(Q:TyQ)(k:Int×Int)(v:List Tl):TyQ:=fun x=>if x=k then v else Q x
theorem gU(Q:TyQ)(k:Int×Int)(v:List Tl):sG Q k v k=v:=if_pos rfl
theorem jh(Q:TyQ){k x:Int×Int}(v:List Tl)(h:x≠k):sG Q k v x=Q x:=if_neg h
noncomputable def upF{α:Type}(f:Nat->α)(h:Nat)(v:α):Nat->α:=fun k=>if k=h then v else f k
theorem cQ{α:Type}(f:Nat->α)(h:Nat)(v:α):upF f h v h=v:=if_pos rfl
theorem dH{α:Type}(f:Nat->α){h k:Nat}(v:α)(e:k≠h):upF f h v k=f k:=if_neg e
noncomputable abbrev TyL:=Nat->List (Int×Int)
noncomputable abbrev TyT:=Nat->List (Int×Nat)
noncomputable abbrev TyX:=Nat->Int->List (Int×Tl)
noncomputable abbrev TyM:=Nat->List (Int×(Int×Int))
structure Ph(c:Nat)(r:Int)(Ω:List OS)(N:TyN)(Q:TyQ)(L:TyL)(T:TyT)(X:TyX)(M:TyM)(b q:Nat):Prop where
 p0:Ω[0]? = some (.dK (wKV c r))
 p1:Ω[1]? = some (.dT (mpA pK D.obj N))
 nt:∀k i,(k,i)∈N->2+4*c<=i/\Ω[i]? = some (.mls ((Q k).map tlD))
 ni:(N.map (·.2)).Nodup
 nk:(N.map (·.1)).Nodup
 bN:N.length<=q
 bQ:∀k,(Q k).length<=q
 wy:∀h,1<=h->h<c->Wy (2+4*h) (2+4*c) Ω (L h) (T h) (X h) (M h) b
 d1:∀h,1<=h->h<c->∀j∈(T h).map (·.2),j∉N.map (·.2)
 d2:∀h h',1<=h->h<c->1<=h'->h'<c->h≠h'->∀j∈(T h).map (·.2),j∉(T h').map (·.2)
 bg:2+4*c<=Ω.length
section
variable {c b q:Nat} {r:Int} {Ω:List OS} {N:TyN} {Q:TyQ} {L:TyL} {T:TyT} {X:TyX} {M:TyM}
theorem Ph.lt(h:Ph c r Ω N Q L T X M b q){k:Int×Int}{i:Nat}(hi:(k,i)∈N):i<Ω.length:=(List.getElem?_eq_some_iff.mp (h.nt k i hi).2).1
theorem Ph.ltT(h:Ph c r Ω N Q L T X M b q){x j:Nat}(h1:1<=x)(h2:x<c)(hj:j∈(T x).map (·.2)):2+4*c<=j/\j<Ω.length:=by
 obtain⟨⟨n,i⟩,hp,rfl⟩:=List.mem_map.mp hj
 exact⟨((h.wy x h1 h2).ot n i hp).1,(h.wy x h1 h2).lt hp⟩
theorem Ph.get(h:Ph c r Ω N Q L T X M b q){k:Int×Int}(hk:k∈N.map (·.1)):∃i,aF N k=some i/\(k,i)∈N:=by
 cases z:aF N k with
 | none=>exact absurd hk (dR.mp z)
 | some i=>exact⟨i,rfl,jg z⟩
theorem Ph.mono(h:Ph c r Ω N Q L T X M b q){b' q':Nat}(hb:b<=b')(hq:q<=q'):Ph c r Ω N Q L T X M b' q' :=
 ⟨h.p0,h.p1,h.nt,h.ni,h.nk,Nat.le_trans h.bN hq,fun k=>Nat.le_trans (h.bQ k) hq,fun x h1 h2=>(h.wy x h1 h2).mono hb,h.d1,h.d2,h.bg⟩
theorem Ph.of_eq(h:Ph c r Ω N Q L T X M b q){Ω':List OS}(hl:Ω.length<=Ω'.length)(e:∀j,j<Ω.length->(j<2+4*c\/j∈N.map (·.2)\/∃x,1<=x/\x<c/\j∈(T x).map (·.2))->Ω'[j]? = Ω[j]?):Ph c r Ω' N Q L T X M b q:=by
 have hg:=h.bg
 refine⟨by rw[e 0 (by omega) (.inl (by omega))];exact h.p0,?_,fun k i hi=>⟨(h.nt k i hi).1,by rw[e i (h.lt hi) (.inr (.inl (List.mem_map.mpr ⟨_,hi,rfl⟩)))];exact(h.nt k i hi).2⟩,h.ni,h.nk,h.bN,h.bQ,fun x h1 h2=>(h.wy x h1 h2).of_eq hl fun j hj hc=>?_,h.d1,h.d2,Nat.le_trans hg hl⟩
 ·rw[e 1 (by have:=(List.getElem?_eq_some_iff.mp h.p1).1;omega) (.inl (by omega))];exact h.p1
 ·refine e j hj ?_
  rcases hc with hc |hc
  ·exact .inl (by omega)
  ·exact .inr (.inr ⟨x,h1,h2,hc⟩)
theorem Ph.app(h:Ph c r Ω N Q L T X M b q)(x:OS):Ph c r (Ω++[x]) N Q L T X M b q:=h.of_eq (by simp) fun j hj _=>List.getElem?_append_left hj
theorem Ph.other(h:Ph c r Ω N Q L T X M b q){j:Nat}(h0:2+4*c<=j)(h1:j∉N.map (·.2))(h2:∀x,1<=x->x<c->j∉(T x).map (·.2))(x:OS):Ph c r (Ω.set j x) N Q L T X M b q :=
 h.of_eq (by simp) fun i _ hc=>List.getElem?_set_ne fun z=>by
  subst z
  rcases hc with hc |hc |⟨y,y1,y2,hc⟩
  ·omega
  ·exact h1 hc
  ·exact h2 y y1 y2 hc
theorem Ph.setQ(h:Ph c r Ω N Q L T X M b q){k:Int×Int}{i:Nat}(hi:(k,i)∈N){v:List Tl}{q':Nat}(hq:q<=q')(hv:v.length<=q'):Ph c r (Ω.set i (.mls (v.map tlD))) N (sG Q k v) L T X M b q':=by
 have hB:=(h.nt k i hi).1
 have hiN:i∈N.map (·.2):=List.mem_map.mpr ⟨_,hi,rfl⟩
 refine⟨by rw[List.getElem?_set_ne (by omega)];exact h.p0,by rw[List.getElem?_set_ne (by omega)];exact h.p1,fun k' i' hi'=>⟨(h.nt k' i' hi').1,?_⟩,h.ni,h.nk,Nat.le_trans h.bN hq,fun k'=>?_,fun x h1 h2=>(h.wy x h1 h2).of_eq (by simp) fun j hj hc=>List.getElem?_set_ne fun z=>?_,h.d1,h.d2,by rw[List.length_set];exact h.bg⟩
 ·by_cases e:k'=k
  ·subst e
   have e1:=lK h.nk hi
   rw[lK h.nk hi'] at e1
   cases e1
   rw[gU]
   exact List.getElem?_set_self (h.lt hi)
  ·rw[jh _ _ e,List.getElem?_set_ne (fun z=>?_)]
   ·exact(h.nt k' i' hi').2
   ·subst z
    have:k'=k:=by
     have nd:=h.ni
     clear e
     revert hi hi' nd
     clear hB hiN h
     induction N with
     | nil=>intro hi;cases hi
     | cons p N ih =>
      intro hi hi' nd
      rw[List.map_cons,List.nodup_cons] at nd
      rcases List.mem_cons.mp hi with e1 |e1
      ·rcases List.mem_cons.mp hi' with e2 |e2
       ·rw[<-e1] at e2;cases e2;rfl
       ·exact absurd (List.mem_map.mpr ⟨_,e2,by rw[<-e1]⟩) nd.1
      ·rcases List.mem_cons.mp hi' with e2 |e2
       ·exact absurd (List.mem_map.mpr ⟨_,e1,by rw[<-e2]⟩) nd.1
       ·exact ih e1 e2 nd.2
    exact e this
 ·by_cases e:k'=k
  ·rw[e,gU];exact hv
  ·rw[jh _ _ e];exact Nat.le_trans (h.bQ k') hq
 ·subst z
  rcases hc with hc |hc
  ·omega
  ·exact h.d1 x h1 h2 i hc hiN
theorem Ph.newN(h:Ph c r Ω N Q L T X M b q){k:Int×Int}(hk:k∉N.map (·.1)):Ph c r ((Ω++[OS.mls []]).set 1 (.dT (mpA pK D.obj (aX N k Ω.length)))) (aX N k Ω.length) (sG Q k []) L T X M b (q+1):=by
 have hg:=h.bg
 have h1l:=(List.getElem?_eq_some_iff.mp h.p1).1
 rw[iC hk]
 have at':∀{j:Nat},j<Ω.length->j≠1->((Ω++[OS.mls []]).set 1 (.dT (mpA pK D.obj (N++[(k,Ω.length)]))))[j]? = Ω[j]?:=fun {j} hj n1=>by rw[List.getElem?_set_ne (Ne.symm n1),List.getElem?_append_left hj]
 refine⟨by rw[at' (by omega) (by omega)];exact h.p0,List.getElem?_set_self (by simp;omega),fun k' i' hi'=>?_,?_,?_,by simp;exact h.bN,fun k'=>?_,fun x h1 h2=>(h.wy x h1 h2).of_eq (by simp) fun j hj hc=>at' hj ?_,fun x h1 h2 j hj hc=>?_,h.d2,by simp;omega⟩
 ·rcases List.mem_append.mp hi' with z |z
  ·have hne:k'≠k:=fun e=>hk (List.mem_map.mpr ⟨_,z,e⟩)
   have a:=h.nt k' i' z
   exact⟨a.1,by rw[at' (h.lt z) (by omega),jh _ _ hne];exact a.2⟩
  ·rw[List.mem_singleton] at z
   cases z
   refine⟨hg,?_⟩
   rw[gU,List.getElem?_set_ne (by omega),List.getElem?_append_right (Nat.le_refl _)]
   simp
 ·rw[List.map_append,List.nodup_append]
  refine⟨h.ni,by simp,fun x hx y hy z=>?_⟩
  obtain⟨⟨k',i'⟩,hp,e⟩:=List.mem_map.mp hx
  have:=h.lt hp
  simp at hy
  dsimp only at e
  omega
 ·rw[List.map_append,List.nodup_append]
  refine⟨h.nk,by simp,fun x hx y hy z=>?_⟩
  simp at hy
  subst hy z
  exact hk hx
 ·by_cases e:k'=k
  ·rw[e,gU];simp
  ·rw[jh _ _ e];exact Nat.le_succ_of_le (h.bQ k')
 ·rcases hc with hc |hc
  ·omega
  ·have:=(h.ltT h1 h2 hc).1
   omega
 ·rw[List.map_append] at hc
  rcases List.mem_append.mp hc with z |z
  ·exact h.d1 x h1 h2 j hj z
  ·have:=(h.ltT h1 h2 hj).2
   simp at z
   omega
theorem Ph.cutN(h:Ph c r Ω N Q L T X M b q)(k:Int×Int):Ph c r (Ω.set 1 (.dT (mpA pK D.obj (cJ N k)))) (cJ N k) Q L T X M b q:=by
 have hg:=h.bg
 have h1l:=(List.getElem?_eq_some_iff.mp h.p1).1
 have sb:∀j,j∈(cJ N k).map (·.2)->j∈N.map (·.2):=fun j hj=>by
  obtain⟨p,hp,rfl⟩:=List.mem_map.mp hj
  exact List.mem_map.mpr ⟨p,(List.mem_filter.mp hp).1,rfl⟩
 refine⟨by rw[List.getElem?_set_ne (by omega)];exact h.p0,List.getElem?_set_self h1l,fun k' i' hi'=>?_,?_,qK h.nk _,Nat.le_trans (vQ _ _) h.bN,h.bQ,fun x h1 h2=>(h.wy x h1 h2).of_eq (by simp) fun j hj hc=>List.getElem?_set_ne fun z=>?_,fun x h1 h2 j hj hc=>h.d1 x h1 h2 j hj (sb j hc),h.d2,by rw[List.length_set];exact hg⟩
 ·have hi:=(List.mem_filter.mp hi').1
  have a:=h.nt k' i' hi
  exact⟨a.1,by rw[List.getElem?_set_ne (by omega)];exact a.2⟩
 ·unfold cJ
  exact h.ni.sublist (List.filter_sublist.map _)
 ·rcases hc with hc |hc
  ·omega
  ·have:=(h.ltT h1 h2 hc).1
   omega
theorem Ph.house(h:Ph c r Ω N Q L T X M b q){x:Nat}(h1:1<=x)(h2:x<c){Ω':List OS}{L':List (Int×Int)}{T':List (Int×Nat)}{X':Int->List (Int×Tl)}{M':List (Int×(Int×Int))}{b':Nat}(hb:b<=b')(w:Wy (2+4*x) (2+4*c) Ω' L' T' X' M' b')(hl:Ω.length<=Ω'.length)
  (fr:∀j,j<Ω.length->j≠2+4*x+1->j≠2+4*x+2->j≠2+4*x+3->j∉(T x).map (·.2)->Ω'[j]? = Ω[j]?) (hT:∀j∈T'.map (·.2),j∈(T x).map (·.2)\/Ω.length<=j):Ph c r Ω' N Q (upF L x L') (upF T x T') (upF X x X') (upF M x M') b' q:=by
 have hg:=h.bg
 have h1l:=(List.getElem?_eq_some_iff.mp h.p1).1
 have hN:∀j∈N.map (·.2),2+4*c<=j/\j<Ω.length:=fun j hj=>by
  obtain⟨⟨k,i⟩,hp,rfl⟩:=List.mem_map.mp hj
  exact⟨(h.nt k i hp).1,h.lt hp⟩
 have nT:∀j,j<2+4*c->j∉(T x).map (·.2):=fun j hj hc=>by have:=(h.ltT h1 h2 hc).1;omega
 refine⟨by rw[fr 0 (by omega) (by omega) (by omega) (by omega) (nT 0 (by omega))];exact h.p0,by rw[fr 1 h1l (by omega) (by omega) (by omega) (nT 1 (by omega))];exact h.p1,fun k i hi=>⟨(h.nt k i hi).1,?_⟩,h.ni,h.nk,h.bN,h.bQ,fun y y1 y2=>?_,fun y y1 y2 j hj hc=>?_,fun y z y1 y2 z1 z2 ne j hj hc=>?_,Nat.le_trans hg hl⟩
 ·have a:=h.nt k i hi
  rw[fr i (h.lt hi) (by omega) (by omega) (by omega) (fun z=>h.d1 x h1 h2 i z (List.mem_map.mpr ⟨_,hi,rfl⟩))]
  exact a.2
 ·by_cases e:y=x
  ·subst e
   rw[cQ,cQ,cQ,cQ]
   exact w
  ·rw[dH _ _ e,dH _ _ e,dH _ _ e,dH _ _ e]
   refine((h.wy y y1 y2).of_eq hl fun j hj hc=>fr j hj ?_ ?_ ?_ ?_).mono hb
   ·rcases hc with hc |hc
    ·omega
    ·have:=(h.ltT y1 y2 hc).1;omega
   ·rcases hc with hc |hc
    ·omega
    ·have:=(h.ltT y1 y2 hc).1;omega
   ·rcases hc with hc |hc
    ·omega
    ·have:=(h.ltT y1 y2 hc).1;omega
   ·rcases hc with hc |hc
    ·exact nT j (by omega)
    ·exact h.d2 y x y1 y2 h1 h2 e j hc
 ·by_cases e:y=x
  ·subst e
   rw[cQ] at hj
   rcases hT j hj with z |z
   ·exact h.d1 y y1 y2 j z hc
   ·have:=(hN j hc).2;omega
  ·rw[dH _ _ e] at hj
   exact h.d1 y y1 y2 j hj hc
 ·by_cases e:y=x
  ·subst e
   rw[cQ] at hj
   rw[dH _ _ (Ne.symm ne)] at hc
   rcases hT j hj with w' |w'
   ·exact h.d2 y z y1 y2 z1 z2 ne j w' hc
   ·have:=(h.ltT z1 z2 hc).2;omega
  ·rw[dH _ _ e] at hj
   by_cases e2:z=x
   ·subst e2
    rw[cQ] at hc
    rcases hT j hc with w' |w'
    ·exact h.d2 y z y1 y2 z1 z2 ne j hj w'
    ·have:=(h.ltT y1 y2 hj).2;omega
   ·rw[dH _ _ e2] at hc
    exact h.d2 y z y1 y2 z1 z2 ne j hj hc
theorem Ph.raise(h:Ph c r Ω N Q L T X M b q)(r':Int):Ph c r' (Ω.set 0 (.dK (wKV c r'))) N Q L T X M b q:=by
 have hg:=h.bg
 refine⟨List.getElem?_set_self (by omega),by rw[List.getElem?_set_ne (by omega)];exact h.p1,fun k i hi=>⟨(h.nt k i hi).1,by have:=(h.nt k i hi).1;rw[List.getElem?_set_ne (by omega)];exact(h.nt k i hi).2⟩,h.ni,h.nk,h.bN,h.bQ,fun x h1 h2=>(h.wy x h1 h2).of_eq (by simp) fun j hj hc=>List.getElem?_set_ne fun z=>?_,h.d1,h.d2,by rw[List.length_set];exact hg⟩
 subst z
 rcases hc with hc |hc
 ·omega
 ·have:=(h.ltT h1 h2 hc).1;omega
end
end Law
namespace Law
open PySem DL
noncomputable def tlO:Option Tl->D
 | some t=>tlD t
 | none=>.non
noncomputable def Ok(r:Int)(M:TyM)(i:Int)(num f:Int):Prop:=if i=0 then num<=r else ∃p,aF (M i.toNat) 0=some p/\(num<p.1\/(num=p.1/\p.2<=f))
theorem Ew(t:Tl):pl (tlD t)=true/\dep (tlD t)<=1:=by
 obtain⟨n,f⟩:=t
 cases f<;>simp[tlD,faD,pl,plL,dep,gR]
theorem Bp(t:Option Tl):pl (tlO t)=true/\dep (tlO t)<=1:=by
 cases t with
 | none=>simp[tlO,pl,dep]
 | some t=>exact Ew t
theorem Kw(t t':Option Tl):∃z,eqD true (tlO t) (tlO t')=some (.bl z):=by
 have p1:=Bp t
 have p2:=Bp t'
 by_cases e:tlO t=tlO t'
 ·rw[e]
  exact⟨_,qx true p2.1 (by omega)⟩
 ·exact⟨_,vG true p1.1 p2.1 (by omega) (by omega) e⟩
section
variable {c b q:Nat} {r:Int} {Ω:List OS} {N:TyN} {Q:TyQ} {L:TyL} {T:TyT} {X:TyX} {M:TyM}
theorem meW{m:Str}{F:bf}{g:Den}{ga:bz}{ds:List D}{ρ:List Sl}{n:Nat}(w:Ω[n]? = some (.ins "Ways" (eN n)))(hg:g ρ Ω=some (.obj n,Ω))(hl:List.lookup m (eN n)=none)(ha:ga ρ Ω=some (ds,Ω)):bI "Ways" m F [] g ga ρ Ω=F (.obj n::ds) Ω:=by
 simp[hg,w,hl,ha]
theorem nP(h:Ph c r Ω N Q L T X M b q){ρ:List Sl}{i x:Nat}(h0:ρ[0]? = some (.dat (.obj 0)))(hi:ρ[i]? = some (.dat (.int x)))(hx:x<c):gOp ixD (aJ (aj 0) (gC (.str "ways"))) (aj i) ρ Ω=some (.obj (2+4*x),Ω):=by
 have e:=Eu hx
 have p0:=h.p0
 have vw:=v_w c r
 rw[uE]
 rw[show aJ (aj 0) (gC (.str "ways")) ρ Ω=some (.lst (wsL c),Ω) by simp[h0,p0,vw]]
 dsimp only
 rw[jQ,hi]
 dsimp only
 rw[e]
theorem qP(h:Ph c r Ω N Q L T X M b q){ρ:List Sl}(h0:ρ[0]? = some (.dat (.obj 0))):aJ (aj 0) (gC (.str "notes")) ρ Ω=some (.obj 1,Ω):=by
 have p0:=h.p0
 have vn:=v_n c r
 simp[h0,p0,vn]
theorem lkN(N:TyN)(a b:Int):fH (.dT (mpA pK D.obj N)) (.tup [.int a,.int b])=some ((aF N (a,b)).map D.obj):=by
 show some (cC (mpA pK D.obj N) (pK (a,b)))=_
 rw[iY nJ D.obj (a,b) N]
theorem lkF(N:TyN)(a b:Int):fH (.fzT (mpA pK D.obj N)) (.tup [.int a,.int b])=some ((aF N (a,b)).map D.obj):=by
 show some (cC (mpA pK D.obj N) (pK (a,b)))=_
 rw[iY nJ D.obj (a,b) N]
theorem JL{L0:List (Int×Int)}{X0:Int->List (Int×Tl)}{M0:List (Int×(Int×Int))}(kn:(L0.map (·.1)).Nodup)(iv:IV L0 X0 M0 0){u:Int×Int×Int}{p:Int×Int}(hp:aF M0 0=some p)(hu:u∈Us L0 X0 (aF M0 0) 0):u.1=p.1/\p.2<=u.2.1/\∃l num f,aF L0 u.2.2=some l/\aF (X0 u.2.2) 0=some (num,some f)/\u.1=num/\bt num f p.1 p.2=true:=by
 obtain⟨n,l,num,f,h1,h2,h3,rfl⟩:=(jW kn).mp hu
 rw[hp] at h3
 have hb:bt num f p.1 p.2=true:=h3
 obtain⟨p',e1,e2,e3⟩:=iv n l num f h1 h2
 rw[hp] at e1
 cases e1
 have hg:=fL.mp hb
 have e:num=p.1:=by omega
 exact⟨e,e3 e,l,num,f,h1,h2,rfl,hb⟩
theorem jl(h:Ph c r Ω N Q L T X M b q)(hb:b<=490){x:Nat}(hx:x<c):∃t:Option Tl,bJ [.obj 0,.int x] Ω=some (tlO t,Ω)/\∀num f,t=some (num,some f)->(1<=x->IV (L x) (X x) (M x) 0)->Ok r M x num f:=by
 have p0:=h.p0
 have vr:=v_r c r
 by_cases h0:x=0
 ·subst h0
  refine⟨some (r,some 0),cN rfl (iU ?_),fun num f e _=>?_⟩
  ·simp[p0,vr,tlO,tlD,faD]
  ·cases e
   exact(if_pos rfl).mpr (Int.le_refl _)
 ·have x1:1<=x:=by omega
  have w:=h.wy x x1 hx
  have mk:=jU w 0
  obtain⟨d,hd,ed⟩:=oV w (by omega) 0
  have xi:¬((x:Int)=0):=by omega
  have s1:∀{t:aO},aH (sIf (gT (gOp (eqD false) (aj 1) (gC (.int 0)))) (cg (bD (ak (aJ (aj 0) (gC (.str "raised"))) (ak (gC (.int 0)) au)))) bc) t [.dat (.obj 0),.dat (.int x),.und,.und] Ω=t [.dat (.obj 0),.dat (.int x),.und,.und] Ω:=aN (by simp[h0])
  have s2:∀{t:aO},aH (a_ 2 (bI "Ways" "mark" bu [] (gOp ixD (aJ (aj 0) (gC (.str "ways"))) (aj 1)) (ak (gC (.int 0)) au))) t [.dat (.obj 0),.dat (.int x),.und,.und] Ω=t [.dat (.obj 0),.dat (.int x),.dat (mOD (aF (M x) 0)),.und] Ω:=aN (by
   rw[jq,meW w.o0 (nP h rfl rfl hx) nM rfl,mk]
   rfl)
  cases hm:aF (M x) 0 with
  | none =>
   rw[hm] at s2
   refine⟨none,cN rfl (s1.trans (s2.trans (iU ?_))),fun num f e=>(by cases e)⟩
   simp[mOD,isD,isNone,tlO]
  | some p =>
   rw[hm] at s2
   have s3:∀{t:aO},aH (sIf (gT (gOp (isD false) (aj 2) (gC .non))) (cg (gC .non)) bc) t [.dat (.obj 0),.dat (.int x),.dat (mOD (some p)),.und] Ω=t [.dat (.obj 0),.dat (.int x),.dat (mOD (some p)),.und] Ω:=aN (by simp[mOD,mkD,isD,isNone])
   have s4:∀{t:aO},aH (a_ 3 (bI "Ways" "way" bF [] (gOp ixD (aJ (aj 0) (gC (.str "ways"))) (aj 1)) (ak (gC (.int 0)) au))) t [.dat (.obj 0),.dat (.int x),.dat (mOD (some p)),.und] Ω=t [.dat (.obj 0),.dat (.int x),.dat (mOD (some p)),.dat d] Ω:=aN (by
    rw[jq,meW w.o0 (nP h rfl rfl hx) uJ rfl,ed]
    rfl)
   rcases hd with⟨_,rfl⟩ |⟨u,hu,rfl⟩
   ·refine⟨some (p.1,none),cN rfl (s1.trans (s2.trans (s3.trans (s4.trans (iU ?_))))),fun num f e=>(by cases e)⟩
    simp[mOD,mkD,isD,isNone,tlO,tlD,faD]
   ·refine⟨some (p.1,some u.2.1),cN rfl (s1.trans (s2.trans (s3.trans (s4.trans ((aN (ρ':=[.dat (.obj 0),.dat (.int x),.dat (mOD (some p)),.dat (w3 u)]) (Ω':=Ω) (by simp[w3,isD,isNone])).trans ?_))))),fun num f e iv=>?_⟩
    ·simp[mOD,mkD,w3,tlO,tlD,faD]
    ·cases e
     have k:=JL w.kn (iv x1) hm hu.1
     exact(if_neg xi).mpr ⟨p,by simpa using hm,.inr ⟨rfl,k.2.1⟩⟩
noncomputable def Nq(Q Q':TyQ)(x:Int)(P:Tl->Prop):Prop:=∀k e,e∈Q' k->e∈Q k\/(k.1=x/\P e)
theorem Nq.refl(Q:TyQ)(x:Int)(P:Tl->Prop):Nq Q Q x P:=fun _ _ h=>.inl h
noncomputable def vW:aO:=sIf (gT (gOp (isD true) (aj 3) (gC .non))) (uH (aJ (aJ (aj 0) (gC (.str "notes"))) (bD (ak (aj 1) (ak (aj 4) au)))) (aj 3)) bc
theorem mD{x:Nat}{t:Option Tl}(x2:Sl){P:Tl->Prop}(hP:∀e,t=some e->P e):∀(gs:List Int) (Ω:List OS) (Q:TyQ) (q:Nat) (x4:Sl),Ph c r Ω N Q L T X M b q->(∀g∈gs,((x:Int),g)∈N.map (·.1))->q+gs.length<50000->∃Ω' Q' y4,Ph c r Ω' N Q' L T X M b (q+gs.length)/\Nq Q Q' x P /\
  cV (aV 4) vW (gs.map D.int) [.dat (.obj 0),.dat (.int x),x2,.dat (tlO t),x4] Ω=some (.nx [.dat (.obj 0),.dat (.int x),x2,.dat (tlO t),y4] Ω')
 | [],Ω,Q,q,x4,h,_,_=>⟨Ω,Q,x4,h,Nq.refl _ _ _,rfl⟩
 | g::gs,Ω,Q,q,x4,h,hk,hl=>by
  rw[List.length_cons] at hl
  obtain⟨i,gi,mi⟩:=h.get (hk g List.mem_cons_self)
  have stp:aV 4 (.int g) [.dat (.obj 0),.dat (.int x),x2,.dat (tlO t),x4]=some [.dat (.obj 0),.dat (.int x),x2,.dat (tlO t),.dat (.int g)]:=rfl
  cases t with
  | none =>
   obtain⟨Ω',Q',y4,h',n',e'⟩:=mD x2 hP gs Ω Q q (.dat (.int g)) h (fun z hz=>hk z (List.mem_cons_of_mem _ hz)) (by omega)
   refine⟨Ω',Q',y4,h'.mono (Nat.le_refl _) (by simp),n',?_⟩
   rw[List.map_cons,cG,stp]
   dsimp only
   rw[show vW [.dat (.obj 0),.dat (.int x),x2,.dat (tlO none),.dat (.int g)] Ω=some (.nx [.dat (.obj 0),.dat (.int x),x2,.dat (tlO none),.dat (.int g)] Ω) by simp[vW,tlO,isD,isNone]]
   exact e'
  | some e =>
   have hq:=h.bQ (x,g)
   have h1:=h.setQ mi (v:=Q (x,g)++[e]) (q':=q+1) (by omega) (by simp;omega)
   obtain⟨Ω',Q',y4,h',n',e'⟩:=mD x2 hP gs _ _ (q+1) (.dat (.int g)) h1 (fun z hz=>hk z (List.mem_cons_of_mem _ hz)) (by omega)
   refine⟨Ω',Q',y4,h'.mono (Nat.le_refl _) (by simp;omega),fun k z hz=>?_,?_⟩
   ·rcases n' k z hz with w |w
    ·by_cases ek:k=((x:Int),g)
     ·subst ek
      rw[gU] at w
      rcases List.mem_append.mp w with w |w
      ·exact .inl w
      ·exact .inr ⟨rfl,hP z (by rw[List.mem_singleton.mp w])⟩
     ·rw[jh _ _ ek] at w
      exact .inl w
    ·exact .inr w
   ·rw[List.map_cons,cG,stp]
    dsimp only
    have hi:=(h.nt _ i mi).2
    have hb:(Q ((x:Int),g)).length<100000:=by omega
    have hn:=qP h (ρ:=[.dat (.obj 0),.dat (.int x),x2,.dat (tlO (some e)),.dat (.int g)]) rfl
    have p1:=h.p1
    have lk:=lkN N x g
    rw[gi] at lk
    have eg:aJ (aJ (aj 0) (gC (.str "notes"))) (bD (ak (aj 1) (ak (aj 4) au))) [.dat (.obj 0),.dat (.int x),x2,.dat (tlO (some e)),.dat (.int g)] Ω=some (.obj i,Ω):=by
     rw[rR,hn]
     simp[p1,lk]
    rw[show vW [.dat (.obj 0),.dat (.int x),x2,.dat (tlO (some e)),.dat (.int g)] Ω=some (.nx [.dat (.obj 0),.dat (.int x),x2,.dat (tlO (some e)),.dat (.int g)] (Ω.set i (.mls ((Q ((x:Int),g)++[e]).map tlD)))) by
     unfold vW
     rw[d_]
     rw[show gT (gOp (isD true) (aj 3) (gC .non)) [.dat (.obj 0),.dat (.int x),x2,.dat (tlO (some e)),.dat (.int g)] Ω=some (true,Ω) by simp[tlO,tlD,isD,isNone]]
     dsimp only
     unfold uH
     rw[eg]
     simp[hi,hb,tlO,lq,lg,big]]
    exact e'
theorem nQ(h:Ph c r Ω N Q L T X M b q)(hb:b<=490){x:Nat}(hx:x<c){gs:List Int}(hk:∀g∈gs,((x:Int),g)∈N.map (·.1))(hl:q+gs.length<50000):∃Ω' Q',Ph c r Ω' N Q' L T X M b (q+gs.length)/\Nq Q Q' x (fun e=>∀num f,e=(num,some f)->(1<=x->IV (L x) (X x) (M x) 0)->Ok r M x num f)/\cR [.obj 0,.int x,.lst (gs.map D.int)] Ω=some (.non,Ω'):=by
 obtain⟨t,et,ht⟩:=jl h hb hx
 obtain⟨Ω',Q',y4,h',n',e'⟩:=mD (t:=t) (.dat (.lst (gs.map D.int))) (P:=fun e=>∀num f,e=(num,some f)->(1<=x->IV (L x) (X x) (M x) 0)->Ok r M x num f) (fun e he num f z iv=>ht num f (by rw[he,z]) iv) gs Ω Q q .und h hk hl
 refine⟨Ω',Q',h',n',fK (ρ':=[.dat (.obj 0),.dat (.int x),.dat (.lst (gs.map D.int)),.dat (tlO t),y4]) rfl ?_⟩
 refine(aN (ρ':=[.dat (.obj 0),.dat (.int x),.dat (.lst (gs.map D.int)),.dat (tlO t),.und]) (Ω':=Ω) (by simp[et])).trans ?_
 rw[gr]
 exact e'
theorem vY{p:bR}{rest:List Sl}{f:Int->Bool}:∀(ks:List Int) (x:Sl),(∀k∈ks,p (.dat (.int k)::rest) Ω=some (f k,Ω))->cW (aV 0) p (aj 0) (ks.map D.int) (x::rest) Ω=some ((ks.filter f).map D.int,Ω)
 | [],x,_=>rfl
 | k::ks,x,h=>by
  have ih:=vY ks (.dat (.int k)) fun z hz=>h z (List.mem_cons_of_mem _ hz)
  have e:=h k List.mem_cons_self
  rw[List.map_cons,mR,List.filter_cons]
  rw[show aV 0 (.int k) (x::rest)=some (.dat (.int k)::rest) from rfl]
  dsimp only
  rw[e]
  cases hf:f k with
  | false=>simpa [hf] using ih
  | true=>simp[ih]
theorem yf(h:Ph c r Ω N Q L T X M b q)(hc:c<=1000)(x:Nat):∃gs:List Int,gs.length<=c/\(∀g∈gs,((x:Int),g)∈N.map (·.1))/\cI [.obj 0,.int x] Ω=some (.lst (gs.map D.int),Ω):=by
 have p0:=h.p0
 have vc:=v_c c r
 have p1:=h.p1
 have er:upD 0 c=((List.range c).map fun(k:Nat)=>((k:Nat):Int)).map D.int:=by simp[upD]
 refine⟨((List.range c).map fun(k:Nat)=>((k:Nat):Int)).filter fun g=>(aF N ((x:Int),g)).isSome,?_,fun g hg=>?_,cN rfl ?_⟩
 ·refine Nat.le_trans (List.length_filter_le _ _) (by simp)
 ·have:=(List.mem_filter.mp hg).2
  cases z:aF N ((x:Int),g) with
  | none=>rw[z] at this;cases this
  | some i=>exact List.mem_map.mpr ⟨_,jg z,rfl⟩
 ·have eg:dg fX (ak (aJ (aj 0) (gC (.str "count"))) au) [.dat (.obj 0),.dat (.int x)] Ω=some (((List.range c).map fun(k:Nat)=>((k:Nat):Int)).map D.int,Ω):=by
   have r1:=qm (j:=(c:Int)) (by omega) (by omega)
   rw[show((c:Int)).toNat=c by omega,er] at r1
   rw[jo]
   simp[p0,vc,r1]
  have ei:di [none,some 1,some 0] [Sl.dat (.obj 0),.dat (.int x)]=[.und,.dat (.int x),.dat (.obj 0)]:=rfl
  have ec:=vY (Ω:=Ω) (p:=gT (gG false (bD (ak (aj 1) (ak (aj 0) au))) (aJ (aj 2) (gC (.str "notes"))))) (rest:=[.dat (.int x),.dat (.obj 0)]) (f:=fun g=>(aF N ((x:Int),g)).isSome) ((List.range c).map fun(k:Nat)=>((k:Nat):Int)) .und (fun k _=>by
   have vn:=v_n c r
   have lk:=lkN N x k
   simp[p0,vn,p1,lk])
  show cg (ji [none,some 1,some 0] _ _ _ _) [Sl.dat (.obj 0),.dat (.int x)] Ω=_
  rw[Jl,xO,eg,ei]
  dsimp only
  rw[if_pos (by simp;omega),ec]
theorem oZ(h:Ph c r Ω N Q L T X M b q)(hb:b<=490)(hc:c<=6){x:Nat}(hx:x<c)(t':Option Tl)(hl:q+6<50000):∃Ω' Q',Ph c r Ω' N Q' L T X M b (q+6)/\Nq Q Q' x (fun e=>∀num f,e=(num,some f)->(1<=x->IV (L x) (X x) (M x) 0)->Ok r M x num f)/\dz [.obj 0,.int x,tlO t'] Ω=some (.non,Ω'):=by
 obtain⟨t,et,_⟩:=jl h hb hx
 obtain⟨gs,g1,g2,g3⟩:=yf h (by omega) x
 obtain⟨z,ez⟩:=Kw t t'
 obtain⟨Ω',Q',h',n',e'⟩:=nQ h hb hx g2 (by omega)
 have tz:gT (gOp (eqD true) (aL bJ (ak (aj 0) (ak (aj 1) au))) (aj 2)) [.dat (.obj 0),.dat (.int x),.dat (tlO t')] Ω=some (z,Ω):=by simp[et,ez]
 by_cases h0:x=0
 ·subst h0
  exact⟨Ω,Q,h.mono (Nat.le_refl _) (by omega),Nq.refl _ _ _,fK (ρ':=[.dat (.obj 0),.dat (.int 0),.dat (tlO t')]) rfl (by simp)⟩
 ·have x0:(0:Int)<x:=by omega
  have t0:gT (gOp gtD (aj 1) (gC (.int 0))) [.dat (.obj 0),.dat (.int x),.dat (tlO t')] Ω=some (true,Ω):=by simp;omega
  cases z with
  | false =>
   refine⟨Ω,Q,h.mono (Nat.le_refl _) (by omega),Nq.refl _ _ _,fK (ρ':=[.dat (.obj 0),.dat (.int x),.dat (tlO t')]) rfl ?_⟩
   show sIf _ _ _ [.dat (.obj 0),.dat (.int x),.dat (tlO t')] Ω=_
   rw[d_,gD,t0]
   dsimp only
   rw[tz]
   rfl
  | true =>
   refine⟨Ω',Q',h'.mono (Nat.le_refl _) (by omega),n',fK (ρ':=[.dat (.obj 0),.dat (.int x),.dat (tlO t')]) rfl ?_⟩
   show sIf _ _ _ [.dat (.obj 0),.dat (.int x),.dat (tlO t')] Ω=_
   rw[d_,gD,t0]
   dsimp only
   rw[tz]
   dsimp only
   simp[g3,e']
end
end Law
namespace Law
open PySem DL
structure Lg(c:Nat)(r:Int)(N:TyN)(Q:TyQ)(L:TyL)(X:TyX)(M:TyM):Prop where
 ky:∀k∈N.map (·.1),0<=k.1/\k.1<(c:Int)/\0<=k.2/\k.2<(c:Int)
 tk:∀h,1<=h->h<c->∀n,((h:Int),n)∈N.map (·.1)↔(aF (L h) n).isSome=true
 l0:∀h,1<=h->h<c->∀n l,aF (L h) n=some l->0<=l
 iv:∀h,1<=h->h<c->∀g,IV (L h) (X h) (M h) g
 te:∀h,1<=h->h<c->∀n l num f,aF (L h) n=some l->aF (X h n) 0=some (num,some f)->Ok r M n num f
 iq:∀k∈N.map (·.1),∀num f,(num,some f)∈Q k->Ok r M k.1 num f
 mr:∀h,1<=h->h<c->∀p,aF (M h) 0=some p->p.1<=r
theorem Ok.mono{r r':Int}{M M':TyM}{i num f:Int}(h:Ok r M i num f)(hr:r<=r')(hm:nO (M i.toNat) (M' i.toNat)):Ok r' M' i num f:=by
 unfold Ok at h ⊢
 by_cases e:i=0
 ·rw[if_pos e] at h ⊢
  omega
 ·rw[if_neg e] at h ⊢
  obtain⟨p,h1,h2⟩:=h
  obtain⟨p',h3,h4⟩:=hm 0 p h1
  refine⟨p',h3,?_⟩
  rcases h4 with rfl |h4
  ·exact h2
  ·have:=fL.mp h4
   omega
theorem Ok.le{c:Nat}{r:Int}{N:TyN}{Q:TyQ}{L:TyL}{X:TyX}{M:TyM}(g:Lg c r N Q L X M){i num f:Int}(h0:0<=i)(h1:i<c)(h:Ok r M i num f):num<=r:=by
 unfold Ok at h
 by_cases e:i=0
 ·rw[if_pos e] at h;exact h
 ·rw[if_neg e] at h
  obtain⟨p,h2,h3⟩:=h
  have:=g.mr i.toNat (by omega) (by omega) p h2
  omega
section
variable {c b q:Nat} {r:Int} {Ω:List OS} {N:TyN} {Q:TyQ} {L:TyL} {T:TyT} {X:TyX} {M:TyM}
theorem Lg.notes(g:Lg c r N Q L X M){Q':TyQ}{x:Int}{P:Tl->Prop}(n:Nq Q Q' x P)(hP:∀num f,P (num,some f)->Ok r M x num f):Lg c r N Q' L X M :=
 ⟨g.ky,g.tk,g.l0,g.iv,g.te,fun k hk num f hm=>by
  rcases n k _ hm with z |⟨z1,z2⟩
  ·exact g.iq k hk num f z
  ·rw[z1];exact hP num f z2,g.mr⟩
theorem Lg.fewer(g:Lg c r N Q L X M){k:Int×Int}{e:Tl}{es:List Tl}(hq:Q k=e::es):Lg c r N (sG Q k es) L X M :=
 ⟨g.ky,g.tk,g.l0,g.iv,g.te,fun k' hk num f hm=>by
  by_cases z:k'=k
  ·subst z
   rw[gU] at hm
   exact g.iq k' hk num f (by rw[hq];exact List.mem_cons_of_mem _ hm)
  ·rw[jh _ _ z] at hm
   exact g.iq k' hk num f hm,g.mr⟩
theorem Lg.raise(g:Lg c r N Q L X M){r':Int}(hr:r<=r'):Lg c r' N Q L X M :=
 ⟨g.ky,g.tk,g.l0,g.iv,fun h h1 h2 n l num f e1 e2=>(g.te h h1 h2 n l num f e1 e2).mono hr (nO.refl _),fun k hk num f hm=>(g.iq k hk num f hm).mono hr (nO.refl _),fun h h1 h2 p hp=>Int.le_trans (g.mr h h1 h2 p hp) hr⟩
theorem lM{N:TyN}{k k':Int×Int}{i:Nat}(hk:k∉N.map (·.1)):k'∈(aX N k i).map (·.1)↔k'∈N.map (·.1)\/k'=k:=by
 rw[iC hk,List.map_append,List.mem_append]
 simp
theorem iJ{N:TyN}{k k':Int×Int}:k'∈(cJ N k).map (·.1)↔k'∈N.map (·.1)/\k'≠k:=by
 rw[kE,List.mem_filter]
 simp
theorem Lg.tie(g:Lg c r N Q L X M){x:Nat}(hx:x<c){y:Int}(y0:0<=y)(yc:y<c)(hk:((x:Int),y)∉N.map (·.1)){l:Int}(hl:0<=l)(i:Nat):Lg c r (aX N ((x:Int),y) i) (sG Q ((x:Int),y) []) (if x=0 then L else upF L x (aX (L x) y l)) (if x=0 then X else upF X x (upX (X x) y [])) M:=by
 have hL:∀h,1<=h->h<c->∀n,aF ((if x=0 then L else upF L x (aX (L x) y l)) h) n=if h=x/\n=y then some l else aF (L h) n:=fun h h1 h2 n=>by
  by_cases e0:x=0
  ·rw[if_pos e0,if_neg (by omega)]
  ·rw[if_neg e0]
   by_cases e:h=x
   ·subst e
    rw[cQ,iz]
    by_cases en:n=y
    ·rw[if_pos en,if_pos ⟨rfl,en⟩]
    ·rw[if_neg en,if_neg (fun z=>en z.2)]
   ·rw[dH _ _ e,if_neg (fun z=>e z.1)]
 have hX:∀h,1<=h->h<c->∀n g',aF ((if x=0 then X else upF X x (upX (X x) y [])) h n) g'=if h=x/\n=y then none else aF (X h n) g':=fun h h1 h2 n g'=>by
  by_cases e0:x=0
  ·rw[if_pos e0,if_neg (by omega)]
  ·rw[if_neg e0]
   by_cases e:h=x
   ·subst e
    rw[cQ]
    unfold upX
    by_cases en:n=y
    ·rw[if_pos en,if_pos ⟨rfl,en⟩];rfl
    ·rw[if_neg en,if_neg (fun z=>en z.2)]
   ·rw[dH _ _ e,if_neg (fun z=>e z.1)]
 refine⟨fun k hk'=>?_,fun h h1 h2 n=>?_,fun h h1 h2 n l' e=>?_,fun h h1 h2 g' n l' num f e1 e2=>?_,fun h h1 h2 n l' num f e1 e2=>?_,fun k hk' num f hm=>?_,g.mr⟩
 ·rcases (lM hk).mp hk' with z |rfl
  ·exact g.ky k z
  ·exact⟨by omega,by omega,y0,yc⟩
 ·rw[lM hk,hL h h1 h2]
  by_cases e:h=x/\n=y
  ·rw[if_pos e]
   simp[e.1,e.2]
  ·rw[if_neg e,<-g.tk h h1 h2 n]
   constructor
   ·rintro (z |z)
    ·exact z
    ·injection z with z1 z2
     exact absurd ⟨by omega,z2⟩ e
   ·exact .inl
 ·rw[hL h h1 h2] at e
  split at e
  ·cases e;exact hl
  ·exact g.l0 h h1 h2 n l' e
 ·rw[hX h h1 h2] at e2
  split at e2
  ·cases e2
  ·rename_i ne
   rw[hL h h1 h2,if_neg ne] at e1
   exact g.iv h h1 h2 g' n l' num f e1 e2
 ·rw[hX h h1 h2] at e2
  split at e2
  ·cases e2
  ·rename_i ne
   rw[hL h h1 h2,if_neg ne] at e1
   exact g.te h h1 h2 n l' num f e1 e2
 ·by_cases z:k=((x:Int),y)
  ·rw[z,gU] at hm;cases hm
  ·rw[jh _ _ z] at hm
   rcases (lM hk).mp hk' with z' |z'
   ·exact g.iq k z' num f hm
   ·exact absurd z' z
theorem Lg.untie(g:Lg c r N Q L X M){x:Nat}{y:Int}:Lg c r (cJ N ((x:Int),y)) Q (if x=0 then L else upF L x (cJ (L x) y)) X M:=by
 have hL:∀h,1<=h->h<c->∀n,aF ((if x=0 then L else upF L x (cJ (L x) y)) h) n=if h=x/\n=y then none else aF (L h) n:=fun h h1 h2 n=>by
  by_cases e0:x=0
  ·rw[if_pos e0,if_neg (by omega)]
  ·rw[if_neg e0]
   by_cases e:h=x
   ·subst e
    rw[cQ,Du]
    by_cases en:n=y
    ·rw[if_pos en,if_pos ⟨rfl,en⟩]
    ·rw[if_neg en,if_neg (fun z=>en z.2)]
   ·rw[dH _ _ e,if_neg (fun z=>e z.1)]
 refine⟨fun k hk'=>g.ky k (iJ.mp hk').1,fun h h1 h2 n=>?_,fun h h1 h2 n l' e=>?_,fun h h1 h2 g' n l' num f e1 e2=>?_,fun h h1 h2 n l' num f e1 e2=>?_,fun k hk' num f hm=>g.iq k (iJ.mp hk').1 num f hm,g.mr⟩
 ·rw[iJ,hL h h1 h2,g.tk h h1 h2 n]
  by_cases e:h=x/\n=y
  ·rw[if_pos e]
   simp[e.1,e.2]
  ·rw[if_neg e]
   constructor
   ·exact fun z=>z.1
   ·refine fun z=>⟨z,fun z'=>?_⟩
    injection z' with z1 z2
    exact e ⟨by omega,z2⟩
 ·rw[hL h h1 h2] at e
  split at e
  ·cases e
  ·exact g.l0 h h1 h2 n l' e
 ·rw[hL h h1 h2] at e1
  split at e1
  ·cases e1
  ·exact g.iv h h1 h2 g' n l' num f e1 e2
 ·rw[hL h h1 h2] at e1
  split at e1
  ·cases e1
  ·exact g.te h h1 h2 n l' num f e1 e2
theorem Lg.hear(g:Lg c r N Q L X M){x:Nat}(h1:1<=x)(h2:x<c)(kn:((L x).map (·.1)).Nodup){y:Int}(yk:∃l,aF (L x) y=some l){num:Int}{f:Option Int}(ok:∀z,f=some z->Ok r M y num z){M':List (Int×(Int×Int))}
  (hM:(Us (L x) (upX (X x) y (aX (X x y) 0 (num,f))) (aF (M x) 0) 0=[]/\M'=M x)\/∃u,zb (Us (L x) (upX (X x) y (aX (X x y) 0 (num,f))) (aF (M x) 0) 0) u/\M'=aX (M x) 0 (bet (aF (M x) 0) u.1 u.2.1)):Lg c r N Q L (upF X x (upX (X x) y (aX (X x y) 0 (num,f)))) (upF M x M'):=by
 obtain⟨iv',mono⟩:=Hh kn (g.l0 x h1 h2) (g.iv x h1 h2) hM
 have mm:∀h,nO (M h) (upF M x M' h):=fun h=>by
  by_cases e:h=x
  ·subst e;rw[cQ];exact mono
  ·rw[dH _ _ e];exact nO.refl _
 have te':∀n l num' f',aF (L x) n=some l->aF (upX (X x) y (aX (X x y) 0 (num,f)) n) 0=some (num',some f')->Ok r M n num' f':=fun n l num' f' e1 e2=>by
  unfold upX at e2
  by_cases en:n=y
  ·rw[if_pos en,iz,if_pos rfl] at e2
   cases e2
   rw[en]
   exact ok f' rfl
  ·rw[if_neg en] at e2
   exact g.te x h1 h2 n l num' f' e1 e2
 refine⟨g.ky,g.tk,g.l0,fun h a1 a2 g'=>?_,fun h a1 a2 n l num' f' e1 e2=>?_,fun k hk num' f' hm=>(g.iq k hk num' f' hm).mono (Int.le_refl _) (mm _),fun h a1 a2 p hp=>?_⟩
 ·by_cases e:h=x
  ·subst e
   rw[cQ,cQ]
   exact iv' g'
  ·rw[dH _ _ e,dH _ _ e]
   exact g.iv h a1 a2 g'
 ·refine Ok.mono (M:=M) ?_ (Int.le_refl _) (mm _)
  by_cases e:h=x
  ·subst e
   rw[cQ] at e2
   exact te' n l num' f' e1 e2
  ·rw[dH _ _ e] at e2
   exact g.te h a1 a2 n l num' f' e1 e2
 ·by_cases e:h=x
  ·subst e
   rw[cQ] at hp
   rcases hM with⟨_,rfl⟩ |⟨u,hu,rfl⟩
   ·exact g.mr h a1 a2 p hp
   ·rw[iz,if_pos rfl] at hp
    cases hp
    obtain⟨n,l,num',f',w1,w2,_,w4⟩:=(jW kn).mp hu.1
    have k1:=te' n l num' f' w1 w2
    have kk:=g.ky _ ((g.tk h a1 a2 n).mpr (by rw[w1];rfl))
    have:=Ok.le g (by exact kk.2.2.1) (by exact kk.2.2.2) k1
    have eu:u.1=num':=by rw[w4]
    unfold bet
    cases aF (M h) 0 with
    | none=>dsimp only;omega
    | some p =>
     dsimp only
     split<;>(dsimp only;omega)
  ·rw[dH _ _ e] at hp
   exact g.mr h a1 a2 p hp
end
end Law
namespace Law
open PySem DL
noncomputable def Sym(N:TyN):Prop:=∀x y,(x,y)∈N.map (·.1)->(y,x)∈N.map (·.1)
noncomputable def Wn(c:Nat)(r:Int)(Ω:List OS)(N:TyN)(b q:Nat):Prop:=∃Q L T X M,Ph c r Ω N Q L T X M b q/\Lg c r N Q L X M/\Sym N
noncomputable def Wd(c:Nat)(r:Int)(Ω:List OS)(b q:Nat):Prop:=∃N Q L T X M,Ph c r Ω N Q L T X M b q/\Lg c r N Q L X M/\Sym N
theorem Wd.n{c:Nat}{r:Int}{Ω:List OS}{b q:Nat}(h:Wd c r Ω b q):∃N,Wn c r Ω N b q:=h
theorem Wn.d{c:Nat}{r:Int}{Ω:List OS}{N:TyN}{b q:Nat}(h:Wn c r Ω N b q):Wd c r Ω b q:=⟨N,h⟩
theorem Wd.mono{c:Nat}{r:Int}{Ω:List OS}{b q b' q':Nat}(h:Wd c r Ω b q)(hb:b<=b')(hq:q<=q'):Wd c r Ω b' q':=by
 obtain⟨N,Q,L,T,X,M,h,g,sy⟩:=h
 exact⟨N,Q,L,T,X,M,h.mono hb hq,g,sy⟩
theorem nR{α:Type}(f:Nat->α)(h:Nat):upF f h (f h)=f:=by
 funext k
 unfold upF
 split
 ·rename_i e;rw[e]
 ·rfl
theorem putN{N:TyN}(h:N.length<100000)(a b:Int)(n:Nat):mV (.dT (mpA pK D.obj N)) (.tup [.int a,.int b]) (.obj n)=some (.dT (mpA pK D.obj (aX N (a,b) n))):=by
 show(if(mpA pK D.obj N).length<100000 then some (OS.dT (putD (mpA pK D.obj N) (pK (a,b)) (D.obj n))) else none)=_
 rw[mC,if_pos h,lJ nJ D.obj N (a,b) n]
theorem Ky{N:TyN}{a b:Int}{n:Nat}(h:aF N (a,b)=some n):l_ (.dT (mpA pK D.obj N)) (.tup [.int a,.int b])=some (.obj n,.dT (mpA pK D.obj (cJ N (a,b)))):=by
 show(match cC (mpA pK D.obj N) (pK (a,b)) with |some v=>some (v,OS.dT (ie (mpA pK D.obj N) (pK (a,b)))) |none=>none)=_
 rw[iY nJ D.obj (a,b) N,h,sE nJ D.obj N (a,b)]
 rfl
noncomputable def cmB:aO:=aH (eF (aJ (aj 0) (gC (.str "notes"))) (bD (ak (aj 4) (ak (aj 5) au))) (qI au)) (sIf (gT (gOp gtD (aj 4) (gC (.int 0)))) (bw (bI "Ways" "tie" gb [] (gOp ixD (aJ (aj 0) (gC (.str "ways"))) (aj 4)) (ak (aj 5) (ak (aj 3) au)))) bc)
noncomputable def snB:aO:=bw (aL cR (ak (aj 0) (ak (aj 4) (ak (fj (ak (aj 5) au)) au))))
section
variable {c b q:Nat} {r:Int} {Ω:List OS} {N:TyN} {Q:TyQ} {L:TyL} {T:TyT} {X:TyX} {M:TyM}
theorem tZ(h:Ph c r Ω N Q L T X M b q)(g:Lg c r N Q L X M)(hb:b<=490)(hq:q<40000){x y:Nat}(hx:x<c)(hy:y<c)(hk:((x:Int),(y:Int))∉N.map (·.1)){l:Int}(hl:0<=l)(x1 x2:Sl):∃Ω' N' Q' L' T' X',Ph c r Ω' N' Q' L' T' X' M (b+1) (q+1)/\Lg c r N' Q' L' X' M/\(∀k,k∈N'.map (·.1)↔k∈N.map (·.1)\/k=((x:Int),(y:Int))) /\
  cmB [.dat (.obj 0),x1,x2,.dat (.int l),.dat (.int x),.dat (.int y)] Ω=some (.nx [.dat (.obj 0),x1,x2,.dat (.int l),.dat (.int x),.dat (.int y)] Ω'):=by
 have p1:=h.newN hk
 have gl:=g.tie hx (y:=(y:Int)) (by omega) (by omega) hk hl Ω.length
 have hN:N.length<100000:=by have:=h.bN;omega
 have pn:=putN hN x y Ω.length
 have ha:=h.app (.mls [])
 have s1:∀{t:aO},aH (eF (aJ (aj 0) (gC (.str "notes"))) (bD (ak (aj 4) (ak (aj 5) au))) (qI au)) t [.dat (.obj 0),x1,x2,.dat (.int l),.dat (.int x),.dat (.int y)] Ω=t [.dat (.obj 0),x1,x2,.dat (.int l),.dat (.int x),.dat (.int y)] ((Ω++[OS.mls []]).set 1 (.dT (mpA pK D.obj (aX N ((x:Int),(y:Int)) Ω.length)))):=aN (by
  have hn:=qP ha (ρ:=[.dat (.obj 0),x1,x2,.dat (.int l),.dat (.int x),.dat (.int y)]) rfl
  have e1:=ha.p1
  rw[xT,show qI au [.dat (.obj 0),x1,x2,.dat (.int l),.dat (.int x),.dat (.int y)] Ω=some (.obj Ω.length,Ω++[OS.mls []]) from rfl]
  dsimp only
  rw[hn]
  generalize Ω++[OS.mls []]=Ω1 at *
  simp[e1,pn])
 by_cases h0:x=0
 ·subst h0
  rw[if_pos rfl,if_pos rfl] at gl
  refine⟨_,_,_,L,T,X,p1.mono (Nat.le_succ _) (Nat.le_refl _),gl,fun k=>lM hk,?_⟩
  unfold cmB
  refine s1.trans ?_
  simp
 ·rw[if_neg h0,if_neg h0] at gl
  have x1':1<=x:=by omega
  have w1:=p1.wy x x1' hx
  have hn:aF (L x) y=none:=by
   cases z:aF (L x) y with
   | none=>rfl
   | some v=>exact absurd ((g.tk x x1' hx y).mpr (by rw[z];rfl)) hk
  have w2:=w1.tie hn l
  have ty:=Hg w1 (by omega) hn l
  have p2:=p1.house x1' hx (Nat.le_succ b) w2 (by rw[x_];omega) (fun j hj n1 n2 n3 _=>oW hj n1 n2) (fun j hj=>by
   have hnT:(y:Int)∉(T x).map (·.1):=by rw[w1.kt];exact dR.mp hn
   rw[iC hnT,List.map_append] at hj
   rcases List.mem_append.mp hj with z |z
   ·exact .inl z
   ·simp at z
    exact .inr (by rw[z];simp))
  rw[nR] at p2
  refine⟨_,_,_,_,_,_,p2,gl,fun k=>lM hk,?_⟩
  unfold cmB
  refine s1.trans ?_
  generalize (Ω++[OS.mls []]).set 1 (.dT (mpA pK D.obj (aX N ((x:Int),(y:Int)) Ω.length)))=Ω1 at *
  rw[d_,show gT (gOp gtD (aj 4) (gC (.int 0))) [.dat (.obj 0),x1,x2,.dat (.int l),.dat (.int x),.dat (.int y)] Ω1=some (true,Ω1) by simp;omega]
  dsimp only
  rw[oO,meW w1.o0 (nP p1 (i:=4) rfl rfl hx) Ku rfl]
  rw[ty]
theorem vZ(h:Ph c r Ω N Q L T X M b q)(g:Lg c r N Q L X M)(hb:b<=490)(hq:q<40000){x y:Nat}(hx:x<c)(hk:((x:Int),(y:Int))∈N.map (·.1))(x1 x2 x3:Sl):∃Ω' Q',Ph c r Ω' N Q' L T X M b (q+1)/\Lg c r N Q' L X M /\
  snB [.dat (.obj 0),x1,x2,x3,.dat (.int x),.dat (.int y)] Ω=some (.nx [.dat (.obj 0),x1,x2,x3,.dat (.int x),.dat (.int y)] Ω'):=by
 obtain⟨Ω',Q',h',n',e'⟩:=nQ h hb hx (gs:=[(y:Int)]) (fun z hz=>by rw[List.mem_singleton.mp hz];exact hk) (by simp;omega)
 refine⟨Ω',Q',h',g.notes n' fun num f hp=>hp num f rfl fun x1=>g.iv x x1 hx 0,?_⟩
 have e2:cR [.obj 0,.int x,.lst [.int y]] Ω=some (.non,Ω'):=e'
 unfold snB
 simp[e2]
theorem v_(hw:Wn c r Ω N b q)(hb:b<=488)(hq:q<30000){x y:Nat}(hx:x<c)(hy:y<c)(ne:x≠y)(k1:((x:Int),(y:Int))∉N.map (·.1)){l:Int}(hl:0<=l):∃Ω' N',Wn c r Ω' N' (b+2) (q+4)/\(∀k,k∈N'.map (·.1)↔(k∈N.map (·.1)\/k=((x:Int),(y:Int)))\/k=((y:Int),(x:Int)))/\gf [.obj 0,.int x,.int y,.int l] Ω=some (.non,Ω'):=by
 obtain⟨Q,L,T,X,M,h,g,sy⟩:=hw
 have k2:((y:Int),(x:Int))∉N.map (·.1):=fun z=>k1 (sy _ _ z)
 obtain⟨Ω1,N1,Q1,L1,T1,X1,h1,g1,m1,e1⟩:=tZ h g (by omega) (by omega) hx hy k1 hl (.dat (.int x)) (.dat (.int y))
 obtain⟨Ω2,N2,Q2,L2,T2,X2,h2,g2,m2,e2⟩:=tZ h1 g1 (by omega) (by omega) hy hx (fun z=>by
  rcases (m1 _).mp z with z |z
  ·exact k2 z
  ·injection z with z1 z2;omega) hl (.dat (.int x)) (.dat (.int y))
 have in1:((x:Int),(y:Int))∈N2.map (·.1):=(m2 _).mpr (.inl ((m1 _).mpr (.inr rfl)))
 have in2:((y:Int),(x:Int))∈N2.map (·.1):=(m2 _).mpr (.inr rfl)
 obtain⟨Ω3,Q3,h3,g3,e3⟩:=vZ h2 g2 (by omega) (by omega) hx in1 (.dat (.int x)) (.dat (.int y)) (.dat (.int l))
 obtain⟨Ω4,Q4,h4,g4,e4⟩:=vZ h3 g3 (by omega) (by omega) hy in2 (.dat (.int x)) (.dat (.int y)) (.dat (.int l))
 refine⟨Ω4,N2,⟨Q4,L2,T2,X2,M,h4,g4,fun a b z=>?_⟩,fun k=>by rw[m2,m1],fK (ρ':=[.dat (.obj 0),.dat (.int x),.dat (.int y),.dat (.int l),.dat (.int y),.dat (.int x)]) rfl ?_⟩
 ·rcases (m2 _).mp z with z |z
  ·rcases (m1 _).mp z with z |z
   ·exact(m2 _).mpr (.inl ((m1 _).mpr (.inl (sy _ _ z))))
   ·injection z with z1 z2
    rw[z1,z2];exact in2
  ·injection z with z1 z2
   rw[z1,z2];exact in1
 ·have st:∀(a b:Int) (u v:Sl),lZ [4,5] (.tup [.int a,.int b]) [.dat (.obj 0),.dat (.int x),.dat (.int y),.dat (.int l),u,v]=some [.dat (.obj 0),.dat (.int x),.dat (.int y),.dat (.int l),.dat (.int a),.dat (.int b)]:=fun _ _ _ _=>rfl
  have sq:∀(u v:Sl) (Ω:List OS),kZ (fj (ak (bD (ak (aj 1) (ak (aj 2) au))) (ak (bD (ak (aj 2) (ak (aj 1) au))) au))) [.dat (.obj 0),.dat (.int x),.dat (.int y),.dat (.int l),u,v] Ω=some ([.tup [.int x,.int y],.tup [.int y,.int x]],Ω):=fun _ _ _=>rfl
  refine(aN (ρ':=[.dat (.obj 0),.dat (.int x),.dat (.int y),.dat (.int l),.dat (.int y),.dat (.int x)]) (Ω':=Ω2) ?_).trans ?_
  ·show du _ _ cmB [.dat (.obj 0),.dat (.int x),.dat (.int y),.dat (.int l),.und,.und] Ω=_
   rw[gr,sq]
   dsimp only
   rw[cG,st]
   dsimp only
   rw[e1]
   dsimp only
   rw[cG,st]
   dsimp only
   rw[e2]
   rfl
  ·show du _ _ snB [.dat (.obj 0),.dat (.int x),.dat (.int y),.dat (.int l),.dat (.int y),.dat (.int x)] Ω2=_
   rw[gr,sq]
   dsimp only
   rw[cG,st]
   dsimp only
   rw[e3]
   dsimp only
   rw[cG,st]
   dsimp only
   rw[e4]
   rfl
noncomputable def flB:aO:=aH (bw (km (aJ (aj 0) (gC (.str "notes"))) (bD (ak (aj 3) (ak (aj 4) au))))) (aH (a_ 5 (aL bJ (ak (aj 0) (ak (aj 3) au)))) (aH (sIf (gT (gOp gtD (aj 3) (gC (.int 0)))) (bw (bI "Ways" "untie" dD [] (gOp ixD (aJ (aj 0) (gC (.str "ways"))) (aj 3)) (ak (aj 4) au))) bc) (bw (aL dz (ak (aj 0) (ak (aj 3) (ak (aj 5) au)))))))
theorem t_(h:Ph c r Ω N Q L T X M b q)(g:Lg c r N Q L X M)(hb:b<=490)(hc:c<=6)(hq:q<40000){x y:Nat}(hx:x<c)(hk:((x:Int),(y:Int))∈N.map (·.1))(x1 x2 x5:Sl):∃Ω' Q' L' T' y5,Ph c r Ω' (cJ N ((x:Int),(y:Int))) Q' L' T' X M b (q+6)/\Lg c r (cJ N ((x:Int),(y:Int))) Q' L' X M /\
  flB [.dat (.obj 0),x1,x2,.dat (.int x),.dat (.int y),x5] Ω=some (.nx [.dat (.obj 0),x1,x2,.dat (.int x),.dat (.int y),y5] Ω'):=by
 obtain⟨i,gi,_⟩:=h.get hk
 have dn:=Ky gi
 have p1:=h.cutN ((x:Int),(y:Int))
 have gl:=g.untie (x:=x) (y:=(y:Int))
 have s1:∀{t:aO},aH (bw (km (aJ (aj 0) (gC (.str "notes"))) (bD (ak (aj 3) (ak (aj 4) au))))) t [.dat (.obj 0),x1,x2,.dat (.int x),.dat (.int y),x5] Ω=t [.dat (.obj 0),x1,x2,.dat (.int x),.dat (.int y),x5] (Ω.set 1 (.dT (mpA pK D.obj (cJ N ((x:Int),(y:Int)))))):=aN (by
  have hn:=qP h (ρ:=[.dat (.obj 0),x1,x2,.dat (.int x),.dat (.int y),x5]) rfl
  have e1:=h.p1
  rw[oO,Gu,hn]
  simp[e1,dn,jj])
 generalize Ω.set 1 (.dT (mpA pK D.obj (cJ N ((x:Int),(y:Int)))))=Ω1 at *
 obtain⟨t,et,_⟩:=jl p1 hb hx
 have s2:∀{t':aO},aH (a_ 5 (aL bJ (ak (aj 0) (ak (aj 3) au)))) t' [.dat (.obj 0),x1,x2,.dat (.int x),.dat (.int y),x5] Ω1=t' [.dat (.obj 0),x1,x2,.dat (.int x),.dat (.int y),.dat (tlO t)] Ω1:=aN (by simp[et])
 obtain⟨Ω2,L',T',p2,gl2,s3⟩:∃Ω2 L' T',Ph c r Ω2 (cJ N ((x:Int),(y:Int))) Q L' T' X M b q/\Lg c r (cJ N ((x:Int),(y:Int))) Q L' X M/\sIf (gT (gOp gtD (aj 3) (gC (.int 0)))) (bw (bI "Ways" "untie" dD [] (gOp ixD (aJ (aj 0) (gC (.str "ways"))) (aj 3)) (ak (aj 4) au))) bc [.dat (.obj 0),x1,x2,.dat (.int x),.dat (.int y),.dat (tlO t)] Ω1=some (.nx [.dat (.obj 0),x1,x2,.dat (.int x),.dat (.int y),.dat (tlO t)] Ω2):=by
  by_cases h0:x=0
  ·subst h0
   rw[if_pos rfl] at gl
   exact⟨Ω1,L,T,p1,gl,by simp⟩
  ·rw[if_neg h0] at gl
   have x1':1<=x:=by omega
   have w1:=p1.wy x x1' hx
   obtain⟨l,hn⟩:∃l,aF (L x) y=some l:=by
    cases z:aF (L x) y with
    | none=>have:=(g.tk x x1' hx y).mp hk;rw[z] at this;cases this
    | some l=>exact⟨l,rfl⟩
   have w2:=w1.untie (y:Int)
   have ty:=Bl w1 hn
   have p2:=p1.house x1' hx (Nat.le_refl b) w2 (by unfold unΩ;simp) (fun j hj n1 n2 n3 _=>qO n1 n2) (fun j hj=>by
    obtain⟨p,hp,rfl⟩:=List.mem_map.mp hj
    exact .inl (List.mem_map.mpr ⟨p,(List.mem_filter.mp hp).1,rfl⟩))
   rw[nR,nR] at p2
   refine⟨_,_,_,p2,gl,?_⟩
   rw[d_,show gT (gOp gtD (aj 3) (gC (.int 0))) [.dat (.obj 0),x1,x2,.dat (.int x),.dat (.int y),.dat (tlO t)] Ω1=some (true,Ω1) by simp;omega]
   dsimp only
   rw[oO,meW w1.o0 (nP p1 (i:=3) rfl rfl hx) Hc rfl]
   rw[ty]
 obtain⟨Ω3,Q3,p3,n3,e3⟩:=oZ p2 hb hc hx t (by omega)
 refine⟨Ω3,Q3,L',T',.dat (tlO t),p3,gl2.notes n3 fun num f hp=>hp num f rfl fun x1=>gl2.iv x x1 hx 0,?_⟩
 unfold flB
 refine s1.trans (s2.trans ((aN s3).trans ?_))
 simp[e3]
theorem DP(hw:Wn c r Ω N b q)(hb:b<=490)(hc:c<=6)(hq:q<30000){x y:Nat}(hx:x<c)(hy:y<c)(ne:x≠y)(k1:((x:Int),(y:Int))∈N.map (·.1)):∃Ω',Wd c r Ω' b (q+12)/\iw [.obj 0,.int x,.int y] Ω=some (.non,Ω'):=by
 obtain⟨Q,L,T,X,M,h,g,sy⟩:=hw
 have k2:=sy _ _ k1
 obtain⟨Ω1,Q1,L1,T1,y5,h1,g1,e1⟩:=t_ h g hb hc (by omega) hx k1 (.dat (.int x)) (.dat (.int y)) .und
 obtain⟨Ω2,Q2,L2,T2,z5,h2,g2,e2⟩:=t_ h1 g1 hb hc (by omega) hy (iJ.mpr ⟨k2,fun z=>by injection z with z1 z2;omega⟩) (.dat (.int x)) (.dat (.int y)) y5
 refine⟨Ω2,⟨_,Q2,L2,T2,X,M,h2,g2,fun a b z=>?_⟩,fK (ρ':=[.dat (.obj 0),.dat (.int x),.dat (.int y),.dat (.int y),.dat (.int x),z5]) rfl ?_⟩
 ·obtain⟨z1,z2⟩:=iJ.mp z
  obtain⟨z3,z4⟩:=iJ.mp z1
  exact iJ.mpr ⟨iJ.mpr ⟨sy _ _ z3,fun w=>z2 (by injection w with w1 w2;rw[w1,w2])⟩,fun w=>z4 (by injection w with w1 w2;rw[w1,w2])⟩
 ·have st:∀(a b:Int) (u v w:Sl),lZ [3,4] (.tup [.int a,.int b]) [.dat (.obj 0),.dat (.int x),.dat (.int y),u,v,w]=some [.dat (.obj 0),.dat (.int x),.dat (.int y),.dat (.int a),.dat (.int b),w]:=fun _ _ _ _ _=>rfl
  show du _ _ flB [.dat (.obj 0),.dat (.int x),.dat (.int y),.und,.und,.und] Ω=_
  rw[gr,show kZ (fj (ak (bD (ak (aj 1) (ak (aj 2) au))) (ak (bD (ak (aj 2) (ak (aj 1) au))) au))) [.dat (.obj 0),.dat (.int x),.dat (.int y),.und,.und,.und] Ω=some ([.tup [.int x,.int y],.tup [.int y,.int x]],Ω) from rfl]
  dsimp only
  rw[cG,st]
  dsimp only
  rw[e1]
  dsimp only
  rw[cG,st]
  dsimp only
  rw[e2]
  rfl
end
end Law
namespace Law
open PySem DL L2
theorem Hi{α:Type}(k:α->List Int)(d:α->D){xs ys:List α}(hp:ys.Perm xs)(hs:ys.Pairwise fun a b=>HT.lexLt (k b) (k a)=false)(inj:∀a∈xs,∀b∈xs,k a=k b->a=b):srt (xs.map k) (xs.map d)=ys.map d:=by
 have ez:(xs.map k).zip (xs.map d)=xs.map fun x=>(k x,d x):=by
  rw[List.zip_map']
 unfold srt
 rw[ez]
 have:(xs.map fun x=>(k x,d x)).mergeSort leK=ys.map fun x=>(k x,d x):=by
  refine List.Perm.eq_of_pairwise (le:=fun a b=>leK a b=true) ?_ (List.pairwise_mergeSort m_ nj _) ?_ ((List.mergeSort_perm _ _).trans (hp.map _).symm)
  ·intro a b ha hb h1 h2
   obtain⟨x,hx,rfl⟩:=List.mem_map.mp ((List.mergeSort_perm _ _).mem_iff.mp ha)
   obtain⟨y,hy,rfl⟩:=List.mem_map.mp hb
   unfold leK at h1 h2
   have e:=pI (k x) (k y) (by simpa using h2) (by simpa using h1)
   rw[inj x hx y (hp.mem_iff.mp hy) e]
  ·rw[List.pairwise_map]
   refine hs.imp fun h=>?_
   unfold leK
   rw[h];rfl
 rw[this,List.map_map]
 rfl
noncomputable def kk(k:Int×Int):List Int:=[k.1,k.2]
noncomputable def kD(k:Int×Int):D:=.tup [.int k.1,.int k.2]
noncomputable def leQ(r q:Int×Int):Bool:=!HT.lexLt (kk q) (kk r)
noncomputable def wg(ks:List (Int×Int)):List (Int×Int):=ks.mergeSort leQ
theorem ud(ks:List (Int×Int)):(wg ks).Perm ks:=List.mergeSort_perm _ _
theorem Hj(ks:List (Int×Int)):(wg ks).Pairwise fun a b=>HT.lexLt (kk b) (kk a)=false:=by
 refine(List.pairwise_mergeSort (fun a b c h1 h2=>m_ (kk a,.non) (kk b,.non) (kk c,.non) h1 h2) (fun a b=>nj (kk a,.non) (kk b,.non)) ks).imp fun {a b} h=>?_
 have h':(!HT.lexLt (kk b) (kk a))=true:=h
 simpa using h'
theorem Bq(a b:Int×Int)(h:kk a=kk b):a=b:=by
 unfold kk at h
 injection h with h1 h2
 injection h2 with h2
 exact Prod.ext h1 h2
theorem Kz{xs ys:List (Int×Int)}(hp:ys.Perm xs)(h:xs.length<64):vH (xs.map kk) (xs.map kD)=some (.lst ((wg ys).map kD)):=by
 unfold vH
 have one:qy (xs.map kk) (xs.map kD):=by
  unfold qy
  rw[List.zip_map']
  intro a ha b hb e
  obtain⟨x,hx,rfl⟩:=List.mem_map.mp ha
  obtain⟨y,hy,rfl⟩:=List.mem_map.mp hb
  rw[Bq x y e]
 rw[iD ⟨by simpa using h,by simp,one⟩,Hi kk kD ((ud ys).trans hp) (Hj ys) fun a _ b _ e=>Bq a b e]
theorem yg:∀ks:List (Int×Int),mq (ks.map kD)=some (ks.map kk)
 | []=>rfl
 | r::ks=>by
  rw[List.map_cons,List.map_cons]
  unfold mq
  rw[yg ks]
  rfl
end Law
namespace Law
open PySem DL
section
variable {c b q:Nat} {r:Int} {Ω:List OS} {N:TyN} {Q:TyQ} {L:TyL} {T:TyT} {X:TyX} {M:TyM}
theorem wj:∀es:List Tl,plL (es.map tlD)=true/\gR (es.map tlD)<=1
 | []=>⟨rfl,by simp[gR]⟩
 | e::es=>by
  obtain⟨i1,i2⟩:=wj es
  obtain⟨j1,j2⟩:=Ew e
  refine⟨by simp[plL,i1,j1],?_⟩
  rw[List.map_cons,gR]
  omega
theorem eq_nil(neg:Bool){ds:List D}(h:plL ds=true)(hd:gR ds<=60):eqD neg (.lst ds) (.lst [])=some (.bl (if neg then !decide (ds=[]) else decide (ds=[]))):=by
 cases ds with
 | nil =>
  rw[qx neg (p:=.lst []) rfl (by simp[dep,gR])]
  cases neg<;>rfl
 | cons n ns =>
  rw[vG neg (p:=.lst (n::ns)) (q:=.lst []) (by rw[DL.pl];exact h) rfl (by rw[dep];omega) (by simp[dep,gR]) (by simp)]
  cases neg<;>simp
theorem DQ{Ω:List OS}{i:Nat}{x y:OS}(h:Ω[i]? = some x):(Ω.set i y).set i x=Ω:=by
 rw[List.set_set]
 apply List.ext_getElem?
 intro j
 by_cases e:i=j
 ·subst e;rw[List.getElem?_set_self (List.getElem?_eq_some_iff.mp h).1,h]
 ·rw[List.getElem?_set_ne e]
theorem JM(N:TyN):((mpA pK D.obj N).map fun x=>D.tup (x.1.map ofK))=(N.map (·.1)).map kD:=by
 unfold mpA
 rw[List.map_map,List.map_map]
 rfl
noncomputable def sH:bR:=gT (vO true (aJ (aJ (aj 1) (gC (.str "notes"))) (aj 0)) (fj au))
theorem ue{Ωf:List OS}(h:Ph c r Ω N Q L T X M b q)(ef:Ωf=Ω.set 1 (.fzT (mpA pK D.obj N))):∀(ks:List (Int×Int)) (x:Sl),(∀k∈ks,k∈N.map (·.1))->cW (aV 0) sH (aj 0) (ks.map kD) [x,.dat (.obj 0)] Ωf=some ((ks.filter fun k=>!decide (Q k=[])).map kD,Ωf)
 | [],x,_=>rfl
 | k::ks,x,hk=>by
  have ih:=ue h ef ks (.dat (kD k)) fun z hz=>hk z (List.mem_cons_of_mem _ hz)
  obtain⟨i,gi,mi⟩:=h.get (hk k List.mem_cons_self)
  have hi:=h.nt k i mi
  have l1:=(List.getElem?_eq_some_iff.mp h.p1).1
  have f0:Ωf[0]? = some (.dK (wKV c r)):=by rw[ef,List.getElem?_set_ne (by omega)];exact h.p0
  have f1:Ωf[1]? = some (.fzT (mpA pK D.obj N)):=by rw[ef];exact List.getElem?_set_self l1
  have fi:Ωf[i]? = some (.mls ((Q k).map tlD)):=by rw[ef,List.getElem?_set_ne (by omega)];exact hi.2
  have vn:=v_n c r
  have lk:=lkF N k.1 k.2
  rw[show((k.1,k.2):Int×Int)=k from rfl,gi] at lk
  have e0:=eq_nil true (wj (Q k)).1 (by have:=(wj (Q k)).2;omega)
  rw[if_pos rfl] at e0
  have ed:decide ((Q k).map tlD=[])=decide (Q k=[]):=by simp
  rw[ed] at e0
  have eg:sH [.dat (kD k),.dat (.obj 0)] Ωf=some (!decide (Q k=[]),Ωf):=by
   unfold sH kD
   simp[vO,f0,vn,f1,lk,fi,e0,lq,lg]
  rw[List.map_cons,mR,List.filter_cons]
  rw[show aV 0 (kD k) [x,.dat (.obj 0)]=some [.dat (kD k),.dat (.obj 0)] from rfl]
  dsimp only
  rw[eg]
  by_cases hq:Q k=[]
  ·simp only[hq,decide_true,Bool.not_true,Bool.false_eq_true,if_false]
   exact ih
  ·simp only[hq,decide_false,Bool.not_false,if_true,List.map_cons]
   simp[ih]
theorem DW(h:Ph c r Ω N Q L T X M b q)(hN:N.length<64)(ρ:List Sl)(h0:ρ[0]? = some (.dat (.obj 0))):nC (lH [none,some 0] (aJ (aj 0) (gC (.str "notes"))) (aV 0) sH (aj 0)) ρ Ω=some (.lst ((wg ((N.map (·.1)).filter fun k=>!decide (Q k=[]))).map kD),Ω):=by
 have l1:=(List.getElem?_eq_some_iff.mp h.p1).1
 have p1:=h.p1
 have cr:=ue h rfl (N.map (·.1)) .und fun k hk=>hk
 have ei:di [none,some 0] ρ=[.und,.dat (.obj 0)]:=by
  unfold di
  simp[h0]
 have hn:=qP h h0
 have hb:(mpA pK D.obj N).length<=big:=by rw[mC];have:big=100000:=rfl;omega
 have th:nG 1 (mpA pK D.obj N) (Ω.set 1 (.fzT (mpA pK D.obj N)))=some Ω:=by
  unfold nG
  rw[List.getElem?_set_self l1]
  dsimp only
  rw[if_pos rfl,DQ p1]
 have ec:lH [none,some 0] (aJ (aj 0) (gC (.str "notes"))) (aV 0) sH (aj 0) ρ Ω=some (.lst (((N.map (·.1)).filter fun k=>!decide (Q k=[])).map kD),Ω):=by
  unfold lH
  rw[hn,ei]
  simp only[Option.bind_some,lq,p1,dTO,hb,if_true,JM,cr,th]
 have ks:=yg ((N.map (·.1)).filter fun k=>!decide (Q k=[]))
 have so:=Kz (List.Perm.refl ((N.map (·.1)).filter fun k=>!decide (Q k=[]))) (by
  have:=List.length_filter_le (fun k=>!decide (Q k=[])) (N.map (·.1))
  rw[List.length_map] at this
  omega)
 unfold nC
 rw[ec]
 simp only[Option.bind_some,yZ,ks,so]
theorem Hk(g:Lg c r N Q L X M)(hc:c<=6)(nk:(N.map (·.1)).Nodup):N.length<=36:=by
 have h1:(N.map (·.1)).length<=(((List.range 6).flatMap fun(x:Nat)=>(List.range 6).map fun(y:Nat)=>((x:Int),(y:Int)))).length:=by
  refine nk.length_le_of_subset fun k hk=>?_
  obtain⟨a1,a2,a3,a4⟩:=g.ky k hk
  refine List.mem_flatMap.mpr ⟨k.1.toNat,List.mem_range.mpr (by omega),List.mem_map.mpr ⟨k.2.toNat,List.mem_range.mpr (by omega),?_⟩⟩
  exact Prod.ext (by simp;omega) (by simp;omega)
 rw[List.length_map] at h1
 exact Nat.le_trans h1 (by decide)
noncomputable def crB:aO:=sIf (gT (gOp gtD (aj 4) (gC (.int 0)))) (aH (a_ 6 (aL bJ (ak (aj 0) (ak (aj 4) au)))) (aH (bw (bI "Ways" "hear" fu [] (gOp ixD (aJ (aj 0) (gC (.str "ways"))) (aj 4)) (ak (aj 3) (ak (gC (.int 0)) (ak (gOp ixD (aj 5) (gC (.int 0))) (ak (gOp ixD (aj 5) (gC (.int 1))) au)))))) (bw (aL dz (ak (aj 0) (ak (aj 4) (ak (aj 6) au))))))) bc
theorem uf(hw:Wd c r Ω b q)(hb':b<=488)(hc:c<=6)(hq:q<30000)(cell:Int):∃Ω',Wd c r Ω' (b+2) (q+6)/\dO [.obj 0,.int cell] Ω=some (.non,Ω'):=by
 obtain⟨N,Q,L,T,X,M,h,g,sy⟩:=hw
 have hb:b<=490:=by omega
 have hN:=Hk g hc h.nk
 have rd:=DW h (by omega) [.dat (.obj 0),.dat (.int cell),.und,.und,.und,.und,.und] rfl
 obtain⟨ks,ek⟩:∃ks,ks=wg ((N.map (·.1)).filter fun k=>!decide (Q k=[])):=⟨_,rfl⟩
 rw[<-ek] at rd
 have mk:∀k∈ks,k∈N.map (·.1)/\Q k≠[]:=fun k hk=>by
  rw[ek] at hk
  have:=List.mem_filter.mp ((ud _).mem_iff.mp hk)
  exact⟨this.1,by simpa using this.2⟩
 have s1:∀{t:aO},aH (a_ 2 (nC (lH [none,some 0] (aJ (aj 0) (gC (.str "notes"))) (aV 0) sH (aj 0)))) t [.dat (.obj 0),.dat (.int cell),.und,.und,.und,.und,.und] Ω=t [.dat (.obj 0),.dat (.int cell),.dat (.lst (ks.map kD)),.und,.und,.und,.und] Ω:=aN (by rw[jq,rd];rfl)
 have pk:plL (ks.map kD)=true/\gR (ks.map kD)<=1:=by
  clear s1 rd ek mk
  induction ks with
  | nil=>exact⟨rfl,by simp[gR]⟩
  | cons k ks ih=>exact⟨by simp[plL,kD,DL.pl,ih.1],by rw[List.map_cons,gR];have:=ih.2;simp[kD,dep,gR];omega⟩
 have en:=eq_nil false pk.1 (by omega)
 cases ks with
 | nil =>
  refine⟨Ω,⟨N,Q,L,T,X,M,h.mono (by omega) (by omega),g,sy⟩,cN rfl (s1.trans (iU ?_))⟩
  simp at en
  simp[en]
 | cons k0 ks0 =>
  obtain⟨k,hk,ik⟩:∃k∈k0::ks0,L2.atI ((k0::ks0).map kD) (cell%((k0::ks0).length:Int))=some (kD k):=by
   have lp:0<(k0::ks0).length:=by simp
   have i0:0<=cell%((k0::ks0).length:Int):=Int.emod_nonneg _ (by omega)
   have i1:cell%((k0::ks0).length:Int)<((k0::ks0).length:Int):=Int.emod_lt_of_pos _ (by omega)
   have il:(cell%((k0::ks0).length:Int)).toNat<(k0::ks0).length:=by omega
   exact⟨_,List.getElem_mem il,by rw[rM,An i0 il];rfl⟩
  obtain⟨kN,qn⟩:=mk k hk
  generalize hks:k0::ks0=ks at *
  have kne:ks≠[]:=by rw[<-hks];simp
  obtain⟨a1,a2,a3,a4⟩:=g.ky k kN
  obtain⟨x,hx⟩:∃x:Nat,k.1=x:=⟨k.1.toNat,by omega⟩
  obtain⟨y,hy⟩:∃y:Nat,k.2=y:=⟨k.2.toNat,by omega⟩
  have kxy:k=((x:Int),(y:Int)):=Prod.ext hx hy
  subst kxy
  have yc:y<c:=by simp at a4;omega
  obtain⟨e,es,qe⟩:∃e es,Q ((x:Int),(y:Int))=e::es:=by
   cases z:Q ((x:Int),(y:Int)) with
   | nil=>exact absurd z qn
   | cons e es=>exact⟨e,es,rfl⟩
  obtain⟨i,gi,mi⟩:=h.get kN
  have hi:=(h.nt _ i mi).2
  rw[qe] at hi
  have bq:=h.bQ ((x:Int),(y:Int))
  rw[qe,List.length_cons] at bq
  have p1:=h.setQ mi (v:=es) (Nat.le_refl q) (by omega)
  have g1:=g.fewer qe
  have lks:(0:Int)<ks.length:=by
   have:=List.length_pos_iff.mpr kne
   omega
  have s2:∀{t:aO},aH (sIf (gT (gOp (eqD false) (aj 2) (fj au))) (cg (gC .non)) bc) t [.dat (.obj 0),.dat (.int cell),.dat (.lst (ks.map kD)),.und,.und,.und,.und] Ω=t [.dat (.obj 0),.dat (.int cell),.dat (.lst (ks.map kD)),.und,.und,.und,.und] Ω:=aN (by
   have:¬(ks.map kD=[]):=by simpa using kne
   rw[if_neg (by simp),decide_eq_false this] at en
   generalize ks.map kD=zs at *
   simp[en])
  have s3:∀{t:aO},aH (u_ (lZ [3,4]) (gOp ixD (aj 2) (gOp bV (aj 1) (gCB rH (ak (aj 2) au))))) t [.dat (.obj 0),.dat (.int cell),.dat (.lst (ks.map kD)),.und,.und,.und,.und] Ω=t [.dat (.obj 0),.dat (.int cell),.dat (.lst (ks.map kD)),.dat (.int x),.dat (.int y),.und,.und] Ω:=aN (by
   have hl:(ks.map kD).length=ks.length:=by simp
   generalize ks.map kD=zs at *
   have hz:(0:Int)<zs.length:=by omega
   rw[<-hl] at ik
   rw[Jm]
   rw[show gOp ixD (aj 2) (gOp bV (aj 1) (gCB rH (ak (aj 2) au))) [.dat (.obj 0),.dat (.int cell),.dat (.lst zs),.und,.und,.und,.und] Ω=some (kD ((x:Int),(y:Int)),Ω) by
    have hz':0<zs.length:=by omega
    simp[hz',ik]]
   rfl)
  have s4:∀{t:aO},aH (a_ 5 (uI (aJ (aJ (aj 0) (gC (.str "notes"))) (bD (ak (aj 3) (ak (aj 4) au)))) (gC (.int 0)))) t [.dat (.obj 0),.dat (.int cell),.dat (.lst (ks.map kD)),.dat (.int x),.dat (.int y),.und,.und] Ω=t [.dat (.obj 0),.dat (.int cell),.dat (.lst (ks.map kD)),.dat (.int x),.dat (.int y),.dat (tlD e),.und] (Ω.set i (.mls (es.map tlD))):=aN (by
   have hn:=qP h (ρ:=[.dat (.obj 0),.dat (.int cell),.dat (.lst (ks.map kD)),.dat (.int x),.dat (.int y),.und,.und]) rfl
   have e1:=h.p1
   have lk:=lkN N x y
   rw[gi] at lk
   have eg:aJ (aJ (aj 0) (gC (.str "notes"))) (bD (ak (aj 3) (ak (aj 4) au))) [.dat (.obj 0),.dat (.int cell),.dat (.lst (ks.map kD)),.dat (.int x),.dat (.int y),.und,.und] Ω=some (.obj i,Ω):=by
    rw[rR,hn]
    simp[e1,lk]
   rw[jq]
   unfold uI
   rw[eg]
   simp[hi,lq,lg,yW])
  have sw:∀{Ω':List OS} {ρ':List Sl},crB [.dat (.obj 0),.dat (.int cell),.dat (.lst (ks.map kD)),.dat (.int x),.dat (.int y),.dat (tlD e),.und] (Ω.set i (.mls (es.map tlD)))=some (.nx ρ' Ω')->dO [.obj 0,.int cell] Ω=some (.non,Ω'):=fun {Ω' ρ'} z=>fK (ρ':=ρ') rfl (s1.trans (s2.trans (s3.trans (s4.trans z))))
  generalize Ω.set i (.mls (es.map tlD))=Ω1 at *
  by_cases y0:y=0
  ·subst y0
   refine⟨Ω1,⟨N,_,L,T,X,M,p1.mono (by omega) (by omega),g1,sy⟩,sw (ρ':=[.dat (.obj 0),.dat (.int cell),.dat (.lst (ks.map kD)),.dat (.int x),.dat (.int (0:Nat)),.dat (tlD e),.und]) ?_⟩
   unfold crB
   rw[d_,show gT (gOp gtD (aj 4) (gC (.int 0))) [.dat (.obj 0),.dat (.int cell),.dat (.lst (ks.map kD)),.dat (.int x),.dat (.int (0:Nat)),.dat (tlD e),.und] Ω1=some (false,Ω1) by rfl]
   rfl
  ·have y1:1<=y:=by omega
   have w1:=p1.wy y y1 yc
   obtain⟨t,et,_⟩:=jl p1 hb yc
   obtain⟨l,hn⟩:∃l,aF (L y) (x:Int)=some l:=by
    have:=(g.tk y y1 yc x).mp (sy _ _ kN)
    cases z:aF (L y) (x:Int) with
    | none=>rw[z] at this;cases this
    | some l=>exact⟨l,rfl⟩
   obtain⟨num,f⟩:=e
   obtain⟨Ω2,M',eh,w2,fr,hM⟩:=Dz w1 hb hn 0 num f
   have p2:=p1.house y1 yc (by omega:b<=b+2) w2 fr.1 (fun j hj n1 n2 n3 nT=>fr.2 j hj n1 n2 n3 nT) (fun j hj=>.inl hj)
   rw[nR,nR] at p2
   have g2:=g1.hear y1 yc w1.kn ⟨l,hn⟩ (num:=num) (f:=f) (fun z hz=>g.iq _ kN num z (by rw[qe,hz];exact List.mem_cons_self)) hM
   obtain⟨Ω3,Q3,p3,n3,e3⟩:=oZ p2 (by omega) hc yc t (by omega)
   refine⟨Ω3,⟨N,Q3,L,T,_,_,p3,g2.notes n3 (fun num' f' hp=>hp num' f' rfl fun _=>g2.iv y y1 yc 0),sy⟩,sw (ρ':=[.dat (.obj 0),.dat (.int cell),.dat (.lst (ks.map kD)),.dat (.int x),.dat (.int y),.dat (tlD (num,f)),.dat (tlO t)]) ?_⟩
   unfold crB
   rw[d_,show gT (gOp gtD (aj 4) (gC (.int 0))) [.dat (.obj 0),.dat (.int cell),.dat (.lst (ks.map kD)),.dat (.int x),.dat (.int y),.dat (tlD (num,f)),.und] Ω1=some (true,Ω1) by simp;omega]
   dsimp only
   refine(aN (ρ':=[.dat (.obj 0),.dat (.int cell),.dat (.lst (ks.map kD)),.dat (.int x),.dat (.int y),.dat (tlD (num,f)),.dat (tlO t)]) (Ω':=Ω1) (by simp[et])).trans ?_
   refine(aN (ρ':=[.dat (.obj 0),.dat (.int cell),.dat (.lst (ks.map kD)),.dat (.int x),.dat (.int y),.dat (tlD (num,f)),.dat (tlO t)]) (Ω':=Ω2) ?_).trans ?_
   ·rw[oO,meW (ds:=[.int x,.int 0,.int num,faD f]) w1.o0 (nP p1 (i:=4) rfl rfl yc) JC (by simp[tlD]),eh]
   ·simp[e3]
end
end Law
namespace Law
open PySem DL
section
variable {c b q:Nat} {r:Int} {Ω:List OS} {N:TyN} {Q:TyQ} {L:TyL} {T:TyT} {X:TyX} {M:TyM}
theorem ug(g:Lg c r N Q L X M){x:Nat}(h1:1<=x)(h2:x<c)(kn:((L x).map (·.1)).Nodup){u:Int×Int×Int}(hu:u∈Us (L x) (X x) (aF (M x) 0) 0):∃p,aF (M x) 0=some p/\0<=u.2.2/\u.2.2<(c:Int)/\p.1<=r/\(0<u.2.2->∃pn,aF (M u.2.2.toNat) 0=some pn/\bt pn.1 pn.2 p.1 p.2=true):=by
 obtain⟨n,l,num,f,e1,e2,e3,e4⟩:=(jW kn).mp hu
 obtain⟨p,hp,_⟩:=g.iv x h1 h2 0 n l num f e1 e2
 have eu:u.2.2=n:=by rw[e4]
 rw[hp] at e3
 have hb:bt num f p.1 p.2=true:=e3
 have kk:=g.ky _ ((g.tk x h1 h2 n).mpr (by rw[e1];rfl))
 have ok:=g.te x h1 h2 n l num f e1 e2
 refine⟨p,hp,by rw[eu];exact kk.2.2.1,by rw[eu];exact kk.2.2.2,g.mr x h1 h2 p hp,fun z=>?_⟩
 rw[eu] at z ⊢
 unfold Ok at ok
 rw[if_neg (by omega)] at ok
 obtain⟨pn,q1,q2⟩:=ok
 refine⟨pn,q1,fL.mpr ?_⟩
 have:=fL.mp hb
 omega
noncomputable def stB:aO:=aH (a_ 2 (bI "Ways" "way" bF [] (gOp ixD (aJ (aj 0) (gC (.str "ways"))) (aj 1)) (ak (gC (.int 0)) au))) (sIf (gT (gOp (isD true) (aj 2) (gC .non))) (aH (a_ 3 (bI "Ways" "mark" bu [] (gOp ixD (aJ (aj 0) (gC (.str "ways"))) (aj 1)) (ak (gC (.int 0)) au))) (aH (sIf (dN (gT (gOp (eqD false) (gOp ixD (aj 2) (gC (.int 2))) (gC (.int 0)))) (gT (gOp gtD (gOp ixD (aj 3) (gC (.int 0))) (aJ (aj 0) (gC (.str "raised")))))) (cg (gC (.bl false))) bc) (sIf (dN (gT (gOp gtD (gOp ixD (aj 2) (gC (.int 2))) (gC (.int 0)))) (jA (gT (aL fZ (ak (bI "Ways" "mark" bu [] (gOp ixD (aJ (aj 0) (gC (.str "ways"))) (gOp ixD (aj 2) (gC (.int 2)))) (ak (gC (.int 0)) au)) (ak (aj 3) au)))))) (cg (gC (.bl false))) bc))) bc)
theorem KC(h:Ph c r Ω N Q L T X M b q){ρ:List Sl}{gi:Den}{x:Nat}(h0:ρ[0]? = some (.dat (.obj 0)))(hi:gi ρ Ω=some (.int x,Ω))(hx:x<c):gOp ixD (aJ (aj 0) (gC (.str "ways"))) gi ρ Ω=some (.obj (2+4*x),Ω):=by
 have e:=Eu hx
 have p0:=h.p0
 have vw:=v_w c r
 rw[uE]
 rw[show aJ (aj 0) (gC (.str "ways")) ρ Ω=some (.lst (wsL c),Ω) by simp[h0,p0,vw]]
 dsimp only
 rw[hi]
 dsimp only
 rw[e]
theorem Hl(h:Ph c r Ω N Q L T X M b q)(g:Lg c r N Q L X M)(hb:b<=490){x:Nat}(h1:1<=x)(h2:x<c)(x2 x3:Sl):∃y2 y3,stB [.dat (.obj 0),.dat (.int x),x2,x3] Ω=some (.nx [.dat (.obj 0),.dat (.int x),y2,y3] Ω):=by
 have w:=h.wy x h1 h2
 have mk:=jU w 0
 obtain⟨d,hd,ed⟩:=oV w (by omega) 0
 have s1:∀{t:aO},aH (a_ 2 (bI "Ways" "way" bF [] (gOp ixD (aJ (aj 0) (gC (.str "ways"))) (aj 1)) (ak (gC (.int 0)) au))) t [.dat (.obj 0),.dat (.int x),x2,x3] Ω=t [.dat (.obj 0),.dat (.int x),.dat d,x3] Ω:=aN (by
  rw[jq,meW w.o0 (nP h (i:=1) rfl rfl h2) uJ rfl,ed]
  rfl)
 rcases hd with⟨_,rfl⟩ |⟨u,hu,rfl⟩
 ·refine⟨.dat .non,x3,s1.trans ?_⟩
  simp[isD,isNone]
 ·obtain⟨p,hp,u0,uc,pr,bn⟩:=ug g h1 h2 w.kn hu.1
  rw[hp] at mk
  have vr:=v_r c r
  have p0:=h.p0
  refine⟨.dat (w3 u),.dat (mkD p),s1.trans ?_⟩
  rw[d_,show gT (gOp (isD true) (aj 2) (gC .non)) [.dat (.obj 0),.dat (.int x),.dat (w3 u),x3] Ω=some (true,Ω) by simp[w3,isD,isNone]]
  dsimp only
  refine(aN (ρ':=[.dat (.obj 0),.dat (.int x),.dat (w3 u),.dat (mkD p)]) (Ω':=Ω) ?_).trans ?_
  ·rw[jq,meW w.o0 (nP h (i:=1) rfl rfl h2) nM rfl,mk]
   rfl
  ·have t2:gOp ixD (aj 2) (gC (.int 2)) [.dat (.obj 0),.dat (.int x),.dat (w3 u),.dat (mkD p)] Ω=some (.int u.2.2,Ω):=by simp[w3]
   have np:¬r<p.1:=by omega
   refine(aN (ρ':=[.dat (.obj 0),.dat (.int x),.dat (w3 u),.dat (mkD p)]) (Ω':=Ω) ?_).trans ?_
   ·have a2:gT (gOp gtD (gOp ixD (aj 3) (gC (.int 0))) (aJ (aj 0) (gC (.str "raised")))) [.dat (.obj 0),.dat (.int x),.dat (w3 u),.dat (mkD p)] Ω=some (false,Ω):=by simp[mkD,p0,vr,np]
    have a1:gT (gOp (eqD false) (gOp ixD (aj 2) (gC (.int 2))) (gC (.int 0))) [.dat (.obj 0),.dat (.int x),.dat (w3 u),.dat (mkD p)] Ω=some (decide (u.2.2=0),Ω):=by simp[w3]
    rw[d_,gD,a1]
    cases decide (u.2.2=0)
    ·rfl
    ·dsimp only
     rw[a2]
     rfl
   ·have b1:gT (gOp gtD (gOp ixD (aj 2) (gC (.int 2))) (gC (.int 0))) [.dat (.obj 0),.dat (.int x),.dat (w3 u),.dat (mkD p)] Ω=some (decide (0<u.2.2),Ω):=by simp[w3]
    rw[d_,gD,b1]
    by_cases hn:0<u.2.2
    ·obtain⟨pn,hpn,bb⟩:=bn hn
     obtain⟨y,hy⟩:∃y:Nat,u.2.2=y:=⟨u.2.2.toNat,by omega⟩
     rw[hy] at t2 uc hn hpn
     have yc:y<c:=by omega
     have y1:1<=y:=by omega
     have wn:=h.wy y y1 yc
     have mn:=jU wn 0
     rw[show((y:Int)).toNat=y by omega] at hpn
     rw[hpn] at mn
     have bd:=qL pn.1 pn.2 p.1 p.2 Ω
     rw[bb] at bd
     have em:bI "Ways" "mark" bu [] (gOp ixD (aJ (aj 0) (gC (.str "ways"))) (gOp ixD (aj 2) (gC (.int 2)))) (ak (gC (.int 0)) au) [.dat (.obj 0),.dat (.int x),.dat (w3 u),.dat (mkD p)] Ω=some (mkD pn,Ω):=by
      rw[meW wn.o0 (KC h rfl t2 yc) nM rfl,mn]
      rfl
     have eb:aL fZ (ak (bI "Ways" "mark" bu [] (gOp ixD (aJ (aj 0) (gC (.str "ways"))) (gOp ixD (aj 2) (gC (.int 2)))) (ak (gC (.int 0)) au)) (ak (aj 3) au)) [.dat (.obj 0),.dat (.int x),.dat (w3 u),.dat (mkD p)] Ω=some (.bl true,Ω):=by
      rw[Gi,lD,em]
      exact bd
     rw[hy,decide_eq_true hn]
     dsimp only
     rw[Gh,Lr,eb]
     rfl
    ·rw[decide_eq_false hn]
     rfl
theorem yh(h:Ph c r Ω N Q L T X M b q)(g:Lg c r N Q L X M)(hb:b<=490):∀(xs:List Nat) (x1 x2 x3:Sl),(∀x∈xs,1<=x/\x<c)->∃y1 y2 y3,cV (aV 1) stB (xs.map fun(x:Nat)=>D.int (x:Int)) [.dat (.obj 0),x1,x2,x3] Ω=some (.nx [.dat (.obj 0),y1,y2,y3] Ω)
 | [],x1,x2,x3,_=>⟨x1,x2,x3,rfl⟩
 | x::xs,x1,x2,x3,hx=>by
  obtain⟨y2,y3,e⟩:=Hl h g hb (hx x List.mem_cons_self).1 (hx x List.mem_cons_self).2 x2 x3
  obtain⟨z1,z2,z3,e'⟩:=yh h g hb xs (.dat (.int x)) y2 y3 fun z hz=>hx z (List.mem_cons_of_mem _ hz)
  refine⟨z1,z2,z3,?_⟩
  rw[List.map_cons,cG,show aV 1 (.int x) [.dat (.obj 0),x1,x2,x3]=some [.dat (.obj 0),.dat (.int x),x2,x3] from rfl]
  dsimp only
  rw[e]
  exact e'
theorem qQ(h:Ph c r Ω N Q L T X M b q)(hc:c<=6)(c1:1<=c){ρ:List Sl}(h0:ρ[0]? = some (.dat (.obj 0))):dg jO (ak (gC (.int 1)) (ak (aJ (aj 0) (gC (.str "count"))) au)) ρ Ω=some (((List.range (c-1)).map fun k=>k+1).map fun(x:Nat)=>D.int (x:Int),Ω):=by
 have p0:=h.p0
 have vc:=v_c c r
 have r2:=yQ (i:=1) (j:=(c:Int)) (by omega) (by omega) (by omega) (by omega)
 rw[show((c:Int)-1).toNat=c-1 by omega] at r2
 have e:upD 1 (c-1)=((List.range (c-1)).map fun k=>k+1).map fun(x:Nat)=>D.int (x:Int):=by
  unfold upD
  rw[List.map_map]
  apply List.map_congr_left
  intro k _
  simp
  omega
 rw[e] at r2
 rw[jo]
 simp only[lD,Ji,Al,rR,jQ,h0,p0,Dw,vc]
 rw[r2]
theorem uh{c x:Nat}(h:x∈(List.range (c-1)).map fun k=>k+1):1<=x/\x<c:=by
 obtain⟨k,hk,rfl⟩:=List.mem_map.mp h
 have:=List.mem_range.mp hk
 omega
theorem zc(hw:Wd c r Ω b q)(hb:b<=490)(hc:c<=6)(c1:1<=c):h_ [.obj 0] Ω=some (.bl true,Ω):=by
 obtain⟨N,Q,L,T,X,M,h,g,sy⟩:=hw
 obtain⟨y1,y2,y3,e⟩:=yh h g hb ((List.range (c-1)).map fun k=>k+1) .und .und .und fun x hx=>uh hx
 refine cN rfl ?_
 refine(aN (ρ':=[.dat (.obj 0),y1,y2,y3]) (Ω':=Ω) ?_).trans rfl
 show du _ _ stB [.dat (.obj 0),.und,.und,.und] Ω=_
 rw[gr,qQ h hc c1 rfl]
 exact e
end
end Law
namespace Law
open PySem DL
noncomputable def seD(S:List (Int×Unit)):OS:=.dK (mpA iK (fun _=>D.bl true) S)
noncomputable def rgP:bR:=gT (gOp gtD (aj 3) (gC (.int 0)))
noncomputable def rgB:aO:=aH (sIf (gT (gG false (aj 3) (aj 2))) (cg (gC (.bl false))) bc) (aH (eF (aj 2) (aj 3) (gC (.bl true))) (aH (a_ 4 (bI "Ways" "way" bF [] (gOp ixD (aJ (aj 0) (gC (.str "ways"))) (aj 3)) (ak (gC (.int 0)) au))) (aH (sIf (gT (gOp (isD false) (aj 4) (gC .non))) za bc) (a_ 3 (gOp ixD (aj 4) (gC (.int 2)))))))
section
variable {c b q:Nat} {r:Int} {Ω:List OS} {N:TyN} {Q:TyQ} {L:TyL} {T:TyT} {X:TyX} {M:TyM}
noncomputable def Met(M:TyM)(c:Nat)(S:List (Int×Unit))(x:Nat):Prop:=(S.map (·.1)).Nodup/\∀v:Int,v∈S.map (·.1)->∃y:Nat,v=(y:Int)/\1<=y/\y<c/\∃pv px,aF (M y) 0=some pv/\aF (M x) 0=some px/\bt px.1 px.2 pv.1 pv.2=true
theorem Met.new{M:TyM}{c:Nat}{S:List (Int×Unit)}{x:Nat}(h:Met M c S x):(x:Int)∉S.map (·.1):=fun z=>by
 obtain⟨y,e,_,_,pv,px,h1,h2,h3⟩:=h.2 _ z
 have:y=x:=by omega
 subst this
 rw[h1] at h2
 cases h2
 have:=fL.mp h3
 omega
theorem Met.len{M:TyM}{c:Nat}{S:List (Int×Unit)}{x:Nat}(h:Met M c S x)(x1:1<=x)(xc:x<c):S.length+1<c:=by
 have nd:((x:Int)::S.map (·.1)).Nodup:=List.nodup_cons.mpr ⟨h.new,h.1⟩
 have sb:((x:Int)::S.map (·.1)).length<=((List.range (c-1)).map fun(k:Nat)=>((k+1:Nat):Int)).length:=by
  refine nd.length_le_of_subset fun v hv=>?_
  rcases List.mem_cons.mp hv with rfl |hv
  ·exact List.mem_map.mpr ⟨x-1,List.mem_range.mpr (by omega),by omega⟩
  ·obtain⟨y,rfl,y1,yc,_⟩:=h.2 v hv
   exact List.mem_map.mpr ⟨y-1,List.mem_range.mpr (by omega),by omega⟩
 simp at sb
 omega
theorem yj(g:Lg c r N Q L X M)(hb:b<=490)(hc:c<=6){s:Nat}(hs:2+4*c<=s)(nN:s∉N.map (·.2))(nT:∀x,1<=x->x<c->s∉(T x).map (·.2))(x1:Sl):∀(k:Nat) (S:List (Int×Unit)) (x:Nat) (Ω:List OS) (x4:Sl),Ph c r Ω N Q L T X M b q->Ω[s]? = some (seD S)->1<=x->x<c->Met M c S x->c<=S.length+k+1->∃y3 y4 Ω',Ph c r Ω' N Q L T X M b q /\
  eQ rgP rgB (k+900) [.dat (.obj 0),x1,.dat (.obj s),.dat (.int x),x4] Ω=some (.nx [.dat (.obj 0),x1,.dat (.obj s),y3,y4] Ω')
 | 0,S,x,Ω,x4,h,hS,h1,h2,m,hk=>by
  have:=m.len h1 h2
  omega
 | k+1,S,x,Ω,x4,h,hS,h1,h2,m,hk=>by
  have sl:=m.len h1 h2
  have nx:=m.new
  have gn:aF S (x:Int)=none:=dR.mpr nx
  have ep:rgP [.dat (.obj 0),x1,.dat (.obj s),.dat (.int x),x4] Ω=some (true,Ω):=by unfold rgP;simp;omega
  have hS':Ω[s]? = some (.dK (mpA iK (fun _=>D.bl true) S)):=hS
  have e1:cC (mpA iK (fun(_:Unit)=>D.bl true) S) (.inl (x:Int))=none:=by
   have:=iY gA (fun(_:Unit)=>D.bl true) (x:Int) S
   rw[gn] at this
   exact this
  have e2:putD (mpA iK (fun(_:Unit)=>D.bl true) S) (.inl (x:Int)) (.bl true)=mpA iK (fun(_:Unit)=>D.bl true) (aX S (x:Int) ()):=lJ gA (fun(_:Unit)=>D.bl true) S (x:Int) ()
  have hl:(mpA iK (fun(_:Unit)=>D.bl true) S).length<100000:=by rw[mC];omega
  have s1:∀{t:aO},aH (sIf (gT (gG false (aj 3) (aj 2))) (cg (gC (.bl false))) bc) t [.dat (.obj 0),x1,.dat (.obj s),.dat (.int x),x4] Ω=t [.dat (.obj 0),x1,.dat (.obj s),.dat (.int x),x4] Ω:=aN (by simp[hS',e1])
  have s2:∀{t:aO},aH (eF (aj 2) (aj 3) (gC (.bl true))) t [.dat (.obj 0),x1,.dat (.obj s),.dat (.int x),x4] Ω=t [.dat (.obj 0),x1,.dat (.obj s),.dat (.int x),x4] (Ω.set s (seD (aX S (x:Int) ()))):=aN (by
   have hl':S.length<100000:=by omega
   simp[hS',hl',e2,seD])
  have h':=h.other hs nN nT (seD (aX S (x:Int) ()))
  have hS2:(Ω.set s (seD (aX S (x:Int) ())))[s]? = some (seD (aX S (x:Int) ())):=List.getElem?_set_self (List.getElem?_eq_some_iff.mp hS).1
  generalize Ω.set s (seD (aX S (x:Int) ()))=Ω1 at *
  have w:=h'.wy x h1 h2
  obtain⟨d,hd,ed⟩:=oV w (by omega) 0
  have s3:∀{t:aO},aH (a_ 4 (bI "Ways" "way" bF [] (gOp ixD (aJ (aj 0) (gC (.str "ways"))) (aj 3)) (ak (gC (.int 0)) au))) t [.dat (.obj 0),x1,.dat (.obj s),.dat (.int x),x4] Ω1=t [.dat (.obj 0),x1,.dat (.obj s),.dat (.int x),.dat d] Ω1:=aN (by
   rw[jq,meW w.o0 (nP h' (i:=3) rfl rfl h2) uJ rfl,ed]
   rfl)
  rw[show k+1+900=(k+900)+1 by omega,kj,ep]
  dsimp only
  rcases hd with⟨_,rfl⟩ |⟨u,hu,rfl⟩
  ·refine⟨.dat (.int x),.dat .non,Ω1,h',?_⟩
   rw[show rgB [.dat (.obj 0),x1,.dat (.obj s),.dat (.int x),x4] Ω=some (.bk [.dat (.obj 0),x1,.dat (.obj s),.dat (.int x),.dat .non] Ω1) by
    unfold rgB
    refine s1.trans (s2.trans (s3.trans ?_))
    simp[isD,isNone,za]]
  ·obtain⟨p,hp,u0,uc,pr,bn⟩:=ug g h1 h2 w.kn hu.1
   have eB:rgB [.dat (.obj 0),x1,.dat (.obj s),.dat (.int x),x4] Ω=some (.nx [.dat (.obj 0),x1,.dat (.obj s),.dat (.int u.2.2),.dat (w3 u)] Ω1):=by
    unfold rgB
    refine s1.trans (s2.trans (s3.trans ?_))
    refine(aN (ρ':=[.dat (.obj 0),x1,.dat (.obj s),.dat (.int x),.dat (w3 u)]) (Ω':=Ω1) (by simp[w3,isD,isNone])).trans ?_
    simp[w3]
   rw[eB]
   dsimp only
   by_cases un:0<u.2.2
   ·obtain⟨pn,hpn,bb⟩:=bn un
    obtain⟨y,hy⟩:∃y:Nat,u.2.2=y:=⟨u.2.2.toNat,by omega⟩
    rw[hy] at hpn uc un ⊢
    rw[show((y:Int)).toNat=y by omega] at hpn
    have m':Met M c (aX S (x:Int) ()) y:=by
     refine⟨qJ m.1 _ _,fun v hv=>?_⟩
     rw[iC nx,List.map_append] at hv
     have b1:=fL.mp bb
     rcases List.mem_append.mp hv with z |z
     ·obtain⟨y',e,y1,yc,pv,px,q1,q2,q3⟩:=m.2 v z
      rw[hp] at q2
      cases q2
      have b2:=fL.mp q3
      exact⟨y',e,y1,yc,pv,pn,q1,hpn,fL.mpr (by omega)⟩
     ·simp at z
      exact⟨x,z,h1,h2,p,pn,hp,hpn,bb⟩
    exact yj g hb hc hs nN nT x1 k _ y Ω1 (.dat (w3 u)) h' hS2 (by omega) (by omega) m' (by rw[iC nx];simp;omega)
   ·have e0:u.2.2=0:=by omega
    rw[e0]
    refine⟨.dat (.int 0),.dat (w3 u),Ω1,h',?_⟩
    rw[show k+900=(k+899)+1 by omega,kj,show rgP [.dat (.obj 0),x1,.dat (.obj s),.dat (.int 0),.dat (w3 u)] Ω1=some (false,Ω1) from rfl]
noncomputable def rsB:aO:=aH (a_ 2 iV) (aH (a_ 3 (aj 1)) (eQ rgP rgB 1000))
theorem yl(g:Lg c r N Q L X M)(hb:b<=490)(hc:c<=6):∀(xs:List Nat) (Ω:List OS) (x1 x2 x3 x4:Sl),Ph c r Ω N Q L T X M b q->(∀x∈xs,1<=x/\x<c)->∃y1 y2 y3 y4 Ω',Ph c r Ω' N Q L T X M b q /\
  cV (aV 1) rsB (xs.map fun(x:Nat)=>D.int (x:Int)) [.dat (.obj 0),x1,x2,x3,x4] Ω=some (.nx [.dat (.obj 0),y1,y2,y3,y4] Ω')
 | [],Ω,x1,x2,x3,x4,h,_=>⟨x1,x2,x3,x4,Ω,h,rfl⟩
 | x::xs,Ω,x1,x2,x3,x4,h,hx=>by
  obtain⟨h1,h2⟩:=hx x List.mem_cons_self
  have ha:=h.app (.dK [])
  have nN:Ω.length∉N.map (·.2):=fun z=>by
   obtain⟨⟨k,i⟩,hp,e⟩:=List.mem_map.mp z
   have:=h.lt hp
   dsimp only at e
   omega
  have nT:∀y,1<=y->y<c->Ω.length∉(T y).map (·.2):=fun y y1 y2 z=>by
   have:=(h.ltT y1 y2 z).2
   omega
  obtain⟨y3,y4,Ω1,h',e'⟩:=yj g hb hc h.bg nN nT (.dat (.int x)) 100 [] x (Ω++[.dK []]) x4 ha (by simp[seD,mpA]) h1 h2 ⟨List.nodup_nil,fun v hv=>(nomatch hv)⟩ (by simp;omega)
  obtain⟨z1,z2,z3,z4,Ω2,h'',e''⟩:=yl g hb hc xs Ω1 (.dat (.int x)) (.dat (.obj Ω.length)) y3 y4 h' fun z hz=>hx z (List.mem_cons_of_mem _ hz)
  refine⟨z1,z2,z3,z4,Ω2,h'',?_⟩
  rw[List.map_cons,cG,show aV 1 (.int x) [.dat (.obj 0),x1,x2,x3,x4]=some [.dat (.obj 0),.dat (.int x),x2,x3,x4] from rfl]
  dsimp only
  rw[show rsB [.dat (.obj 0),.dat (.int x),x2,x3,x4] Ω=some (.nx [.dat (.obj 0),.dat (.int x),.dat (.obj Ω.length),y3,y4] Ω1) by
   unfold rsB
   refine(aN (ρ':=[.dat (.obj 0),.dat (.int x),.dat (.obj Ω.length),x3,x4]) (Ω':=Ω++[.dK []]) rfl).trans ?_
   refine(aN (ρ':=[.dat (.obj 0),.dat (.int x),.dat (.obj Ω.length),.dat (.int x),x4]) (Ω':=Ω++[.dK []]) rfl).trans ?_
   exact e']
  exact e''
theorem DX(hw:Wd c r Ω b q)(hb:b<=490)(hc:c<=6)(c1:1<=c):∃Ω',Wd c r Ω' b q/\gF [.obj 0] Ω=some (.bl true,Ω'):=by
 obtain⟨N,Q,L,T,X,M,h,g,sy⟩:=hw
 obtain⟨y1,y2,y3,y4,Ω',h',e⟩:=yl g hb hc ((List.range (c-1)).map fun k=>k+1) Ω .und .und .und .und h fun x hx=>uh hx
 refine⟨Ω',⟨N,Q,L,T,X,M,h',g,sy⟩,cN rfl ?_⟩
 refine(aN (ρ':=[.dat (.obj 0),y1,y2,y3,y4]) (Ω':=Ω') ?_).trans rfl
 show du _ _ rsB [.dat (.obj 0),.und,.und,.und,.und] Ω=_
 rw[gr,qQ h hc c1 rfl]
 exact e
end
end Law
namespace Law
open PySem DL
theorem iM{c k:Int}(hk0:0<=k)(hk1:k<=1000)(Ω:List OS):∃x:Int,0<=x/\aY [.int c,.int k] Ω=some (.int x,Ω):=by
 have e1:dM (.int 104729) (.int k)=some (.int (104729*k)):=oJ (.inl ⟨by decide,by decide⟩)
 have e2:dM (.int 7919) (.int k)=some (.int (7919*k)):=oJ (.inl ⟨by decide,by decide⟩)
 have e3:dM (.int (7919*k)) (.int k)=some (.int (7919*k*k)):=oJ (.inr ⟨by omega,by omega⟩)
 obtain⟨x,hx⟩:∃x,x=(c+104729*k+7919*k*k)%998244353:=⟨_,rfl⟩
 have b0:0<=x:=by rw[hx];exact Int.emod_nonneg _ (by decide)
 have b1:x<998244353:=by rw[hx];exact Int.emod_lt_of_pos _ (by decide)
 have e4:dM (.int x) (.int x)=some (.int (x*x)):=oJ (.inl ⟨by omega,by omega⟩)
 have e5:dM (.int (x*x%998244353)) (.int 1000003)=some (.int (x*x%998244353*1000003)):=oJ (.inr ⟨by decide,by decide⟩)
 refine⟨x*x%998244353*1000003%998244353,Int.emod_nonneg _ (by decide),cN rfl ?_⟩
 refine(aN (ρ':=[.dat (.int c),.dat (.int k),.dat (.int x)]) (Ω':=Ω) (by simp[e1,e2,e3,hx])).trans ?_
 simp[e4,e5]
theorem f12:¬(("length_by":Str) = "tellings_by"):=by decide +kernel
theorem f13:¬(("length_by":Str) = "mark_of"):=by decide +kernel
theorem f23:¬(("tellings_by":Str) = "mark_of"):=by decide +kernel
noncomputable def blk(o:Nat):List OS:=[.ins "Ways" (eN o),.dK [],.dK [],.dK []]
theorem Mi(Ω:List OS)(a:OS)(l:List OS):(Ω++a::l)[Ω.length]? = some a:=by simp
theorem KD(Ω:List OS)(a a':OS)(l:List OS):(Ω++a::l).set Ω.length a'=Ω++a'::l:=by simp[List.set_append]
theorem DY(Ω:List OS):bZ [.obj Ω.length] (Ω++[.ins "Ways" []])=some (.non,Ω++blk Ω.length):=by
 have st:∀(f:Str) (fs:List (Str×D)) (l:List OS) (hf:fs.length<1000) {t:aO},aH (jD "Ways" f (aj 0) iV) t [.dat (.obj Ω.length)] (Ω ++ .ins "Ways" fs::l)=t [.dat (.obj Ω.length)] (Ω ++ .ins "Ways" (gJ f (.obj (Ω.length+l.length+1)) fs)::(l++[.dK []])):=fun f fs l hf t=>aN (by
  have e1:(Ω ++ .ins "Ways" fs::l)++[OS.dK []]=Ω ++ .ins "Ways" fs::(l++[.dK []]):=by simp
  have e2:(Ω ++ .ins "Ways" fs::l).length=Ω.length+l.length+1:=by simp;omega
  have e3:=Mi Ω (.ins "Ways" fs) (l++[OS.dK []])
  have e4:=KD Ω (.ins "Ways" fs) (.ins "Ways" (gJ f (.obj (Ω.length+l.length+1)) fs)) (l++[OS.dK []])
  simp only[Gv,xR,jQ,List.getElem?_cons_zero,e1,e2,e3,e4,hf,and_self,if_true])
 have st':∀(f:Str) (fs:List (Str×D)) (l:List OS) (hf:fs.length<1000),jD "Ways" f (aj 0) iV [.dat (.obj Ω.length)] (Ω ++ .ins "Ways" fs::l)=some (.nx [.dat (.obj Ω.length)] (Ω ++ .ins "Ways" (gJ f (.obj (Ω.length+l.length+1)) fs)::(l++[.dK []]))):=fun f fs l hf=>by
  have:=st f fs l hf (t:=bc)
  rw[rK] at this
  cases z:jD "Ways" f (aj 0) iV [.dat (.obj Ω.length)] (Ω ++ .ins "Ways" fs::l) with
  | none=>rw[z] at this;cases this
  | some o =>
   rw[z] at this
   cases o with
   | nx ρ' Ω'=>exact this
   | _=>cases this
 refine fK (ρ':=[.dat (.obj Ω.length)]) rfl ?_
 have pl:∀(f:Str) (v:D) (fs:List (Str×D)),(gJ f v fs).length<=fs.length+1:=fun f v fs=>by
  induction fs with
  | nil=>simp[gJ]
  | cons p fs ih =>
   obtain⟨g,x⟩:=p
   unfold gJ
   split
   ·simp
   ·simp;exact ih
 have p1:=pl "length_by" (.obj (Ω.length+([]:List OS).length+1)) []
 have p2:=pl "tellings_by" (.obj (Ω.length+([OS.dK []]:List OS).length+1)) (gJ "length_by" (.obj (Ω.length+([]:List OS).length+1)) [])
 simp only[List.length_nil] at p1
 refine(st _ [] [] (by simp)).trans ((st _ _ _ (by simp only[List.length_nil];omega)).trans ((st' _ _ _ ?_).trans ?_))
 ·simp only[List.length_nil,List.nil_append] at p2 ⊢
  omega
 simp[gJ,f12,f13,f23,blk,eN]
noncomputable def blks:Nat->Nat->List OS
 | _,0=>[]
 | o,n+1=>blk o++blks (o+4) n
theorem wu:∀(n o:Nat),(blks o n).length=4*n
 | 0,_=>rfl
 | n+1,o=>by
  unfold blks
  rw[List.length_append,wu n]
  simp[blk]
  omega
theorem ym:∀(n o h j:Nat),h<n->j<4->(blks o n)[4*h+j]? = (blk (o+4*h))[j]?
 | 0,_,_,_,hh,_=>absurd hh (Nat.not_lt_zero _)
 | n+1,o,0,j,_,hj=>by
  unfold blks
  rw[List.getElem?_append_left (by simp[blk];omega)]
  simp
 | n+1,o,h+1,j,hh,hj=>by
  unfold blks
  rw[List.getElem?_append_right (by simp[blk];omega)]
  have e:4*(h+1)+j-(blk o).length=4*h+j:=by simp[blk];omega
  rw[e,ym n (o+4) h j (by omega) hj]
  congr 2
  omega
theorem D_(ρ:List Sl)(Ω:List OS):jE "Ways" bZ [] au ρ Ω=some (.obj Ω.length,Ω++blk Ω.length):=by
 have e:=DY Ω
 simp[e]
theorem um:∀(ks:List Int) (x:Sl) (Ω:List OS),cW (aV 0) oH (jE "Ways" bZ [] au) (ks.map D.int) [x] Ω=some ((List.range ks.length).map fun h=>D.obj (Ω.length+4*h),Ω++blks Ω.length ks.length)
 | [],x,Ω=>by simp[cW,blks]
 | k::ks,x,Ω=>by
  have ih:=um ks (.dat (.int k)) (Ω++blk Ω.length)
  have m:=D_ [.dat (.int k)] Ω
  have e4:(Ω++blk Ω.length).length=Ω.length+4:=by simp[blk]
  rw[e4] at ih
  rw[List.map_cons,mR,show aV 0 (.int k) [x]=some [.dat (.int k)] from rfl]
  dsimp only
  rw[show oH [.dat (.int k)] Ω=some (true,Ω) from rfl]
  dsimp only
  rw[m]
  dsimp only
  rw[ih]
  dsimp only
  rw[List.length_cons,List.range_succ_eq_map,List.map_cons,List.map_map]
  congr 1
  ·refine Prod.ext ?_ ?_
   ·simp
    intro a _
    omega
   ·simp[blks]
noncomputable def Ω0(c:Nat):List OS:=[.dK (wKV c 1),.dT []]++blks 2 c
theorem wd0{c:Nat}:Wn c 1 (Ω0 c) [] 0 0:=by
 have at':∀h j,h<c->j<4->(Ω0 c)[2+4*h+j]? = (blk (2+4*h))[j]?:=fun h j hh hj=>by
  unfold Ω0
  rw[List.getElem?_append_right (by simp;omega)]
  rw[show 2+4*h+j - [OS.dK (wKV c 1),.dT []].length=4*h+j by simp;omega]
  exact ym c 2 h j hh hj
 have ln:(Ω0 c).length=2+4*c:=by unfold Ω0;rw[List.length_append,wu];simp
 refine⟨fun _=>[],fun _=>[],fun _=>[],fun _ _=>[],fun _=>[],⟨rfl,rfl,fun k i hi=>(nomatch hi),List.nodup_nil,List.nodup_nil,Nat.le_refl _,fun _=>Nat.le_refl _,fun h h1 h2=>⟨?_,?_,?_,?_,fun n i hi=>(nomatch hi),List.nodup_nil,rfl,List.nodup_nil,Nat.le_refl _,Nat.le_refl _,fun _=>Nat.le_refl _,by rw[ln];exact Nat.le_refl _,by omega⟩,fun h _ _ j hj=>(nomatch hj),fun h h' _ _ _ _ _ j hj=>(nomatch hj),by rw[ln];exact Nat.le_refl _⟩,⟨fun k hk=>(nomatch hk),fun h _ _ n=>⟨fun z=>(nomatch z),fun z=>(by cases z)⟩,fun h _ _ n l e=>(by cases e),fun h _ _ g n l num f e=>(by cases e),fun h _ _ n l num f e=>(by cases e),fun k hk=>(nomatch hk),fun h _ _ p e=>(by cases e)⟩,fun x y z=>(nomatch z)⟩
 ·exact at' h 0 h2 (by decide)
 ·exact at' h 1 h2 (by decide)
 ·exact at' h 2 h2 (by decide)
 ·exact at' h 3 h2 (by decide)
theorem Ea{c:Nat}(hc:c<=6)(x0 x1:Sl)(r:List Sl):qG [("count",(aj 2)),("raised",(gC (.int 1))),("notes",uF),("ways",(ji [none] (dg fX (ak (aj 2) au)) (aV 0) oH (jE "Ways" bZ [] au)))] (x0::x1 :: .dat (.int c)::r) []=some (.obj 0,Ω0 c):=by
 have er:upD 0 c=((List.range c).map fun(k:Nat)=>((k:Nat):Int)).map D.int:=by simp[upD]
 have eg:dg fX (ak (aj 2) au) (x0::x1 :: .dat (.int c)::r) [.dK [],.dT []]=some (((List.range c).map fun(k:Nat)=>((k:Nat):Int)).map D.int,[.dK [],.dT []]):=by
  have r1:=qm (j:=(c:Int)) (by omega) (by omega)
  rw[show((c:Int)).toNat=c by omega,er] at r1
  rw[jo]
  simp only[lD,Al,jQ,List.getElem?_cons_zero,List.getElem?_cons_succ]
  rw[r1]
 have cm:=um ((List.range c).map fun(k:Nat)=>((k:Nat):Int)) .und [.dK [],.dT []]
 rw[List.length_map,List.length_range] at cm
 have ec:ji [none] (dg fX (ak (aj 2) au)) (aV 0) oH (jE "Ways" bZ [] au) (x0::x1 :: .dat (.int c)::r) [.dK [],.dT []]=some (.lst (wsL c),[.dK [],.dT []]++blks 2 c):=by
  rw[xO,eg]
  dsimp only
  rw[if_pos (by simp;omega),show di [none] (x0::x1::Sl.dat (.int c)::r)=[.und] from rfl,cm]
  rfl
 have em:nq [] [((.inr "count":L2.Key),D.int c),(.inr "raised",.int 1),(.inr "notes",.obj 1),(.inr "ways",.lst (wsL c))]=wKV c 1:=by simp[nq,putD,wKV,DG,JF,JG,DK,DN,JH]
 unfold qG gK gK gK gK gK
 simp only[jQ,Ji,Gs,List.nil_append,List.getElem?_cons_zero,List.getElem?_cons_succ,List.length_cons,List.length_nil,List.cons_append,ec]
 simp[em,Ω0]
end Law
namespace Law
open PySem DL
theorem qR(lo:Int)(n:Nat):upD lo (n+1)=D.int lo::upD (lo+1) n:=by
 unfold upD
 rw[List.range_succ_eq_map,List.map_cons,List.map_map]
 congr 1
 ·simp
 ·apply List.map_congr_left
  intro k _
  simp
  omega
noncomputable def iB:aO:=bw (aL gf (ak (aj 0) (ak (aj 2) (ak (aj 3) (ak (gOp bG (gC (.int 1)) (gOp bV (aL aY (ak (aj 1) (ak (gOp bG (gOp bG (gC (.int 40)) (gOp dM (gC (.int 6)) (aj 2))) (aj 3)) au))) (gC (.int 30)))) au)))))
noncomputable def oB:aO:=du (dg jO (ak (gOp bG (aj 2) (gC (.int 1))) (ak (aJ (aj 0) (gC (.str "count"))) au))) (aV 3) iB
noncomputable def crD:aO:=bw (aL dO (ak (aj 0) (ak (aL aY (ak (aj 1) (ak (gOp bG (gC (.int 100)) (aj 4)) au))) au)))
noncomputable def Bd(N:TyN)(x y:Nat):Prop:=∀a b:Int,(a,b)∈N.map (·.1)->(a<b/\(a<x\/(a=x/\b<y)))\/(b<a/\(b<x\/(b=x/\a<y)))
noncomputable def Bo(N:TyN)(x:Nat):Prop:=∀a b:Int,(a,b)∈N.map (·.1)->(a<b/\a<x)\/(b<a/\b<x)
section
variable {c b q:Nat} {r:Int} {Ω:List OS} {N:TyN}
theorem yo(hc:c<=6)(cell:Int){x:Nat}(x4:Sl):∀(n y:Nat) (Ω:List OS) (N:TyN) (b q:Nat) (x3:Sl),y+n=c->x<y->Wn c r Ω N b q->Bd N x y->b+2*n<=480->q+4*n<20000->∃Ω' N' y3,Wn c r Ω' N' (b+2*n) (q+4*n)/\Bd N' x c /\
  cV (aV 3) iB (upD y n) [.dat (.obj 0),.dat (.int cell),.dat (.int x),x3,x4] Ω=some (.nx [.dat (.obj 0),.dat (.int cell),.dat (.int x),y3,x4] Ω')
 | 0,y,Ω,N,b,q,x3,hy,_,w,hB,_,_=>⟨Ω,N,x3,w,by rw[show c=y by omega];exact hB,rfl⟩
 | n+1,y,Ω,N,b,q,x3,hy,xy,w,hB,hb,hq=>by
  obtain⟨m,m0,em⟩:=iM (c:=cell) (k:=40+6*(x:Int)+(y:Int)) (by omega) (by omega) Ω
  have hx:x<c:=by omega
  have hy':y<c:=by omega
  obtain⟨Ω1,N1,w1,k1,e1⟩:=v_ (c:=c) w (by omega) (by omega) (x:=x) (y:=y) hx hy' (by omega) (fun z=>by
   have:=hB _ _ z
   omega) (l:=1+m%30) (by omega)
  obtain⟨Ω2,N2,y3,w2,hB2,e2⟩:=yo hc cell (x:=x) x4 n (y+1) Ω1 N1 (b+2) (q+4) (.dat (.int y)) (by omega) (by omega) w1 (fun a d z=>by
   rcases (k1 _).mp z with (z |z) |z
   ·have:=hB _ _ z
    omega
   ·injection z with z1 z2
    omega
   ·injection z with z1 z2
    omega) (by omega) (by omega)
  refine⟨Ω2,N2,y3,by rw[show b+2*(n+1)=b+2+2*n by omega,show q+4*(n+1)=q+4+4*n by omega];exact w2,hB2,?_⟩
  have ml:dM (.int 6) (.int (x:Int))=some (.int (6*(x:Int))):=oJ (.inl ⟨by decide,by decide⟩)
  rw[qR,cG,show aV 3 (.int y) [.dat (.obj 0),.dat (.int cell),.dat (.int x),x3,x4]=some [.dat (.obj 0),.dat (.int cell),.dat (.int x),.dat (.int y),x4] from rfl]
  dsimp only
  rw[show iB [.dat (.obj 0),.dat (.int cell),.dat (.int x),.dat (.int y),x4] Ω=some (.nx [.dat (.obj 0),.dat (.int cell),.dat (.int x),.dat (.int y),x4] Ω1) by
   unfold iB
   simp[ml,em,e1]]
  dsimp only
  rw[show((y:Int)+1)=((y+1:Nat):Int) by omega]
  exact e2
theorem wz(hc:c<=6)(cell:Int)(x4:Sl):∀(n x:Nat) (Ω:List OS) (N:TyN) (b q:Nat) (x2 x3:Sl),x+n=c->Wn c r Ω N b q->Bo N x->b+10*n<=480->q+20*n<20000->∃Ω' N' y2 y3,Wn c r Ω' N' (b+10*n) (q+20*n) /\
  cV (aV 2) oB (upD x n) [.dat (.obj 0),.dat (.int cell),x2,x3,x4] Ω=some (.nx [.dat (.obj 0),.dat (.int cell),y2,y3,x4] Ω')
 | 0,x,Ω,N,b,q,x2,x3,hx,w,hB,_,_=>⟨Ω,N,x2,x3,w,rfl⟩
 | n+1,x,Ω,N,b,q,x2,x3,hx,w,hB,hb,hq=>by
  obtain⟨Ω1,N1,y3,w1,hB1,e1⟩:=yo hc cell (x:=x) x4 n (x+1) Ω N b q x3 (by omega) (by omega) w (fun a d z=>by
   have:=hB _ _ z
   omega) (by omega) (by omega)
  have w1':Wn c r Ω1 N1 (b+10) (q+20):=by
   obtain⟨Q,L,T,X,M,h,g,sy⟩:=w1
   exact⟨Q,L,T,X,M,h.mono (by omega) (by omega),g,sy⟩
  obtain⟨Ω2,N2,y2,z3,w2,e2⟩:=wz hc cell x4 n (x+1) Ω1 N1 (b+10) (q+20) (.dat (.int x)) y3 (by omega) w1' (fun a d z=>by
   have:=hB1 _ _ z
   omega) (by omega) (by omega)
  refine⟨Ω2,N2,y2,z3,by rw[show b+10*(n+1)=b+10+10*n by omega,show q+20*(n+1)=q+20+20*n by omega];exact w2,?_⟩
  obtain⟨Q,L,T,X,M,h,g,sy⟩:=w
  have p0:=h.p0
  have vc:=v_c c r
  rw[qR,cG,show aV 2 (.int x) [.dat (.obj 0),.dat (.int cell),x2,x3,x4]=some [.dat (.obj 0),.dat (.int cell),.dat (.int x),x3,x4] from rfl]
  dsimp only
  have r2:=yQ (i:=(x:Int)+1) (j:=(c:Int)) (by omega) (by omega) (by omega) (by omega)
  rw[show((c:Int)-((x:Int)+1)).toNat=n by omega] at r2
  rw[show oB [.dat (.obj 0),.dat (.int cell),.dat (.int x),x3,x4] Ω=some (.nx [.dat (.obj 0),.dat (.int cell),.dat (.int x),y3,x4] Ω1) by
   unfold oB
   rw[gr,show dg jO (ak (gOp bG (aj 2) (gC (.int 1))) (ak (aJ (aj 0) (gC (.str "count"))) au)) [.dat (.obj 0),.dat (.int cell),.dat (.int x),x3,x4] Ω=some (upD ((x:Int)+1) n,Ω) by
    rw[jo]
    simp[p0,vc,r2]]
   rw[show((x:Int)+1)=((x+1:Nat):Int) by omega]
   exact e1]
  dsimp only
  rw[show((x:Int)+1)=((x+1:Nat):Int) by omega]
  exact e2
theorem yp(hc:c<=6)(cell:Int)(x2 x3:Sl):∀(n k:Nat) (Ω:List OS) (b q:Nat) (x4:Sl),k+n<=100->Wd c r Ω b q->b+2*n<=480->q+6*n<20000->∃Ω' y4,Wd c r Ω' (b+2*n) (q+6*n) /\
  cV (aV 4) crD (upD k n) [.dat (.obj 0),.dat (.int cell),x2,x3,x4] Ω=some (.nx [.dat (.obj 0),.dat (.int cell),x2,x3,y4] Ω')
 | 0,k,Ω,b,q,x4,_,w,_,_=>⟨Ω,x4,w,rfl⟩
 | n+1,k,Ω,b,q,x4,hk,w,hb,hq=>by
  obtain⟨m,m0,em⟩:=iM (c:=cell) (k:=100+(k:Int)) (by omega) (by omega) Ω
  obtain⟨Ω1,w1,e1⟩:=uf w (by omega) hc (by omega) m
  obtain⟨Ω2,y4,w2,e2⟩:=yp hc cell x2 x3 n (k+1) Ω1 (b+2) (q+6) (.dat (.int k)) (by omega) w1 (by omega) (by omega)
  refine⟨Ω2,y4,by rw[show b+2*(n+1)=b+2+2*n by omega,show q+6*(n+1)=q+6+6*n by omega];exact w2,?_⟩
  rw[qR,cG,show aV 4 (.int k) [.dat (.obj 0),.dat (.int cell),x2,x3,x4]=some [.dat (.obj 0),.dat (.int cell),x2,x3,.dat (.int k)] from rfl]
  dsimp only
  rw[show crD [.dat (.obj 0),.dat (.int cell),x2,x3,.dat (.int k)] Ω=some (.nx [.dat (.obj 0),.dat (.int cell),x2,x3,.dat (.int k)] Ω1) by
   unfold crD
   simp[em,e1]]
  dsimp only
  rw[show((k:Int)+1)=((k+1:Nat):Int) by omega]
  exact e2
theorem Br(hc:c<=6)(w:Wn c r Ω [] 0 0)(cell:Int):∃Ω',Wd c r Ω' 180 480/\iI [.obj 0,.int cell] Ω=some (.non,Ω'):=by
 obtain⟨Ω1,N1,y2,y3,w1,e1⟩:=wz hc cell .und c 0 Ω [] 0 0 .und .und (by omega) w (fun a b z=>(nomatch z)) (by omega) (by omega)
 obtain⟨Ω2,y4,w2,e2⟩:=yp hc cell y2 y3 60 0 Ω1 _ _ .und (by omega) w1.d (by omega) (by omega)
 refine⟨Ω2,w2.mono (by omega) (by omega),fK (ρ':=[.dat (.obj 0),.dat (.int cell),y2,y3,y4]) rfl ?_⟩
 obtain⟨Q,L,T,X,M,h,g,sy⟩:=w
 have p0:=h.p0
 have vc:=v_c c r
 have r1:=qm (j:=(c:Int)) (by omega) (by omega)
 rw[show((c:Int)).toNat=c by omega] at r1
 have r6:=qm (j:=(60:Int)) (by omega) (by omega)
 refine(aN (ρ':=[.dat (.obj 0),.dat (.int cell),y2,y3,.und]) (Ω':=Ω1) ?_).trans ?_
 ·show du _ _ oB [.dat (.obj 0),.dat (.int cell),.und,.und,.und] Ω=_
  rw[gr,show dg fX (ak (aJ (aj 0) (gC (.str "count"))) au) [.dat (.obj 0),.dat (.int cell),.und,.und,.und] Ω=some (upD 0 c,Ω) by
   rw[jo]
   simp[p0,vc,r1]]
  exact e1
 ·show du _ _ crD [.dat (.obj 0),.dat (.int cell),y2,y3,.und] Ω1=_
  rw[gr,show dg fX (ak (gC (.int 60)) au) [.dat (.obj 0),.dat (.int cell),y2,y3,.und] Ω1=some (upD 0 60,Ω1) by
   rw[jo]
   show(match fX [.int 60] with |some es=>some (es,Ω1) |none=>none)=_
   rw[r6]
   rfl]
  exact e2
end
end Law
namespace Law
open PySem DL
noncomputable def kB:aO:=bw (aL dO (ak (aj 3) (ak (aL aY (ak (aj 6) (ak (gOp bG (gC (.int 6)) (aj 10)) au))) au)))
noncomputable def raB:aO:=aH (eF (aj 3) (gC (.str "raised")) (gOp bG (aJ (aj 3) (gC (.str "raised"))) (gC (.int 1)))) (bw (aL cR (ak (aj 3) (ak (gC (.int 0)) (ak (aL cI (ak (aj 3) (ak (gC (.int 0)) au))) au)))))
noncomputable def acB:aO:=sIf (dN (gT (gOp ltD (aj 9) (gC (.int 2)))) (gT (gG true (bD (ak (aj 7) (ak (aj 8) au))) (aJ (aj 3) (gC (.str "notes")))))) (bw (aL gf (ak (aj 3) (ak (aj 7) (ak (aj 8) (ak (gOp bG (gC (.int 1)) (gOp bV (aL aY (ak (aj 6) (ak (gC (.int 4)) au))) (gC (.int 9)))) au)))))) (sIf (dN (gT (gOp (eqD false) (aj 9) (gC (.int 2)))) (dN (gT (gG false (bD (ak (aj 7) (ak (aj 8) au))) (aJ (aj 3) (gC (.str "notes"))))) (gT (gOp (eqD false) (gOp bV (aL aY (ak (aj 6) (ak (gC (.int 4)) au))) (gC (.int 2))) (gC (.int 0)))))) (bw (aL iw (ak (aj 3) (ak (aj 7) (ak (aj 8) au))))) (sIf (gT (gOp (eqD false) (aj 9) (gC (.int 3)))) raB (du (dg fX (ak (gOp bG (gC (.int 1)) (gOp bV (aL aY (ak (aj 6) (ak (gC (.int 5)) au))) (gC (.int 3)))) au)) (aV 10) kB)))
noncomputable def chB:aO:=sIf (pG (jA (gT (aL h_ (ak (aj 3) au)))) (jA (gT (aL gF (ak (aj 3) au))))) (cg (gC (.bl false))) bc
noncomputable def Eb:Den:=gOp ixD (fj (ak (gOp bV (aL aY (ak (aj 6) (ak (gC (.int 3)) au))) (gC (.int 9))) (ak (gOp ixD (fj (ak (gC (.int 2)) (ak (gC (.int 2)) (ak (gC (.int 2)) (ak (gC (.int 2)) (ak (gC (.int 4)) (ak (gC (.int 5)) (ak (gC (.int 6)) (ak (gC (.int 7)) (ak (gC (.int 8)) au)))))))))) (gOp bV (aL aY (ak (aj 6) (ak (gC (.int 3)) au))) (gC (.int 9)))) au))) (aj 4)
noncomputable def tB:aO:=aH (a_ 6 (gOp ixD (aj 1) (aj 5))) (aH (a_ 7 (gOp bV (aL aY (ak (aj 6) (ak (gC (.int 1)) au))) (aj 2))) (aH (a_ 8 (gOp bV (gOp bG (gOp bG (aj 7) (gC (.int 1))) (gOp bV (aL aY (ak (aj 6) (ak (gC (.int 2)) au))) (gOp CG (aj 2) (gC (.int 1))))) (aj 2))) (aH (a_ 9 Eb) (aH acB chB))))
noncomputable abbrev RW(x0 x1:Sl)(c:Nat)(x4 x5:Sl)(cell:Int)(o p:Nat)(w:Int)(x10:Sl):List Sl:=[x0,x1,.dat (.int c),.dat (.obj 0),x4,x5,.dat (.int cell),.dat (.int o),.dat (.int p),.dat (.int w),x10]
section
variable {c b q:Nat} {r:Int} {Ω:List OS}
theorem Bs(hc:c<=6)(x0 x1 x4 x5:Sl)(cell:Int)(o p:Nat)(w:Int):∀(n k:Nat) (Ω:List OS) (b q:Nat) (x10:Sl),k+n<=10->Wd c r Ω b q->b+2*n<=488->q+6*n<30000->∃Ω' y10,Wd c r Ω' (b+2*n) (q+6*n) /\
  cV (aV 10) kB (upD k n) (RW x0 x1 c x4 x5 cell o p w x10) Ω=some (.nx (RW x0 x1 c x4 x5 cell o p w y10) Ω')
 | 0,k,Ω,b,q,x10,_,w,_,_=>⟨Ω,x10,w,rfl⟩
 | n+1,k,Ω,b,q,x10,hk,hw,hb,hq=>by
  obtain⟨m,m0,em⟩:=iM (c:=cell) (k:=6+(k:Int)) (by omega) (by omega) Ω
  obtain⟨Ω1,w1,e1⟩:=uf hw (by omega) hc (by omega) m
  obtain⟨Ω2,y4,w2,e2⟩:=Bs hc x0 x1 x4 x5 cell o p w n (k+1) Ω1 (b+2) (q+6) (.dat (.int k)) (by omega) w1 (by omega) (by omega)
  refine⟨Ω2,y4,by rw[show b+2*(n+1)=b+2+2*n by omega,show q+6*(n+1)=q+6+6*n by omega];exact w2,?_⟩
  rw[qR,cG,show aV 10 (.int k) (RW x0 x1 c x4 x5 cell o p w x10)=some (RW x0 x1 c x4 x5 cell o p w (.dat (.int k))) from rfl]
  dsimp only
  rw[show kB (RW x0 x1 c x4 x5 cell o p w (.dat (.int k))) Ω=some (.nx (RW x0 x1 c x4 x5 cell o p w (.dat (.int k))) Ω1) by
   unfold kB
   simp[em,e1]]
  dsimp only
  rw[show((k:Int)+1)=((k+1:Nat):Int) by omega]
  exact e2
theorem JN(hw:Wd c r Ω b q)(hb:b<=490)(hc:c<=6)(c1:1<=c)(hq:q<40000)(x0 x1 x4 x5:Sl)(cell:Int)(o p:Nat)(w:Int)(x10:Sl):∃Ω',Wd c (r+1) Ω' b (q+6)/\raB (RW x0 x1 c x4 x5 cell o p w x10) Ω=some (.nx (RW x0 x1 c x4 x5 cell o p w x10) Ω'):=by
 obtain⟨N,Q,L,T,X,M,h,g,sy⟩:=hw
 have h1:=h.raise (r+1)
 have g1:=g.raise (r':=r+1) (by omega)
 obtain⟨gs,l1,l2,l3⟩:=yf h1 (by omega) 0
 obtain⟨Ω',Q',h2,n2,e2⟩:=nQ h1 hb (x:=0) (by omega) l2 (by omega)
 refine⟨Ω',⟨N,Q',L,T,X,M,h2.mono (Nat.le_refl _) (by omega),g1.notes n2 (fun num f P=>P num f rfl (fun z=>absurd z (by decide))),sy⟩,?_⟩
 have p0:=h.p0
 have vr:=v_r c r
 have pr:=Kv c r (r+1)
 have kl:(wKV c r).length<100000:=by simp[wKV]
 have l3':cI [.obj 0,.int 0] (Ω.set 0 (.dK (wKV c (r+1))))=some (.lst (gs.map D.int),Ω.set 0 (.dK (wKV c (r+1)))):=l3
 have e2':cR [.obj 0,.int 0,.lst (gs.map D.int)] (Ω.set 0 (.dK (wKV c (r+1))))=some (.non,Ω'):=e2
 unfold raB
 refine(aN (ρ':=RW x0 x1 c x4 x5 cell o p w x10) (Ω':=Ω.set 0 (.dK (wKV c (r+1)))) ?_).trans ?_
 ·simp[p0,vr,pr,kl]
 ·simp[l3',e2']
theorem JP(hw:Wd c r Ω b q)(hb:b<=480)(hc:c<=6)(c1:1<=c)(hq:q<29000){o p:Nat}(ho:o<c)(hp:p<c)(ne:o≠p)(x0 x1 x4 x5:Sl)(cell w:Int)(x10:Sl):∃r' Ω' y10,Wd c r' Ω' (b+6) (q+24)/\acB (RW x0 x1 c x4 x5 cell o p w x10) Ω=some (.nx (RW x0 x1 c x4 x5 cell o p w y10) Ω'):=by
 have tail:∃r' Ω' y10,Wd c r' Ω' (b+6) (q+24)/\sIf (gT (gOp (eqD false) (aj 9) (gC (.int 3)))) raB (du (dg fX (ak (gOp bG (gC (.int 1)) (gOp bV (aL aY (ak (aj 6) (ak (gC (.int 5)) au))) (gC (.int 3)))) au)) (aV 10) kB) (RW x0 x1 c x4 x5 cell o p w x10) Ω=some (.nx (RW x0 x1 c x4 x5 cell o p w y10) Ω'):=by
  by_cases h3:w=3
  ·obtain⟨Ω',w',e'⟩:=JN hw (by omega) hc c1 (by omega) x0 x1 x4 x5 cell o p w x10
   refine⟨_,Ω',x10,w'.mono (by omega) (by omega),?_⟩
   rw[d_,show gT (gOp (eqD false) (aj 9) (gC (.int 3))) (RW x0 x1 c x4 x5 cell o p w x10) Ω=some (true,Ω) by simp[h3]]
   exact e'
  ·obtain⟨m,m0,em⟩:=iM (c:=cell) (k:=5) (by omega) (by omega) Ω
   obtain⟨n,hn,hn3⟩:∃n:Nat,(n:Int)=1+m%3/\n<=3:=⟨(1+m%3).toNat,by omega,by omega⟩
   obtain⟨Ω',y10,w',e'⟩:=Bs hc x0 x1 x4 x5 cell o p w n 0 Ω b q x10 (by omega) hw (by omega) (by omega)
   refine⟨_,Ω',y10,w'.mono (by omega) (by omega),?_⟩
   rw[d_,show gT (gOp (eqD false) (aj 9) (gC (.int 3))) (RW x0 x1 c x4 x5 cell o p w x10) Ω=some (false,Ω) by simp[h3]]
   dsimp only
   have r1:=qm (j:=1+m%3) (by omega) (by omega)
   rw[show(1+m%3).toNat=n by omega] at r1
   rw[gr,show dg fX (ak (gOp bG (gC (.int 1)) (gOp bV (aL aY (ak (aj 6) (ak (gC (.int 5)) au))) (gC (.int 3)))) au) (RW x0 x1 c x4 x5 cell o p w x10) Ω=some (upD 0 n,Ω) by
    rw[jo]
    simp[em,r1]]
   exact e'
 obtain⟨N,hn⟩:=hw.n
 obtain⟨m,m0,em⟩:=iM (c:=cell) (k:=4) (by omega) (by omega) Ω
 have tn:∀neg,gT (gG neg (bD (ak (aj 7) (ak (aj 8) au))) (aJ (aj 3) (gC (.str "notes")))) (RW x0 x1 c x4 x5 cell o p w x10) Ω=some (if neg then !(aF N ((o:Int),(p:Int))).isSome else(aF N ((o:Int),(p:Int))).isSome,Ω):=fun neg=>by
  obtain⟨Q,L,T,X,M,h,g,sy⟩:=hn
  have p0:=h.p0
  have p1:=h.p1
  have vn:=v_n c r
  have lk:=lkN N o p
  cases neg<;>simp[p0,vn,p1,lk]
 have t1:gT (gOp ltD (aj 9) (gC (.int 2))) (RW x0 x1 c x4 x5 cell o p w x10) Ω=some (decide (w<2),Ω):=by simp
 have t2:gT (gOp (eqD false) (aj 9) (gC (.int 2))) (RW x0 x1 c x4 x5 cell o p w x10) Ω=some (decide (w=2),Ω):=by simp
 have t3:gT (gOp (eqD false) (gOp bV (aL aY (ak (aj 6) (ak (gC (.int 4)) au))) (gC (.int 2))) (gC (.int 0))) (RW x0 x1 c x4 x5 cell o p w x10) Ω=some (decide (m%2=0),Ω):=by simp[em]
 unfold acB
 rw[d_,gD,t1]
 cases hz:aF N ((o:Int),(p:Int)) with
 | none =>
  rw[hz] at tn
  by_cases w2:w<2
  ·obtain⟨Ω1,N1,w1,_,e1⟩:=v_ hn (by omega) (by omega) ho hp ne (fun z=>by
    have:=dR.mp hz
    exact this z) (l:=1+m%9) (by omega)
   refine⟨_,Ω1,x10,w1.d.mono (by omega) (by omega),?_⟩
   simp only[w2,decide_true,tn,if_true,Option.isSome_none,Bool.not_false]
   simp[em,e1]
  ·obtain⟨r',Ω',y10,w',e'⟩:=tail
   refine⟨r',Ω',y10,w',?_⟩
   simp only[w2,decide_false]
   rw[d_,gD,t2]
   by_cases h2:w=2
   ·simp only[h2,decide_true]
    rw[gD,<-h2,tn]
    exact e'
   ·simp only[h2,decide_false]
    exact e'
 | some i =>
  rw[hz] at tn
  have e2:∃r' Ω' y10,Wd c r' Ω' (b+6) (q+24)/\sIf (dN (gT (gOp (eqD false) (aj 9) (gC (.int 2)))) (dN (gT (gG false (bD (ak (aj 7) (ak (aj 8) au))) (aJ (aj 3) (gC (.str "notes"))))) (gT (gOp (eqD false) (gOp bV (aL aY (ak (aj 6) (ak (gC (.int 4)) au))) (gC (.int 2))) (gC (.int 0)))))) (bw (aL iw (ak (aj 3) (ak (aj 7) (ak (aj 8) au))))) (sIf (gT (gOp (eqD false) (aj 9) (gC (.int 3)))) raB (du (dg fX (ak (gOp bG (gC (.int 1)) (gOp bV (aL aY (ak (aj 6) (ak (gC (.int 5)) au))) (gC (.int 3)))) au)) (aV 10) kB)) (RW x0 x1 c x4 x5 cell o p w x10) Ω=some (.nx (RW x0 x1 c x4 x5 cell o p w y10) Ω'):=by
   rw[d_,gD,t2]
   by_cases h2:w=2
   ·by_cases hm:m%2=0
    ·obtain⟨Ω1,w1,e1⟩:=DP hn (by omega) hc (by omega) ho hp ne (List.mem_map.mpr ⟨_,jg hz,rfl⟩)
     refine⟨_,Ω1,x10,w1.mono (by omega) (by omega),?_⟩
     simp only[decide_eq_true h2]
     rw[gD,tn]
     dsimp only[Option.isSome_some]
     rw[if_neg (by decide)]
     dsimp only
     rw[t3,decide_eq_true hm]
     simp[e1]
    ·obtain⟨r',Ω',y10,w',e'⟩:=tail
     refine⟨r',Ω',y10,w',?_⟩
     simp only[decide_eq_true h2]
     rw[gD,tn]
     dsimp only[Option.isSome_some]
     rw[if_neg (by decide)]
     dsimp only
     rw[t3,decide_eq_false hm]
     exact e'
   ·obtain⟨r',Ω',y10,w',e'⟩:=tail
    refine⟨r',Ω',y10,w',?_⟩
    simp only[decide_eq_false h2]
    exact e'
  obtain⟨r',Ω',y10,w',e'⟩:=e2
  refine⟨r',Ω',y10,w',?_⟩
  by_cases w2:w<2
  ·simp only[decide_eq_true w2,tn,if_true,Option.isSome_some,Bool.not_true]
   exact e'
  ·simp only[decide_eq_false w2]
   exact e'
theorem Hm{d:Int}(hd:d=0\/d=1)(cell:Int){ρ:List Sl}(h6:ρ[6]? = some (.dat (.int cell)))(h4:ρ[4]? = some (.dat (.int d)))(Ω:List OS):∃w:Int,Eb ρ Ω=some (.int w,Ω):=by
 obtain⟨m,m0,em⟩:=iM (c:=cell) (k:=3) (by omega) (by omega) Ω
 have b0:0<=m%9:=Int.emod_nonneg _ (by decide)
 have b1:m%9<9:=Int.emod_lt_of_pos _ (by decide)
 obtain⟨n,hn⟩:∃n,m%9=n:=⟨_,rfl⟩
 have ef:gOp bV (aL aY (ak (aj 6) (ak (gC (.int 3)) au))) (gC (.int 9)) ρ Ω=some (.int n,Ω):=by simp[h6,em,hn]
 rw[hn] at b0 b1
 have ei:∃v:Int,ixD (.lst [.int 2,.int 2,.int 2,.int 2,.int 4,.int 5,.int 6,.int 7,.int 8]) (.int n)=some (.int v):=by
  rcases (by omega:n=0\/n=1\/n=2\/n=3\/n=4\/n=5\/n=6\/n=7\/n=8) with rfl |rfl |rfl |rfl |rfl |rfl |rfl |rfl |rfl<;>exact⟨_,rfl⟩
 obtain⟨v,ev⟩:=ei
 have eg:fj (ak (gOp bV (aL aY (ak (aj 6) (ak (gC (.int 3)) au))) (gC (.int 9))) (ak (gOp ixD (fj (ak (gC (.int 2)) (ak (gC (.int 2)) (ak (gC (.int 2)) (ak (gC (.int 2)) (ak (gC (.int 4)) (ak (gC (.int 5)) (ak (gC (.int 6)) (ak (gC (.int 7)) (ak (gC (.int 8)) au)))))))))) (gOp bV (aL aY (ak (aj 6) (ak (gC (.int 3)) au))) (gC (.int 9)))) au)) ρ Ω=some (.lst [.int n,.int v],Ω):=by
  rw[Jj,lD,ef]
  dsimp only
  rw[lD,uE,show fj (ak (gC (.int 2)) (ak (gC (.int 2)) (ak (gC (.int 2)) (ak (gC (.int 2)) (ak (gC (.int 4)) (ak (gC (.int 5)) (ak (gC (.int 6)) (ak (gC (.int 7)) (ak (gC (.int 8)) au))))))))) ρ Ω=some (.lst [.int 2,.int 2,.int 2,.int 2,.int 4,.int 5,.int 6,.int 7,.int 8],Ω) from rfl]
  dsimp only
  rw[ef]
  dsimp only
  rw[ev]
  rfl
 unfold Eb
 rw[uE,eg]
 dsimp only
 rw[jQ,h4]
 rcases hd with rfl |rfl
 ·exact⟨n,rfl⟩
 ·exact⟨v,rfl⟩
theorem JQ(hw:Wd c r Ω b q)(hb:b<=480)(hc:c<=6)(c3:3<=c)(hq:q<29000){xs:List Int}{k:Nat}(hk:k<xs.length){d:Int}(hd:d=0\/d=1)(x0 x6 x7 x8 x9 x10:Sl):∃r' Ω' y6 y7 y8 y9 y10,Wd c r' Ω' (b+6) (q+24)/\tB [x0,.dat (.lst (xs.map D.int)),.dat (.int c),.dat (.obj 0),.dat (.int d),.dat (.int k),x6,x7,x8,x9,x10] Ω=some (.nx [x0,.dat (.lst (xs.map D.int)),.dat (.int c),.dat (.obj 0),.dat (.int d),.dat (.int k),y6,y7,y8,y9,y10] Ω'):=by
 have h2:L2.atI (xs.map D.int) (k:Int)=some (.int xs[k]):=by rw[rM,fY _ _ hk];rfl
 obtain⟨m1,_,e1⟩:=iM (c:=xs[k]) (k:=1) (by omega) (by omega) Ω
 obtain⟨m2,_,e2⟩:=iM (c:=xs[k]) (k:=2) (by omega) (by omega) Ω
 have a0:0<=m1%(c:Int):=Int.emod_nonneg _ (by omega)
 have a1:m1%(c:Int)<c:=Int.emod_lt_of_pos _ (by omega)
 have a2:0<=m2%((c:Int)-1):=Int.emod_nonneg _ (by omega)
 have a3:m2%((c:Int)-1)<(c:Int)-1:=Int.emod_lt_of_pos _ (by omega)
 obtain⟨o,ho⟩:∃o:Nat,(o:Int)=m1%(c:Int):=⟨(m1%(c:Int)).toNat,by omega⟩
 obtain⟨s,hs⟩:∃s:Nat,(s:Int)=m2%((c:Int)-1):=⟨(m2%((c:Int)-1)).toNat,by omega⟩
 have a4:0<=((o:Int)+1+s)%(c:Int):=Int.emod_nonneg _ (by omega)
 have a5:((o:Int)+1+s)%(c:Int)<c:=Int.emod_lt_of_pos _ (by omega)
 obtain⟨p,hp⟩:∃p:Nat,(p:Int)=((o:Int)+1+s)%(c:Int):=⟨(((o:Int)+1+s)%(c:Int)).toNat,by omega⟩
 have oc:o<c:=by omega
 have pc:p<c:=by omega
 have sc:s<c-1:=by omega
 have ne:o≠p:=by
  intro z
  rw[z] at hp oc
  rcases (by omega:c=3\/c=4\/c=5\/c=6) with rfl |rfl |rfl |rfl<;>omega
 obtain⟨w,ew⟩:=Hm hd xs[k] (ρ:=[x0,.dat (.lst (xs.map D.int)),.dat (.int c),.dat (.obj 0),.dat (.int d),.dat (.int k),.dat (.int xs[k]),.dat (.int o),.dat (.int p),x9,x10]) rfl rfl Ω
 obtain⟨r',Ω1,y10,w1,ea⟩:=JP hw hb hc (by omega) hq oc pc ne x0 (.dat (.lst (xs.map D.int))) (.dat (.int d)) (.dat (.int k)) xs[k] w x10
 have es:=zc w1 (by omega) hc (by omega)
 obtain⟨Ω2,w2,er⟩:=DX w1 (by omega) hc (by omega)
 refine⟨r',Ω2,.dat (.int xs[k]),.dat (.int o),.dat (.int p),.dat (.int w),y10,w2,?_⟩
 unfold tB
 refine(aN (ρ':=[x0,.dat (.lst (xs.map D.int)),.dat (.int c),.dat (.obj 0),.dat (.int d),.dat (.int k),.dat (.int xs[k]),x7,x8,x9,x10]) (Ω':=Ω) (by simp[h2])).trans ?_
 have c0:0<c:=by omega
 have c10:1<(c:Int):=by omega
 refine(aN (ρ':=[x0,.dat (.lst (xs.map D.int)),.dat (.int c),.dat (.obj 0),.dat (.int d),.dat (.int k),.dat (.int xs[k]),.dat (.int o),x8,x9,x10]) (Ω':=Ω) (by simp[e1,ho,c0])).trans ?_
 refine(aN (ρ':=[x0,.dat (.lst (xs.map D.int)),.dat (.int c),.dat (.obj 0),.dat (.int d),.dat (.int k),.dat (.int xs[k]),.dat (.int o),.dat (.int p),x9,x10]) (Ω':=Ω) (by simp[e2,<-hs,hp,c0,c10])).trans ?_
 refine(aN (Am ew)).trans ?_
 refine(aN ea).trans ?_
 unfold chB
 simp[es,er]
theorem turns(hc:c<=6)(c3:3<=c){xs:List Int}{d:Int}(hd:d=0\/d=1)(x0:Sl):∀(n k:Nat) (r:Int) (Ω:List OS) (b q:Nat) (x5 x6 x7 x8 x9 x10:Sl),k+n<=xs.length->Wd c r Ω b q->b+6*n<=480->q+24*n<29000->∃r' Ω' y5 y6 y7 y8 y9 y10,Wd c r' Ω' (b+6*n) (q+24*n) /\
  cV (aV 5) tB (upD k n) [x0,.dat (.lst (xs.map D.int)),.dat (.int c),.dat (.obj 0),.dat (.int d),x5,x6,x7,x8,x9,x10] Ω=some (.nx [x0,.dat (.lst (xs.map D.int)),.dat (.int c),.dat (.obj 0),.dat (.int d),y5,y6,y7,y8,y9,y10] Ω')
 | 0,k,r,Ω,b,q,x5,x6,x7,x8,x9,x10,_,w,_,_=>⟨r,Ω,x5,x6,x7,x8,x9,x10,w,rfl⟩
 | n+1,k,r,Ω,b,q,x5,x6,x7,x8,x9,x10,hk,hw,hb,hq=>by
  obtain⟨r1,Ω1,y6,y7,y8,y9,y10,w1,e1⟩:=JQ hw (by omega) hc c3 (by omega) (xs:=xs) (k:=k) (by omega) hd x0 x6 x7 x8 x9 x10
  obtain⟨r2,Ω2,z5,z6,z7,z8,z9,z10,w2,e2⟩:=turns hc c3 (xs:=xs) hd x0 n (k+1) r1 Ω1 (b+6) (q+24) (.dat (.int k)) y6 y7 y8 y9 y10 (by omega) w1 (by omega) (by omega)
  refine⟨r2,Ω2,z5,z6,z7,z8,z9,z10,by rw[show b+6*(n+1)=b+6+6*n by omega,show q+24*(n+1)=q+24+24*n by omega];exact w2,?_⟩
  rw[qR,cG,show aV 5 (.int k) [x0,.dat (.lst (xs.map D.int)),.dat (.int c),.dat (.obj 0),.dat (.int d),x5,x6,x7,x8,x9,x10]=some [x0,.dat (.lst (xs.map D.int)),.dat (.int c),.dat (.obj 0),.dat (.int d),.dat (.int k),x6,x7,x8,x9,x10] from rfl]
  dsimp only
  rw[e1]
  dsimp only
  rw[show((k:Int)+1)=((k+1:Nat):Int) by omega]
  exact e2
end
theorem holds(ns:List Int)(hn:ns.length<=63):∃Ω,oU [.scr ns] []=some (.bl true,Ω):=by
 obtain⟨xs,l1,l2,hx,ex⟩:=Bh hn []
 have hX:=hx xs[0] (List.getElem_mem _)
 have ec0:∀Ω,dC [.lst (xs.map D.int),.int 0] Ω=some (.int xs[0],Ω):=fun Ω=>Dv (k:=0) (by omega) Ω
 obtain⟨c0,hc0⟩:∃c0,xs[0]=c0:=⟨_,rfl⟩
 rw[hc0] at hX
 simp only[hc0] at ec0
 obtain⟨c,hc,c3,c6⟩:∃c:Nat,(c:Int)=3+c0%4/\3<=c/\c<=6:=⟨(3+c0%4).toNat,by omega,by omega,by omega⟩
 obtain⟨d,hd,hd2⟩:∃d,d=c0 / 120%2/\(d=0\/d=1):=⟨_,rfl,by omega⟩
 obtain⟨n,hn',hn2⟩:∃n:Nat,(n:Int)=10+c0 / 4%30-1/\n<=38:=⟨(10+c0 / 4%30-1).toNat,by omega,by omega⟩
 have e40:L2.atI (xs.map D.int) 40=some (.int xs[40]):=by
  have:=fY (xs.map D.int) 40 (by simp;omega)
  simpa using this
 obtain⟨Ω1,w1,s1⟩:∃Ω1,Wd c 1 Ω1 180 480/\sIf (gT (gOp (eqD false) (aj 4) (gC (.int 1)))) (bw (aL iI (ak (aj 3) (ak (gOp ixD (aj 1) (gC (.int 40))) au)))) bc [.dat (.scr ns),.dat (.lst (xs.map D.int)),.dat (.int c),.dat (.obj 0),.dat (.int d),.und,.und,.und,.und,.und,.und] (Ω0 c)=some (.nx [.dat (.scr ns),.dat (.lst (xs.map D.int)),.dat (.int c),.dat (.obj 0),.dat (.int d),.und,.und,.und,.und,.und,.und] Ω1):=by
  rcases hd2 with z |z
  ·exact⟨Ω0 c,wd0.d.mono (by omega) (by omega),by rw[z];simp⟩
  ·obtain⟨Ω1,w1,e1⟩:=Br c6 (wd0 (c:=c)) xs[40]
   exact⟨Ω1,w1,by rw[z];simp[e40,e1]⟩
 obtain⟨r2,Ω2,y5,y6,y7,y8,y9,y10,w2,e2⟩:=turns c6 c3 hd2 (.dat (.scr ns)) n 1 1 Ω1 180 480 .und .und .und .und .und .und (xs:=xs) (by omega) w1 (by omega) (by omega)
 refine⟨Ω2,cN rfl ?_⟩
 refine(aN (ρ':=[.dat (.scr ns),.dat (.lst (xs.map D.int)),.und,.und,.und,.und,.und,.und,.und,.und,.und]) (Ω':=[]) (by simp[ex])).trans ?_
 refine(aN (ρ':=[.dat (.scr ns),.dat (.lst (xs.map D.int)),.dat (.int c),.und,.und,.und,.und,.und,.und,.und,.und]) (Ω':=[]) (by simp[ec0,hc])).trans ?_
 refine(aN (Am (Ea c6 _ _ _))).trans ?_
 refine(aN (ρ':=[.dat (.scr ns),.dat (.lst (xs.map D.int)),.dat (.int c),.dat (.obj 0),.dat (.int d),.und,.und,.und,.und,.und,.und]) (Ω':=Ω0 c) (by simp[ec0,hd])).trans ?_
 refine(aN s1).trans ?_
 refine(aN (ρ':=[.dat (.scr ns),.dat (.lst (xs.map D.int)),.dat (.int c),.dat (.obj 0),.dat (.int d),y5,y6,y7,y8,y9,y10]) (Ω':=Ω2) ?_).trans ?_
 ·show du _ _ tB [.dat (.scr ns),.dat (.lst (xs.map D.int)),.dat (.int c),.dat (.obj 0),.dat (.int d),.und,.und,.und,.und,.und,.und] Ω1=_
  have r2:=yQ (i:=1) (j:=10+c0 / 4%30) (by omega) (by omega) (by omega) (by omega)
  rw[show(10+c0 / 4%30-1).toNat=n by omega] at r2
  rw[gr,show dg jO (ak (gC (.int 1)) (ak (gOp bG (gC (.int 10)) (gOp bV (gOp yM (aL dC (ak (aj 1) (ak (gC (.int 0)) au))) (gC (.int 4))) (gC (.int 30)))) au)) [.dat (.scr ns),.dat (.lst (xs.map D.int)),.dat (.int c),.dat (.obj 0),.dat (.int d),.und,.und,.und,.und,.und,.und] Ω1=some (upD 1 n,Ω1) by
   rw[jo]
   simp[ec0,r2]]
  exact e2
 ·simp
end Law
namespace Law
open PySem PySem.Spec PyProof.Rows L2 DL
set_option maxHeartbeats 4000000
seal PD PDA PDS PDB PDT PDI PDG
noncomputable def top(i:Nat):Stmt:=PySem.Challenge.pw_posthouse_k18_whole_stairs.main.body.getD i (.Pass ⟨0,0,0,0⟩)
noncomputable abbrev fO:Stmt:=top 13
noncomputable abbrev fB:Stmt:=inClass (top 11) 8
noncomputable abbrev cT:Stmt:=top 10
noncomputable abbrev gW:Stmt:=top 6
noncomputable abbrev fP:Stmt:=top 7
noncomputable abbrev gh:Stmt:=inClass (top 11) 9
noncomputable abbrev dU:Stmt:=top 16
noncomputable abbrev cX:Stmt:=inClass (top 11) 1
noncomputable abbrev eV:Stmt:=top 8
noncomputable abbrev fC:Stmt:=inClass (top 11) 4
noncomputable abbrev fQ:Stmt:=top 17
noncomputable abbrev cL:Stmt:=top 18
noncomputable abbrev dW:Stmt:=top 20
noncomputable abbrev eX:Stmt:=top 22
noncomputable abbrev gm:Stmt:=inClass (top 11) 2
noncomputable abbrev gY:Stmt:=top 19
noncomputable abbrev iQ:Stmt:=top 15
noncomputable abbrev fU:Stmt:=top 25
noncomputable abbrev dX:Stmt:=top 14
noncomputable abbrev cY:Stmt:=inClass (top 11) 0
noncomputable abbrev eE:Stmt:=inClass (top 11) 3
noncomputable abbrev gZ:Stmt:=top 21
noncomputable abbrev eY:Stmt:=top 23
noncomputable abbrev dY:Stmt:=top 24
noncomputable abbrev iZ:Stmt:=top 26
section
variable {P:Program} {w:World} {K:PySem.W.Frag} {mg:Str->Option Value} {base:Heap} {C:Cl}
theorem qT:FnScope ["_law_script","_law_found","_law_more","_law_cell"] ["_law_script"] (az fO):=⟨rfl,rfl,rfl,by decide +kernel,rfl,by decide +kernel,by decide +kernel⟩
theorem zf(T:TF K mg "_law_mixed" fO)(b_len:mg "len" = none):Fn P w K mg base C 1 "_law_mixed" jr :=
 gP T qT rfl rfl (fun _ _ _ _ _ _ us hl=>su us hl (fun _=>rfl)) fun f cdv A outer sh H E hr =>
  have nd:(cH CX0 P w K mg base ["_law_script","_law_found","_law_more","_law_cell"] "_law_mixed" (az fO) f cdv A outer sh H E).nox.N.Nodup:=qT.nd
  (aD (xJ (i:=1) nd rfl (by first |exact Or.inl rfl |exact Or.inr rfl) aC) (aD (bA (i:=2) nd rfl (by first |exact Or.inl rfl |exact Or.inr rfl) aA) (aD (eO PassesOwn.never rfl (jN (ao (pv 0))) (dj nd rfl (by first |exact Or.inl rfl |exact Or.inr rfl)) (aD (bA (i:=2) nd rfl (by first |exact Or.inl rfl |exact Or.inr rfl) (aR cO (aR cA (aR cA (aR gB (ao (pv 2)) aA) (ao (pv 3))) aA) aA)) (aG (rJ (pv 1) (ao (pv 2)))))) (aD (tH 1000 PassesOwn.never (bj pZ (Jr rfl b_len PySem.boot_len (Gz (pv 1))) aA (bx _)) (aD (bA (i:=2) nd rfl (by first |exact Or.inl rfl |exact Or.inr rfl) (aR cO (aR cA (aR gB (ao (pv 2)) aA) aA) aA)) (aG (rJ (pv 1) (ao (pv 2)))))) (sZ (tu 1) (aG (bH (ao (pv 1)))))))))
theorem nU:FnScope ["self","goal"] ["self","goal"] (az fB):=⟨rfl,rfl,rfl,by decide +kernel,rfl,by decide +kernel,by decide +kernel⟩
theorem wA{dV:Value}{f:Addr}{fd:FuncData}(F:FunV K "mark" "Ways.mark" fB dV f fd)(T_Ways:ClD K C "Ways")(n_Ways_mark_of:NoA K C "Ways" "mark_of"):FnOk P w K mg base CX0 1 f fd ["self","goal"] (spD K C bu) :=
 mj F nU rfl rfl fun cdv A outer sh H E hr =>
  have nd:(cH CX0 P w K mg base ["self","goal"] "Ways.mark" (az fB) f cdv A outer sh H E).nox.N.Nodup:=nU.nd
  (aG (bH (vq (aU hr) (gw T_Ways n_Ways_mark_of (ao (pv 0))) (ao (pv 1)) ⟨rfl,rfl,rfl,rfl⟩)))
theorem kI:FnScope ["way"] ["way"] (az cT):=⟨rfl,rfl,rfl,by decide +kernel,rfl,by decide +kernel,by decide +kernel⟩
theorem qU(T:TF K mg "place_of_way" cT):Fn P w K mg base C 1 "place_of_way" dZ :=
 gP T kI rfl rfl (fun _ _ _ _ _ _ us hl=>su us hl (fun _=>rfl)) fun f cdv A outer sh H E hr =>
  have nd:(cH CX0 P w K mg base ["way"] "place_of_way" (az cT) f cdv A outer sh H E).nox.N.Nodup:=kI.nd
  (aG (bH (cM (aq (Jh (bh (ao (pv 0)) aA)) (aq (bh (ao (pv 0)) aA) (aq (bh (ao (pv 0)) aA) aC))))))
theorem uq:FnScope ["one","other"] ["one","other"] (az gW):=⟨rfl,rfl,rfl,by decide +kernel,rfl,by decide +kernel,by decide +kernel⟩
theorem Bt(T:TF K mg "better" gW):Fn P w K mg base C 1 "better" fZ :=
 gP T uq rfl rfl (fun _ _ _ _ _ _ us hl=>ju us hl (fun _ _=>rfl)) fun f cdv A outer sh H E hr =>
  have nd:(cH CX0 P w K mg base ["one","other"] "better" (az gW) f cdv A outer sh H E).nox.N.Nodup:=uq.nd
  (aD (bW (bj (Ac hr.units) (bh (ao (pv 0)) aA) (bh (ao (pv 1)) aA) (bx _)) (aG (bH (uX iR (bh (ao (pv 0)) aA) (bh (ao (pv 1)) aA) (bx _)))) bK) (aG (bH (uX pZ (bh (ao (pv 0)) aA) (bh (ao (pv 1)) aA) (bx _)))))
theorem qW:FnScope ["mark","number","far"] ["mark","number","far"] (az fP):=⟨rfl,rfl,rfl,by decide +kernel,rfl,by decide +kernel,by decide +kernel⟩
theorem zg(T:TF K mg "may_use" fP)(G_better:Fn P w K mg base C 1 "better" fZ):Fn P w K mg base C 2 "may_use" iH :=
 gP T qW rfl rfl (fun _ _ _ _ _ _ us hl=>pL us hl (fun _ _ _=>rfl)) fun f cdv A outer sh H E hr =>
  have nd:(cH CX0 P w K mg base ["mark","number","far"] "may_use" (az fP) f cdv A outer sh H E).nox.N.Nodup:=qW.nd
  (aD (bW (bj lC (ao (pv 2)) gq (bx _)) (aG (bH jz)) bK) (aG (bH (Kp (uX lC (ao (pv 0)) gq (bx _)) (Je (aP G_better (hr.mono (by decide)) rfl (aq (cM (aq (ao (pv 1)) (aq (ao (pv 2)) aC))) (aq (ao (pv 0)) aC))))))))
theorem o_:FnScope ["self","goal","mark","usable","neighbour","telling"] ["self","goal"] (az gh):=⟨rfl,rfl,rfl,by decide +kernel,rfl,by decide +kernel,by decide +kernel⟩
theorem wQ{dV:Value}{f:Addr}{fd:FuncData}(F:FunV K "way" "Ways.way" gh dV f fd)(T_Ways:ClD K C "Ways")(n_Ways_length_by:NoA K C "Ways" "length_by")(n_Ways_tellings_by:NoA K C "Ways" "tellings_by")(M_Ways_mark_0:Mt P w K mg base C 1 "Ways" "mark" bu [])(b_min:mg "min" = none)(G_may_use:Fn P w K mg base C 2 "may_use" iH)(G_place_of_way:Fn P w K mg base C 1 "place_of_way" dZ):FnOk P w K mg base CX0 4 f fd ["self","goal"] (spD K C bF) :=
 mj F o_ rfl rfl fun cdv A outer sh H E hr =>
  have nd:(cH CX0 P w K mg base ["self","goal","mark","usable","neighbour","telling"] "Ways.way" (az gh) f cdv A outer sh H E).nox.N.Nodup:=o_.nd
  (aD (bA (i:=2) nd rfl (by first |exact Or.inl rfl |exact Or.inr rfl) (dF M_Ways_mark_0 (hr.mono (by decide)) (ao (pv 0)) (aq (ao (pv 1)) aC))) (aD (xJ (i:=3) nd rfl (by first |exact Or.inl rfl |exact Or.inr rfl) aC) (aD (Dh PassesOwn.never rfl (gw T_Ways n_Ways_tellings_by (ao (pv 0))) (dj nd rfl (by first |exact Or.inl rfl |exact Or.inr rfl)) (aD (bA (i:=5) nd rfl (by first |exact Or.inl rfl |exact Or.inr rfl) (vq (aU hr) (aZ (aU hr) (gw T_Ways n_Ways_tellings_by (ao (pv 0))) (ao (pv 4)) (fun _ _=>rfl)) (ao (pv 1)) ⟨rfl,rfl,rfl,rfl⟩)) (aG (bW (PDW.pt (jd (bj kh (ao (pv 5)) gq (bx _)) (jc (oE (aP G_may_use (hr.mono (by decide)) rfl (aq (ao (pv 2)) (aq (bh (ao (pv 5)) aA) (aq (bh (ao (pv 5)) aA) aC)))))))) (aG (rJ (pv 3) (cM (aq (bh (ao (pv 5)) aA) (aq (aR cA (bh (ao (pv 5)) aA) (aZ (aU hr) (gw T_Ways n_Ways_length_by (ao (pv 0))) (ao (pv 4)) (fun _ _=>rfl))) (aq (ao (pv 4)) aC)))))) bK)))) (sZ (tu 3) (aG (bH (GK G_place_of_way (hr.mono (by decide)) rfl rfl b_min boot_min (ao (pv 3)))))))))
theorem nW:FnScope ["_law_world","_law_house","_law_mark","_law_way"] ["_law_world","_law_house"] (az dU):=⟨rfl,rfl,rfl,by decide +kernel,rfl,by decide +kernel,by decide +kernel⟩
theorem wB(T:TF K mg "_law_telling" dU)(M_Ways_mark_0:Mt P w K mg base C 1 "Ways" "mark" bu [])(M_Ways_way_0:Mt P w K mg base C 4 "Ways" "way" bF []):Fn P w K mg base C 5 "_law_telling" bJ :=
 gP T nW rfl rfl (fun _ _ _ _ _ _ us hl=>ju us hl (fun _ _=>rfl)) fun f cdv A outer sh H E hr =>
  have nd:(cH CX0 P w K mg base ["_law_world","_law_house","_law_mark","_law_way"] "_law_telling" (az dU) f cdv A outer sh H E).nox.N.Nodup:=nW.nd
  (aD (bW (bj (jM hr.units) (ao (pv 1)) aA (bx _)) (aG (bH (cM (aq (aZ (aU hr) (ao (pv 0)) bU (fun _ _=>rfl)) (aq aA aC))))) bK) (aD (bA (i:=2) nd rfl (by first |exact Or.inl rfl |exact Or.inr rfl) (dF M_Ways_mark_0 (hr.mono (by decide)) (bh (aZ (aU hr) (ao (pv 0)) bU (fun _ _=>rfl)) (ao (pv 1))) (aq aA aC))) (aD (bW (bj lC (ao (pv 2)) gq (bx _)) (aG (bH gq)) bK) (aD (bA (i:=3) nd rfl (by first |exact Or.inl rfl |exact Or.inr rfl) (dF M_Ways_way_0 (hr.mono (by decide)) (bh (aZ (aU hr) (ao (pv 0)) bU (fun _ _=>rfl)) (ao (pv 1))) (aq aA aC))) (aD (bW (bj lC (ao (pv 3)) gq (bx _)) (aG (bH (cM (aq (bh (ao (pv 2)) aA) (aq gq aC))))) bK) (aG (bH (cM (aq (bh (ao (pv 2)) aA) (aq (bh (ao (pv 3)) aA) aC))))))))))
theorem jX:FnScope ["self","neighbour"] ["self","neighbour"] (az cX):=⟨rfl,rfl,rfl,by decide +kernel,rfl,by decide +kernel,by decide +kernel⟩
theorem pQ{dV:Value}{f:Addr}{fd:FuncData}(F:FunV K "need_tie" "Ways.need_tie" cX dV f fd)(T_Ways:ClD K C "Ways")(n_Ways_length_by:NoA K C "Ways" "length_by"):FnOk P w K mg base CX0 1 f fd ["self","neighbour"] (spD K C bY) :=
 mj F jX rfl rfl fun cdv A outer sh H E hr =>
  have nd:(cH CX0 P w K mg base ["self","neighbour"] "Ways.need_tie" (az cX) f cdv A outer sh H E).nox.N.Nodup:=jX.nd
  (aG (bW (qu (aU hr) (ao (pv 1)) (gw T_Ways n_Ways_length_by (ao (pv 0)))) (aG tE) bK))
theorem ph:FnScope ["mark","number","length"] ["mark","number","length"] (az eV):=⟨rfl,rfl,rfl,by decide +kernel,rfl,by decide +kernel,by decide +kernel⟩
theorem wR(T:TF K mg "bettered" eV)(b_min:mg "min" = none):Fn P w K mg base C 1 "bettered" iW :=
 gP T ph rfl rfl (fun _ _ _ _ _ _ us hl=>pL us hl (fun _ _ _=>rfl)) fun f cdv A outer sh H E hr =>
  have nd:(cH CX0 P w K mg base ["mark","number","length"] "bettered" (az eV) f cdv A outer sh H E).nox.N.Nodup:=ph.nd
  (aD (bW (PDW.pt (Ad (bj lC (ao (pv 0)) gq (bx _)) (xG (bj iR (ao (pv 1)) (bh (ao (pv 0)) aA) (bx _))))) (aG (bH (cM (aq (ao (pv 1)) (aq (ao (pv 2)) aC))))) bK) (aG (bH (cM (aq (ao (pv 1)) (aq (pH (Af rfl) rfl b_min boot_min (aq (bh (ao (pv 0)) aA) (aq (ao (pv 2)) aC))) aC))))))
theorem nY:FnScope ["self","neighbour","goal","number","far","way"] ["self","neighbour","goal","number","far"] (az fC):=⟨rfl,rfl,rfl,by decide +kernel,rfl,by decide +kernel,by decide +kernel⟩
theorem wC{dV:Value}{f:Addr}{fd:FuncData}(F:FunV K "hear" "Ways.hear" fC dV f fd)(T_Ways:ClD K C "Ways")(n_Ways_mark_of:NoA K C "Ways" "mark_of")(n_Ways_tellings_by:NoA K C "Ways" "tellings_by")(M_Ways_need_tie_0:Mt P w K mg base C 1 "Ways" "need_tie" bY [])(M_Ways_way_0:Mt P w K mg base C 4 "Ways" "way" bF [])(M_Ways_mark_0:Mt P w K mg base C 1 "Ways" "mark" bu [])(G_bettered:Fn P w K mg base C 1 "bettered" iW):FnOk P w K mg base CX0 5 f fd ["self","neighbour","goal","number","far"] (spD K C fu) :=
 mj F nY rfl rfl fun cdv A outer sh H E hr =>
  have nd:(cH CX0 P w K mg base ["self","neighbour","goal","number","far","way"] "Ways.hear" (az fC) f cdv A outer sh H E).nox.N.Nodup:=nY.nd
  (aD (cu (dF M_Ways_need_tie_0 (hr.mono (by decide)) (ao (pv 0)) (aq (ao (pv 1)) aC))) (aD (ig (aU hr) (aZ (aU hr) (gw T_Ways n_Ways_tellings_by (ao (pv 0))) (ao (pv 1)) (fun _ _=>rfl)) (ao (pv 2)) (cM (aq (ao (pv 3)) (aq (ao (pv 4)) aC)))) (aD (bA (i:=5) nd rfl (by first |exact Or.inl rfl |exact Or.inr rfl) (dF M_Ways_way_0 (hr.mono (by decide)) (ao (pv 0)) (aq (ao (pv 2)) aC))) (aG (bW (bj kh (ao (pv 5)) gq (bx _)) (aG (ig (aU hr) (gw T_Ways n_Ways_mark_of (ao (pv 0))) (ao (pv 2)) (aP G_bettered (hr.mono (by decide)) rfl (aq (dF M_Ways_mark_0 (hr.mono (by decide)) (ao (pv 0)) (aq (ao (pv 2)) aC)) (aq (bh (ao (pv 5)) aA) (aq (bh (ao (pv 5)) aA) aC)))))) bK)))))
theorem qX:FnScope ["_law_world","_law_house","_law_goals","_law_told","_law_other"] ["_law_world","_law_house","_law_goals"] (az fQ):=⟨rfl,rfl,rfl,by decide +kernel,rfl,by decide +kernel,by decide +kernel⟩
theorem zj(T:TF K mg "_law_sends" fQ)(G_l_telling:Fn P w K mg base C 5 "_law_telling" bJ):Fn P w K mg base C 6 "_law_sends" cR :=
 gP T qX rfl rfl (fun _ _ _ _ _ _ us hl=>pL us hl (fun _ _ _=>rfl)) fun f cdv A outer sh H E hr =>
  have nd:(cH CX0 P w K mg base ["_law_world","_law_house","_law_goals","_law_told","_law_other"] "_law_sends" (az fQ) f cdv A outer sh H E).nox.N.Nodup:=qX.nd
  (aD (bA (i:=3) nd rfl (by first |exact Or.inl rfl |exact Or.inr rfl) (aP G_l_telling (hr.mono (by decide)) rfl (aq (ao (pv 0)) (aq (ao (pv 1)) aC)))) (aG (eO PassesOwn.never rfl (jN (ao (pv 2))) (dj nd rfl (by first |exact Or.inl rfl |exact Or.inr rfl)) (aG (bW (bj kh (ao (pv 3)) gq (bx _)) (aG (Dj (aZ (aU hr) (aZ (aU hr) (ao (pv 0)) bU (fun _ _=>rfl)) (cM (aq (ao (pv 1)) (aq (ao (pv 4)) aC))) (fun _ _=>rfl)) (ao (pv 3)))) bK)))))
theorem kJ:FnScope ["_law_world","_law_house"] ["_law_world","_law_house"] (az cL):=⟨rfl,rfl,rfl,by decide +kernel,rfl,by decide +kernel,by decide +kernel⟩
theorem qY(T:TF K mg "_law_neighbours" cL)(b_range:mg "range" = none):Fn P w K mg base C 1 "_law_neighbours" cI :=
 gP T kJ rfl rfl (fun _ _ _ _ _ _ us hl=>ju us hl (fun _ _=>rfl)) fun f cdv A outer sh H E hr =>
  have nd:(cH CX0 P w K mg base ["_law_world","_law_house"] "_law_neighbours" (az cL) f cdv A outer sh H E).nox.N.Nodup:=kJ.nd
  (aG (bH (vm rfl (mQ (oN:=["_law_world","_law_house"]) (osc:=az cL) (N:=["_law_other","_law_house","_law_world"]) (μ:=[none,some 1,some 0]) rfl rfl (by decide +kernel)) (iT rfl b_range (aq (aZ (aU hr) (ao (pv 0)) bU (fun _ _=>rfl)) aC)) (fun _ _ _ _=>(dj (show List.Nodup (["_law_other","_law_house","_law_world"]:List Str) by decide +kernel) rfl (by first |exact Or.inl rfl |exact Or.inr rfl))) (fun _ _ _ _=>(vh (oM (aU hr) (cM (aq (ao (pv 1)) (aq (ao (pv 0)) aC))) (aZ (aU hr) (ao (pv 2)) bU (fun _ _=>rfl))))) (fun _ _ _ _=>(ao (pv 0))))))
theorem nZ:FnScope ["_law_world","_law_house","_law_ahead"] ["_law_world","_law_house","_law_ahead"] (az dW):=⟨rfl,rfl,rfl,by decide +kernel,rfl,by decide +kernel,by decide +kernel⟩
theorem wD(T:TF K mg "_law_changed" dW)(G_l_telling:Fn P w K mg base C 5 "_law_telling" bJ)(G_l_sends:Fn P w K mg base C 6 "_law_sends" cR)(G_l_neighbours:Fn P w K mg base C 1 "_law_neighbours" cI):Fn P w K mg base C 7 "_law_changed" dz :=
 gP T nZ rfl rfl (fun _ _ _ _ _ _ us hl=>pL us hl (fun _ _ _=>rfl)) fun f cdv A outer sh H E hr =>
  have nd:(cH CX0 P w K mg base ["_law_world","_law_house","_law_ahead"] "_law_changed" (az dW) f cdv A outer sh H E).nox.N.Nodup:=nZ.nd
  (aG (bW (PDW.pt (jd (bj iR (ao (pv 1)) aA (bx _)) (jc (bj (Ac hr.units) (aP G_l_telling (hr.mono (by decide)) rfl (aq (ao (pv 0)) (aq (ao (pv 1)) aC))) (ao (pv 2)) (bx _))))) (aG (cu (aP G_l_sends (hr.mono (by decide)) rfl (aq (ao (pv 0)) (aq (ao (pv 1)) (aq (aP G_l_neighbours (hr.mono (by decide)) rfl (aq (ao (pv 0)) (aq (ao (pv 1)) aC))) aC)))))) bK))
theorem qZ:FnScope ["_law_world","_law_cell","_law_rows","_law_here","_law_there","_law_told","_law_ahead"] ["_law_world","_law_cell"] (az eX):=⟨rfl,rfl,rfl,by decide +kernel,rfl,by decide +kernel,by decide +kernel⟩
theorem zm(T:TF K mg "_law_carry" eX)(M_Ways_hear_0:Mt P w K mg base C 5 "Ways" "hear" fu [])(b_len:mg "len" = none)(b_sorted:mg "sorted" = none)(G_l_telling:Fn P w K mg base C 5 "_law_telling" bJ)(G_l_changed:Fn P w K mg base C 7 "_law_changed" dz):Fn P w K mg base C 8 "_law_carry" dO :=
 gP T qZ rfl rfl (fun _ _ _ _ _ _ us hl=>ju us hl (fun _ _=>rfl)) fun f cdv A outer sh H E hr =>
  have nd:(cH CX0 P w K mg base ["_law_world","_law_cell","_law_rows","_law_here","_law_there","_law_told","_law_ahead"] "_law_carry" (az eX) f cdv A outer sh H E).nox.N.Nodup:=qZ.nd
  (aD (bA (i:=2) nd rfl (by first |exact Or.inl rfl |exact Or.inr rfl) (Dm hr rfl b_sorted boot_sorted (Ds rfl (mQ (oN:=["_law_world","_law_cell","_law_rows","_law_here","_law_there","_law_told","_law_ahead"]) (osc:=az eX) (N:=["_law_pair","_law_world"]) (μ:=[none,some 0]) rfl rfl (by decide +kernel)) (aZ (aU hr) (ao (pv 0)) bU (fun _ _=>rfl)) (fun _ _ _ _=>(dj (show List.Nodup (["_law_pair","_law_world"]:List Str) by decide +kernel) rfl (by first |exact Or.inl rfl |exact Or.inr rfl))) (fun _ _ _ _=>(vh (GX hr.units (aZ (aU hr) (aZ (aU hr) (ao (pv 1)) bU (fun _ _=>rfl)) (ao (pv 0)) (fun _ _=>rfl)) (jn aC) (bx _)))) (fun _ _ _ _=>(ao (pv 0)))))) (aD (bW (bj (jM hr.units) (ao (pv 2)) (jn aC) (bx _)) (aG Dr) bK) (aD (Ge (bh (ao (pv 2)) (aR cO (ao (pv 1)) (pH sY rfl b_len PySem.boot_len (aq (ao (pv 2)) aC)))) (oG rfl (fM (i:=3) nd rfl (by first |exact Or.inl rfl |exact Or.inr rfl) (fM (i:=4) nd rfl (by first |exact Or.inl rfl |exact Or.inr rfl) lY)))) (aD (bA (i:=5) nd rfl (by first |exact Or.inl rfl |exact Or.inr rfl) (GZ (aZ (aU hr) (aZ (aU hr) (ao (pv 0)) bU (fun _ _=>rfl)) (cM (aq (ao (pv 3)) (aq (ao (pv 4)) aC))) (fun _ _=>rfl)) aA)) (aG (bW (bj iR (ao (pv 4)) aA (bx _)) (aD (bA (i:=6) nd rfl (by first |exact Or.inl rfl |exact Or.inr rfl) (aP G_l_telling (hr.mono (by decide)) rfl (aq (ao (pv 0)) (aq (ao (pv 4)) aC)))) (aD (cu (dF M_Ways_hear_0 (hr.mono (by decide)) (bh (aZ (aU hr) (ao (pv 0)) bU (fun _ _=>rfl)) (ao (pv 4))) (aq (ao (pv 3)) (aq aA (aq (bh (ao (pv 5)) aA) (aq (bh (ao (pv 5)) aA) aC)))))) (aG (cu (aP G_l_changed (hr.mono (by decide)) rfl (aq (ao (pv 0)) (aq (ao (pv 4)) (aq (ao (pv 6)) aC)))))))) bK))))))
theorem pq:FnScope ["self","neighbour","length"] ["self","neighbour","length"] (az gm):=⟨rfl,rfl,rfl,by decide +kernel,rfl,by decide +kernel,by decide +kernel⟩
theorem wU{dV:Value}{f:Addr}{fd:FuncData}(F:FunV K "tie" "Ways.tie" gm dV f fd)(T_Ways:ClD K C "Ways")(n_Ways_length_by:NoA K C "Ways" "length_by")(n_Ways_tellings_by:NoA K C "Ways" "tellings_by"):FnOk P w K mg base CX0 1 f fd ["self","neighbour","length"] (spD K C gb) :=
 mj F pq rfl rfl fun cdv A outer sh H E hr =>
  have nd:(cH CX0 P w K mg base ["self","neighbour","length"] "Ways.tie" (az gm) f cdv A outer sh H E).nox.N.Nodup:=pq.nd
  (aD (bW (oM (aU hr) (ao (pv 1)) (gw T_Ways n_Ways_length_by (ao (pv 0)))) (aG tE) bK) (aD (ig (aU hr) (gw T_Ways n_Ways_length_by (ao (pv 0))) (ao (pv 1)) (ao (pv 2))) (aG (ig (aU hr) (gw T_Ways n_Ways_tellings_by (ao (pv 0))) (ao (pv 1)) lF))))
theorem uw:FnScope ["_law_world","_law_one","_law_other","_law_length","_law_here","_law_there"] ["_law_world","_law_one","_law_other","_law_length"] (az gY):=⟨rfl,rfl,rfl,by decide +kernel,rfl,by decide +kernel,by decide +kernel⟩
theorem Bu(T:TF K mg "_law_come" gY)(M_Ways_tie_0:Mt P w K mg base C 1 "Ways" "tie" gb [])(G_l_sends:Fn P w K mg base C 6 "_law_sends" cR):Fn P w K mg base C 7 "_law_come" gf :=
 gP T uw rfl rfl (fun _ _ _ _ _ _ us hl=>Js us hl (fun _ _ _ _=>rfl)) fun f cdv A outer sh H E hr =>
  have nd:(cH CX0 P w K mg base ["_law_world","_law_one","_law_other","_law_length","_law_here","_law_there"] "_law_come" (az gY) f cdv A outer sh H E).nox.N.Nodup:=uw.nd
  (aD (eO PassesOwn.never rfl (jN (jn (aq (cM (aq (ao (pv 1)) (aq (ao (pv 2)) aC))) (aq (cM (aq (ao (pv 2)) (aq (ao (pv 1)) aC))) aC)))) (oG rfl (fM (i:=4) nd rfl (by first |exact Or.inl rfl |exact Or.inr rfl) (fM (i:=5) nd rfl (by first |exact Or.inl rfl |exact Or.inr rfl) lY))) (aD (ig (aU hr) (aZ (aU hr) (ao (pv 0)) bU (fun _ _=>rfl)) (cM (aq (ao (pv 4)) (aq (ao (pv 5)) aC))) (GQ aC)) (aG (bW (bj iR (ao (pv 4)) aA (bx _)) (aG (cu (dF M_Ways_tie_0 (hr.mono (by decide)) (bh (aZ (aU hr) (ao (pv 0)) bU (fun _ _=>rfl)) (ao (pv 4))) (aq (ao (pv 5)) (aq (ao (pv 3)) aC))))) bK)))) (aG (eO PassesOwn.never rfl (jN (jn (aq (cM (aq (ao (pv 1)) (aq (ao (pv 2)) aC))) (aq (cM (aq (ao (pv 2)) (aq (ao (pv 1)) aC))) aC)))) (oG rfl (fM (i:=4) nd rfl (by first |exact Or.inl rfl |exact Or.inr rfl) (fM (i:=5) nd rfl (by first |exact Or.inl rfl |exact Or.inr rfl) lY))) (aG (cu (aP G_l_sends (hr.mono (by decide)) rfl (aq (ao (pv 0)) (aq (ao (pv 4)) (aq (jn (aq (ao (pv 5)) aC)) aC)))))))))
theorem wF:FnScope ["_law_cell","_law_k","_law_x"] ["_law_cell","_law_k"] (az iQ):=⟨rfl,rfl,rfl,by decide +kernel,rfl,by decide +kernel,by decide +kernel⟩
theorem Ec(T:TF K mg "_law_mix" iQ):Fn P w K mg base C 1 "_law_mix" aY :=
 gP T wF rfl rfl (fun _ _ _ _ _ _ us hl=>ju us hl (fun _ _=>rfl)) fun f cdv A outer sh H E hr =>
  have nd:(cH CX0 P w K mg base ["_law_cell","_law_k","_law_x"] "_law_mix" (az iQ) f cdv A outer sh H E).nox.N.Nodup:=wF.nd
  (aD (bA (i:=2) nd rfl (by first |exact Or.inl rfl |exact Or.inr rfl) (aR cO (aR cA (aR cA (ao (pv 0)) (aR gB aA (ao (pv 1)))) (aR gB (aR gB aA (ao (pv 1))) (ao (pv 1)))) aA)) (aG (bH (aR cO (aR gB (aR cO (aR gB (ao (pv 2)) (ao (pv 2))) aA) aA) aA))))
theorem q_:FnScope ["_law_world","_law_cell","_law_one","_law_other","_law_turn"] ["_law_world","_law_cell"] (az fU):=⟨rfl,rfl,rfl,by decide +kernel,rfl,by decide +kernel,by decide +kernel⟩
theorem zp(T:TF K mg "_law_dense" fU)(b_range:mg "range" = none)(G_l_come:Fn P w K mg base C 7 "_law_come" gf)(G_l_mix:Fn P w K mg base C 1 "_law_mix" aY)(G_l_carry:Fn P w K mg base C 8 "_law_carry" dO):Fn P w K mg base C 9 "_law_dense" iI :=
 gP T q_ rfl rfl (fun _ _ _ _ _ _ us hl=>ju us hl (fun _ _=>rfl)) fun f cdv A outer sh H E hr =>
  have nd:(cH CX0 P w K mg base ["_law_world","_law_cell","_law_one","_law_other","_law_turn"] "_law_dense" (az fU) f cdv A outer sh H E).nox.N.Nodup:=q_.nd
  (aD (eO PassesOwn.never rfl (iT rfl b_range (aq (aZ (aU hr) (ao (pv 0)) bU (fun _ _=>rfl)) aC)) (dj nd rfl (by first |exact Or.inl rfl |exact Or.inr rfl)) (aG (eO PassesOwn.never rfl (jB rfl b_range (aq (aR cA (ao (pv 2)) aA) (aq (aZ (aU hr) (ao (pv 0)) bU (fun _ _=>rfl)) aC))) (dj nd rfl (by first |exact Or.inl rfl |exact Or.inr rfl)) (aG (cu (aP G_l_come (hr.mono (by decide)) rfl (aq (ao (pv 0)) (aq (ao (pv 2)) (aq (ao (pv 3)) (aq (aR cA aA (aR cO (aP G_l_mix (hr.mono (by decide)) rfl (aq (ao (pv 1)) (aq (aR cA (aR cA aA (aR gB aA (ao (pv 2)))) (ao (pv 3))) aC))) aA)) aC)))))))))) (aG (eO PassesOwn.never rfl (iT rfl b_range (aq aA aC)) (dj nd rfl (by first |exact Or.inl rfl |exact Or.inr rfl)) (aG (cu (aP G_l_carry (hr.mono (by decide)) rfl (aq (ao (pv 0)) (aq (aP G_l_mix (hr.mono (by decide)) rfl (aq (ao (pv 1)) (aq (aR cA aA (ao (pv 4))) aC))) aC))))))))
theorem n_:FnScope ["_law_cells","_law_k"] ["_law_cells","_law_k"] (az dX):=⟨rfl,rfl,rfl,by decide +kernel,rfl,by decide +kernel,by decide +kernel⟩
theorem wG(T:TF K mg "_law_cell_at" dX)(b_len:mg "len" = none):Fn P w K mg base C 1 "_law_cell_at" dC :=
 gP T n_ rfl rfl (fun _ _ _ _ _ _ us hl=>ju us hl (fun _ _=>rfl)) fun f cdv A outer sh H E hr =>
  have nd:(cH CX0 P w K mg base ["_law_cells","_law_k"] "_law_cell_at" (az dX) f cdv A outer sh H E).nox.N.Nodup:=n_.nd
  (aD (bW (bj pZ (ao (pv 1)) (pH sY rfl b_len PySem.boot_len (aq (ao (pv 0)) aC)) (bx _)) (aG (bH (bh (ao (pv 0)) (ao (pv 1))))) bK) (aG (bH (aR gB (aR gB (aR cA (ao (pv 1)) aA) (aR cA (ao (pv 1)) aA)) aA))))
theorem jY:FnScope ["self"] ["self"] (az cY):=⟨rfl,rfl,rfl,by decide +kernel,rfl,by decide +kernel,by decide +kernel⟩
theorem pR{dV:Value}{f:Addr}{fd:FuncData}(F:FunV K "__init__" "Ways.__init__" cY dV f fd)(T_Ways:ClD K C "Ways")(n_Ways_length_by:NoA K C "Ways" "length_by")(n_Ways_mark_of:NoA K C "Ways" "mark_of")(n_Ways_tellings_by:NoA K C "Ways" "tellings_by"):FnOk P w K mg base CX0 1 f fd ["self"] (spD K C bZ) :=
 mj F jY rfl rfl fun cdv A outer sh H E hr =>
  have nd:(cH CX0 P w K mg base ["self"] "Ways.__init__" (az cY) f cdv A outer sh H E).nox.N.Nodup:=jY.nd
  (aD (rQ T_Ways n_Ways_length_by (ao (pv 0)) lF) (aD (rQ T_Ways n_Ways_tellings_by (ao (pv 0)) lF) (aG (rQ T_Ways n_Ways_mark_of (ao (pv 0)) lF))))
theorem mH:FnScope ["self","neighbour"] ["self","neighbour"] (az eE):=⟨rfl,rfl,rfl,by decide +kernel,rfl,by decide +kernel,by decide +kernel⟩
theorem uA{dV:Value}{f:Addr}{fd:FuncData}(F:FunV K "untie" "Ways.untie" eE dV f fd)(T_Ways:ClD K C "Ways")(n_Ways_length_by:NoA K C "Ways" "length_by")(n_Ways_tellings_by:NoA K C "Ways" "tellings_by")(M_Ways_need_tie_0:Mt P w K mg base C 1 "Ways" "need_tie" bY []):FnOk P w K mg base CX0 2 f fd ["self","neighbour"] (spD K C dD) :=
 mj F mH rfl rfl fun cdv A outer sh H E hr =>
  have nd:(cH CX0 P w K mg base ["self","neighbour"] "Ways.untie" (az eE) f cdv A outer sh H E).nox.N.Nodup:=mH.nd
  (aD (cu (dF M_Ways_need_tie_0 (hr.mono (by decide)) (ao (pv 0)) (aq (ao (pv 1)) aC))) (aD (cu (rP (aU hr) (gw T_Ways n_Ways_length_by (ao (pv 0))) (ao (pv 1)) ⟨rfl,rfl,rfl,rfl⟩)) (aG (cu (rP (aU hr) (gw T_Ways n_Ways_tellings_by (ao (pv 0))) (ao (pv 1)) ⟨rfl,rfl,rfl,rfl⟩)))))
theorem ux:FnScope ["_law_world","_law_one","_law_other","_law_here","_law_there","_law_ahead"] ["_law_world","_law_one","_law_other"] (az gZ):=⟨rfl,rfl,rfl,by decide +kernel,rfl,by decide +kernel,by decide +kernel⟩
theorem Bv(T:TF K mg "_law_fall" gZ)(M_Ways_untie_0:Mt P w K mg base C 2 "Ways" "untie" dD [])(G_l_telling:Fn P w K mg base C 5 "_law_telling" bJ)(G_l_changed:Fn P w K mg base C 7 "_law_changed" dz):Fn P w K mg base C 8 "_law_fall" iw :=
 gP T ux rfl rfl (fun _ _ _ _ _ _ us hl=>pL us hl (fun _ _ _=>rfl)) fun f cdv A outer sh H E hr =>
  have nd:(cH CX0 P w K mg base ["_law_world","_law_one","_law_other","_law_here","_law_there","_law_ahead"] "_law_fall" (az gZ) f cdv A outer sh H E).nox.N.Nodup:=ux.nd
  (aG (eO PassesOwn.never rfl (jN (jn (aq (cM (aq (ao (pv 1)) (aq (ao (pv 2)) aC))) (aq (cM (aq (ao (pv 2)) (aq (ao (pv 1)) aC))) aC)))) (oG rfl (fM (i:=3) nd rfl (by first |exact Or.inl rfl |exact Or.inr rfl) (fM (i:=4) nd rfl (by first |exact Or.inl rfl |exact Or.inr rfl) lY))) (aD (cu (rP (aU hr) (aZ (aU hr) (ao (pv 0)) bU (fun _ _=>rfl)) (cM (aq (ao (pv 3)) (aq (ao (pv 4)) aC))) ⟨rfl,rfl,rfl,rfl⟩)) (aD (bA (i:=5) nd rfl (by first |exact Or.inl rfl |exact Or.inr rfl) (aP G_l_telling (hr.mono (by decide)) rfl (aq (ao (pv 0)) (aq (ao (pv 3)) aC)))) (aD (bW (bj iR (ao (pv 3)) aA (bx _)) (aG (cu (dF M_Ways_untie_0 (hr.mono (by decide)) (bh (aZ (aU hr) (ao (pv 0)) bU (fun _ _=>rfl)) (ao (pv 3))) (aq (ao (pv 4)) aC)))) bK) (aG (cu (aP G_l_changed (hr.mono (by decide)) rfl (aq (ao (pv 0)) (aq (ao (pv 3)) (aq (ao (pv 5)) aC)))))))))))
theorem pA:FnScope ["_law_world","_law_house","_law_way","_law_mark"] ["_law_world"] (az eY):=⟨rfl,rfl,rfl,by decide +kernel,rfl,by decide +kernel,by decide +kernel⟩
theorem wV(T:TF K mg "_law_stairs" eY)(M_Ways_way_0:Mt P w K mg base C 4 "Ways" "way" bF [])(M_Ways_mark_0:Mt P w K mg base C 1 "Ways" "mark" bu [])(b_range:mg "range" = none)(G_better:Fn P w K mg base C 1 "better" fZ):Fn P w K mg base C 5 "_law_stairs" h_ :=
 gP T pA rfl rfl (fun _ _ _ _ _ _ us hl=>su us hl (fun _=>rfl)) fun f cdv A outer sh H E hr =>
  have nd:(cH CX0 P w K mg base ["_law_world","_law_house","_law_way","_law_mark"] "_law_stairs" (az eY) f cdv A outer sh H E).nox.N.Nodup:=pA.nd
  (aD (eO PassesOwn.never rfl (jB rfl b_range (aq aA (aq (aZ (aU hr) (ao (pv 0)) bU (fun _ _=>rfl)) aC))) (dj nd rfl (by first |exact Or.inl rfl |exact Or.inr rfl)) (aD (bA (i:=2) nd rfl (by first |exact Or.inl rfl |exact Or.inr rfl) (dF M_Ways_way_0 (hr.mono (by decide)) (bh (aZ (aU hr) (ao (pv 0)) bU (fun _ _=>rfl)) (ao (pv 1))) (aq aA aC))) (aG (bW (bj kh (ao (pv 2)) gq (bx _)) (aD (bA (i:=3) nd rfl (by first |exact Or.inl rfl |exact Or.inr rfl) (dF M_Ways_mark_0 (hr.mono (by decide)) (bh (aZ (aU hr) (ao (pv 0)) bU (fun _ _=>rfl)) (ao (pv 1))) (aq aA aC))) (aD (bW (PDW.pt (jd (bj (jM hr.units) (bh (ao (pv 2)) aA) aA (bx _)) (jc (bj iR (bh (ao (pv 3)) aA) (aZ (aU hr) (ao (pv 0)) bU (fun _ _=>rfl)) (bx _))))) (aG (bH jz)) bK) (aG (bW (PDW.pt (jd (bj iR (bh (ao (pv 2)) aA) aA (bx _)) (jc (rG (oE (aP G_better (hr.mono (by decide)) rfl (aq (dF M_Ways_mark_0 (hr.mono (by decide)) (bh (aZ (aU hr) (ao (pv 0)) bU (fun _ _=>rfl)) (bh (ao (pv 2)) aA)) (aq aA aC)) (aq (ao (pv 3)) aC)))))))) (aG (bH jz)) bK)))) bK)))) (aG (bH jz)))
theorem oh:FnScope ["_law_world","_law_start","_law_seen","_law_house","_law_way"] ["_law_world"] (az dY):=⟨rfl,rfl,rfl,by decide +kernel,rfl,by decide +kernel,by decide +kernel⟩
theorem wH(T:TF K mg "_law_no_ring" dY)(M_Ways_way_0:Mt P w K mg base C 4 "Ways" "way" bF [])(b_range:mg "range" = none):Fn P w K mg base C 5 "_law_no_ring" gF :=
 gP T oh rfl rfl (fun _ _ _ _ _ _ us hl=>su us hl (fun _=>rfl)) fun f cdv A outer sh H E hr =>
  have nd:(cH CX0 P w K mg base ["_law_world","_law_start","_law_seen","_law_house","_law_way"] "_law_no_ring" (az dY) f cdv A outer sh H E).nox.N.Nodup:=oh.nd
  (aD (eO PassesOwn.never rfl (jB rfl b_range (aq aA (aq (aZ (aU hr) (ao (pv 0)) bU (fun _ _=>rfl)) aC))) (dj nd rfl (by first |exact Or.inl rfl |exact Or.inr rfl)) (aD (bA (i:=2) nd rfl (by first |exact Or.inl rfl |exact Or.inr rfl) lF) (aD (bA (i:=3) nd rfl (by first |exact Or.inl rfl |exact Or.inr rfl) (ao (pv 1))) (aG (tH 1000 PassesOwn.never (bj iR (ao (pv 3)) aA (bx _)) (aD (bW (oM (aU hr) (ao (pv 3)) (ao (pv 2))) (aG (bH jz)) bK) (aD (ig (aU hr) (ao (pv 2)) (ao (pv 3)) jz) (aD (bA (i:=4) nd rfl (by first |exact Or.inl rfl |exact Or.inr rfl) (dF M_Ways_way_0 (hr.mono (by decide)) (bh (aZ (aU hr) (ao (pv 0)) bU (fun _ _=>rfl)) (ao (pv 3))) (aq aA aC))) (aD (bW (bj lC (ao (pv 4)) gq (bx _)) (aG Hb) bK) (aG (bA (i:=3) nd rfl (by first |exact Or.inl rfl |exact Or.inr rfl) (bh (ao (pv 4)) aA)))))))))))) (aG (bH jz)))
theorem Bw:FnScope ["_law_script","_law_cells","_law_count","_law_world","_law_dense_here","_law_k","_law_cell","_law_one","_law_other","_law_way","_law_turn"] ["_law_script"] (az iZ):=⟨rfl,rfl,rfl,by decide +kernel,rfl,by decide +kernel,by decide +kernel⟩
end
theorem wI{P:Program}{w:World}{K:PySem.W.Frag}{mg:Str->Option Value}{base:Heap}{C:Cl}{f:Addr}{fd:FuncData}(F:Fun K "law" "law" iZ f fd)(K_Ways:MkD P w K mg base C 1 "Ways" bZ [])(b_range:mg "range" = none)(G_l_mixed:Fn P w K mg base C 1 "_law_mixed" jr)(G_l_cell_at:Fn P w K mg base C 1 "_law_cell_at" dC)(G_l_dense:Fn P w K mg base C 9 "_law_dense" iI)(G_l_mix:Fn P w K mg base C 1 "_law_mix" aY)(G_l_come:Fn P w K mg base C 7 "_law_come" gf)(G_l_fall:Fn P w K mg base C 8 "_law_fall" iw)(G_l_sends:Fn P w K mg base C 6 "_law_sends" cR)(G_l_neighbours:Fn P w K mg base C 1 "_law_neighbours" cI)(G_l_carry:Fn P w K mg base C 8 "_law_carry" dO)(G_l_stairs:Fn P w K mg base C 5 "_law_stairs" h_)(G_l_no_ring:Fn P w K mg base C 5 "_law_no_ring" gF):FnOk P w K mg base CX0 10 f fd ["_law_script"] (spD K C oU) :=
 Jf F Bw rfl rfl fun cdv A outer sh H E hr =>
  have nd:(cH CX0 P w K mg base ["_law_script","_law_cells","_law_count","_law_world","_law_dense_here","_law_k","_law_cell","_law_one","_law_other","_law_way","_law_turn"] "law" (az iZ) f cdv A outer sh H E).nox.N.Nodup:=Bw.nd
  (aD (bA (i:=1) nd rfl (by first |exact Or.inl rfl |exact Or.inr rfl) (aP G_l_mixed (hr.mono (by decide)) rfl (aq (ao (pv 0)) aC))) (aD (bA (i:=2) nd rfl (by first |exact Or.inl rfl |exact Or.inr rfl) (aR cA aA (aR cO (aP G_l_cell_at (hr.mono (by decide)) rfl (aq (ao (pv 1)) (aq aA aC))) aA))) (aD (bA (i:=3) nd rfl (by first |exact Or.inl rfl |exact Or.inr rfl) (GP (PDP.cons (ao (pv 2)) (PDP.cons aA (PDP.cons Gm (PDP.cons (vm rfl (mQ (oN:=["_law_script","_law_cells","_law_count","_law_world","_law_dense_here","_law_k","_law_cell","_law_one","_law_other","_law_way","_law_turn"]) (osc:=az iZ) (N:=["_law_k"]) (μ:=[none]) rfl rfl (by decide +kernel)) (iT rfl b_range (aq (ao (pv 2)) aC)) (fun _ _ _ _=>(dj (show List.Nodup (["_law_k"]:List Str) by decide +kernel) rfl (by first |exact Or.inl rfl |exact Or.inr rfl))) (fun _ _ _ _=>CV) (fun _ _ _ _=>(Dc K_Ways (hr.mono (by decide)) rfl))) PDP.nil)))) (by intro z;cases z) (Nat.le_of_ble_eq_true rfl))) (aD (bA (i:=4) nd rfl (by first |exact Or.inl rfl |exact Or.inr rfl) (aR cO (aR xq (aP G_l_cell_at (hr.mono (by decide)) rfl (aq (ao (pv 1)) (aq aA aC))) aA) aA)) (aD (bW (bj (jM hr.units) (ao (pv 4)) aA (bx _)) (aG (cu (aP G_l_dense (hr.mono (by decide)) rfl (aq (ao (pv 3)) (aq (bh (ao (pv 1)) aA) aC))))) bK) (aD (eO PassesOwn.never rfl (jB rfl b_range (aq aA (aq (aR cA aA (aR cO (aR xq (aP G_l_cell_at (hr.mono (by decide)) rfl (aq (ao (pv 1)) (aq aA aC))) aA) aA)) aC))) (dj nd rfl (by first |exact Or.inl rfl |exact Or.inr rfl)) (aD (bA (i:=6) nd rfl (by first |exact Or.inl rfl |exact Or.inr rfl) (bh (ao (pv 1)) (ao (pv 5)))) (aD (bA (i:=7) nd rfl (by first |exact Or.inl rfl |exact Or.inr rfl) (aR cO (aP G_l_mix (hr.mono (by decide)) rfl (aq (ao (pv 6)) (aq aA aC))) (ao (pv 2)))) (aD (bA (i:=8) nd rfl (by first |exact Or.inl rfl |exact Or.inr rfl) (aR cO (aR cA (aR cA (ao (pv 7)) aA) (aR cO (aP G_l_mix (hr.mono (by decide)) rfl (aq (ao (pv 6)) (aq aA aC))) (aR Ga (ao (pv 2)) aA))) (ao (pv 2)))) (aD (bA (i:=9) nd rfl (by first |exact Or.inl rfl |exact Or.inr rfl) (bh (jn (aq (aR cO (aP G_l_mix (hr.mono (by decide)) rfl (aq (ao (pv 6)) (aq aA aC))) aA) (aq (bh (jn (aq aA (aq aA (aq aA (aq aA (aq aA (aq aA (aq aA (aq aA (aq aA aC)))))))))) (aR cO (aP G_l_mix (hr.mono (by decide)) rfl (aq (ao (pv 6)) (aq aA aC))) aA)) aC))) (ao (pv 4)))) (aD (bW (PDW.pt (jd (bj pZ (ao (pv 9)) aA (bx _)) (jc (qu (aU hr) (cM (aq (ao (pv 7)) (aq (ao (pv 8)) aC))) (aZ (aU hr) (ao (pv 3)) bU (fun _ _=>rfl)))))) (aG (cu (aP G_l_come (hr.mono (by decide)) rfl (aq (ao (pv 3)) (aq (ao (pv 7)) (aq (ao (pv 8)) (aq (aR cA aA (aR cO (aP G_l_mix (hr.mono (by decide)) rfl (aq (ao (pv 6)) (aq aA aC))) aA)) aC))))))) (aG (bW (PDW.pt (jd (bj (jM hr.units) (ao (pv 9)) aA (bx _)) (jd (oM (aU hr) (cM (aq (ao (pv 7)) (aq (ao (pv 8)) aC))) (aZ (aU hr) (ao (pv 3)) bU (fun _ _=>rfl))) (jc (bj (jM hr.units) (aR cO (aP G_l_mix (hr.mono (by decide)) rfl (aq (ao (pv 6)) (aq aA aC))) aA) aA (bx _)))))) (aG (cu (aP G_l_fall (hr.mono (by decide)) rfl (aq (ao (pv 3)) (aq (ao (pv 7)) (aq (ao (pv 8)) aC)))))) (aG (bW (bj (jM hr.units) (ao (pv 9)) aA (bx _)) (aD (ig (aU hr) (ao (pv 3)) bU (aR cA (aZ (aU hr) (ao (pv 3)) bU (fun _ _=>rfl)) aA)) (aG (cu (aP G_l_sends (hr.mono (by decide)) rfl (aq (ao (pv 3)) (aq aA (aq (aP G_l_neighbours (hr.mono (by decide)) rfl (aq (ao (pv 3)) (aq aA aC))) aC))))))) (aG (eO PassesOwn.never rfl (iT rfl b_range (aq (aR cA aA (aR cO (aP G_l_mix (hr.mono (by decide)) rfl (aq (ao (pv 6)) (aq aA aC))) aA)) aC)) (dj nd rfl (by first |exact Or.inl rfl |exact Or.inr rfl)) (aG (cu (aP G_l_carry (hr.mono (by decide)) rfl (aq (ao (pv 3)) (aq (aP G_l_mix (hr.mono (by decide)) rfl (aq (ao (pv 6)) (aq (aR cA aA (ao (pv 10))) aC))) aC)))))))))))) (aG (bW (PDW.pt (Ad (rG (oE (aP G_l_stairs (hr.mono (by decide)) rfl (aq (ao (pv 3)) aC)))) (xG (rG (oE (aP G_l_no_ring (hr.mono (by decide)) rfl (aq (ao (pv 3)) aC))))))) (aG (bH jz)) bK)))))))) (aG (bH jz))))))))
theorem all_mk{P:Program}{w:World}{K:PySem.W.Frag}{h:Heap}{mg:Str->Option Value}{fa f_l_mixed f_Ways_mark f_place_of_way f_better f_may_use f_Ways_way f_l_telling f_Ways_need_tie f_bettered f_Ways_hear f_l_sends f_l_neighbours f_l_changed f_l_carry f_Ways_tie f_l_come f_l_mix f_l_dense f_l_cell_at f_Ways___init__ f_Ways_untie f_l_fall f_l_stairs f_l_no_ring f_law C_Ways:Addr}(X:K.In h)(G:h.Ns mainGlobals mg)(hfa:mg "law" = some (.ref fa))
  {od_l_mixed an_l_mixed:Option Addr} {sl_l_mixed:Array (Option Value)} {oc_l_mixed kV_l_mixed dc_l_mixed pm_l_mixed cd_l_mixed ct_l_mixed:Value}
  {od_Ways_mark an_Ways_mark:Option Addr} {sl_Ways_mark:Array (Option Value)} {oc_Ways_mark kV_Ways_mark dc_Ways_mark pm_Ways_mark cd_Ways_mark ct_Ways_mark:Value}
  {od_place_of_way an_place_of_way:Option Addr} {sl_place_of_way:Array (Option Value)} {oc_place_of_way kV_place_of_way dc_place_of_way pm_place_of_way cd_place_of_way ct_place_of_way:Value}
  {od_better an_better:Option Addr} {sl_better:Array (Option Value)} {oc_better kV_better dc_better pm_better cd_better ct_better:Value}
  {od_may_use an_may_use:Option Addr} {sl_may_use:Array (Option Value)} {oc_may_use kV_may_use dc_may_use pm_may_use cd_may_use ct_may_use:Value}
  {od_Ways_way an_Ways_way:Option Addr} {sl_Ways_way:Array (Option Value)} {oc_Ways_way kV_Ways_way dc_Ways_way pm_Ways_way cd_Ways_way ct_Ways_way:Value}
  {od_l_telling an_l_telling:Option Addr} {sl_l_telling:Array (Option Value)} {oc_l_telling kV_l_telling dc_l_telling pm_l_telling cd_l_telling ct_l_telling:Value}
  {od_Ways_need_tie an_Ways_need_tie:Option Addr} {sl_Ways_need_tie:Array (Option Value)} {oc_Ways_need_tie kV_Ways_need_tie dc_Ways_need_tie pm_Ways_need_tie cd_Ways_need_tie ct_Ways_need_tie:Value}
  {od_bettered an_bettered:Option Addr} {sl_bettered:Array (Option Value)} {oc_bettered kV_bettered dc_bettered pm_bettered cd_bettered ct_bettered:Value}
  {od_Ways_hear an_Ways_hear:Option Addr} {sl_Ways_hear:Array (Option Value)} {oc_Ways_hear kV_Ways_hear dc_Ways_hear pm_Ways_hear cd_Ways_hear ct_Ways_hear:Value}
  {od_l_sends an_l_sends:Option Addr} {sl_l_sends:Array (Option Value)} {oc_l_sends kV_l_sends dc_l_sends pm_l_sends cd_l_sends ct_l_sends:Value}
  {od_l_neighbours an_l_neighbours:Option Addr} {sl_l_neighbours:Array (Option Value)} {oc_l_neighbours kV_l_neighbours dc_l_neighbours pm_l_neighbours cd_l_neighbours ct_l_neighbours:Value}
  {od_l_changed an_l_changed:Option Addr} {sl_l_changed:Array (Option Value)} {oc_l_changed kV_l_changed dc_l_changed pm_l_changed cd_l_changed ct_l_changed:Value}
  {od_l_carry an_l_carry:Option Addr} {sl_l_carry:Array (Option Value)} {oc_l_carry kV_l_carry dc_l_carry pm_l_carry cd_l_carry ct_l_carry:Value}
  {od_Ways_tie an_Ways_tie:Option Addr} {sl_Ways_tie:Array (Option Value)} {oc_Ways_tie kV_Ways_tie dc_Ways_tie pm_Ways_tie cd_Ways_tie ct_Ways_tie:Value}
  {od_l_come an_l_come:Option Addr} {sl_l_come:Array (Option Value)} {oc_l_come kV_l_come dc_l_come pm_l_come cd_l_come ct_l_come:Value}
  {od_l_mix an_l_mix:Option Addr} {sl_l_mix:Array (Option Value)} {oc_l_mix kV_l_mix dc_l_mix pm_l_mix cd_l_mix ct_l_mix:Value}
  {od_l_dense an_l_dense:Option Addr} {sl_l_dense:Array (Option Value)} {oc_l_dense kV_l_dense dc_l_dense pm_l_dense cd_l_dense ct_l_dense:Value}
  {od_l_cell_at an_l_cell_at:Option Addr} {sl_l_cell_at:Array (Option Value)} {oc_l_cell_at kV_l_cell_at dc_l_cell_at pm_l_cell_at cd_l_cell_at ct_l_cell_at:Value}
  {od_Ways___init__ an_Ways___init__:Option Addr} {sl_Ways___init__:Array (Option Value)} {oc_Ways___init__ kV_Ways___init__ dc_Ways___init__ pm_Ways___init__ cd_Ways___init__ ct_Ways___init__:Value}
  {od_Ways_untie an_Ways_untie:Option Addr} {sl_Ways_untie:Array (Option Value)} {oc_Ways_untie kV_Ways_untie dc_Ways_untie pm_Ways_untie cd_Ways_untie ct_Ways_untie:Value}
  {od_l_fall an_l_fall:Option Addr} {sl_l_fall:Array (Option Value)} {oc_l_fall kV_l_fall dc_l_fall pm_l_fall cd_l_fall ct_l_fall:Value}
  {od_l_stairs an_l_stairs:Option Addr} {sl_l_stairs:Array (Option Value)} {oc_l_stairs kV_l_stairs dc_l_stairs pm_l_stairs cd_l_stairs ct_l_stairs:Value}
  {od_l_no_ring an_l_no_ring:Option Addr} {sl_l_no_ring:Array (Option Value)} {oc_l_no_ring kV_l_no_ring dc_l_no_ring pm_l_no_ring cd_l_no_ring ct_l_no_ring:Value}
  {od_law an_law:Option Addr} {sl_law:Array (Option Value)} {oc_law kV_law dc_law pm_law cd_law ct_law:Value}
  (a_l_mixed:PySem.W.nsIn K mainGlobals "_law_mixed" = some (some (.ref f_l_mixed)))
  (l_l_mixed:K.lookup f_l_mixed=some ⟨oc_l_mixed,od_l_mixed,.func (PySem.W.fnOf "_law_mixed" "_law_mixed" (aW fO) (aQ fO) (az fO) .none kV_l_mixed dc_l_mixed pm_l_mixed an_l_mixed cd_l_mixed ct_l_mixed),sl_l_mixed⟩) (cc_l_mixed:PySem.W.codeIn K cd_l_mixed "_law_mixed" = true) (k_l_mixed:PySem.W.keepIn K (.ref f_l_mixed)=true)
  (a_Ways_mark:PySem.W.findIn K (.ref C_Ways) "mark" = some (some (.ref f_Ways_mark))) (i_Ways_mark:PySem.W.isFn K (.ref f_Ways_mark)=true)
  (l_Ways_mark:K.lookup f_Ways_mark=some ⟨oc_Ways_mark,od_Ways_mark,.func (PySem.W.fnOf "mark" "Ways.mark" (aW fB) (aQ fB) (az fB) .none kV_Ways_mark dc_Ways_mark pm_Ways_mark an_Ways_mark cd_Ways_mark ct_Ways_mark),sl_Ways_mark⟩) (cc_Ways_mark:PySem.W.codeIn K cd_Ways_mark "Ways.mark" = true) (k_Ways_mark:PySem.W.keepIn K (.ref f_Ways_mark)=true)
  (a_place_of_way:PySem.W.nsIn K mainGlobals "place_of_way" = some (some (.ref f_place_of_way)))
  (l_place_of_way:K.lookup f_place_of_way=some ⟨oc_place_of_way,od_place_of_way,.func (PySem.W.fnOf "place_of_way" "place_of_way" (aW cT) (aQ cT) (az cT) .none kV_place_of_way dc_place_of_way pm_place_of_way an_place_of_way cd_place_of_way ct_place_of_way),sl_place_of_way⟩) (cc_place_of_way:PySem.W.codeIn K cd_place_of_way "place_of_way" = true) (k_place_of_way:PySem.W.keepIn K (.ref f_place_of_way)=true)
  (a_better:PySem.W.nsIn K mainGlobals "better" = some (some (.ref f_better)))
  (l_better:K.lookup f_better=some ⟨oc_better,od_better,.func (PySem.W.fnOf "better" "better" (aW gW) (aQ gW) (az gW) .none kV_better dc_better pm_better an_better cd_better ct_better),sl_better⟩) (cc_better:PySem.W.codeIn K cd_better "better" = true) (k_better:PySem.W.keepIn K (.ref f_better)=true)
  (a_may_use:PySem.W.nsIn K mainGlobals "may_use" = some (some (.ref f_may_use)))
  (l_may_use:K.lookup f_may_use=some ⟨oc_may_use,od_may_use,.func (PySem.W.fnOf "may_use" "may_use" (aW fP) (aQ fP) (az fP) .none kV_may_use dc_may_use pm_may_use an_may_use cd_may_use ct_may_use),sl_may_use⟩) (cc_may_use:PySem.W.codeIn K cd_may_use "may_use" = true) (k_may_use:PySem.W.keepIn K (.ref f_may_use)=true)
  (a_Ways_way:PySem.W.findIn K (.ref C_Ways) "way" = some (some (.ref f_Ways_way))) (i_Ways_way:PySem.W.isFn K (.ref f_Ways_way)=true)
  (l_Ways_way:K.lookup f_Ways_way=some ⟨oc_Ways_way,od_Ways_way,.func (PySem.W.fnOf "way" "Ways.way" (aW gh) (aQ gh) (az gh) .none kV_Ways_way dc_Ways_way pm_Ways_way an_Ways_way cd_Ways_way ct_Ways_way),sl_Ways_way⟩) (cc_Ways_way:PySem.W.codeIn K cd_Ways_way "Ways.way" = true) (k_Ways_way:PySem.W.keepIn K (.ref f_Ways_way)=true)
  (a_l_telling:PySem.W.nsIn K mainGlobals "_law_telling" = some (some (.ref f_l_telling)))
  (l_l_telling:K.lookup f_l_telling=some ⟨oc_l_telling,od_l_telling,.func (PySem.W.fnOf "_law_telling" "_law_telling" (aW dU) (aQ dU) (az dU) .none kV_l_telling dc_l_telling pm_l_telling an_l_telling cd_l_telling ct_l_telling),sl_l_telling⟩) (cc_l_telling:PySem.W.codeIn K cd_l_telling "_law_telling" = true) (k_l_telling:PySem.W.keepIn K (.ref f_l_telling)=true)
  (a_Ways_need_tie:PySem.W.findIn K (.ref C_Ways) "need_tie" = some (some (.ref f_Ways_need_tie))) (i_Ways_need_tie:PySem.W.isFn K (.ref f_Ways_need_tie)=true)
  (l_Ways_need_tie:K.lookup f_Ways_need_tie=some ⟨oc_Ways_need_tie,od_Ways_need_tie,.func (PySem.W.fnOf "need_tie" "Ways.need_tie" (aW cX) (aQ cX) (az cX) .none kV_Ways_need_tie dc_Ways_need_tie pm_Ways_need_tie an_Ways_need_tie cd_Ways_need_tie ct_Ways_need_tie),sl_Ways_need_tie⟩) (cc_Ways_need_tie:PySem.W.codeIn K cd_Ways_need_tie "Ways.need_tie" = true) (k_Ways_need_tie:PySem.W.keepIn K (.ref f_Ways_need_tie)=true)
  (a_bettered:PySem.W.nsIn K mainGlobals "bettered" = some (some (.ref f_bettered)))
  (l_bettered:K.lookup f_bettered=some ⟨oc_bettered,od_bettered,.func (PySem.W.fnOf "bettered" "bettered" (aW eV) (aQ eV) (az eV) .none kV_bettered dc_bettered pm_bettered an_bettered cd_bettered ct_bettered),sl_bettered⟩) (cc_bettered:PySem.W.codeIn K cd_bettered "bettered" = true) (k_bettered:PySem.W.keepIn K (.ref f_bettered)=true)
  (a_Ways_hear:PySem.W.findIn K (.ref C_Ways) "hear" = some (some (.ref f_Ways_hear))) (i_Ways_hear:PySem.W.isFn K (.ref f_Ways_hear)=true)
  (l_Ways_hear:K.lookup f_Ways_hear=some ⟨oc_Ways_hear,od_Ways_hear,.func (PySem.W.fnOf "hear" "Ways.hear" (aW fC) (aQ fC) (az fC) .none kV_Ways_hear dc_Ways_hear pm_Ways_hear an_Ways_hear cd_Ways_hear ct_Ways_hear),sl_Ways_hear⟩) (cc_Ways_hear:PySem.W.codeIn K cd_Ways_hear "Ways.hear" = true) (k_Ways_hear:PySem.W.keepIn K (.ref f_Ways_hear)=true)
  (a_l_sends:PySem.W.nsIn K mainGlobals "_law_sends" = some (some (.ref f_l_sends)))
  (l_l_sends:K.lookup f_l_sends=some ⟨oc_l_sends,od_l_sends,.func (PySem.W.fnOf "_law_sends" "_law_sends" (aW fQ) (aQ fQ) (az fQ) .none kV_l_sends dc_l_sends pm_l_sends an_l_sends cd_l_sends ct_l_sends),sl_l_sends⟩) (cc_l_sends:PySem.W.codeIn K cd_l_sends "_law_sends" = true) (k_l_sends:PySem.W.keepIn K (.ref f_l_sends)=true)
  (a_l_neighbours:PySem.W.nsIn K mainGlobals "_law_neighbours" = some (some (.ref f_l_neighbours)))
  (l_l_neighbours:K.lookup f_l_neighbours=some ⟨oc_l_neighbours,od_l_neighbours,.func (PySem.W.fnOf "_law_neighbours" "_law_neighbours" (aW cL) (aQ cL) (az cL) .none kV_l_neighbours dc_l_neighbours pm_l_neighbours an_l_neighbours cd_l_neighbours ct_l_neighbours),sl_l_neighbours⟩) (cc_l_neighbours:PySem.W.codeIn K cd_l_neighbours "_law_neighbours" = true) (k_l_neighbours:PySem.W.keepIn K (.ref f_l_neighbours)=true)
  (a_l_changed:PySem.W.nsIn K mainGlobals "_law_changed" = some (some (.ref f_l_changed)))
  (l_l_changed:K.lookup f_l_changed=some ⟨oc_l_changed,od_l_changed,.func (PySem.W.fnOf "_law_changed" "_law_changed" (aW dW) (aQ dW) (az dW) .none kV_l_changed dc_l_changed pm_l_changed an_l_changed cd_l_changed ct_l_changed),sl_l_changed⟩) (cc_l_changed:PySem.W.codeIn K cd_l_changed "_law_changed" = true) (k_l_changed:PySem.W.keepIn K (.ref f_l_changed)=true)
  (a_l_carry:PySem.W.nsIn K mainGlobals "_law_carry" = some (some (.ref f_l_carry)))
  (l_l_carry:K.lookup f_l_carry=some ⟨oc_l_carry,od_l_carry,.func (PySem.W.fnOf "_law_carry" "_law_carry" (aW eX) (aQ eX) (az eX) .none kV_l_carry dc_l_carry pm_l_carry an_l_carry cd_l_carry ct_l_carry),sl_l_carry⟩) (cc_l_carry:PySem.W.codeIn K cd_l_carry "_law_carry" = true) (k_l_carry:PySem.W.keepIn K (.ref f_l_carry)=true)
  (a_Ways_tie:PySem.W.findIn K (.ref C_Ways) "tie" = some (some (.ref f_Ways_tie))) (i_Ways_tie:PySem.W.isFn K (.ref f_Ways_tie)=true)
  (l_Ways_tie:K.lookup f_Ways_tie=some ⟨oc_Ways_tie,od_Ways_tie,.func (PySem.W.fnOf "tie" "Ways.tie" (aW gm) (aQ gm) (az gm) .none kV_Ways_tie dc_Ways_tie pm_Ways_tie an_Ways_tie cd_Ways_tie ct_Ways_tie),sl_Ways_tie⟩) (cc_Ways_tie:PySem.W.codeIn K cd_Ways_tie "Ways.tie" = true) (k_Ways_tie:PySem.W.keepIn K (.ref f_Ways_tie)=true)
  (a_l_come:PySem.W.nsIn K mainGlobals "_law_come" = some (some (.ref f_l_come)))
  (l_l_come:K.lookup f_l_come=some ⟨oc_l_come,od_l_come,.func (PySem.W.fnOf "_law_come" "_law_come" (aW gY) (aQ gY) (az gY) .none kV_l_come dc_l_come pm_l_come an_l_come cd_l_come ct_l_come),sl_l_come⟩) (cc_l_come:PySem.W.codeIn K cd_l_come "_law_come" = true) (k_l_come:PySem.W.keepIn K (.ref f_l_come)=true)
  (a_l_mix:PySem.W.nsIn K mainGlobals "_law_mix" = some (some (.ref f_l_mix)))
  (l_l_mix:K.lookup f_l_mix=some ⟨oc_l_mix,od_l_mix,.func (PySem.W.fnOf "_law_mix" "_law_mix" (aW iQ) (aQ iQ) (az iQ) .none kV_l_mix dc_l_mix pm_l_mix an_l_mix cd_l_mix ct_l_mix),sl_l_mix⟩) (cc_l_mix:PySem.W.codeIn K cd_l_mix "_law_mix" = true) (k_l_mix:PySem.W.keepIn K (.ref f_l_mix)=true)
  (a_l_dense:PySem.W.nsIn K mainGlobals "_law_dense" = some (some (.ref f_l_dense)))
  (l_l_dense:K.lookup f_l_dense=some ⟨oc_l_dense,od_l_dense,.func (PySem.W.fnOf "_law_dense" "_law_dense" (aW fU) (aQ fU) (az fU) .none kV_l_dense dc_l_dense pm_l_dense an_l_dense cd_l_dense ct_l_dense),sl_l_dense⟩) (cc_l_dense:PySem.W.codeIn K cd_l_dense "_law_dense" = true) (k_l_dense:PySem.W.keepIn K (.ref f_l_dense)=true)
  (a_l_cell_at:PySem.W.nsIn K mainGlobals "_law_cell_at" = some (some (.ref f_l_cell_at)))
  (l_l_cell_at:K.lookup f_l_cell_at=some ⟨oc_l_cell_at,od_l_cell_at,.func (PySem.W.fnOf "_law_cell_at" "_law_cell_at" (aW dX) (aQ dX) (az dX) .none kV_l_cell_at dc_l_cell_at pm_l_cell_at an_l_cell_at cd_l_cell_at ct_l_cell_at),sl_l_cell_at⟩) (cc_l_cell_at:PySem.W.codeIn K cd_l_cell_at "_law_cell_at" = true) (k_l_cell_at:PySem.W.keepIn K (.ref f_l_cell_at)=true)
  (a_Ways___init__:PySem.W.findIn K (.ref C_Ways) "__init__" = some (some (.ref f_Ways___init__))) (i_Ways___init__:PySem.W.isFn K (.ref f_Ways___init__)=true)
  (l_Ways___init__:K.lookup f_Ways___init__=some ⟨oc_Ways___init__,od_Ways___init__,.func (PySem.W.fnOf "__init__" "Ways.__init__" (aW cY) (aQ cY) (az cY) .none kV_Ways___init__ dc_Ways___init__ pm_Ways___init__ an_Ways___init__ cd_Ways___init__ ct_Ways___init__),sl_Ways___init__⟩) (cc_Ways___init__:PySem.W.codeIn K cd_Ways___init__ "Ways.__init__" = true) (k_Ways___init__:PySem.W.keepIn K (.ref f_Ways___init__)=true)
  (a_Ways_untie:PySem.W.findIn K (.ref C_Ways) "untie" = some (some (.ref f_Ways_untie))) (i_Ways_untie:PySem.W.isFn K (.ref f_Ways_untie)=true)
  (l_Ways_untie:K.lookup f_Ways_untie=some ⟨oc_Ways_untie,od_Ways_untie,.func (PySem.W.fnOf "untie" "Ways.untie" (aW eE) (aQ eE) (az eE) .none kV_Ways_untie dc_Ways_untie pm_Ways_untie an_Ways_untie cd_Ways_untie ct_Ways_untie),sl_Ways_untie⟩) (cc_Ways_untie:PySem.W.codeIn K cd_Ways_untie "Ways.untie" = true) (k_Ways_untie:PySem.W.keepIn K (.ref f_Ways_untie)=true)
  (a_l_fall:PySem.W.nsIn K mainGlobals "_law_fall" = some (some (.ref f_l_fall)))
  (l_l_fall:K.lookup f_l_fall=some ⟨oc_l_fall,od_l_fall,.func (PySem.W.fnOf "_law_fall" "_law_fall" (aW gZ) (aQ gZ) (az gZ) .none kV_l_fall dc_l_fall pm_l_fall an_l_fall cd_l_fall ct_l_fall),sl_l_fall⟩) (cc_l_fall:PySem.W.codeIn K cd_l_fall "_law_fall" = true) (k_l_fall:PySem.W.keepIn K (.ref f_l_fall)=true)
  (a_l_stairs:PySem.W.nsIn K mainGlobals "_law_stairs" = some (some (.ref f_l_stairs)))
  (l_l_stairs:K.lookup f_l_stairs=some ⟨oc_l_stairs,od_l_stairs,.func (PySem.W.fnOf "_law_stairs" "_law_stairs" (aW eY) (aQ eY) (az eY) .none kV_l_stairs dc_l_stairs pm_l_stairs an_l_stairs cd_l_stairs ct_l_stairs),sl_l_stairs⟩) (cc_l_stairs:PySem.W.codeIn K cd_l_stairs "_law_stairs" = true) (k_l_stairs:PySem.W.keepIn K (.ref f_l_stairs)=true)
  (a_l_no_ring:PySem.W.nsIn K mainGlobals "_law_no_ring" = some (some (.ref f_l_no_ring)))
  (l_l_no_ring:K.lookup f_l_no_ring=some ⟨oc_l_no_ring,od_l_no_ring,.func (PySem.W.fnOf "_law_no_ring" "_law_no_ring" (aW dY) (aQ dY) (az dY) .none kV_l_no_ring dc_l_no_ring pm_l_no_ring an_l_no_ring cd_l_no_ring ct_l_no_ring),sl_l_no_ring⟩) (cc_l_no_ring:PySem.W.codeIn K cd_l_no_ring "_law_no_ring" = true) (k_l_no_ring:PySem.W.keepIn K (.ref f_l_no_ring)=true)
  (a_law:PySem.W.nsIn K mainGlobals "law" = some (some (.ref f_law)))
  (l_law:K.lookup f_law=some ⟨oc_law,od_law,.func (PySem.W.fnOf "law" "law" (aW iZ) (aQ iZ) (az iZ) .none kV_law dc_law pm_law an_law cd_law ct_law),sl_law⟩) (cc_law:PySem.W.codeIn K cd_law "law" = true) (k_law:PySem.W.keepIn K (.ref f_law)=true)
  (a_Ways:PySem.W.nsIn K mainGlobals "Ways" = some (some (.ref C_Ways))) (pg_Ways:PySem.W.plainGet K C_Ways Str.empty=true) (hd_Ways:PySem.W.hasDictIn K C_Ways=true) (po_Ways:PySem.W.plainOver K C_Ways=true) (sa_Ways:PySem.W.findIn K (.ref C_Ways) "__setattr__" = some (some (.builtin "object.__setattr__"))) (mk_Ways:PySem.W.makesIn K C_Ways=true) (kc_Ways:PySem.W.keepIn K (.ref C_Ways)=true)
  (nf_Ways_length_by:PySem.W.findIn K (.ref C_Ways) "length_by" = some none)
  (nf_Ways_mark_of:PySem.W.findIn K (.ref C_Ways) "mark_of" = some none)
  (nf_Ways_tellings_by:PySem.W.findIn K (.ref C_Ways) "tellings_by" = some none)
  (z_len:PySem.W.nsIn K mainGlobals "len" = some none)
  (z_min:PySem.W.nsIn K mainGlobals "min" = some none)
  (z_range:PySem.W.nsIn K mainGlobals "range" = some none)
  (z_sorted:PySem.W.nsIn K mainGlobals "sorted" = some none) :
  ∃fd:FuncData,(∀(s:Shared) (v:Value),BindsTo s fd ⟨[v],[]⟩ [("_law_script",v)])/\∀base:Heap,K.In base->base.Ns mainGlobals mg->FnOk P w K mg base CX0 10 fa fd ["_law_script"] (spC K oU):=by
 have e:=hfa.symm.trans (PySem.W.mg_of X G a_law)
 cases e
 have hC_Ways:(bC C0 "Ways" C_Ways) "Ways" = some C_Ways:=yR
 have T_Ways:ClD K (bC C0 "Ways" C_Ways) "Ways":=⟨C_Ways,hC_Ways,⟨pg_Ways,hd_Ways,po_Ways,sa_Ways⟩⟩
 have n_Ways_length_by:NoA K (bC C0 "Ways" C_Ways) "Ways" "length_by":=vB hC_Ways nf_Ways_length_by
 have n_Ways_mark_of:NoA K (bC C0 "Ways" C_Ways) "Ways" "mark_of":=vB hC_Ways nf_Ways_mark_of
 have n_Ways_tellings_by:NoA K (bC C0 "Ways" C_Ways) "Ways" "tellings_by":=vB hC_Ways nf_Ways_tellings_by
 have T_l_mixed:TF K mg "_law_mixed" fO:=⟨f_l_mixed,_,PySem.W.mg_of X G a_l_mixed,dh (st:=fO) l_l_mixed cc_l_mixed k_l_mixed⟩
 have T_place_of_way:TF K mg "place_of_way" cT:=⟨f_place_of_way,_,PySem.W.mg_of X G a_place_of_way,dh (st:=cT) l_place_of_way cc_place_of_way k_place_of_way⟩
 have T_better:TF K mg "better" gW:=⟨f_better,_,PySem.W.mg_of X G a_better,dh (st:=gW) l_better cc_better k_better⟩
 have T_may_use:TF K mg "may_use" fP:=⟨f_may_use,_,PySem.W.mg_of X G a_may_use,dh (st:=fP) l_may_use cc_may_use k_may_use⟩
 have T_l_telling:TF K mg "_law_telling" dU:=⟨f_l_telling,_,PySem.W.mg_of X G a_l_telling,dh (st:=dU) l_l_telling cc_l_telling k_l_telling⟩
 have T_bettered:TF K mg "bettered" eV:=⟨f_bettered,_,PySem.W.mg_of X G a_bettered,dh (st:=eV) l_bettered cc_bettered k_bettered⟩
 have T_l_sends:TF K mg "_law_sends" fQ:=⟨f_l_sends,_,PySem.W.mg_of X G a_l_sends,dh (st:=fQ) l_l_sends cc_l_sends k_l_sends⟩
 have T_l_neighbours:TF K mg "_law_neighbours" cL:=⟨f_l_neighbours,_,PySem.W.mg_of X G a_l_neighbours,dh (st:=cL) l_l_neighbours cc_l_neighbours k_l_neighbours⟩
 have T_l_changed:TF K mg "_law_changed" dW:=⟨f_l_changed,_,PySem.W.mg_of X G a_l_changed,dh (st:=dW) l_l_changed cc_l_changed k_l_changed⟩
 have T_l_carry:TF K mg "_law_carry" eX:=⟨f_l_carry,_,PySem.W.mg_of X G a_l_carry,dh (st:=eX) l_l_carry cc_l_carry k_l_carry⟩
 have T_l_come:TF K mg "_law_come" gY:=⟨f_l_come,_,PySem.W.mg_of X G a_l_come,dh (st:=gY) l_l_come cc_l_come k_l_come⟩
 have T_l_mix:TF K mg "_law_mix" iQ:=⟨f_l_mix,_,PySem.W.mg_of X G a_l_mix,dh (st:=iQ) l_l_mix cc_l_mix k_l_mix⟩
 have T_l_dense:TF K mg "_law_dense" fU:=⟨f_l_dense,_,PySem.W.mg_of X G a_l_dense,dh (st:=fU) l_l_dense cc_l_dense k_l_dense⟩
 have T_l_cell_at:TF K mg "_law_cell_at" dX:=⟨f_l_cell_at,_,PySem.W.mg_of X G a_l_cell_at,dh (st:=dX) l_l_cell_at cc_l_cell_at k_l_cell_at⟩
 have T_l_fall:TF K mg "_law_fall" gZ:=⟨f_l_fall,_,PySem.W.mg_of X G a_l_fall,dh (st:=gZ) l_l_fall cc_l_fall k_l_fall⟩
 have T_l_stairs:TF K mg "_law_stairs" eY:=⟨f_l_stairs,_,PySem.W.mg_of X G a_l_stairs,dh (st:=eY) l_l_stairs cc_l_stairs k_l_stairs⟩
 have T_l_no_ring:TF K mg "_law_no_ring" dY:=⟨f_l_no_ring,_,PySem.W.mg_of X G a_l_no_ring,dh (st:=dY) l_l_no_ring cc_l_no_ring k_l_no_ring⟩
 refine⟨PySem.W.fnOf "law" "law" (aW iZ) (aQ iZ) (az iZ) .none kV_law dc_law pm_law an_law cd_law ct_law,fun s v=>.of_eq rfl,fun base KB _=>?_⟩
 have G_l_mixed:Fn P w K mg base (bC C0 "Ways" C_Ways) 1 "_law_mixed" jr:=zf T_l_mixed (PySem.W.mg_none_of X G z_len)
 have O_Ways_mark:FnOk P w K mg base CX0 1 f_Ways_mark _ ["self","goal"] (spD K (bC C0 "Ways" C_Ways) bu):=wA (je (st:=fB) l_Ways_mark cc_Ways_mark) T_Ways n_Ways_mark_of
 have M_Ways_mark_0:Mt P w K mg base (bC C0 "Ways" C_Ways) 1 "Ways" "mark" bu []:=⟨C_Ways,f_Ways_mark,_,_,[],[],hC_Ways,⟨pg_Ways,hd_Ways,po_Ways,sa_Ways⟩,⟨a_Ways_mark,i_Ways_mark,k_Ways_mark⟩,(jT (ps:=["self","goal"]) fun us hl=>ju us hl (fun _ _=>rfl)),.nil,fun _ _=>.nil,O_Ways_mark⟩
 have G_place_of_way:Fn P w K mg base (bC C0 "Ways" C_Ways) 1 "place_of_way" dZ:=qU T_place_of_way
 have G_better:Fn P w K mg base (bC C0 "Ways" C_Ways) 1 "better" fZ:=Bt T_better
 have G_may_use:Fn P w K mg base (bC C0 "Ways" C_Ways) 2 "may_use" iH:=zg T_may_use G_better
 have O_Ways_way:FnOk P w K mg base CX0 4 f_Ways_way _ ["self","goal"] (spD K (bC C0 "Ways" C_Ways) bF):=wQ (je (st:=gh) l_Ways_way cc_Ways_way) T_Ways n_Ways_length_by n_Ways_tellings_by M_Ways_mark_0 (PySem.W.mg_none_of X G z_min) G_may_use G_place_of_way
 have M_Ways_way_0:Mt P w K mg base (bC C0 "Ways" C_Ways) 4 "Ways" "way" bF []:=⟨C_Ways,f_Ways_way,_,_,[],[],hC_Ways,⟨pg_Ways,hd_Ways,po_Ways,sa_Ways⟩,⟨a_Ways_way,i_Ways_way,k_Ways_way⟩,(jT (ps:=["self","goal"]) fun us hl=>ju us hl (fun _ _=>rfl)),.nil,fun _ _=>.nil,O_Ways_way⟩
 have G_l_telling:Fn P w K mg base (bC C0 "Ways" C_Ways) 5 "_law_telling" bJ:=wB T_l_telling M_Ways_mark_0 M_Ways_way_0
 have O_Ways_need_tie:FnOk P w K mg base CX0 1 f_Ways_need_tie _ ["self","neighbour"] (spD K (bC C0 "Ways" C_Ways) bY):=pQ (je (st:=cX) l_Ways_need_tie cc_Ways_need_tie) T_Ways n_Ways_length_by
 have M_Ways_need_tie_0:Mt P w K mg base (bC C0 "Ways" C_Ways) 1 "Ways" "need_tie" bY []:=⟨C_Ways,f_Ways_need_tie,_,_,[],[],hC_Ways,⟨pg_Ways,hd_Ways,po_Ways,sa_Ways⟩,⟨a_Ways_need_tie,i_Ways_need_tie,k_Ways_need_tie⟩,(jT (ps:=["self","neighbour"]) fun us hl=>ju us hl (fun _ _=>rfl)),.nil,fun _ _=>.nil,O_Ways_need_tie⟩
 have G_bettered:Fn P w K mg base (bC C0 "Ways" C_Ways) 1 "bettered" iW:=wR T_bettered (PySem.W.mg_none_of X G z_min)
 have O_Ways_hear:FnOk P w K mg base CX0 5 f_Ways_hear _ ["self","neighbour","goal","number","far"] (spD K (bC C0 "Ways" C_Ways) fu):=wC (je (st:=fC) l_Ways_hear cc_Ways_hear) T_Ways n_Ways_mark_of n_Ways_tellings_by M_Ways_need_tie_0 M_Ways_way_0 M_Ways_mark_0 G_bettered
 have M_Ways_hear_0:Mt P w K mg base (bC C0 "Ways" C_Ways) 5 "Ways" "hear" fu []:=⟨C_Ways,f_Ways_hear,_,_,[],[],hC_Ways,⟨pg_Ways,hd_Ways,po_Ways,sa_Ways⟩,⟨a_Ways_hear,i_Ways_hear,k_Ways_hear⟩,(jT (ps:=["self","neighbour","goal","number","far"]) fun us hl=>LK us hl (fun _ _ _ _ _=>rfl)),.nil,fun _ _=>.nil,O_Ways_hear⟩
 have G_l_sends:Fn P w K mg base (bC C0 "Ways" C_Ways) 6 "_law_sends" cR:=zj T_l_sends G_l_telling
 have G_l_neighbours:Fn P w K mg base (bC C0 "Ways" C_Ways) 1 "_law_neighbours" cI:=qY T_l_neighbours (PySem.W.mg_none_of X G z_range)
 have G_l_changed:Fn P w K mg base (bC C0 "Ways" C_Ways) 7 "_law_changed" dz:=wD T_l_changed G_l_telling G_l_sends G_l_neighbours
 have G_l_carry:Fn P w K mg base (bC C0 "Ways" C_Ways) 8 "_law_carry" dO:=zm T_l_carry M_Ways_hear_0 (PySem.W.mg_none_of X G z_len) (PySem.W.mg_none_of X G z_sorted) G_l_telling G_l_changed
 have O_Ways_tie:FnOk P w K mg base CX0 1 f_Ways_tie _ ["self","neighbour","length"] (spD K (bC C0 "Ways" C_Ways) gb):=wU (je (st:=gm) l_Ways_tie cc_Ways_tie) T_Ways n_Ways_length_by n_Ways_tellings_by
 have M_Ways_tie_0:Mt P w K mg base (bC C0 "Ways" C_Ways) 1 "Ways" "tie" gb []:=⟨C_Ways,f_Ways_tie,_,_,[],[],hC_Ways,⟨pg_Ways,hd_Ways,po_Ways,sa_Ways⟩,⟨a_Ways_tie,i_Ways_tie,k_Ways_tie⟩,(jT (ps:=["self","neighbour","length"]) fun us hl=>pL us hl (fun _ _ _=>rfl)),.nil,fun _ _=>.nil,O_Ways_tie⟩
 have G_l_come:Fn P w K mg base (bC C0 "Ways" C_Ways) 7 "_law_come" gf:=Bu T_l_come M_Ways_tie_0 G_l_sends
 have G_l_mix:Fn P w K mg base (bC C0 "Ways" C_Ways) 1 "_law_mix" aY:=Ec T_l_mix
 have G_l_dense:Fn P w K mg base (bC C0 "Ways" C_Ways) 9 "_law_dense" iI:=zp T_l_dense (PySem.W.mg_none_of X G z_range) G_l_come G_l_mix G_l_carry
 have G_l_cell_at:Fn P w K mg base (bC C0 "Ways" C_Ways) 1 "_law_cell_at" dC:=wG T_l_cell_at (PySem.W.mg_none_of X G z_len)
 have O_Ways___init__:FnOk P w K mg base CX0 1 f_Ways___init__ _ ["self"] (spD K (bC C0 "Ways" C_Ways) bZ):=pR (je (st:=cY) l_Ways___init__ cc_Ways___init__) T_Ways n_Ways_length_by n_Ways_mark_of n_Ways_tellings_by
 have K_Ways:MkD P w K mg base (bC C0 "Ways" C_Ways) 1 "Ways" bZ []:=⟨C_Ways,f_Ways___init__,_,_,[],[],hC_Ways,PySem.W.mg_of X G a_Ways,⟨mk_Ways,a_Ways___init__,i_Ways___init__,kc_Ways⟩,(jT (ps:=["self"]) fun us hl=>su us hl (fun _=>rfl)),.nil,fun _ _=>.nil,O_Ways___init__⟩
 have O_Ways_untie:FnOk P w K mg base CX0 2 f_Ways_untie _ ["self","neighbour"] (spD K (bC C0 "Ways" C_Ways) dD):=uA (je (st:=eE) l_Ways_untie cc_Ways_untie) T_Ways n_Ways_length_by n_Ways_tellings_by M_Ways_need_tie_0
 have M_Ways_untie_0:Mt P w K mg base (bC C0 "Ways" C_Ways) 2 "Ways" "untie" dD []:=⟨C_Ways,f_Ways_untie,_,_,[],[],hC_Ways,⟨pg_Ways,hd_Ways,po_Ways,sa_Ways⟩,⟨a_Ways_untie,i_Ways_untie,k_Ways_untie⟩,(jT (ps:=["self","neighbour"]) fun us hl=>ju us hl (fun _ _=>rfl)),.nil,fun _ _=>.nil,O_Ways_untie⟩
 have G_l_fall:Fn P w K mg base (bC C0 "Ways" C_Ways) 8 "_law_fall" iw:=Bv T_l_fall M_Ways_untie_0 G_l_telling G_l_changed
 have G_l_stairs:Fn P w K mg base (bC C0 "Ways" C_Ways) 5 "_law_stairs" h_:=wV T_l_stairs M_Ways_way_0 M_Ways_mark_0 (PySem.W.mg_none_of X G z_range) G_better
 have G_l_no_ring:Fn P w K mg base (bC C0 "Ways" C_Ways) 5 "_law_no_ring" gF:=wH T_l_no_ring M_Ways_way_0 (PySem.W.mg_none_of X G z_range)
 exact(wI (C:=(bC C0 "Ways" C_Ways)) (dh (st:=iZ) l_law cc_law k_law) K_Ways (PySem.W.mg_none_of X G z_range) G_l_mixed G_l_cell_at G_l_dense G_l_mix G_l_come G_l_fall G_l_sends G_l_neighbours G_l_carry G_l_stairs G_l_no_ring).imp fun vs H Q E h=>h _
theorem walk{l:PySem.W.OpenLaw}{q:Program}{loose:List Str}{XP:(Str->Option Value)->Heap->Prop}{YP:World->Heap->Prop}{d:DefRec}{K:Params->PySem.W.Frag}(hn:l.most=some 63)(hdf:d.params.defaults=[])
  (hY:∀(w:World) (h:Heap),YP w h->(K w.params).In h) (holds:∀ns:List Int,ns.length<=63->∃Ω,oU [.scr ns] []=some (.bl true,Ω))
  (F:∀(w:World) (mg:Str->Option Value) (fa:Addr) (h:Heap),(K w.params).In h->h.Ns mainGlobals mg->mg d.name=some (.ref fa) ->
   ∃fd:FuncData,(∀(s:Shared) (u:Value),BindsTo s fd ⟨[u],[]⟩ [("_law_script",u)])/\∀base:Heap,(K w.params).In base->base.Ns mainGlobals mg->FnOk l.prog w (K w.params) mg base CX0 10 fa fd ["_law_script"] (spC (K w.params) oU)) :
  PySem.W.WalkO q loose XP YP l.row.toRowW d [] (fun f vs=>PySem.call f vs) :=
 L2.xj (n:=63) (k:=10) (x:="_law_script") (CX:=fun _=>CX0) (sp:=fun w=>spC (K w.params) oU) hn (by decide) hdf ⟨rfl,by decide,by decide,rfl⟩ hY F (fun _ _ a ns hl _ hS=>Gr hS (holds ns hl)) fun _ _ _ _ _ z=>z
end Law
namespace PySem.W.Fast
theorem tw10138692120285853688:True:=⟨⟩
theorem tw10371442460608948915:True:=⟨⟩
theorem tw10432081419443066213:True:=⟨⟩
theorem tw10454189715083432161:True:=⟨⟩
theorem tw10504680239241643841:True:=⟨⟩
theorem tw10748335195359000101:True:=⟨⟩
theorem tw10749787472090486135:True:=⟨⟩
theorem tw10869319768148735794:True:=⟨⟩
theorem tw1099648933084120786:True:=⟨⟩
theorem tw11206944128585740346:True:=⟨⟩
theorem tw11450700124954942208:True:=⟨⟩
theorem tw11810820458979870223:True:=⟨⟩
theorem tw11900350711673145572:True:=⟨⟩
theorem tw11943490576672583655:True:=⟨⟩
theorem tw12585064544097790427:True:=⟨⟩
theorem tw12595493658044070821:True:=⟨⟩
theorem tw127679653006957138:True:=⟨⟩
theorem tw12972972262334217016:True:=⟨⟩
theorem tw13013310106716401117:True:=⟨⟩
theorem tw13054114422320023347:True:=⟨⟩
theorem tw13180568960618649543:True:=⟨⟩
theorem tw13330321055801631052:True:=⟨⟩
theorem tw13335176421164177314:True:=⟨⟩
theorem tw1339411067075116249:True:=⟨⟩
theorem tw13613062018404028758:True:=⟨⟩
theorem tw13824032621710164669:True:=⟨⟩
theorem tw13918656675769999051:True:=⟨⟩
theorem tw13967590685791495778:True:=⟨⟩
theorem tw14008268959638956638:True:=⟨⟩
theorem tw14754297611576829787:True:=⟨⟩
theorem tw1481794570243618378:True:=⟨⟩
theorem tw1487930913559731268:True:=⟨⟩
theorem tw15073659551554613660:True:=⟨⟩
theorem tw15180520782916199467:True:=⟨⟩
theorem tw15834138966214261937:True:=⟨⟩
theorem tw16234915200300387740:True:=⟨⟩
theorem tw1642851110391906319:True:=⟨⟩
theorem tw16568272909354611931:True:=⟨⟩
theorem tw16750829641475925997:True:=⟨⟩
theorem tw1681156591061166907:True:=⟨⟩
theorem tw16852823154468310614:True:=⟨⟩
theorem tw1699887114089354665:True:=⟨⟩
theorem tw17167284839021984955:True:=⟨⟩
theorem tw17570679933885207045:True:=⟨⟩
theorem tw17641407532403198328:True:=⟨⟩
theorem tw1799881193976865322:True:=⟨⟩
theorem tw18193734578106279046:True:=⟨⟩
theorem tw18402933082763490733:True:=⟨⟩
theorem tw1890350643839048812:True:=⟨⟩
theorem tw2497517401289965763:True:=⟨⟩
theorem tw2531840457942887719:True:=⟨⟩
theorem tw2655769455259389696:True:=⟨⟩
theorem tw267081926591168574:True:=⟨⟩
theorem tw2731494051033831207:True:=⟨⟩
theorem tw2957221318779229784:True:=⟨⟩
theorem tw2958819922885608616:True:=⟨⟩
theorem tw3101431439154328653:True:=⟨⟩
theorem tw3581804494081711612:True:=⟨⟩
theorem tw435014960733874101:True:=⟨⟩
theorem tw4461467470898855500:True:=⟨⟩
theorem tw4601517736413948916:True:=⟨⟩
theorem tw4626445281718429143:True:=⟨⟩
theorem tw4748785708293995803:True:=⟨⟩
theorem tw4869496338755937859:True:=⟨⟩
theorem tw548602749857722348:True:=⟨⟩
theorem tw581870973445873581:True:=⟨⟩
theorem tw5846741233704931992:True:=⟨⟩
theorem tw6036632422155703965:True:=⟨⟩
theorem tw6101163663889605297:True:=⟨⟩
theorem tw6294687285012021703:True:=⟨⟩
theorem tw6346005838003749309:True:=⟨⟩
theorem tw7140872073247496616:True:=⟨⟩
theorem tw7213485651627057221:True:=⟨⟩
theorem tw7482585712017671952:True:=⟨⟩
theorem tw748506578642525229:True:=⟨⟩
theorem tw7691502822729924798:True:=⟨⟩
theorem tw7835039000983962937:True:=⟨⟩
theorem tw7885491014290600684:True:=⟨⟩
theorem tw7907238385070416275:True:=⟨⟩
theorem tw7999865659638674071:True:=⟨⟩
theorem tw8065764886975956536:True:=⟨⟩
theorem tw8762199872763596441:True:=⟨⟩
theorem tw8935413456149663418:True:=⟨⟩
theorem tw9088160885444021931:True:=⟨⟩
theorem tw9121162313556645301:True:=⟨⟩
theorem tw9234945668382873900:True:=⟨⟩
theorem tw9445215303379334584:True:=⟨⟩
theorem tw9682629560340152173:True:=⟨⟩
theorem tw9765718158655073907:True:=⟨⟩
theorem tw9862003426730553336:True:=⟨⟩
end PySem.W.Fast
open PySem PySem.W PyProof.Rows
set_option maxRecDepth 100000 in
set_option maxHeartbeats 0 in
theorem PySem.Challenge.cw_posthouse_k18_whole_stairs_holds : PySem.Challenge.rw_posthouse_k18_whole_stairs.Holds := by
 w_on;o_law;k_head;(case hw=>w_witness2)
 k_fill
 refine Law.walk (l:=PySem.Challenge.rw_posthouse_k18_whole_stairs) rfl rfl (fun w h Y=>PySem.W.kIn_of Y) Law.holds ?F
 case F =>
  intro w mg fa h KX G hmg
  refine' Law.all_mk KX G hmg ?a_l_mixed ?l_l_mixed ?cc_l_mixed ?k_l_mixed ?a_Ways_mark ?i_Ways_mark ?l_Ways_mark ?cc_Ways_mark ?k_Ways_mark ?a_place_of_way ?l_place_of_way ?cc_place_of_way ?k_place_of_way ?a_better ?l_better ?cc_better ?k_better ?a_may_use ?l_may_use ?cc_may_use ?k_may_use ?a_Ways_way ?i_Ways_way ?l_Ways_way ?cc_Ways_way ?k_Ways_way ?a_l_telling ?l_l_telling ?cc_l_telling ?k_l_telling ?a_Ways_need_tie ?i_Ways_need_tie ?l_Ways_need_tie ?cc_Ways_need_tie ?k_Ways_need_tie ?a_bettered ?l_bettered ?cc_bettered ?k_bettered ?a_Ways_hear ?i_Ways_hear ?l_Ways_hear ?cc_Ways_hear ?k_Ways_hear ?a_l_sends ?l_l_sends ?cc_l_sends ?k_l_sends ?a_l_neighbours ?l_l_neighbours ?cc_l_neighbours ?k_l_neighbours ?a_l_changed ?l_l_changed ?cc_l_changed ?k_l_changed ?a_l_carry ?l_l_carry ?cc_l_carry ?k_l_carry ?a_Ways_tie ?i_Ways_tie ?l_Ways_tie ?cc_Ways_tie ?k_Ways_tie ?a_l_come ?l_l_come ?cc_l_come ?k_l_come ?a_l_mix ?l_l_mix ?cc_l_mix ?k_l_mix ?a_l_dense ?l_l_dense ?cc_l_dense ?k_l_dense ?a_l_cell_at ?l_l_cell_at ?cc_l_cell_at ?k_l_cell_at ?a_Ways___init__ ?i_Ways___init__ ?l_Ways___init__ ?cc_Ways___init__ ?k_Ways___init__ ?a_Ways_untie ?i_Ways_untie ?l_Ways_untie ?cc_Ways_untie ?k_Ways_untie ?a_l_fall ?l_l_fall ?cc_l_fall ?k_l_fall ?a_l_stairs ?l_l_stairs ?cc_l_stairs ?k_l_stairs ?a_l_no_ring ?l_l_no_ring ?cc_l_no_ring ?k_l_no_ring ?a_law ?l_law ?cc_law ?k_law ?a_Ways ?pg_Ways ?hd_Ways ?po_Ways ?sa_Ways ?mk_Ways ?kc_Ways ?nf_Ways_length_by ?nf_Ways_mark_of ?nf_Ways_tellings_by ?z_len ?z_min ?z_range ?z_sorted
  (case a_Ways=>k_is)
  (case a_l_mixed=>k_is)
  (case l_l_mixed=>k_is)
  (case cc_l_mixed=>k_is)
  (case k_l_mixed=>k_is)
  (case a_Ways_mark=>k_is)
  (case i_Ways_mark=>k_is)
  (case l_Ways_mark=>k_is)
  (case cc_Ways_mark=>k_is)
  (case k_Ways_mark=>k_is)
  (case a_place_of_way=>k_is)
  (case l_place_of_way=>k_is)
  (case cc_place_of_way=>k_is)
  (case k_place_of_way=>k_is)
  (case a_better=>k_is)
  (case l_better=>k_is)
  (case cc_better=>k_is)
  (case k_better=>k_is)
  (case a_may_use=>k_is)
  (case l_may_use=>k_is)
  (case cc_may_use=>k_is)
  (case k_may_use=>k_is)
  (case a_Ways_way=>k_is)
  (case i_Ways_way=>k_is)
  (case l_Ways_way=>k_is)
  (case cc_Ways_way=>k_is)
  (case k_Ways_way=>k_is)
  (case a_l_telling=>k_is)
  (case l_l_telling=>k_is)
  (case cc_l_telling=>k_is)
  (case k_l_telling=>k_is)
  (case a_Ways_need_tie=>k_is)
  (case i_Ways_need_tie=>k_is)
  (case l_Ways_need_tie=>k_is)
  (case cc_Ways_need_tie=>k_is)
  (case k_Ways_need_tie=>k_is)
  (case a_bettered=>k_is)
  (case l_bettered=>k_is)
  (case cc_bettered=>k_is)
  (case k_bettered=>k_is)
  (case a_Ways_hear=>k_is)
  (case i_Ways_hear=>k_is)
  (case l_Ways_hear=>k_is)
  (case cc_Ways_hear=>k_is)
  (case k_Ways_hear=>k_is)
  (case a_l_sends=>k_is)
  (case l_l_sends=>k_is)
  (case cc_l_sends=>k_is)
  (case k_l_sends=>k_is)
  (case a_l_neighbours=>k_is)
  (case l_l_neighbours=>k_is)
  (case cc_l_neighbours=>k_is)
  (case k_l_neighbours=>k_is)
  (case a_l_changed=>k_is)
  (case l_l_changed=>k_is)
  (case cc_l_changed=>k_is)
  (case k_l_changed=>k_is)
  (case a_l_carry=>k_is)
  (case l_l_carry=>k_is)
  (case cc_l_carry=>k_is)
  (case k_l_carry=>k_is)
  (case a_Ways_tie=>k_is)
  (case i_Ways_tie=>k_is)
  (case l_Ways_tie=>k_is)
  (case cc_Ways_tie=>k_is)
  (case k_Ways_tie=>k_is)
  (case a_l_come=>k_is)
  (case l_l_come=>k_is)
  (case cc_l_come=>k_is)
  (case k_l_come=>k_is)
  (case a_l_mix=>k_is)
  (case l_l_mix=>k_is)
  (case cc_l_mix=>k_is)
  (case k_l_mix=>k_is)
  (case a_l_dense=>k_is)
  (case l_l_dense=>k_is)
  (case cc_l_dense=>k_is)
  (case k_l_dense=>k_is)
  (case a_l_cell_at=>k_is)
  (case l_l_cell_at=>k_is)
  (case cc_l_cell_at=>k_is)
  (case k_l_cell_at=>k_is)
  (case a_Ways___init__=>k_is)
  (case i_Ways___init__=>k_is)
  (case l_Ways___init__=>k_is)
  (case cc_Ways___init__=>k_is)
  (case k_Ways___init__=>k_is)
  (case a_Ways_untie=>k_is)
  (case i_Ways_untie=>k_is)
  (case l_Ways_untie=>k_is)
  (case cc_Ways_untie=>k_is)
  (case k_Ways_untie=>k_is)
  (case a_l_fall=>k_is)
  (case l_l_fall=>k_is)
  (case cc_l_fall=>k_is)
  (case k_l_fall=>k_is)
  (case a_l_stairs=>k_is)
  (case l_l_stairs=>k_is)
  (case cc_l_stairs=>k_is)
  (case k_l_stairs=>k_is)
  (case a_l_no_ring=>k_is)
  (case l_l_no_ring=>k_is)
  (case cc_l_no_ring=>k_is)
  (case k_l_no_ring=>k_is)
  (case a_law=>k_is)
  (case l_law=>k_is)
  (case cc_law=>k_is)
  (case k_law=>k_is)
  (case pg_Ways=>k_is)
  (case hd_Ways=>k_is)
  (case po_Ways=>k_is)
  (case sa_Ways=>k_is)
  (case mk_Ways=>k_is)
  (case kc_Ways=>k_is)
  (case nf_Ways_length_by=>k_is)
  (case nf_Ways_mark_of=>k_is)
  (case nf_Ways_tellings_by=>k_is)
  (case z_len=>k_is)
  (case z_min=>k_is)
  (case z_range=>k_is)
  (case z_sorted=>k_is)

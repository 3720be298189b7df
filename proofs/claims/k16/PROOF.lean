import PyProof.Rows.All
import Wide.All
import OpenK.AllK
import Wide.FinOn
import Lean
import PyProof.EqAt
import PyProof.EqKinds
import PyProof.TupleCall
import KE.KNest
import KE.KSortTup
import KE.KIntText
import KE.KTryMore
import PyProof.ExcArgs
import KE.KIsAll
import PyProof.ReprNest
import PyProof.NsMap
import PyProof.Rows.Own
import PyProof.ReprStr
import PyProof.ExcBaseAll.ValueError
import PyProof.FitsInt
import PyProof.ZipIter
import KE.KDictOf
import PyProof.AttrMissHeap
import PyProof.WalksEnum
import PyProof.EnumMake
import KE.KEqDict
import KE.KItemsList
import KE.KSorted
import PySem.Challenge.RW_posthouse_k16_ways_deed_by_deed
set_option Elab.async false
set_option linter.all false
set_option maxRecDepth 100000
set_option genSizeOf false
set_option bootstrap.genMatcherCode false
noncomputable section
namespace L2
open PySem PySem.Spec PyProof.Rows
abbrev Key:=Sum Int Str
def tG:Key->Value->Bool
 | .inl k,v=>Value.isInt k v
 | .inr x,v=>Value.isStrOf x v
def TJ(w:World):Key->Int
 | .inl k=>hashInt k
 | .inr x=>hashStr w x
theorem cZ:∀{k:Key} {v:Value},tG k v=true->(∃i t,k=Sum.inl i/\v=Value.int i t)\/(∃x t,k=Sum.inr x/\v=Value.str x t)
 | .inl i,v,h=>by
  obtain⟨t,e⟩:=Value.isInt_shape (k:=i) (v:=v) h
  exact .inl ⟨i,t,rfl,e⟩
 | .inr x,v,h=>by
  obtain⟨t,e⟩:=Value.isStrOf_shape (x:=x) (v:=v) h
  exact .inr ⟨x,t,rfl,e⟩
theorem Gp(i:Int)(t:Tok):tG (.inl i) (.int i t)=true:=by simp[tG,Value.isInt]
theorem Gq(x:Str)(t:Tok):tG (.inr x) (.str x t)=true:=by simp[tG,Value.isStrOf]
theorem PX(a b:Int):decide ((Sum.inl a:Key)=Sum.inl b)=(a==b):=by
 by_cases e:a=b
 ·subst e;simp
 ·have h:¬(Sum.inl a:Key)=Sum.inl b:=fun q=>e (Sum.inl.inj q)
  rw[decide_eq_false h]
  exact(beq_eq_false_iff_ne.mpr e).symm
theorem P_(a b:Str):decide ((Sum.inr a:Key)=Sum.inr b)=decide (a=b):=by
 by_cases e:a=b
 ·subst e;simp
 ·have h:¬(Sum.inr a:Key)=Sum.inr b:=fun q=>e (Sum.inr.inj q)
  rw[decide_eq_false h,decide_eq_false e]
theorem Qa(a:Int)(b:Str):decide ((Sum.inl a:Key)=Sum.inr b)=false:=decide_eq_false (fun q=>nomatch q)
theorem Qc(a:Str)(b:Int):decide ((Sum.inr a:Key)=Sum.inl b)=false:=decide_eq_false (fun q=>nomatch q)
def cg(prog:Program)(w:World):PySem.KeyKind prog w Key where
 is:=tG
 hash:=TJ w
 inj:=fun v a b ha hb=>by
  rcases cZ ha with⟨i,t,rfl,rfl⟩ |⟨x,t,rfl,rfl⟩
  ·rcases cZ hb with⟨j,u,rfl,e⟩ |⟨y,u,rfl,e⟩
   ·injection e with e1 _;rw[e1]
   ·exact nomatch e
  ·rcases cZ hb with⟨j,u,rfl,e⟩ |⟨y,u,rfl,e⟩
   ·exact nomatch e
   ·injection e with e1 _;rw[e1]
 byValue:=fun k v h=>by
  rcases cZ h with⟨i,t,rfl,rfl⟩ |⟨x,t,rfl,rfl⟩<;>rfl
 pyHash:=fun hv h=>by
  rcases cZ hv with⟨i,t,rfl,rfl⟩ |⟨x,t,rfl,rfl⟩
  ·exact wpAny_pyHash_int h
  ·exact wpAny_pyHash_str h
 eqBool:=fun hu hv h=>by
  rcases cZ hu with⟨i,t,rfl,rfl⟩ |⟨x,t,rfl,rfl⟩
  ·rcases cZ hv with⟨j,u,rfl,rfl⟩ |⟨y,u,rfl,rfl⟩
   ·rw[PX] at h;exact wpAny_eqBool_int h
   ·rw[Qa] at h;exact SeqAt.EqAt.int_str i t y u _ _ _ _ h
  ·rcases cZ hv with⟨j,u,rfl,rfl⟩ |⟨y,u,rfl,rfl⟩
   ·rw[Qc] at h;exact SeqAt.EqAt.str_int x t j u _ _ _ _ h
   ·rw[P_] at h;exact wpAny_eqBool_str h
 «strs»:=fun k x t v h=>by
  rcases cZ h with⟨i,u,rfl,e⟩ |⟨y,u,rfl,e⟩
  ·exact nomatch e
  ·injection e with e1 _
   subst e1
   cases v<;>rfl
theorem Cy(prog:Program)(w:World)(i:Int)(t:Tok):(cg prog w).is (.inl i) (.int i t)=true:=Gp i t
theorem Cz(prog:Program)(w:World)(x:Str)(t:Tok):(cg prog w).is (.inr x) (.str x t)=true:=Gq x t
end L2
namespace L2
open PySem PySem.Spec PyProof.Rows
inductive V where
 | non |bl (b:Bool) |int (i:Int) |str (x:Str) |byt (b:Array UInt8) |flt (b:UInt64) |ref (a:Addr) |ty (n:String)
 deriving DecidableEq
def RelV:V->Value->Prop
 | .non,u=>u=Value.none
 | .bl b,u=>u=Value.bool b
 | .int i,u=>∃t,u=Value.int i t
 | .str x,u=>∃t,u=Value.str x t
 | .byt b,u=>∃t,u=Value.bytes b t
 | .flt b,u=>∃t,u=Value.float b t
 | .ref a,u=>u=Value.ref a
 | .ty n,u=>u=Value.type n
abbrev Vals:List V->List Value->Prop:=Paired RelV
theorem Vals.length{xs:List V}{us:List Value}(r:Vals xs us):xs.length=us.length:=Paired.length r
theorem Vals.get:∀{xs:List V} {us:List Value} {i:Nat} {x:V},Vals xs us->xs[i]? = some x->∃u,us[i]? = some u/\RelV x u
 | _,_,_,_,.nil,e=>by simp at e
 | _,_,0,_,.cons r _,e=>by simp at e;subst e;exact⟨_,rfl,r⟩
 | _,_,i+1,x,.cons _ t,e=>by
  obtain⟨u,h1,h2⟩:=Vals.get (i:=i) (x:=x) t (by simpa using e)
  exact⟨u,by simpa using h1,h2⟩
theorem Vals.append:∀{xs ys:List V} {us ws:List Value},Vals xs us->Vals ys ws->Vals (xs++ys) (us++ws)
 | _,_,_,_,.nil,s=>s
 | _,_,_,_,.cons r t,s=>.cons r (Vals.append t s)
def iw:Option V->Option Value->Prop
 | some v,some u=>RelV v u
 | none,none=>True
 | _,_=>False
def KV{κ:Type}:List (κ×V)->List (κ×Value)->Prop:=Paired fun(p:κ×V) (q:κ×Value)=>p.1=q.1/\RelV p.2 q.2
def kV:Key->V
 | .inl i=>.int i
 | .inr x=>.str x
inductive HO where
  | lst (xs:List V)
  | tup (xs:List V)
  | dK (kvs:List (Key×V)) |dT (kvs:List (List Key×V))
  | set (S:Int->Bool) (n:Nat)
  | ins (C dx:Addr) (fs:List (Str×V))
  | own (x:Addr)
  | xd (fs:List (Str×V))
  | met (f x:Addr)
  | rng (lo hi:Int)
  | frz (o:Obj) (u:HO)
  | tbl (ps:Array Value)
  | ext (φ:Heap->Prop)
abbrev Hp:=Addr->Option HO
def upd(H:Hp)(a:Addr)(o:HO):Hp:=fun b=>if b=a then some o else H b
theorem aM{H:Hp}{a:Addr}{o:HO}:upd H a o a=some o:=by unfold upd;rw[if_pos rfl]
theorem aD{H:Hp}{a b:Addr}{o:HO}(h:b≠a):upd H a o b=H b:=by unfold upd;rw[if_neg h]
theorem Lh{H:Hp}{a b:Addr}{o u:HO}(h:H a=some o)(h':H b=some u)(d:o≠u):a≠b:=by
 intro e;subst e;rw[h] at h';exact d (Option.some.inj h')
theorem aP{H:Hp}{a b:Addr}{o:HO}(h:H a=some o)(h':H b=none):a≠b:=by
 intro e;subst e;rw[h] at h';cases h'
section
variable (P:Program) (w:World)
def bV(H:Hp)(h:Heap)(a:Addr):HO->Prop
 | .lst xs=>xs.length<=sizeLine/\∃(its:List Value) (n:Nat),Vals xs its/\h.get? a=some { cls:=.type "list",data:=.seq its.toArray n }
 | .tup xs=>xs.length<=sizeLine/\∃its:List Value,Vals xs its/\IsTup h a its.toArray
 | .dK kvs=>kvs.length<=sizeLine/\(a==sysModules)=false/\∃vs,KV kvs vs/\h.DictOf (cg P w) a vs
 | .dT kvs=>kvs.length<=sizeLine/\(a==sysModules)=false/\∃xs:List (List Key×Addr×Value),
   Paired (fun(p:List Key×V) (q:List Key×Addr×Value)=>p.1=q.1/\H q.2.1=some (.tup (p.1.map kV))/\RelV p.2 q.2.2) kvs xs /\
   ∃o es ep,h.get? a=some o/\o.ExactDict/\o.data=.dict es ep/\es.toList=xs.map (entryOfKey (tupleKind (cg P w)))/\(xs.map (·.1)).Nodup
 | .set S n=>h.SetOf (intKind P w) a S n
 | .ins C dx fs=>H dx=some (.own a)/\fs.length<=1000/\dx≠a/\h.get? a=some (PySem.W.instObj C dx) /\
   ∃mA,h.Ns1 dx mA/\(∀f,iw (fs.lookup f) (mA f))/\PySem.Within mA (fs.map (·.1))
 | .own _=>∃o,h.get? a=some o
 | .xd fs=>∃mA,h.Ns1 a mA/\∀f,iw (fs.lookup f) (mA f)
 | .rng lo hi=>∃t u v,h.get? a=some { cls:=.type "range",data:=.fields #[.int lo t,.int hi u,.int 1 v] }
 | .frz o u=>h.get? a=some o/\bV H h a u
 | .tbl ps=>h.get? a=some { cls:=.none,data:=.fields ps }
 | .met f x=>h.get? a=some (PySem.W.methodObj (.ref f) (.ref x))
 | .ext φ=>φ h/\(∃o,h.get? a=some o)/\∀h1 h2:Heap,φ h1->(∀o,h1.get? a=some o->h2.get? a=some o)->φ h2
def HOk(H:Hp)(h:Heap):Prop:=∀a o,H a=some o->bV P w H h a o
end
section
variable {P:Program} {w:World} {H H':Hp} {h h':Heap} {a:Addr} {o:HO}
theorem bV.lt(x:bV P w H h a o):a<h.objs.size:=by
 cases o with
 | lst xs=>obtain⟨_,_,_,_,e⟩:=x;exact Heap.lt_size e
 | tup xs=>obtain⟨_,_,_,p⟩:=x;exact p.lt
 | dK kvs=>obtain⟨_,_,_,_,o,_,_,e,_⟩:=x;exact Heap.lt_size e
 | dT kvs=>obtain⟨_,_,_,_,o,_,_,e,_⟩:=x;exact Heap.lt_size e
 | set S n=>obtain⟨o,_,_,_,e,_⟩:=x;exact Heap.lt_size e
 | ins C dx fs=>obtain⟨_,_,_,e,_⟩:=x;exact Heap.lt_size e
 | own y=>obtain⟨_,e⟩:=x;exact Heap.lt_size e
 | xd fs=>obtain⟨_,⟨_,_,_,e,_⟩,_⟩:=x;exact Heap.lt_size e
 | rng lo hi=>obtain⟨_,_,_,e⟩:=x;exact Heap.lt_size e
 | frz ob u=>obtain⟨e,_⟩:=x;exact Heap.lt_size e
 | tbl ps=>exact Heap.lt_size (show h.get? a=some _ from x)
 | met f y=>exact Heap.lt_size (show h.get? a=some _ from x)
 | ext φ=>obtain⟨_,⟨_,e⟩,_⟩:=x;exact Heap.lt_size e
theorem Paired.mapP{α β:Type}{F G:α->β->Prop}:∀{l₁:List α} {l₂:List β},Paired F l₁ l₂->(∀a b,F a b->G a b)->Paired G l₁ l₂
 | _,_,.nil,_=>.nil
 | _,_,.cons r t,f=>.cons (f _ _ r) (Paired.mapP t f)
theorem bV.stay(x:bV P w H h a o)(k:∀b u,(b=a\/H b=some (.own a))->h.get? b=some u->h'.get? b=some u)
  (ho:∀b,H b=some (.own a)->H' b=some (.own a)) (ht:∀b xs,H b=some (.tup xs)->H' b=some (.tup xs)):bV P w H' h' a o:=by
 induction o with
 | lst xs=>obtain⟨z,its,n,r,e⟩:=x;exact⟨z,its,n,r,k _ _ (.inl rfl) e⟩
 | tup xs=>obtain⟨z,its,r,ob,e,c⟩:=x;exact⟨z,its,r,ob,k _ _ (.inl rfl) e,c⟩
 | dK kvs=>obtain⟨z,y,vs,r,ob,es,ep,e,c⟩:=x;exact⟨z,y,vs,r,ob,es,ep,k _ _ (.inl rfl) e,c⟩
 | dT kvs =>
  obtain⟨z,y,xs,r,ob,es,ep,e,c⟩:=x
  exact⟨z,y,xs,Paired.mapP r fun p q z=>⟨z.1,ht _ _ z.2.1,z.2.2⟩,ob,es,ep,k _ _ (.inl rfl) e,c⟩
 | set S n=>obtain⟨ob,es,ep,t,e,c⟩:=x;exact⟨ob,es,ep,t,k _ _ (.inl rfl) e,c⟩
 | ins C dx fs =>
  obtain⟨d,z,ne,e,mA,⟨od,es,ep,e2,c⟩,r⟩:=x
  exact⟨ho _ d,z,ne,k _ _ (.inl rfl) e,mA,⟨od,es,ep,k _ _ (.inr d) e2,c⟩,r⟩
 | own y=>obtain⟨ob,e⟩:=x;exact⟨ob,k _ _ (.inl rfl) e⟩
 | xd fs=>obtain⟨mA,⟨od,es,ep,e,c⟩,r⟩:=x;exact⟨mA,⟨od,es,ep,k _ _ (.inl rfl) e,c⟩,r⟩
 | rng lo hi=>obtain⟨t,u,v,e⟩:=x;exact⟨t,u,v,k _ _ (.inl rfl) e⟩
 | frz ob u ih=>obtain⟨e,q⟩:=x;exact⟨k _ _ (.inl rfl) e,ih q⟩
 | tbl ps =>
  have e:h.get? a=some { cls:=.none,data:=.fields ps }:=x
  show h'.get? a=some { cls:=.none,data:=.fields ps }
  exact k a _ (.inl rfl) e
 | met f y =>
  have e:h.get? a=some (PySem.W.methodObj (.ref f) (.ref y)):=x
  show h'.get? a=some (PySem.W.methodObj (.ref f) (.ref y))
  exact k a _ (.inl rfl) e
 | ext φ=>obtain⟨p,⟨o,e⟩,st⟩:=x;exact⟨st _ _ p fun o q=>k _ _ (.inl rfl) q,⟨o,k _ _ (.inl rfl) e⟩,st⟩
theorem HOk.lt(x:HOk P w H h)(e:H a=some o):a<h.objs.size:=(x a o e).lt
theorem HOk.fresh(x:HOk P w H h)(e:h.objs.size<=a):H a=none:=by
 cases q:H a with
 | none=>rfl
 | some u=>exact absurd (Nat.lt_of_lt_of_le (x.lt q) e) (Nat.lt_irrefl _)
theorem HOk.kept(x:HOk P w H h)(k:∀b u,h.get? b=some u->h'.get? b=some u):HOk P w H h':=fun a o e =>
 (x a o e).stay (fun b u _ q=>k b u q) (fun _ q=>q) fun _ _ q=>q
theorem HOk.laid(x:HOk P w H h)(k:∀b u,h.get? b=some u->h'.get? b=some u)(hp:h.objs.size<=a)(new:bV P w (upd H a o) h' a o):HOk P w (upd H a o) h':=fun b u e=>by
 have hn:=x.fresh hp
 by_cases hb:b=a
 ·subst hb;rw[aM] at e;cases e;exact new
 ·rw[aD hb] at e
  exact(x b u e).stay (fun c v _ q=>k c v q) (fun c q=>by rw[aD (aP q hn)];exact q) fun c xs q=>by rw[aD (aP q hn)];exact q
end
def Rd(H:Hp)(a:Addr)(u:HO):Prop:=H a=some u\/∃o,H a=some (.frz o u)
theorem Rd.ok{P:Program}{w:World}{H:Hp}{h:Heap}{a:Addr}{u:HO}(r:Rd H a u)(x:HOk P w H h):bV P w H h a u:=by
 rcases r with r |⟨o,r⟩
 ·exact x a u r
 ·obtain⟨_,q⟩:=x a _ r
  exact q
def Mut:Option HO->Prop
 | some (.lst _)=>True
 | some (.dK _)=>True
 | some (.dT _)=>True
 | some (.set _ _)=>True
 | some (.ins _ _ _)=>True
 | some (.ext _)=>True
 | _=>False
section
variable {P:Program} {w:World} {H:Hp} {h h':Heap} {x e:Addr} {o':HO}
theorem HOk.write(ok:HOk P w H h)(mu:Mut (H x))(he:e=x\/H e=some (.own x))(k:∀b u,b≠e->h.get? b=some u->h'.get? b=some u)(heo:∃u,h'.get? e=some u)
  (new:bV P w (upd H x o') h' x o'):HOk P w (upd H x o') h':=fun b u q=>by
 have nown:∀c y,H c=some (.own y)->c≠x:=fun c y r z=>by subst z;rw[r] at mu;exact mu
 have ntup:∀c xs,H c=some (.tup xs)->c≠x:=fun c xs r z=>by subst z;rw[r] at mu;exact mu
 by_cases hb:b=x
 ·subst hb;rw[aM] at q;cases q;exact new
 ·rw[aD hb] at q
  by_cases hbe:b=e
  ·have q':H b=some (.own x):=by
    rcases he with z |z
    ·exact absurd (hbe.trans z) hb
    ·rw[hbe];exact z
   rw[q] at q';cases q'
   obtain⟨v,hv⟩:=heo
   exact⟨v,by rw[hbe];exact hv⟩
  ·refine(ok b u q).stay (fun c v hc r=>k c v ?_ r) (fun c r=>by rw[aD (nown c b r)];exact r) fun c xs r=>by rw[aD (ntup c xs r)];exact r
   rcases hc with rfl |hc
   ·exact hbe
   ·rintro rfl
    rcases he with z |z
    ·exact nown c b hc z
    ·rw[hc] at z;cases z;exact hb rfl
end
structure Un(fs ex:List Addr)(H H':Hp)(h h':Heap):Prop where
 keep:∀b o,h.get? b=some o->H b=none->b∉fs->b∉ex->h'.get? b=some o
 slot:∀b o,h.get? b=some o->H b=none->b∈fs->b∉ex->∃sl,h'.get? b=some { o with slots:=sl }
 free:∀b o,h.get? b=some o->H b=none->b∉ex->H' b=none
 there:∀b o,h.get? b=some o->b∉ex->∃o',h'.get? b=some o'
 tups:∀b xs,H b=some (.tup xs)->H' b=some (.tup xs)
 frzs:∀b o u,H b=some (.frz o u)->H' b=some (.frz o u)
 tbls:∀b ps,H b=some (.tbl ps)->∃more,H' b=some (.tbl (ps++more))
section
variable {fs fs' ex ex':List Addr} {H H1 H2:Hp} {h h1 h2 h':Heap} {a x e:Addr} {o:HO}
theorem Un.any(u:Un fs ex H H1 h h1){b:Addr}{ob:Obj}(q:h.get? b=some ob)(n:H b=none)(hx:b∉ex):∃sl,h1.get? b=some { ob with slots:=sl }:=by
 by_cases hb:b∈fs
 ·exact u.slot b ob q n hb hx
 ·exact⟨ob.slots,u.keep b ob q n hb hx⟩
theorem Un.kept(k:∀b u,h.get? b=some u->h'.get? b=some u):Un fs ex H H h h' :=
 ⟨fun b ob q _ _ _=>k b ob q,fun b ob q _ _ _=>⟨ob.slots,k b ob q⟩,fun _ _ _ n _=>n,fun b ob q _=>⟨ob,k b ob q⟩,fun _ _ q=>q,fun _ _ _ q=>q,fun _ ps q=>⟨#[],by rw[q];simp⟩⟩
theorem Un.refl:Un fs ex H H h h:=Un.kept fun _ _ q=>q
theorem Un.laid(k:∀b u,h.get? b=some u->h'.get? b=some u)(hp:h.objs.size<=a)(hn:H a=none):Un fs ex H (upd H a o) h h' where
 keep:=fun b u q _ _ _=>k b u q
 slot:=fun b u q _ _ _=>⟨u.slots,k b u q⟩
 free:=fun b u q n _=>by rw[aD (Nat.ne_of_lt (Nat.lt_of_lt_of_le (Heap.lt_size q) hp))];exact n
 there:=fun b u q _=>⟨u,k b u q⟩
 tups:=fun b xs q=>by rw[aD (aP q hn)];exact q
 frzs:=fun b u xs q=>by rw[aD (aP q hn)];exact q
 tbls:=fun b ps q=>⟨#[],by rw[aD (aP q hn),q];simp⟩
theorem Un.write(mu:Mut (H x))(he:e=x\/H e=some (.own x))(k:∀b u,b≠e->h.get? b=some u->h'.get? b=some u)(heo:∃u,h'.get? e=some u):Un fs ex H (upd H x o) h h':=by
 have hx:∀b,H b=none->b≠x:=fun b n z=>by subst z;rw[n] at mu;exact mu
 have hb:∀b,H b=none->b≠e:=fun b n z=>by
  subst z
  rcases he with r |r
  ·exact hx b n r
  ·rw[n] at r;cases r
 have hm:∀b u,H b=some u->¬Mut (some u)->b≠x:=fun b u q nm z=>by subst z;rw[q] at mu;exact nm mu
 refine⟨fun b u q n _ _=>k b u (hb b n) q,fun b u q n _ _=>⟨u.slots,k b u (hb b n) q⟩,fun b u q n _=>by rw[aD (hx b n)];exact n,fun b u q _=>?_,
  fun b xs q=>by rw[aD (hm b _ q fun z=>z)];exact q,fun b u xs q=>by rw[aD (hm b _ q fun z=>z)];exact q,fun b ps q=>⟨#[],by rw[aD (hm b _ q fun z=>z),q];simp⟩⟩
 by_cases hbe:b=e
 ·subst hbe;exact heo
 ·exact⟨u,k b u hbe q⟩
end
def trk(h:Heap)(H:Hp):List Addr:=(List.range h.objs.size).filter fun a=>(H a).isSome
def qx(h:Heap)(H:Hp):Heap:=PySem.W.hideAll h (trk h H)
theorem Gr(h:Heap)(H:Hp):(qx h H).objs.size=h.objs.size:=PySem.W.hideAll_size _ _
theorem IW{h:Heap}{H:Hp}{b:Addr}{o:Obj}(e:h.get? b=some o)(n:H b=none):(qx h H).get? b=some o :=
 PySem.W.hideAll_get _ e fun hm=>by
  have q:(H b).isSome=true:=(List.mem_filter.mp hm).2
  rw[n] at q;simp at q
theorem Mj{h:Heap}{H:Hp}{b:Addr}{o:Obj}(e:(qx h H).get? b=some o):h.get? b=some o/\H b=none:=by
 have e':h.get? b=some o:=PySem.W.of_hideAll (trk h H) e
 refine⟨e',?_⟩
 cases q:H b with
 | none=>rfl
 | some x =>
  have hm:b∈trk h H:=List.mem_filter.mpr ⟨List.mem_range.mpr (Heap.lt_size e'),by simp[q]⟩
  have z:(qx h H).get? b=none:=PySem.W.hideAll_none (trk h H) hm
  rw[z] at e;cases e
def Ml(g h:Heap)(L:Addr):List (Addr×Obj):=(List.range h.objs.size).filterMap fun a=>if a=L\/(g.get? a).isSome=true then none else(h.get? a).map fun o=>(a,o)
def rest(g h:Heap)(L d:Addr):List (Addr×Obj):=(Ml g h L).filter fun p=>decide (p.1≠d)
end L2
namespace L2
open PySem PySem.Spec PyProof.Rows
structure Mod(K:PySem.W.Frag)(mg:Str->Option Value)(base:Heap):Prop where
 kin:K.In base
 glob:base.Ns mainGlobals mg
 blt:∃mb,base.Ns builtinsNs mb/\∀x:Str,x ≠ "__name__" -> mb x=bootBuiltins x
 nolimit:base.NoLimit
structure Cx where
 prog:Program
 w:World
 K:PySem.W.Frag
 mg:Str->Option Value
 base:Heap
 A:Around
 N:List Str
 s₀:Shared
 H₀:Hp
 env:Env
 outer:List Env
 stack:List Env
 ex:List Addr
 fn:Str->Bool
 calm:Bool
 pn:List (Addr×Obj)
 xe:Value->Shared->Prop
def frs(l:List Env):List Addr:=l.filterMap (·.frame)
abbrev Cx.fs(X:Cx):List Addr:=frs X.outer
def Vis(sc:Scope)(x:Str):Prop:=sc.names.lookup x=some .local\/sc.names.lookup x=some .cell\/sc.names.lookup x=some .free
def Loc(sc:Scope)(x:Str):Prop:=sc.names.lookup x=some .local\/sc.names.lookup x=some .cell
def Look(env:Env)(h:Heap)(m:Str->Option Value)(x:Str)(u:Value):Prop :=
 (env.kindOf x=some .local/\m x=some u)\/((env.kindOf x=some .cell\/env.kindOf x=some .free)/\∃c,env.cells.lookup x=some c/\h.IsCell c (some u))
structure Cx.Ok(X:Cx):Prop where
 mod:Mod X.K X.mg X.base
 kind:X.env.scope.kind=.function
 glob:X.env.globals=mainGlobals
 blt:X.env.builtins=builtinsNs
 above:X.s₀.heap.objs.size<=X.env.locals
 inj:∀x y c,X.env.cells.lookup x=some c->X.env.cells.lookup y=some c->x=y
 has:∀x,(X.env.kindOf x=some .cell\/X.env.kindOf x=some .free)->∃c,X.env.cells.lookup x=some c
 cab:∀x c,X.fn x=true->X.env.cells.lookup x=some c->X.s₀.heap.objs.size<=c
 hd:X.calm=true->X.A.handled=none
 frames:X.A.frames=some X.stack
 stk:X.stack=X.outer\/(X.stack=X.env::X.outer/\X.env.frame=some X.env.locals)
 exf:∀b∈X.ex,b≠X.env.locals/\∀x c,X.env.cells.lookup x=some c->c≠b
 bs:∀b o,X.base.get? b=some o->X.s₀.heap.get? b=some o/\X.H₀ b=none
 bsz:X.base.objs.size<=X.s₀.heap.objs.size
 noex:∀b o,X.base.get? b=some o->b∉X.ex
 exfs:∀b∈X.ex,b∉X.fs
 funs:X.s₀.heap.FunFrames X.base X.outer
 frf:∀b∈X.fs,X.H₀ b=none
structure Inv(X:Cx)(pins:List (Addr×Obj))(Z:List (Option V))(H:Hp)(s:Shared):Prop where
 ok:X.Ok
 os:s.os=X.s₀.os
 bare:AllBare s.gens
 base:Un X.fs X.ex X.H₀ H X.s₀.heap s.heap
 loc:∃m,s.heap.Ns X.env.locals m/\∀(i:Nat) (x:Str) (v:V),X.N[i]? = some x->Z[i]? = some (some v)->Vis X.env.scope x->∃u,RelV v u/\Look X.env s.heap m x u
 cell:∀x c,X.env.cells.lookup x=some c->∃v,s.heap.IsCell c v
 free:H X.env.locals=none
 freeC:∀x c,X.env.cells.lookup x=some c->H c=none\/(X.fn x=false/\∃o b,H c=some (.frz o (.own b)))
 pin:∀p∈X.pn++pins,s.heap.get? p.1=some p.2/\H p.1=none/\p.1≠X.env.locals/\p.1∉X.fs/\∀v,p.2.data ≠ .cell v
 hok:HOk X.prog X.w H s.heap
 len:Z.length=X.N.length
section
variable {X:Cx} {pins:List (Addr×Obj)} {Z:List (Option V)} {H H':Hp} {s:Shared} {h':Heap}
theorem Cx.Ok.nofr(ok:X.Ok){b:Addr}{o:Obj}(e:X.base.get? b=some o):b∉X.fs:=fun hb=>by
 have:=(ok.funs.mem hb).1
 rw[e] at this;cases this
theorem Inv.bs(I:Inv X pins Z H s):∀b o,X.base.get? b=some o->s.heap.get? b=some o/\H b=none:=fun b o e =>
 ⟨I.base.keep b o (I.ok.bs b o e).1 (I.ok.bs b o e).2 (I.ok.nofr e) (I.ok.noex b o e),I.base.free b o (I.ok.bs b o e).1 (I.ok.bs b o e).2 (I.ok.noex b o e)⟩
theorem Inv.bk(I:Inv X pins Z H s):∀b o,X.base.get? b=some o->s.heap.get? b=some o:=fun b o e=>(I.bs b o e).1
theorem Inv.mod(I:Inv X pins Z H s):Mod X.K X.mg X.base:=I.ok.mod
theorem Inv.kIn(I:Inv X pins Z H s):X.K.In s.heap:=I.ok.mod.kin.keeps I.bk
theorem Inv.lt(I:Inv X pins Z H s):X.env.locals<s.heap.objs.size:=let⟨_,hn,_⟩:=I.loc;hn.lt
theorem Inv.sz(I:Inv X pins Z H s):X.s₀.heap.objs.size<=s.heap.objs.size:=Nat.le_trans I.ok.above (Nat.le_of_lt I.lt)
theorem Inv.nofs(I:Inv X pins Z H s){a:Addr}(h:s.heap.objs.size<=a):a∉X.fs:=fun hb=>by
 obtain⟨_,o,ho,_⟩:=I.ok.funs.mem hb
 exact absurd (Nat.lt_of_lt_of_le (Heap.lt_size ho) (Nat.le_trans I.sz h)) (Nat.lt_irrefl _)
theorem Inv.cne(I:Inv X pins Z H s):∀x c,X.env.cells.lookup x=some c->c≠X.env.locals:=fun x c e z=>by
 obtain⟨v,o,ho,hd⟩:=I.cell x c e
 obtain⟨m,⟨o',es,ep,ho',hd',_⟩,_⟩:=I.loc
 rw[z,ho'] at ho;cases ho;rw[hd'] at hd;cases hd
theorem Inv.funs(I:Inv X pins Z H s):s.heap.FunFrames X.base X.outer:=by
 have all:∀(l:List Env),(∀b∈frs l,b∈X.fs)->X.s₀.heap.FunFrames X.base l->s.heap.FunFrames X.base l:=by
  intro l
  induction l with
  | nil=>intro _ _;trivial
  | cons env r ih =>
   intro hs hl
   obtain⟨hk,⟨L,o,hf,hn,ho,hd⟩,hr⟩:=hl
   have hL:L∈X.fs:=hs L (by unfold frs;rw[List.filterMap_cons,hf];exact List.mem_cons_self)
   obtain⟨sl,e⟩:=I.base.slot L o ho (I.ok.frf L hL) hL fun z=>I.ok.exfs L z hL
   exact⟨hk,⟨L,_,hf,hn,e,hd⟩,ih (fun b hb=>hs b (by unfold frs;rw[List.filterMap_cons,hf];exact List.mem_cons_of_mem _ hb)) hr⟩
 exact all X.outer (fun _ hb=>hb) I.ok.funs
theorem Inv.stack(I:Inv X pins Z H s):s.heap.FunFrames X.base X.stack:=by
 rcases I.ok.stk with e |⟨e,hf⟩
 ·rw[e];exact I.funs
 ·rw[e]
  obtain⟨m,hn,_⟩:=I.loc
  refine .cons (by rw[I.ok.kind];decide) hf hn ?_ I.funs
  exact Heap.get?_none_of_le (Nat.le_trans I.ok.bsz I.ok.above)
theorem Inv.stkSub(I:Inv X pins Z H s):∀b∈frs X.stack,b∈X.env.locals::X.fs:=fun b hb=>by
 rcases I.ok.stk with e |⟨e,hf⟩
 ·rw[e] at hb;exact List.mem_cons_of_mem _ hb
 ·rw[e] at hb
  unfold frs at hb
  rw[List.filterMap_cons,hf] at hb
  exact hb
theorem Inv.stkFree(I:Inv X pins Z H s):∀b∈frs X.stack,H b=none:=fun b hb=>by
 rcases List.mem_cons.mp (I.stkSub b hb) with e |hb
 ·rw[e];exact I.free
 ·obtain⟨_,o,ho,_⟩:=I.ok.funs.mem hb
  exact I.base.free b o ho (I.ok.frf b hb) fun z=>I.ok.exfs b z hb
theorem Inv.step{g':Array GenState}{t':Nat}{d':Drawn}{ch:List Addr}(I:Inv X pins Z H s)
  (hch:∀b∈ch,(b∈X.ex\/X.s₀.heap.objs.size<=b)/\b≠X.env.locals/\(∀x c,X.env.cells.lookup x=some c->c≠b)/\∀p∈X.pn++pins,p.1≠b)
  (keep:∀b o,b≠X.env.locals->b∉X.fs->b∉ch->s.heap.get? b=some o->H b=none->h'.get? b=some o)
  (slot:∀b o,b≠X.env.locals->b∈X.fs->b∉ch->s.heap.get? b=some o->H b=none->∃sl,h'.get? b=some { o with slots:=sl }) (free:∀b o,b∉ch->s.heap.get? b=some o->H b=none->H' b=none)
  (there:∀b o,b∉ch->s.heap.get? b=some o->∃o',h'.get? b=some o')
  (tups:∀b xs,H b=some (.tup xs)->H' b=some (.tup xs)) (frzs:∀b o u,H b=some (.frz o u)->H' b=some (.frz o u)) (tbls:∀b ps,H b=some (.tbl ps)->∃more,H' b=some (.tbl (ps++more)))
  (ns:∀m,s.heap.Ns X.env.locals m->h'.Ns X.env.locals m) (hok:HOk X.prog X.w H' h') (hg:AllBare g') :
  Inv X pins Z H' { s with heap:=h',gens:=g',drawn:=d',toks:=t' }:=by
 have neL:∀b o,X.s₀.heap.get? b=some o->b≠X.env.locals:=fun b o e=>Nat.ne_of_lt (Nat.lt_of_lt_of_le (Heap.lt_size e) I.ok.above)
 have neC:∀b o,X.s₀.heap.get? b=some o->b∉X.ex->b∉ch:=fun b o e hx hb=>by
  rcases (hch b hb).1 with z |z
  ·exact hx z
  ·exact absurd (Nat.lt_of_lt_of_le (Heap.lt_size e) z) (Nat.lt_irrefl _)
 have cellK:∀x c,X.env.cells.lookup x=some c->∀v,s.heap.IsCell c v->h'.IsCell c v:=fun x c e v hw'=>by
  obtain⟨o,ho,hd⟩:=hw'
  have nch:c∉ch:=fun z=>(hch c z).2.2.1 x c e rfl
  rcases I.freeC x c e with fc |⟨_,o1,b1,fc⟩
  ·by_cases hc:c∈X.fs
   ·obtain⟨sl,q⟩:=slot c o (I.cne x c e) hc nch ho fc
    exact⟨_,q,hd⟩
   ·exact⟨o,keep c o (I.cne x c e) hc nch ho fc,hd⟩
  ·obtain⟨e1,_⟩:=I.hok c _ fc
   obtain⟨e2,_⟩:=hok c _ (frzs c _ _ fc)
   rw[ho] at e1
   cases e1
   exact⟨o,e2,hd⟩
 refine⟨I.ok,I.os,hg,⟨fun b o e n hb hx=>?_,fun b o e n hb hx=>?_,fun b o e n hx=>?_,fun b o e hx=>?_,fun b xs e=>tups b xs (I.base.tups b xs e),fun b o xs e=>frzs b o xs (I.base.frzs b o xs e),fun b ps e=>?_⟩,?_,fun x c e=>?_,?_,fun x c e=>?_,fun p hp=>?_,hok,I.len⟩
 ·exact keep b o (neL b o e) hb (neC b o e hx) (I.base.keep b o e n hb hx) (I.base.free b o e n hx)
 ·obtain⟨sl,e1⟩:=I.base.slot b o e n hb hx
  obtain⟨sl',e2⟩:=slot b _ (neL b o e) hb (neC b o e hx) e1 (I.base.free b o e n hx)
  exact⟨sl',e2⟩
 ·obtain⟨o',e1⟩:=I.base.there b o e hx
  exact free b o' (neC b o e hx) e1 (I.base.free b o e n hx)
 ·obtain⟨o',e1⟩:=I.base.there b o e hx
  exact there b o' (neC b o e hx) e1
 ·obtain⟨m1,e1⟩:=I.base.tbls b ps e
  obtain⟨m2,e2⟩:=tbls b _ e1
  exact⟨m1++m2,by rw[e2,Array.append_assoc]⟩
 ·obtain⟨m,hn,hl⟩:=I.loc
  refine⟨m,ns m hn,fun i x v e1 e2 e3=>?_⟩
  obtain⟨u,r,l⟩:=hl i x v e1 e2 e3
  refine⟨u,r,?_⟩
  rcases l with l |⟨k,c,e,z⟩
  ·exact .inl l
  ·exact .inr ⟨k,c,e,cellK x c e _ z⟩
 ·obtain⟨v,z⟩:=I.cell x c e
  exact⟨v,cellK x c e v z⟩
 ·obtain⟨m,⟨o,_,_,ho,_⟩,_⟩:=I.loc
  exact free _ o (fun z=>(hch _ z).2.1 rfl) ho I.free
 ·obtain⟨v,o,ho,hd⟩:=I.cell x c e
  rcases I.freeC x c e with fc |⟨q1,o1,b1,fc⟩
  ·exact .inl (free c o (fun z=>(hch c z).2.2.1 x c e rfl) ho fc)
  ·exact .inr ⟨q1,o1,b1,frzs _ _ _ fc⟩
 ·obtain⟨e,n,ne,nf,d⟩:=I.pin p hp
  have nch:p.1∉ch:=fun z=>(hch p.1 z).2.2.2 p hp rfl
  exact⟨keep p.1 p.2 ne nf nch e n,free p.1 p.2 nch e n,ne,nf,d⟩
theorem Inv.un{t':Nat}(I:Inv X pins Z H s)(u:Un X.fs [] H H' s.heap h')(hok:HOk X.prog X.w H' h'):Inv X pins Z H' { s with heap:=h',toks:=t' }:=by
 obtain⟨m,⟨o,es,ep,ho,r⟩,_⟩:=id I.loc
 obtain⟨sl,hL⟩:=u.any ho I.free (by simp)
 exact I.step (g':=s.gens) (d':=s.drawn) (ch:=[]) (fun _ z=>nomatch z) (fun b o _ hb _ e n=>u.keep b o e n hb (by simp)) (fun b o _ hb _ e n=>u.slot b o e n hb (by simp)) (fun b o _ e n=>u.free b o e n (by simp)) (fun b o _ e=>u.there b o e (by simp)) u.tups u.frzs u.tbls (fun m' hm=>by
  obtain⟨o',es',ep',ho',r'⟩:=hm
  rw[ho] at ho';cases ho'
  exact⟨_,es',ep',hL,r'⟩) hok I.bare
theorem Inv.call{g':Array GenState}{t':Nat}{d':Drawn}{ch:List Addr}(I:Inv X pins Z H s)(u:Un (frs X.stack) ch H H' s.heap h')(hok:HOk X.prog X.w H' h')(hg:AllBare g')
  (hch:∀b∈ch,(b∈X.ex\/X.s₀.heap.objs.size<=b)/\b≠X.env.locals/\(∀x c,X.env.cells.lookup x=some c->c≠b)/\∀p∈X.pn++pins,p.1≠b) :
  Inv X pins Z H' { s with heap:=h',gens:=g',drawn:=d',toks:=t' }:=by
 obtain⟨m,⟨o,es,ep,ho,r⟩,_⟩:=id I.loc
 obtain⟨sl,hL⟩:=u.any ho I.free fun z=>(hch _ z).2.1 rfl
 exact I.step (ch:=ch) hch (fun b o hL hb hc e n=>u.keep b o e n (fun z=>(List.mem_cons.mp (I.stkSub b z)).elim hL hb) hc) (fun b o _ _ hc e n=>u.any e n hc) (fun b o hc e n=>u.free b o e n hc) (fun b o hc e=>u.there b o e hc) u.tups u.frzs u.tbls (fun m' hm=>by
  obtain⟨o',es',ep',ho',r'⟩:=hm
  rw[ho] at ho';cases ho'
  exact⟨_,es',ep',hL,r'⟩) hok hg
theorem Inv.turned{t':Nat}{it:Addr}(I:Inv X pins Z H s)(k:∀b o,b≠it->s.heap.get? b=some o->h'.get? b=some o)(hn:H it=none)(hL:it≠X.env.locals)
  (h1:it∈X.ex\/X.s₀.heap.objs.size<=it) (h2:∀x c,X.env.cells.lookup x=some c->c≠it) (h3:∀p∈X.pn++pins,p.1≠it):Inv X pins Z H { s with heap:=h',toks:=t' }:=by
 have nit:∀b u,H b=some u->b≠it:=fun b u e z=>by rw[z,hn] at e;cases e
 refine I.step (g':=s.gens) (d':=s.drawn) (ch:=[it]) (fun b hb=>?_) (fun b o _ _ hc e _=>k b o (fun z=>hc (by simp[z])) e) (fun b o _ _ hc e _=>⟨o.slots,k b o (fun z=>hc (by simp[z])) e⟩) (fun _ _ _ _ n=>n)
  (fun b o hc e=>⟨o,k b o (fun z=>hc (by simp[z])) e⟩) (fun _ _ e=>e) (fun _ _ _ e=>e) (fun b ps e=>⟨#[],by rw[e];simp⟩) (fun m hm=>?_) (fun b u e=>?_) I.bare
 ·have e:b=it:=by simpa using hb
  subst e
  exact⟨h1,hL,h2,h3⟩
 ·obtain⟨o,es,ep,ho,r⟩:=hm
  exact⟨o,es,ep,k _ o (Ne.symm hL) ho,r⟩
 ·refine(I.hok b u e).stay (fun c v hc q=>k c v ?_ q) (fun _ q=>q) fun _ _ q=>q
  rcases hc with z |z
  ·rw[z];exact nit b u e
  ·exact nit c _ z
theorem Inv.tok(I:Inv X pins Z H s)(t:Nat):Inv X pins Z H { s with toks:=t }:=I.un (h':=s.heap) (t':=t) Un.refl I.hok
theorem Inv.kept{t':Nat}(I:Inv X pins Z H s)(k:∀b u,s.heap.get? b=some u->h'.get? b=some u):Inv X pins Z H { s with heap:=h',toks:=t' }:=I.un (Un.kept k) (I.hok.kept k)
theorem Inv.laid{a:Addr}{o:HO}{t':Nat}(I:Inv X pins Z H s)(k:∀b u,s.heap.get? b=some u->h'.get? b=some u)(hp:s.heap.objs.size<=a)(new:bV X.prog X.w (upd H a o) h' a o) :
  Inv X pins Z (upd H a o) { s with heap:=h',toks:=t' }:=I.un (Un.laid k hp (I.hok.fresh hp)) (I.hok.laid k hp new)
theorem Inv.write{x e:Addr}{o:HO}{t':Nat}(I:Inv X pins Z H s)(mu:Mut (H x))(he:e=x\/H e=some (.own x))(k:∀b u,b≠e->s.heap.get? b=some u->h'.get? b=some u)(heo:∃u,h'.get? e=some u)
  (new:bV X.prog X.w (upd H x o) h' x o):Inv X pins Z (upd H x o) { s with heap:=h',toks:=t' }:=I.un (Un.write mu he k heo) (I.hok.write mu he k heo new)
theorem Inv.pins_of{pins':List (Addr×Obj)}(I:Inv X pins Z H s)(h:∀p∈pins',s.heap.get? p.1=some p.2/\H p.1=none/\p.1≠X.env.locals/\p.1∉X.fs/\∀v,p.2.data ≠ .cell v):Inv X pins' Z H s :=
 ⟨I.ok,I.os,I.bare,I.base,I.loc,I.cell,I.free,I.freeC,fun p hp=>(List.mem_append.mp hp).elim (fun z=>I.pin p (List.mem_append_left _ z)) (h p),I.hok,I.len⟩
theorem zT{N:List Str}(hN:N.Nodup){i j:Nat}{x:Str}(a:N[i]? = some x)(b:N[j]? = some x):i=j:=by
 obtain⟨h1,e1⟩:=List.getElem?_eq_some_iff.mp a
 obtain⟨h2,e2⟩:=List.getElem?_eq_some_iff.mp b
 exact(List.getElem_inj hN).mp (e1.trans e2.symm)
theorem rH{M:Model}{A:Around}{E:Value->Shared->Prop}{i:Nat}{x:Str}{v:V}{u:Value}{Q:Unit->Shared->Prop}(I:Inv X pins Z H s)(hN:X.N.Nodup)(hi:X.N[i]? = some x)(hx:Loc X.env.scope x)(r:RelV v u)
  (h:∀s',Inv X pins (Z.set i (some v)) H s'->(∃a,Heap.SameBut a s.heap s'.heap/\(a=X.env.locals\/X.env.cells.lookup x=some a))->Q () s') (hf:X.fn x=true\/X.env.scope.names.lookup x=some .local:=by first |exact .inl rfl |exact .inr rfl |assumption):wpAny M A (storeName X.env x u) Q E s:=by
 obtain⟨m,hn,hl⟩:=id I.loc
 have hcls:(X.env.scope.kind == .class || (X.env.scope.kind == .module && X.env.locals != X.env.globals))=false:=by rw[I.ok.kind];rfl
 have hiZ:i<Z.length:=by rw[I.len];exact(List.getElem?_eq_some_iff.mp hi).1
 have cne:=I.cne
 have tracked:∀{a:Addr} {h':Heap},(∃o,s.heap.get? a=some o/\H a=none)->Heap.SameBut a s.heap h'->HOk X.prog X.w H h':=fun {a h'} ha hs b ob e=>by
  obtain⟨_,_,hfree⟩:=ha
  refine(I.hok b ob e).stay (fun c w' hc q=>(hs.2 c ?_).trans q) (fun _ q=>q) fun _ _ q=>q
  rintro rfl
  rcases hc with rfl |hc
  ·rw[hfree] at e;cases e
  ·rw[hfree] at hc;cases hc
 rcases hx with hk |hk
 ·refine wpAny_storeName_local hk hn (fun h' hn' hs=>?_) hcls
  obtain⟨oL,_,_,hoL,_⟩:=id hn
  refine h _ ⟨I.ok,I.os,I.bare,⟨fun b o e n hb hx=>?_,fun b o e n hb hx=>?_,I.base.free,fun b o e hx=>?_,I.base.tups,I.base.frzs,I.base.tbls⟩,⟨_,hn',fun j y v' e1 e2 e3=>?_⟩,fun y c e=>?_,I.free,I.freeC,fun p hp=>?_,tracked ⟨oL,hoL,I.free⟩ hs,by simpa using I.len⟩ ⟨_,hs,.inl rfl⟩
  ·exact(hs.2 b (Nat.ne_of_lt (Nat.lt_of_lt_of_le (Heap.lt_size e) I.ok.above))).trans (I.base.keep b o e n hb hx)
  ·obtain⟨sl,e1⟩:=I.base.slot b o e n hb hx
   exact⟨sl,(hs.2 b (Nat.ne_of_lt (Nat.lt_of_lt_of_le (Heap.lt_size e) I.ok.above))).trans e1⟩
  ·obtain⟨o',e1⟩:=I.base.there b o e hx
   exact⟨o',(hs.2 b (Nat.ne_of_lt (Nat.lt_of_lt_of_le (Heap.lt_size e) I.ok.above))).trans e1⟩
  ·by_cases hj:j=i
   ·subst hj
    rw[hi] at e1;cases e1
    rw[List.getElem?_set_self hiZ] at e2
    cases e2
    exact⟨u,r,.inl ⟨hk,by simp⟩⟩
   ·rw[List.getElem?_set_ne (Ne.symm hj)] at e2
    obtain⟨u',r',q⟩:=hl j y v' e1 e2 e3
    refine⟨u',r',?_⟩
    rcases q with⟨k,e⟩ |⟨k,c,e,z⟩
    ·refine .inl ⟨k,?_⟩
     have:y≠x:=fun e=>hj (zT hN e1 (e ▸ hi))
     simp[this,e]
    ·exact .inr ⟨k,c,e,z.sameBut hs (cne y c e)⟩
  ·obtain⟨w',z⟩:=I.cell y c e
   exact⟨w',z.sameBut hs (cne y c e)⟩
  ·obtain⟨e,n,ne,nf,d⟩:=I.pin p hp
   exact⟨(hs.2 p.1 ne).trans e,n,ne,nf,d⟩
 ·have hfn:X.fn x=true:=by
   rcases hf with z |z
   ·exact z
   ·rw[z] at hk;cases hk
  obtain⟨c,hc⟩:=I.ok.has x (.inl hk)
  obtain⟨w',z⟩:=I.cell x c hc
  refine wpAny_storeName_cell I.ok.kind hk hc z (fun h' hc' hs=>?_)
  obtain⟨oc,hoc,hocd⟩:=id z
  have hHc:H c=none:=(I.freeC x c hc).elim id fun z=>by rw[z.1] at hfn;cases hfn
  refine h { s with heap:=h' } ⟨I.ok,I.os,I.bare,⟨fun b o e n hb hx=>?_,fun b o e n hb hx=>?_,I.base.free,fun b o e hx=>?_,I.base.tups,I.base.frzs,I.base.tbls⟩,⟨m,hn.sameBut hs (Ne.symm (cne x c hc)),fun j y v' e1 e2 e3=>?_⟩,fun y c' e=>?_,I.free,I.freeC,fun p hp=>?_,tracked ⟨oc,hoc,hHc⟩ hs,by simpa using I.len⟩ ⟨c,hs,.inr hc⟩
  ·exact(hs.2 b (Nat.ne_of_lt (Nat.lt_of_lt_of_le (Heap.lt_size e) (I.ok.cab x c hfn hc)))).trans (I.base.keep b o e n hb hx)
  ·obtain⟨sl,e1⟩:=I.base.slot b o e n hb hx
   exact⟨sl,(hs.2 b (Nat.ne_of_lt (Nat.lt_of_lt_of_le (Heap.lt_size e) (I.ok.cab x c hfn hc)))).trans e1⟩
  ·obtain⟨o',e1⟩:=I.base.there b o e hx
   exact⟨o',(hs.2 b (Nat.ne_of_lt (Nat.lt_of_lt_of_le (Heap.lt_size e) (I.ok.cab x c hfn hc)))).trans e1⟩
  ·by_cases hj:j=i
   ·subst hj
    rw[hi] at e1;cases e1
    rw[List.getElem?_set_self hiZ] at e2
    cases e2
    exact⟨u,r,.inr ⟨.inl hk,c,hc,hc'⟩⟩
   ·rw[List.getElem?_set_ne (Ne.symm hj)] at e2
    obtain⟨u',r',q⟩:=hl j y v' e1 e2 e3
    refine⟨u',r',?_⟩
    rcases q with q |⟨k,c',e,z'⟩
    ·exact .inl q
    ·refine .inr ⟨k,c',e,z'.sameBut hs ?_⟩
     rintro rfl
     exact hj (zT hN e1 (I.ok.inj _ _ _ e hc ▸ hi))
  ·by_cases hcc:c'=c
   ·subst hcc;exact⟨_,hc'⟩
   ·obtain⟨w2,z2⟩:=I.cell y c' e
    exact⟨w2,z2.sameBut hs hcc⟩
  ·obtain⟨e,n,ne,nf,d⟩:=I.pin p hp
   refine⟨(hs.2 p.1 ?_).trans e,n,ne,nf,d⟩
   intro q
   rw[q,hoc] at e
   have q':oc=p.2:=Option.some.inj e
   exact d w' (by rw[<-q'];exact hocd)
theorem zU{M:Model}{A:Around}{E:Value->Shared->Prop}{i:Nat}{x:Str}{v:V}{u:Value}{Q:Unit->Shared->Prop}(I:Inv X pins Z H s)(hN:X.N.Nodup)(hi:X.N[i]? = some x)(hx:Loc X.env.scope x)(r:RelV v u)
  (h:∀s',Inv X pins (Z.set i (some v)) H s'->Q () s') (hf:X.fn x=true\/X.env.scope.names.lookup x=some .local:=by first |exact .inl rfl |exact .inr rfl |assumption):wpAny M A (storeName X.env x u) Q E s :=
 rH I hN hi hx r (fun s' I' _=>h s' I') hf
theorem Inv.call'{s':Shared}{ch:List Addr}(I:Inv X pins Z H s)(ho:s'.os=s.os)(u:Un (frs X.stack) ch H H' s.heap s'.heap)(hok:HOk X.prog X.w H' s'.heap)(hg:AllBare s'.gens)
  (hch:∀b∈ch,(b∈X.ex\/X.s₀.heap.objs.size<=b)/\b≠X.env.locals/\(∀x c,X.env.cells.lookup x=some c->c≠b)/\∀p∈X.pn++pins,p.1≠b):Inv X pins Z H' s':=by
 obtain⟨h',g',d',t',o'⟩:=s'
 have e:o'=s.os:=ho
 subst e
 exact I.call (g':=g') (t':=t') (d':=d') u hok hg hch
end
abbrev XK:=Value->Option Addr->Hp->Prop
abbrev St:=List (Option V)
abbrev VK:=V->Hp->Prop
abbrev TE:=St->Hp->VK->Prop
abbrev TT:=St->Hp->(Bool->Hp->Prop)->Prop
abbrev TA:=St->Hp->(List V->Hp->Prop)->Prop
structure Ends where
 nx:St->Hp->Prop
 rt:VK
 bk:St->Hp->Prop:=fun _ _=>False
 ct:St->Hp->Prop:=fun _ _=>False
abbrev TS:=Ends->St->Hp->Prop
def EP(X:Cx)(pins:List (Addr×Obj))(Z:St)(Q:VK)(u:Value)(s':Shared):Prop:=∃v H',Inv X pins Z H' s'/\RelV v u/\Q v H'
def TP(X:Cx)(pins:List (Addr×Obj))(Z:St)(Q:Bool->Hp->Prop)(b:Bool)(s':Shared):Prop:=∃H',Inv X pins Z H' s'/\Q b H'
def AP(X:Cx)(pins:List (Addr×Obj))(Z:St)(Q:List V->Hp->Prop)(us:List Value)(s':Shared):Prop:=∃vs H',Inv X pins Z H' s'/\Vals vs us/\Q vs H'
def SP(X:Cx)(pins:List (Addr×Obj))(D:Ends)(f:Flow)(s':Shared):Prop :=
 match f with
 | .next=>∃Z' H',Inv X pins Z' H' s'/\D.nx Z' H'
 | .brk=>∃Z' H',Inv X pins Z' H' s'/\D.bk Z' H'
 | .cont=>∃Z' H',Inv X pins Z' H' s'/\D.ct Z' H'
 | .ret u=>∃v Z' H',Inv X pins Z' H' s'/\RelV v u/\D.rt v H'
def PE(X:Cx)(e:Expr)(t:TE):Prop :=
 ∀(pins:List (Addr×Obj)) (s:Shared) (Z:St) (H:Hp) (Q:VK),Inv X pins Z H s->t Z H Q->wpAny (model X.prog X.w) X.A (eval e X.env) (EP X pins Z Q) X.xe s
def PT(X:Cx)(e:Expr)(t:TT):Prop :=
 ∀(pins:List (Addr×Obj)) (s:Shared) (Z:St) (H:Hp) (Q:Bool->Hp->Prop),Inv X pins Z H s->t Z H Q->wpAny (model X.prog X.w) X.A (isTrue e X.env (eval e X.env)) (TP X pins Z Q) X.xe s
def PW(X:Cx)(e:Expr)(t:TT):Prop :=
 ∀(whole:Sem Value) (pins:List (Addr×Obj)) (s:Shared) (Z:St) (H:Hp) (Q:Bool->Hp->Prop),Inv X pins Z H s->t Z H Q->wpAny (model X.prog X.w) X.A (isTrue e X.env whole) (TP X pins Z Q) X.xe s
theorem PW.pt{X:Cx}{e:Expr}{t:TT}(h:PW X e t):PT X e t:=h _
def PA(X:Cx)(es:List Expr)(t:TA):Prop :=
 ∀(pos:Pos) (pins:List (Addr×Obj)) (s:Shared) (Z:St) (H:Hp) (Q:List V->Hp->Prop),Inv X pins Z H s->t Z H Q->wpAny (model X.prog X.w) X.A (spliced (backTo pos (starEach es X.env))) (AP X pins Z Q) X.xe s
def PS(X:Cx)(st:Stmt)(t:TS):Prop :=
 ∀(pins:List (Addr×Obj)) (s:Shared) (Z:St) (H:Hp) (D:Ends),Inv X pins Z H s->t D Z H->wpAny (model X.prog X.w) X.A (exec st X.env) (SP X pins D) X.xe s
def PSs(X:Cx)(st:List Stmt)(t:TS):Prop :=
 ∀(pins:List (Addr×Obj)) (s:Shared) (Z:St) (H:Hp) (D:Ends),Inv X pins Z H s->t D Z H->wpAny (model X.prog X.w) X.A (execs st X.env) (SP X pins D) X.xe s
theorem thn{α:Type}{t:Sem α}{Q Q':α->Shared->Prop}{M:Model}{A:Around}{E:Value->Shared->Prop}{s:Shared}(h:wpAny M A t Q E s)(hQ:∀a s,Q a s->Q' a s):wpAny M A t Q' E s:=wpAny_mono h hQ fun _ _ x=>x
end L2
namespace L2
open PySem PySem.Spec PyProof.Rows
section
variable {X:Cx}
def xu(i:Nat):TE:=fun Z H Q=>∃v,Z[i]? = some (some v)/\Q v H
def tC(v:V):TE:=fun _ H Q=>Q v H
theorem Qd{i:Nat}{x:Str}{pos:Pos}(hN:X.N[i]? = some x)(hv:Vis X.env.scope x)(hd:(x==("__debug__":Str))=false:=by decide)(hcd:(x==("__classdict__":Str))=false:=by decide):PE X (.Name x pos) (xu i):=by
 intro pins s Z H Q I h
 obtain⟨v,e,h⟩:=h
 obtain⟨m,hn,hl⟩:=I.loc
 obtain⟨u,r,l⟩:=hl i x v hN e hv
 have fin:EP X pins Z Q u s:=⟨v,H,I,r,h⟩
 rcases l with⟨hk,hm⟩ |⟨hk,c,hc,hcell⟩
 ·exact wpAny_Name (wpAny_loadName_local I.ok.kind hk hn hm fin) hd
 ·rcases hk with hk |hk
  ·exact wpAny_Name (wpAny_loadName_cell I.ok.kind hk hc hcell fin) hd
  ·exact wpAny_Name (wpAny_loadName_free I.ok.kind hk hc hcell fin hcd) hd
theorem Qe{i j pos}:PE X (.Constant (.int i) j pos) (tC (.int i)):=fun _ _ _ H _ I h=>wpAny_Constant_int ⟨.int i,H,I.tok _,⟨_,rfl⟩,h⟩
theorem RX{b j pos}:PE X (.Constant (.bool b) j pos) (tC (.bl b)):=fun _ _ _ H _ I h=>Constant_bool ⟨.bl b,H,I,rfl,h⟩
theorem Gs{j pos}:PE X (.Constant .none j pos) (tC .non):=fun _ _ _ H _ I h=>Constant_none ⟨.non,H,I,rfl,h⟩
theorem zV{x j pos}:PE X (.Constant (.str x) j pos) (tC (.str x)):=fun _ _ _ H _ I h=>Calls.Constant_str ⟨.str x,H,I.tok _,⟨_,rfl⟩,h⟩
def Gl(X:Cx)(x:Str):Prop:=X.env.kindOf x=some .globalImplicit
theorem lR{E:Value->Shared->Prop}{pins:List (Addr×Obj)}{s:Shared}{Z:St}{H:Hp}{x:Str}{u:Value}{pos:Pos}{Q:Value->Shared->Prop}(I:Inv X pins Z H s)(hg:Gl X x)(hm:X.mg x=some u)(h:Q u s)
  (hd:(x==("__debug__":Str))=false:=by decide):wpAny (model X.prog X.w) X.A (eval (.Name x pos) X.env) Q E s :=
 Calls.Name_function_global I.ok.kind hg (Calls.loadGlobal_global (by rw[I.ok.glob];exact I.mod.glob.keeps I.bk) hm h) hd
theorem nW{E:Value->Shared->Prop}{pins:List (Addr×Obj)}{s:Shared}{Z:St}{H:Hp}{x:Str}{u:Value}{pos:Pos}{Q:Value->Shared->Prop}(I:Inv X pins Z H s)(hg:Gl X x)(hm:X.mg x=none)(hv:bootBuiltins x=some u)(h:Q u s)
  (hn:x ≠ "__name__":=by decide) (hd:(x==("__debug__":Str))=false:=by decide):wpAny (model X.prog X.w) X.A (eval (.Name x pos) X.env) Q E s:=by
 obtain⟨mb,h1,h2⟩:=I.mod.blt
 exact Calls.Name_function_global I.ok.kind hg (Calls.loadGlobal_builtin (by rw[I.ok.glob];exact I.mod.glob.keeps I.bk) hm (by rw[I.ok.blt];exact h1.keeps I.bk) ((h2 x hn).trans hv) h) hd
theorem jE{x:Str}{v:V}{u:Value}{pos:Pos}(hg:Gl X x)(hm:X.mg x=some u)(r:RelV v u)(hd:(x==("__debug__":Str))=false:=by decide):PE X (.Name x pos) (tC v) :=
 fun _ _ _ H _ I h=>lR I hg hm ⟨v,H,I,r,h⟩ hd
theorem cL{x:Str}{v:V}{u:Value}{pos:Pos}(hg:Gl X x)(hm:X.mg x=none)(hv:bootBuiltins x=some u)(r:RelV v u)(hn:x ≠ "__name__":=by decide)(hd:(x==("__debug__":Str))=false:=by decide):PE X (.Name x pos) (tC v) :=
 fun _ _ _ H _ I h=>nW I hg hm hv ⟨v,H,I,r,h⟩ hn hd
variable {a b:Expr} {ta tb:TE} {pos:Pos}
def PC(X:Cx)(op:CmpOp)(a b:Expr)(t:TE):Prop :=
 ∀(pins:List (Addr×Obj)) (s:Shared) (Z:St) (H:Hp) (Q:VK),Inv X pins Z H s->t Z H Q ->
  wpAny (model X.prog X.w) X.A (eval a X.env) (fun v s₁=>wpAny (model X.prog X.w) X.A (eval b X.env) (fun u s₂=>wpAny (model X.prog X.w) X.A (compareOp op v u) (EP X pins Z Q) X.xe s₂) X.xe s₁) X.xe s
def tB(t:TE):TT:=fun Z H Q=>t Z H fun x H1=>∃c,x=.bl c/\Q c H1
theorem Gu{op:CmpOp}{t:TE}(h:PC X op a b t)(h1:behindInMarks op b=false:=by first |exact nobehind _ (by decide) (by decide) |rfl):PT X (.Compare a [op] [b] pos) (tB t):=by
 intro pins s Z H Q I hw
 refine wpAny_isTrue_Compare1 (thn (h pins s Z H _ I hw) fun v s1 h1=>thn h1 fun u s2 h2=>thn h2 fun c s3 hw'=>?_) h1
 obtain⟨x,H1,I1,r1,q1⟩:=hw'
 obtain⟨d,rfl,q⟩:=q1
 cases r1
 exact wpAny_truthy_bool ⟨H1,I1,q⟩
theorem Qf{e:Expr}{t:TE}(h:PE X e t)(he:∀whole,isTrue e X.env whole=(do let v <-whole;standAt e.pos;holding [v] (truthy v)):=by intro _;rfl):PT X e (tB t):=by
 intro pins s Z H Q I hw
 refine isTrue_plain (thn (h pins s Z H _ I hw) fun v s1 ⟨x,H1,I1,r1,q1⟩=>?_) (he _)
 obtain⟨d,rfl,q⟩:=q1
 cases r1
 exact wpAny_truthy_bool ⟨H1,I1,q⟩
variable {tA tB':TT} {rest:List Expr}
def Qg(t u:TT):TT:=fun Z H Q=>t Z H fun c H1=>if c=true then u Z H1 Q else Q false H1
def tOr(t u:TT):TT:=fun Z H Q=>t Z H fun c H1=>if c=true then Q true H1 else u Z H1 Q
def TQ(t:TT):TT:=fun Z H Q=>t Z H fun c H1=>Q (!c) H1
theorem Mm(ha:PT X a tA):PW X (.BoolOp .And [a] pos) tA:=by
 intro wh pins s Z H Q I h
 refine isTrue_and (thn (ha pins s Z H Q I h) fun c s1 e=>?_)
 cases c with
 | true=>exact isTrue_and_nil e
 | false=>exact e
theorem Qh(ha:PT X a tA):PW X (.BoolOp .Or [a] pos) tA:=by
 intro wh pins s Z H Q I h
 refine isTrue_or (thn (ha pins s Z H Q I h) fun c s1 e=>?_)
 cases c with
 | false=>exact isTrue_or_nil e
 | true=>exact e
theorem Qi(ha:PT X a tA)(hb:PW X (.BoolOp .And (b::rest) pos) tB'):PW X (.BoolOp .And (a::b::rest) pos) (Qg tA tB'):=by
 intro wh pins s Z H Q I h
 refine isTrue_and (thn (ha pins s Z H _ I h) fun c s1 ⟨H1,I1,q1⟩=>?_)
 cases c with
 | true=>exact hb wh pins s1 Z H1 Q I1 q1
 | false=>exact⟨H1,I1,q1⟩
theorem RZ(ha:PT X a tA)(hb:PW X (.BoolOp .Or (b::rest) pos) tB'):PW X (.BoolOp .Or (a::b::rest) pos) (tOr tA tB'):=by
 intro wh pins s Z H Q I h
 refine isTrue_or (thn (ha pins s Z H _ I h) fun c s1 ⟨H1,I1,q1⟩=>?_)
 cases c with
 | true=>exact⟨H1,I1,q1⟩
 | false=>exact hb wh pins s1 Z H1 Q I1 q1
theorem Qj(ha:PT X a tA):PT X (.UnaryOp .Not a pos) (TQ tA):=by
 intro pins s Z H Q I h
 exact isTrue_not (ha pins s Z H (fun c H1=>Q (!c) H1) I h)
def R_(ta tb:TE):TE:=fun Z H Q=>ta Z H fun x H1=>∃c,x=.bl c/\if c=true then tb Z H1 Q else Q (.bl false) H1
def TV(ta tb:TE):TE:=fun Z H Q=>ta Z H fun x H1=>∃c,x=.bl c/\if c=true then Q (.bl true) H1 else tb Z H1 Q
def Sg(ta:TE):TE:=fun Z H Q=>ta Z H fun x H1=>∃c,x=.bl c/\Q (.bl (!c)) H1
theorem Qk{op}{t:TE}(h:PE X a t):PE X (.BoolOp op [a] pos) t:=fun pins s Z H Q I hw=>BoolOp_one (h pins s Z H Q I hw)
theorem Ql(ha:PE X a ta)(hb:PE X (.BoolOp .And (b::rest) pos) tb):PE X (.BoolOp .And (a::b::rest) pos) (R_ ta tb):=by
 intro pins s Z H Q I h
 refine BoolOp_and (thn (ha pins s Z H _ I h) fun v s1 hw'=>?_)
 obtain⟨x,H1,I1,r1,q1⟩:=hw'
 obtain⟨c,rfl,q1⟩:=q1
 cases r1
 refine wpAny_truthy_bool ?_
 cases c with
 | true=>exact hb pins s1 Z H1 Q I1 q1
 | false=>exact⟨.bl false,H1,I1,rfl,q1⟩
theorem Sh(ha:PE X a ta)(hb:PE X (.BoolOp .Or (b::rest) pos) tb):PE X (.BoolOp .Or (a::b::rest) pos) (TV ta tb):=by
 intro pins s Z H Q I h
 refine BoolOp_or (thn (ha pins s Z H _ I h) fun v s1 hw'=>?_)
 obtain⟨x,H1,I1,r1,q1⟩:=hw'
 obtain⟨c,rfl,q1⟩:=q1
 cases r1
 refine wpAny_truthy_bool ?_
 cases c with
 | false=>exact hb pins s1 Z H1 Q I1 q1
 | true=>exact⟨.bl true,H1,I1,rfl,q1⟩
theorem Qm(ha:PE X a ta):PE X (.UnaryOp .Not a pos) (Sg ta):=by
 intro pins s Z H Q I h
 refine UnaryOp_ (thn (ha pins s Z H _ I h) fun v s1 hw'=>?_)
 obtain⟨x,H1,I1,r1,q1⟩:=hw'
 obtain⟨c,rfl,q1⟩:=q1
 cases r1
 exact not_of (wpAny_truthy_bool ⟨.bl (!c),H1,I1,rfl,q1⟩)
end
end L2
namespace L2
open PySem PySem.Spec PyProof.Rows
def SqL(K:PySem.W.Frag)(H:Hp)(a:Addr)(xs:List V):Prop :=
 Rd H a (.lst xs) \/
  ∃(o:Obj) (its:Array Value) (n:Nat),K.lookup a=some o/\o.cls=.type "list" /\ o.dict=none/\o.data=.seq its n/\its.size<=sizeLine/\Vals xs its.toList
def SqT(K:PySem.W.Frag)(H:Hp)(a:Addr)(xs:List V):Prop :=
 Rd H a (.tup xs) \/
  ∃(o:Obj) (its:Array Value) (n:Nat),K.lookup a=some o/\o.cls=.type "tuple" /\ o.data=.seq its n/\its.size<=sizeLine/\Vals xs its.toList
def TX:Value->Option V
 | .none=>some .non
 | .bool b=>some (.bl b)
 | .int i _=>some (.int i)
 | .str x _=>some (.str x)
 | .bytes b _=>some (.byt b)
 | .float b _=>some (.flt b)
 | .ref a=>some (.ref a)
 | .type n=>some (.ty n)
 | _=>none
theorem RelV.abs{x:V}{u:Value}(r:RelV x u):TX u=some x:=by
 cases x with
 | non=>cases r;rfl
 | bl _=>cases r;rfl
 | int _=>obtain⟨t,rfl⟩:=r;rfl
 | str _=>obtain⟨t,rfl⟩:=r;rfl
 | byt _=>obtain⟨t,rfl⟩:=r;rfl
 | flt _=>obtain⟨t,rfl⟩:=r;rfl
 | ref _=>cases r;rfl
 | ty _=>cases r;rfl
theorem RelV.inj{x y:V}{u:Value}(r:RelV x u)(q:RelV y u):x=y:=Option.some.inj (r.abs.symm.trans q.abs)
theorem Vals.inj{xs ys:List V}{us:List Value}(h:Vals xs us)(h':Vals ys us):xs=ys:=by
 induction h generalizing ys with
 | nil=>cases h';rfl
 | cons r t ih =>
  cases h' with
  | cons r' t'=>rw[r.inj r',ih t']
section
variable {X:Cx} {pins:List (Addr×Obj)} {Z:St} {H:Hp} {s:Shared} {a:Addr} {xs ys:List V}
theorem SqL.of{K:PySem.W.Frag}(h:H a=some (.lst xs)):SqL K H a xs:=.inl (.inl h)
theorem SqT.of{K:PySem.W.Frag}(h:H a=some (.tup xs)):SqT K H a xs:=.inl (.inl h)
theorem Inv.list(I:Inv X pins Z H s)(h:SqL X.K H a xs):∃its:List Value,Vals xs its/\PlainL s.heap a its.toArray/\xs.length<=sizeLine:=by
 rcases h with h |⟨o,its,n,hk,hc,hd,hs,hz,r⟩
 ·obtain⟨z,its,n,r,e⟩:=h.ok I.hok
  exact⟨its,r,⟨_,n,e,rfl,rfl,rfl⟩,z⟩
 ·refine⟨its.toList,r,⟨o,n,I.kIn a o hk,hc,hd,by simpa using hs⟩,?_⟩
  have e:=r.length
  simp only[Array.length_toList] at e
  omega
theorem Inv.tuple(I:Inv X pins Z H s)(h:SqT X.K H a xs):∃its:List Value,Vals xs its/\IsTup s.heap a its.toArray/\xs.length<=sizeLine:=by
 rcases h with h |⟨o,its,n,hk,hc,hs,hz,r⟩
 ·obtain⟨z,its,r,p⟩:=h.ok I.hok
  exact⟨its,r,p,z⟩
 ·refine⟨its.toList,r,⟨o,I.kIn a o hk,hc,n,by simpa using hs⟩,?_⟩
  have e:=r.length
  simp only[Array.length_toList] at e
  omega
theorem Inv.list_inj(I:Inv X pins Z H s)(h:SqL X.K H a xs)(h':SqL X.K H a ys):xs=ys:=by
 obtain⟨its,r,⟨o,n,e,_,_,d⟩,_⟩:=I.list h
 obtain⟨its',r',⟨o',n',e',_,_,d'⟩,_⟩:=I.list h'
 rw[e] at e';cases e'
 rw[d] at d'
 injection d' with d1 _
 have:its=its':=by simpa using congrArg Array.toList d1
 subst this
 exact r.inj r'
theorem Inv.tuple_inj(I:Inv X pins Z H s)(h:SqT X.K H a xs)(h':SqT X.K H a ys):xs=ys:=by
 obtain⟨its,r,⟨o,e,_,n,d⟩,_⟩:=I.tuple h
 obtain⟨its',r',⟨o',e',_,n',d'⟩,_⟩:=I.tuple h'
 rw[e] at e';cases e'
 rw[d] at d'
 injection d' with d1 _
 have:its=its':=by simpa using congrArg Array.toList d1
 subst this
 exact r.inj r'
end
abbrev Cx.wish(X:Cx)(E:Value->Shared->Prop):Cx:={ X with xe:=E }
abbrev Cx.nox(X:Cx):Cx:=X.wish fun _ _=>False
theorem Cx.Ok.wish{X:Cx}(ok:X.Ok)(E:Value->Shared->Prop):(X.wish E).Ok :=
 ⟨ok.mod,ok.kind,ok.glob,ok.blt,ok.above,ok.inj,ok.has,ok.cab,ok.hd,ok.frames,ok.stk,ok.exf,ok.bs,ok.bsz,ok.noex,ok.exfs,ok.funs,ok.frf⟩
theorem Cx.Ok.unwish{X:Cx}{E:Value->Shared->Prop}(ok:(X.wish E).Ok):X.Ok :=
 ⟨ok.mod,ok.kind,ok.glob,ok.blt,ok.above,ok.inj,ok.has,ok.cab,ok.hd,ok.frames,ok.stk,ok.exf,ok.bs,ok.bsz,ok.noex,ok.exfs,ok.funs,ok.frf⟩
section
variable {X:Cx} {pins:List (Addr×Obj)} {Z:St} {H:Hp} {s:Shared} {E:Value->Shared->Prop}
theorem Inv.wish(I:Inv X pins Z H s)(E:Value->Shared->Prop):Inv (X.wish E) pins Z H s:=⟨I.ok.wish E,I.os,I.bare,I.base,I.loc,I.cell,I.free,I.freeC,I.pin,I.hok,I.len⟩
theorem Inv.unwish(I:Inv (X.wish E) pins Z H s):Inv X pins Z H s:=⟨I.ok.unwish,I.os,I.bare,I.base,I.loc,I.cell,I.free,I.freeC,I.pin,I.hok,I.len⟩
theorem SP.unwish{D:Ends}{f:Flow}{s':Shared}(h:SP (X.wish E) pins D f s'):SP X pins D f s':=by
 cases f with
 | next=>obtain⟨Z',H',I,q⟩:=h;exact⟨Z',H',I.unwish,q⟩
 | brk=>obtain⟨Z',H',I,q⟩:=h;exact⟨Z',H',I.unwish,q⟩
 | cont=>obtain⟨Z',H',I,q⟩:=h;exact⟨Z',H',I.unwish,q⟩
 | ret u=>obtain⟨v,Z',H',I,r,q⟩:=h;exact⟨v,Z',H',I.unwish,r,q⟩
theorem PSs.nox{st:List Stmt}{t:TS}(h:PSs X.nox st t):PSs X st t:=fun pins s Z H D I hw =>
 wpAny_mono (h pins s Z H D (I.wish _) hw) (fun _ _ q=>q.unwish) fun _ _ z=>False.elim z
end
section
variable {X:Cx} {st:Stmt} {rest:List Stmt} {t u:TS} {e:Expr} {te:TE} {pos:Pos}
def Sq:TS:=fun D Z H=>D.nx Z H
def TY(t u:TS):TS:=fun D Z H=>t { D with nx:=u D } Z H
theorem Mp:PSs X [] Sq:=fun _ _ Z H _ I h=>wpAny_execs_nil ⟨Z,H,I,h⟩
theorem zW(h1:PS X st t)(h2:PSs X rest u):PSs X (st::rest) (TY t u):=by
 intro pins s Z H D I h
 refine wpAny_execs_cons (thn (h1 pins s Z H { D with nx:=u D } I h) fun f s1 q=>?_)
 cases f with
 | next =>
  obtain⟨Z',H',I',q⟩:=q
  exact h2 pins s1 Z' H' D I' q
 | ret v=>exact q
 | brk=>exact q
 | cont=>exact q
theorem Dg(h1:PS X st t):PSs X [st] t:=by
 intro pins s Z H D I h
 refine wpAny_execs_cons (thn (h1 pins s Z H D I h) fun f s1 q=>?_)
 cases f with
 | next=>exact wpAny_execs_nil q
 | ret v=>exact q
 | brk=>exact q
 | cont=>exact q
def Ss:TS:=fun D Z H=>D.ct Z H
theorem CG:PS X (.Continue pos) Ss:=fun _ _ Z H _ I h=>wpAny_Continue ⟨Z,H,I,h⟩
theorem Inv.quiet{pins:List (Addr×Obj)}{Z:St}{H:Hp}{s:Shared}(I:Inv X pins Z H s):interactive X.env=false:=by simp[interactive,I.ok.kind]
def Li(te:TE):TS:=fun D Z H=>te Z H fun _ H1=>D.nx Z H1
theorem tH(he:PE X e te)(hs:swapsWith e none pos.line X.env=pure false:=by rfl):PS X (.Expr e pos) (Li te):=by
 intro pins s Z H D I h
 exact wpAny_Expr_any (thn (he pins s Z H _ I h) fun v s1 ⟨x,H1,I1,r1,q1⟩=>⟨Z,H1,I1,q1⟩) I.quiet hs
def T_(te:TE):TS:=fun D Z H=>te Z H D.rt
theorem Qn(he:PE X e te):PS X (.Return (some e) pos) (T_ te):=by
 intro pins s Z H D I h
 exact wpAny_Return_some (thn (he pins s Z H _ I h) fun v s1 ⟨x,H1,I1,r1,q1⟩=>⟨x,Z,H1,I1,r1,q1⟩)
def Ua(c:TT)(t u:TS):TS:=fun D Z H=>c Z H fun b H1=>if b=true then t D Z H1 else u D Z H1
theorem Lj{c:Expr}{a b:List Stmt}{tc:TT}(hc:PT X c tc)(ha:PSs X a t)(hb:PSs X b u):PS X (.If c a b pos) (Ua tc t u):=by
 intro pins s Z H D I h
 refine wpAny_If (thn (hc pins s Z H _ I h) fun d s1 ⟨H1,I1,q1⟩=>?_)
 cases d with
 | true=>exact ha pins s1 Z H1 D I1 q1
 | false=>exact hb pins s1 Z H1 D I1 q1
def Gv:TS:=fun _ _ _=>False
theorem I_:PS X st Gv:=fun _ _ _ _ _ _ h=>h.elim
theorem yw{sts:List Stmt}:PSs X sts Gv:=fun _ _ _ _ _ _ h=>h.elim
end
abbrev TG:=V->St->Hp->(St->Hp->Prop)->Prop
abbrev TGs:=List V->St->Hp->(St->Hp->Prop)->Prop
def PG(X:Cx)(target:Expr)(t:TG):Prop :=
 ∀(pins:List (Addr×Obj)) (s:Shared) (Z:St) (H:Hp) (v:V) (u:Value) (Q:St->Hp->Prop),Inv X pins Z H s->RelV v u->t v Z H Q ->
  wpAny (model X.prog X.w) X.A (assign target X.env u) (fun _ s'=>∃Z' H',Inv X pins Z' H' s'/\Q Z' H') X.xe s
def PGs(X:Cx)(ts:List Expr)(t:TGs):Prop :=
 ∀(pins:List (Addr×Obj)) (s:Shared) (Z:St) (H:Hp) (vs:List V) (us:List Value) (Q:St->Hp->Prop),Inv X pins Z H s->Vals vs us->t vs Z H Q ->
  wpAny (model X.prog X.w) X.A (assignInOrder ((assignEach ts X.env).map (·.2)) us) (fun _ s'=>∃Z' H',Inv X pins Z' H' s'/\Q Z' H') X.xe s
section
variable {X:Cx} {pos:Pos}
def vD(i:Nat):TG:=fun v Z H Q=>Q (Z.set i (some v)) H
theorem Dh{i:Nat}{x:Str}(hN:X.N.Nodup)(hi:X.N[i]? = some x)(hx:Loc X.env.scope x)(hf:X.fn x=true\/X.env.scope.names.lookup x=some .local:=by first |exact .inl rfl |exact .inr rfl |assumption):PG X (.Name x pos) (vD i):=by
 intro pins s Z H v u Q I r h
 exact wpAny_assign_Name (zU I hN hi hx r (fun s' I'=>⟨_,H,I',h⟩) hf)
def aA:TGs:=fun vs Z H Q=>vs=[]/\Q Z H
def ao(t:TG)(u:TGs):TGs:=fun vs Z H Q=>∃v r,vs=v::r/\t v Z H fun Z' H'=>u r Z' H' Q
theorem Mq:PGs X [] aA:=by
 intro pins s Z H vs us Q I r h
 obtain⟨e,h⟩:=h
 subst e
 cases r
 exact assignInOrder_nil ⟨Z,H,I,h⟩
theorem Ja{e:Expr}{es:List Expr}{t:TG}{u:TGs}(h1:PG X e t)(h2:PGs X es u)
  (hs:(assignEach (e::es) X.env).map (·.2)=assign e X.env::(assignEach es X.env).map (·.2):=by rfl):PGs X (e::es) (ao t u):=by
 intro pins s Z H vs us Q I r h
 obtain⟨v,vr,e1,h⟩:=h
 subst e1
 cases r with
 | cons r rr =>
  rw[hs]
  refine assignInOrder_cons (thn (h1 pins s Z H _ _ _ I r h) fun _ s1 hw'=>?_)
  obtain⟨Z1,H1,I1,q1⟩:=hw'
  exact h2 pins s1 Z1 H1 _ _ Q I1 rr q1
def cV(K:PySem.W.Frag)(n:Nat)(t:TGs):TG:=fun v Z H Q=>∃a xs,v=.ref a/\SqT K H a xs/\xs.length=n/\t xs Z H Q
theorem Qo{es:List Expr}{k:Nat}{t:TGs}{n:Nat}(hc:X.calm=true)(h:PGs X es t)
  (hn:(assignEach es X.env).length=n:=by rfl) (hst:(assignEach es X.env).findIdx? (·.1)=none:=by rfl):PG X (.Tuple es k pos) (cV X.K n t):=by
 intro pins s Z H v u Q I r hw
 obtain⟨a,xs,e1,hq,hl,hw⟩:=hw
 subst e1
 cases r
 obtain⟨its,rv,ht,hz⟩:=I.tuple hq
 refine assign_Tuple_tuple (I.ok.hd hc) ht (by simp[hn,<-hl,rv.length]) hst fun h' hx=>?_
 have I1:Inv X pins Z H { s with heap:=h' }:=I.kept (t':=s.toks) fun b o e=>hx b o (Nat.ne_of_lt (Heap.lt_size e)) e
 exact h pins _ Z H xs _ Q I1 (by simpa using rv) hw
def zX(te:TE)(g:TG):TS:=fun D Z H=>te Z H fun x H1=>g x Z H1 D.nx
theorem Qp{tg e:Expr}{te:TE}{g:TG}(he:PE X e te)(hg:PG X tg g)(hs:swapsWithSole [tg] e pos.line X.env=pure false:=by rfl)(hw:swappedStores [tg] e X.env=pure none:=by rfl)
  (h1:(assignEach [tg] X.env).map (·.2)=[assign tg X.env]:=by rfl):PS X (.Assign [tg] e pos) (zX te g):=by
 intro pins s Z H D I h
 refine wpAny_Assign_stores (thn (he pins s Z H _ I h) fun v s1 hw'=>?_) hs hw
 obtain⟨x,H1,I1,r1,q1⟩:=hw'
 rw[h1]
 exact thn (hg pins s1 Z H1 x v _ I1 r1 q1) fun _ s2 q=>q
theorem zY{i:Nat}{x:Str}{e:Expr}{te:TE}{pos':Pos}(hN:X.N.Nodup)(hi:X.N[i]? = some x)(hx:Loc X.env.scope x)(he:PE X e te)(hs:swapsWith e (some (.Name x pos')) pos.line X.env=pure false:=by rfl)(hf:X.fn x=true\/X.env.scope.names.lookup x=some .local:=by first |exact .inl rfl |exact .inr rfl |assumption) :
  PS X (.Assign [.Name x pos'] e pos) (zX te (vD i)):=by
 intro pins s Z H D I h
 refine wpAny_Assign_Name (thn (he pins s Z H _ I h) fun v s1 hw'=>?_) hs
 obtain⟨y,H1,I1,r1,q1⟩:=hw'
 exact zU I1 hN hi hx r1 (fun s2 I2=>⟨_,H1,I2,q1⟩) hf
end
section
variable {X:Cx} {pos:Pos}
def Qq(c:TT)(tb:TS):TS:=fun D Z H=>∃W:Nat->St->Hp->Prop,(∃m,W m Z H)/\∀m Z H,W m Z H ->
 c Z H fun b H1=>if b=true then ∃N:St->Hp->Prop,(∀Z' H',N Z' H'->∃m',m'<m/\W m' Z' H')/\tb { D with nx:=N,ct:=N,bk:=D.nx } Z H1 else D.nx Z H1
theorem Jb{c:Expr}{body:List Stmt}{tc:TT}{tb:TS}(hp:PassesOwn (model X.prog X.w) X.A X.env X.xe)(hc:PT X c tc)(hb:PSs X body tb):PS X (.While c body [] pos) (Qq tc tb):=by
 intro pins s Z H D I h
 obtain⟨W,⟨m0,w0⟩,turn⟩:=h
 refine wpAny_While (codeAny_whileLoop (fun n s'=>∃Z' H',Inv X pins Z' H' s'/\W n Z' H') ?_ m0 ⟨Z,H,I,w0⟩)
 rintro n s1 ⟨Z1,H1,I1,w1⟩
 refine wpAny_passesOwn hp (thn (hc pins s1 Z1 H1 _ I1 (turn n Z1 H1 w1)) fun b s2 ⟨H2,I2,q2⟩=>?_)
 cases b with
 | true =>
  obtain⟨N,hN,q2⟩:=q2
  rw[if_pos rfl]
  refine wpAny_passesOwn hp (thn (hb pins s2 Z1 H2 _ I2 q2) fun f s3 q3=>?_)
  cases f with
  | next =>
   obtain⟨Z3,H3,I3,n3⟩:=q3
   obtain⟨m',hm,w3⟩:=hN Z3 H3 n3
   exact⟨m',hm,Z3,H3,I3,w3⟩
  | cont =>
   obtain⟨Z3,H3,I3,n3⟩:=q3
   obtain⟨m',hm,w3⟩:=hN Z3 H3 n3
   exact⟨m',hm,Z3,H3,I3,w3⟩
  | brk=>exact q3
  | ret v=>exact q3
 | false =>
  rw[if_neg Bool.false_ne_true]
  exact wpAny_execs_nil ⟨Z1,H2,I2,q2⟩
end
structure It where
 go:Nat->Hp->Prop
 yld:Nat->Hp->V->Hp->Prop
 stop:Nat->Hp->Prop
def eZ(X:Cx)(pins:List (Addr×Obj))(H:Hp)(b:Addr):Prop :=
 H b=none/\b≠X.env.locals/\b∉X.fs/\(b∈X.ex\/X.s₀.heap.objs.size<=b)/\(∀x c,X.env.cells.lookup x=some c->c≠b)/\∀p∈X.pn++pins,p.1≠b
theorem Inv.fpOk{X:Cx}{pins:List (Addr×Obj)}{Z:St}{H H':Hp}{s:Shared}{b:Addr}(I:Inv X pins Z H s)(hb:s.heap.objs.size<=b)(hn:H' b=none):eZ X pins H' b:=by
 refine⟨hn,Nat.ne_of_gt (Nat.lt_of_lt_of_le I.lt hb),I.nofs hb,.inr (Nat.le_trans I.sz hb),fun x c e z=>?_,fun p hp z=>?_⟩
 ·obtain⟨v,q⟩:=I.cell x c e
  exact absurd (Nat.lt_of_lt_of_le q.lt (by rw[z];exact hb)) (Nat.lt_irrefl _)
 ·exact absurd (Nat.lt_of_lt_of_le (Heap.lt_size (I.pin p hp).1) (by rw[z];exact hb)) (Nat.lt_irrefl _)
structure Turn(P:Program)(w:World)(K:PySem.W.Frag)(tg:Expr)(J:It)(fp:List Addr)(it:Addr)(tn:Nat->Heap->Prop):Prop where
 mem:it∈fp
 obj:∀i h,tn i h->∀b∈fp,∃o,h.get? b=some o/\∀v,o.data ≠ .cell v
 keep:∀i h h',tn i h->(∀b∈fp,∀o,h.get? b=some o->h'.get? b=some o)->tn i h'
 item:∀(X:Cx),X.prog=P->X.w=w->X.K=K->X.calm=true->∀(i:Nat) (pins:List (Addr×Obj)) (s:Shared) (Z:St) (H:Hp) (E:Value->Shared->Prop),Inv X pins Z H s->(∀b∈fp,eZ X pins H b)->tn i s.heap->J.go i H ->
  wpAny (model P w) X.A (pyNext (.ref it)) (fun r s1=>∃u,r=some u /\
   wpAny (model P w) X.A (letOwnedTupleGo tg (.ref it) u) (fun _ s2=>∃x H',Inv X pins Z H' s2/\RelV x u/\J.yld i H x H'/\tn (i+1) s2.heap/\∀b∈fp,H' b=none) E s1) E s
 done:∀(X:Cx),X.prog=P->X.w=w->X.K=K->X.calm=true->∀(i:Nat) (pins:List (Addr×Obj)) (s:Shared) (Z:St) (H:Hp) (E:Value->Shared->Prop),Inv X pins Z H s->(∀b∈fp,eZ X pins H b)->tn i s.heap->J.stop i H ->
  wpAny (model P w) X.A (pyNext (.ref it)) (fun r s1=>r=none/\Inv X pins Z H s1) E s
 self:∀(A:Around) (i:Nat) (s:Shared) (Q:Value->Shared->Prop) (E:Value->Shared->Prop),tn i s.heap->Q (.ref it) s->wpAny (model P w) A (pyIter (.ref it)) Q E s
abbrev TI:=St->Hp->(It->Hp->Prop)->Prop
def PIE(X:Cx)(pins:List (Addr×Obj))(Z:St)(tg:Expr)(R:It->Hp->Prop)(itv:Value)(s2:Shared):Prop :=
 ∃(it:Addr) (fp:List Addr) (tn:Nat->Heap->Prop) (J:It) (H':Hp),itv=.ref it/\Inv X pins Z H' s2/\Turn X.prog X.w X.K tg J fp it tn/\tn 0 s2.heap/\(∀b∈fp,eZ X pins H' b)/\R J H'
def PI(X:Cx)(tg iter:Expr)(wi:TI):Prop :=
 ∀(pins:List (Addr×Obj)) (s:Shared) (Z:St) (H:Hp) (R:It->Hp->Prop),Inv X pins Z H s->wi Z H R ->
  wpAny (model X.prog X.w) X.A (eval iter X.env) (fun v s1=>wpAny (model X.prog X.w) X.A (pyIter v) (PIE X pins Z tg R) X.xe s1) X.xe s
theorem Ew{M : Model}{A : Around}{E : Value → Shared → Prop}{s : Shared}{tg : Expr}{it : Addr}{u : Value}{o : Obj}{n : String}{vs : Array Value}{Q : Unit → Shared → Prop}(ho : s.heap.get? it=some o)(hc : o.cls=.type n)(hd : o.data=.fields vs)
    (hn : ["enumerate", "zip", "dict_itemiterator", "dict_reverseitemiterator", "odict_iterator", "itertools.zip_longest", "itertools.pairwise"].contains n=false) (hQ : Q () s) : wpAny M A (letOwnedTupleGo tg (.ref it) u) Q E s := by
  unfold letOwnedTupleGo
  cases tg<;>first
    | exact wpAny_pure hQ
    | (cases u<;>first
        | exact wpAny_pure hQ
        | (refine wpAny_bind (wpAny_load ho ?_)
           rw[hc, hd]
           show wpAny M A (if(["enumerate", "zip", "dict_itemiterator", "dict_reverseitemiterator", "odict_iterator", "itertools.zip_longest", "itertools.pairwise"].contains n && vs[0]? == some (rawInt _))=true then _ else _) Q E s
           rw[if_neg (by intro h;rw[hn, Bool.false_and] at h;cases h)]
           exact wpAny_pure hQ))
def Itl(K:PySem.W.Frag)(a:Addr):It :=
 ⟨fun i H=>∃xs x,SqL K H a xs/\xs[i]? = some x,fun i H x H'=>H'=H/\∀xs,SqL K H a xs->xs[i]? = some x,fun i H=>∃xs,SqL K H a xs/\xs.length<=i⟩
def Itr(lo:Int)(n:Nat):It:=⟨fun i _=>i<n,fun i H x H'=>H'=H/\x=.int (lo+i),fun i _=>n<=i⟩
theorem Gw{P:Program}{w:World}{K:PySem.W.Frag}{tg:Expr}(a it:Addr):Turn P w K tg (Itl K a) [it] it (fun i h=>h.IsListIter it a i) where
 mem:=by simp
 obj:=fun i h st b hb=>by
  have e:b=it:=by simpa using hb
  subst e
  obtain⟨o,e,c,d⟩:=st
  exact⟨o,e,fun v z=>by rw[d] at z;cases z⟩
 keep:=fun i h h' st k=>st.at fun o e=>k it (by simp) o e
 item:=by
  intro X hP hw hK hc i pins s Z H E I hf st hg
  subst hP hw hK
  obtain⟨xs,x,hq,hx⟩:=hg
  obtain⟨its,rv,p,hz⟩:=I.list hq
  obtain⟨u,hu,ru⟩:=rv.get hx
  obtain⟨f0,f1,f2,f3,f4,f5⟩:=hf it (by simp)
  refine wpAny_pyNext_list_item st p.isList (x:=u) (by simpa using hu) fun h' st' sb=>?_
  have I1:Inv X pins Z H { s with heap:=h' }:=I.turned (t':=s.toks) (fun b o hb e=>(sb.2 b hb).trans e) f0 f1 f3 f4 f5
  obtain⟨o,e,c,d⟩:=id st'
  exact⟨u,rfl,Ew (s:={ s with heap:=h' }) e c d (by decide) ⟨x,H,I1,ru,⟨rfl,fun ys hy=>by rw[I.list_inj hy hq];exact hx⟩,st',fun b hb=>(hf b hb).1⟩⟩
 done:=by
  intro X hP hw hK hc i pins s Z H E I hf st hg
  subst hP hw hK
  obtain⟨xs,hq,hx⟩:=hg
  obtain⟨its,rv,p,hz⟩:=I.list hq
  obtain⟨f0,f1,f2,f3,f4,f5⟩:=hf it (by simp)
  have hl:=rv.length
  exact wpAny_pyNext_list_end (I.ok.hd hc) st p.isList (by simp;omega) fun h' eb=>⟨rfl,I.turned (t':=s.toks) (fun b o hb e=>eb b o hb e) f0 f1 f3 f4 f5⟩
 self:=fun _ _ _ _ _ st h=>wpAny_pyIter_listiter st h
theorem Ex{P:Program}{w:World}{K:PySem.W.Frag}{tg:Expr}(it:Addr)(lo:Int)(n:Nat):Turn P w K tg (Itr lo n) [it] it (fun i h=>IsRangeIter h it (lo+(i:Nat)*1) ((n:Int)-(i:Nat)) 1) where
 mem:=by simp
 obj:=fun i h st b hb=>by
  have e:b=it:=by simpa using hb
  subst e
  exact⟨_,st,fun v z=>by
   have z':Data.fields _=Data.cell v:=z
   cases z'⟩
 keep:=fun i h h' st k=>k it (by simp) _ st
 item:=by
  intro X hP hw hK hc i pins s Z H E I hf st hg
  subst hP hw hK
  obtain⟨f0,f1,f2,f3,f4,f5⟩:=hf it (by simp)
  have W:=Walks.range (prog:=X.prog) (w:=X.w) (I.ok.hd hc) it lo 1 n
  refine W.item i s _ _ hg st fun v h' tk hv st' kk=>?_
  obtain⟨t,rfl⟩:=hv
  have I1:Inv X pins Z H { s with heap:=h',toks:=tk }:=I.turned (fun b o hb e=>kk b o (by simpa using hb) e) f0 f1 f3 f4 f5
  refine⟨_,rfl,Ew (s:={ s with heap:=h',toks:=tk }) (n:="range_iterator") st' rfl rfl (by decide) ⟨.int (lo+i),H,I1,⟨t,?_⟩,⟨rfl,rfl⟩,st',fun b hb=>(hf b hb).1⟩⟩
  rw[Int.mul_one]
 done:=by
  intro X hP hw hK hc i pins s Z H E I hf st hg
  subst hP hw hK
  obtain⟨f0,f1,f2,f3,f4,f5⟩:=hf it (by simp)
  exact wpAny_pyNext_range_end (I.ok.hd hc) st (by have:n<=i:=hg;omega) fun h' eb=>⟨rfl,I.turned (t':=s.toks) (fun b o hb e=>eb b o hb e) f0 f1 f3 f4 f5⟩
 self:=fun _ _ _ _ _ st h=>wpAny_pyIter_rangeiter st h
end L2
namespace L2
open PySem PySem.Spec PyProof.Rows
section
variable {X:Cx} {tg:Expr}
def Su(K:PySem.W.Frag)(tl:TE):TI:=fun Z H R=>tl Z H fun x H1=>∃a,x=.ref a/\(∃xs,SqL K H1 a xs)/\R (Itl K a) H1
theorem Di{l:Expr}{tl:TE}(hl:PE X l tl):PI X tg l (Su X.K tl):=by
 intro pins s Z H R I h
 refine thn (hl pins s Z H _ I h) fun v s1 hw'=>?_
 obtain⟨x,H1,I1,r1,q1⟩:=hw'
 obtain⟨a,e,⟨xs,hq⟩,q⟩:=q1
 subst e
 cases r1
 obtain⟨its,rv,p,hz⟩:=I1.list hq
 refine wpAny_pyIter_list p.isList ?_
 refine⟨s1.heap.objs.size,[s1.heap.objs.size],_,_,H1,rfl,I1.kept (t':=s1.toks) fun b o e=>Heap.get?_push_of_some _ e,Gw a _,⟨_,Heap.get?_push_size _ rfl,rfl,rfl⟩,fun b hb=>?_,q⟩
 have e:b=s1.heap.objs.size:=by simpa using hb
 subst e
 exact I1.fpOk (Nat.le_refl _) (I1.hok.fresh (Nat.le_refl _))
theorem zZ{pins:List (Addr×Obj)}{Z:St}{H:Hp}{s:Shared}{R:It->Hp->Prop}{E:Value->Shared->Prop}{lo hi:Int}{t u v:Tok}{tk:Nat}(I:Inv X pins Z H s)(h1:-(2 ^ 62)<=lo)(h2:lo<2 ^ 62)(h3:-(2 ^ 62)<=hi)(h4:hi<2 ^ 62)
  (q:R (Itr lo (hi-lo).toNat) H):wpAny (model X.prog X.w) X.A (pyIter (.ref s.heap.objs.size)) (PIE X pins Z tg R) E { s with heap:=s.heap.push { cls:=.type "range",data:=.fields #[.int lo t,.int hi u,.int 1 v] },toks:=tk }:=by
 refine wpAny_pyIter_range (IsRange.new ..) (small_one h1 h2 h3 h4) ?_
 have I1:Inv X pins Z H { s with heap:=s.heap.push { cls:=.type "range",data:=.fields #[.int lo t,.int hi u,.int 1 v] },toks:=tk }:=I.kept fun b o e=>Heap.get?_push_of_some _ e
 refine⟨(s.heap.push { cls:=.type "range",data:=.fields #[.int lo t,.int hi u,.int 1 v] }).objs.size,[(s.heap.push { cls:=.type "range",data:=.fields #[.int lo t,.int hi u,.int 1 v] }).objs.size],_,_,H,rfl,
  I1.kept (t':=tk) fun b o e=>Heap.get?_push_of_some _ e,Ex _ lo (hi-lo).toNat,?_,fun b hb=>?_,q⟩
 ·have e1:lo+((0:Nat):Int)*1=lo:=by simp
  have e2:(((hi-lo).toNat:Nat):Int)-((0:Nat):Int)=Builtin.Range.rangeSize lo hi 1:=by rw[rangeSize_one];split<;>omega
  show IsRangeIter _ _ (lo+((0:Nat):Int)*1) ((((hi-lo).toNat:Nat):Int)-((0:Nat):Int)) 1
  rw[e1,e2]
  exact Heap.get?_push_size _ rfl
 ·have e:b=(s.heap.push { cls:=.type "range",data:=.fields #[.int lo t,.int hi u,.int 1 v] }).objs.size:=by simpa using hb
  subst e
  exact I1.fpOk (Nat.le_refl _) (I1.hok.fresh (Nat.le_refl _))
def Sv(ta:TA):TI:=fun Z H R=>ta Z H fun vs H1=>∃j:Int,vs=[.int j] /\ -(2 ^ 62)<=j/\j<2 ^ 62/\R (Itr 0 j.toNat) H1
def Sw(ta:TA):TI:=fun Z H R=>ta Z H fun vs H1=>∃i j:Int,vs=[.int i,.int j]/\(-(2 ^ 62)<=i/\i<2 ^ 62 /\ -(2 ^ 62)<=j/\j<2 ^ 62)/\R (Itr i (j-i).toNat) H1
theorem Gx{a:Expr}{ta:TA}{p pos:Pos}(hg:Gl X "range")(hm:X.mg "range" = none)(ha:PA X [a] ta)(hs:starEach [a] X.env=[(false,eval a X.env)]:=by rfl):PI X tg (.Call (.Name "range" p) [a] [] pos) (Sv ta):=by
 intro pins s Z H R I h
 refine Call_ (nW I hg hm boot_range (PyProof.Rows.callWith_type1 (thn (ha pos pins s Z H _ I h) fun us s1 hw'=>?_) hs rfl))
 obtain⟨vs,H1,I1,r1,q1⟩:=hw'
 obtain⟨j,e,q1,q2,q⟩:=q1
 subst e
 cases r1 with
 | cons r rr =>
  cases rr
  obtain⟨t,rfl⟩:=r
  exact call_range_1 (zZ I1 (by omega) (by omega) q1 q2 (by simpa using q))
theorem Gy{a b:Expr}{ta:TA}{p pos:Pos}(hg:Gl X "range")(hm:X.mg "range" = none)(ha:PA X [a,b] ta)(hs:starEach [a,b] X.env=[(false,eval a X.env),(false,eval b X.env)]:=by rfl)(hs2:starEach [b] X.env=[(false,eval b X.env)]:=by rfl) :
  PI X tg (.Call (.Name "range" p) [a,b] [] pos) (Sw ta):=by
 intro pins s Z H R I h
 refine Call_ (nW I hg hm boot_range (PyProof.Rows.callWith_type1 (thn (ha pos pins s Z H _ I h) fun us s1 ⟨vs,H1,I1,r1,q1⟩=>?_) (by rw[hs,hs2]) (by rw[hs2];rfl)))
 obtain⟨i,j,e,⟨q1,q2,q3,q4⟩,q⟩:=q1
 subst e
 cases r1 with
 | cons r rr =>
  cases rr with
  | cons r' rr =>
   cases rr
   obtain⟨t,rfl⟩:=r
   obtain⟨t',rfl⟩:=r'
   exact call_range_2 (zZ I1 q1 q2 q3 q4 q)
def Ub(wi:TI)(g:TG)(tb:TS):TS:=fun D Z H=>wi Z H fun J H1=>∃W:Nat->Nat->St->Hp->Prop,(∃m,W 0 m Z H1)/\∀i m Z H,W i m Z H ->
 (J.stop i H/\D.nx Z H)\/(J.go i H/\∃N:St->Hp->Prop,(∀Z' H',N Z' H'->∃m',m'<m/\W (i+1) m' Z' H')/\∀x H',J.yld i H x H'->g x Z H' fun Z2 H2=>tb { D with nx:=N,ct:=N,bk:=D.nx } Z2 H2)
def rJ(fp:List Addr)(h:Heap):List (Addr×Obj):=fp.filterMap fun b=>(h.get? b).map fun o=>(b,o)
theorem mX{fp:List Addr}{h:Heap}{b:Addr}{o:Obj}(hb:b∈fp)(e:h.get? b=some o):(b,o)∈rJ fp h:=List.mem_filterMap.mpr ⟨b,hb,by rw[e];rfl⟩
theorem Gz{fp:List Addr}{h:Heap}{p:Addr×Obj}(hp:p∈rJ fp h):p.1∈fp/\h.get? p.1=some p.2:=by
 obtain⟨b,hb,e⟩:=List.mem_filterMap.mp hp
 cases q:h.get? b with
 | none=>rw[q] at e;cases e
 | some o =>
  rw[q] at e
  have e':(b,o)=p:=Option.some.inj e
  subst e'
  exact⟨hb,q⟩
theorem Inv.pinned{pins:List (Addr×Obj)}{Z:St}{H:Hp}{s:Shared}{fp:List Addr}(I:Inv X pins Z H s)(hf:∀b∈fp,eZ X pins H b)(ho:∀b∈fp,∃o,s.heap.get? b=some o/\∀v,o.data ≠ .cell v):Inv X (pins++rJ fp s.heap) Z H s :=
 I.pins_of fun p hp=>(List.mem_append.mp hp).elim (fun z=>I.pin p (List.mem_append_right _ z)) fun z=>by
  obtain⟨hb,e⟩:=Gz z
  obtain⟨f0,f1,f2,_⟩:=hf p.1 hb
  obtain⟨o,e',d⟩:=ho p.1 hb
  rw[e] at e';cases e'
  exact⟨e,f0,f1,f2,d⟩
theorem Inv.unpinned{pins pl:List (Addr×Obj)}{Z:St}{H:Hp}{s:Shared}(I:Inv X (pins++pl) Z H s):Inv X pins Z H s:=I.pins_of fun p hp=>I.pin p (List.mem_append_right _ (List.mem_append_left _ hp))
theorem z_{iter:Expr}{body:List Stmt}{wi:TI}{g:TG}{tb:TS}{pos:Pos}(hp:PassesOwn (model X.prog X.w) X.A X.env X.xe)(hc:X.calm=true)(hi:PI X tg iter wi)(hg:PG X tg g)(hb:PSs X body tb)
  (hs:∀x,foldedSetIterable iter X.env x=pure x:=by intro _;rfl):PS X (.For tg iter body [] pos) (Ub wi g tb):=by
 intro pins s Z H D I h
 refine wpAny_For (thn (hi pins s Z H _ I h) fun v s1 h1=>thn h1 fun itv s2 h2=>?_) hs
 obtain⟨it,fp,tn,J,H2,e,I2,T,st2,f2,W,⟨m0,w0⟩,turn⟩:=h2
 subst e
 have stat:∀{H':Hp},(∀b∈fp,H' b=none)->∀b∈fp,eZ X pins H' b:=fun hn b hb=>⟨hn b hb,(f2 b hb).2⟩
 refine codeAny_forLoop_any (fun n s'=>∃i Z' H',Inv X pins Z' H' s'/\tn i s'.heap/\(∀b∈fp,H' b=none)/\W i n Z' H') ?_ m0 ⟨0,Z,H2,I2,st2,fun b hb=>(f2 b hb).1,w0⟩
 rintro n s3 ⟨i,Z3,H3,I3,st3,fr3,w3⟩
 rcases turn i n Z3 H3 w3 with⟨stop,qn⟩ |⟨go,N,hN,step⟩
 ·refine wpAny_passesOwn hp (thn (T.done X rfl rfl rfl hc i pins s3 Z3 H3 X.xe I3 (stat fr3) st3 stop) fun r s4 ⟨hr,I4⟩=>?_)
  subst hr
  exact wpAny_execs_nil ⟨Z3,H3,I4,qn⟩
 ·refine wpAny_passesOwn hp (thn (T.item X rfl rfl rfl hc i pins s3 Z3 H3 X.xe I3 (stat fr3) st3 go) fun r s4 ⟨u,hr,h4⟩=>?_)
  subst hr
  refine wpAny_passesOwn hp (thn h4 fun _ s5 hw'=>?_)
  obtain⟨x,H5,I5,r5,y5,st5,fr5⟩:=hw'
  have I5':=I5.pinned (stat fr5) (T.obj _ _ st5)
  refine wpAny_passesOwn hp (thn (hg _ s5 Z3 H5 x u _ I5' r5 (step x H5 y5)) fun _ s6 hw'=>?_)
  obtain⟨Z6,H6,I6,q6⟩:=hw'
  refine wpAny_passesOwn hp (thn (hb _ s6 Z6 H6 _ I6 q6) fun f s7 q7=>?_)
  have again:∀{Z7:St} {H7:Hp},Inv X (pins++rJ fp s5.heap) Z7 H7 s7->N Z7 H7->∃m,m<n/\∃i Z' H',Inv X pins Z' H' s7/\tn i s7.heap/\(∀b∈fp,H' b=none)/\W i m Z' H':=fun {Z7 H7} I7 n7=>by
   obtain⟨m',hm,w7⟩:=hN Z7 H7 n7
   refine⟨m',hm,i+1,Z7,H7,I7.unpinned,T.keep _ _ _ st5 fun b hb o e=>(I7.pin (b,o) (List.mem_append_right _ (List.mem_append_right _ (mX hb e)))).1,fun b hb=>?_,w7⟩
   obtain⟨o,e,d⟩:=T.obj _ _ st5 b hb
   exact(I7.pin (b,o) (List.mem_append_right _ (List.mem_append_right _ (mX hb e)))).2.1
  cases f with
  | next=>obtain⟨Z7,H7,I7,n7⟩:=q7;exact again I7 n7
  | cont=>obtain⟨Z7,H7,I7,n7⟩:=q7;exact again I7 n7
  | brk=>obtain⟨Z7,H7,I7,q7⟩:=q7;exact⟨Z7,H7,I7.unpinned,q7⟩
  | ret v=>obtain⟨x7,Z7,H7,I7,r7,q7⟩:=q7;exact⟨x7,Z7,H7,I7.unpinned,r7,q7⟩
end
end L2
namespace L2
open PySem PySem.Spec PyProof.Rows
abbrev R2:=V->V->Hp->VK->Prop
def OpR(X:Cx)(f:Value->Value->Sem Value)(r:R2):Prop :=
 ∀(pins:List (Addr×Obj)) (s:Shared) (Z:St) (H:Hp) (x y:V) (v u:Value) (Q:VK),Inv X pins Z H s->RelV x v->RelV y u->r x y H Q ->
  wpAny (model X.prog X.w) X.A (f v u) (EP X pins Z Q) X.xe s
def UnR(X:Cx)(f:Value->Sem Value)(r:V->Hp->VK->Prop):Prop :=
 ∀(pins:List (Addr×Obj)) (s:Shared) (Z:St) (H:Hp) (x:V) (v:Value) (Q:VK),Inv X pins Z H s->RelV x v->r x H Q ->
  wpAny (model X.prog X.w) X.A (f v) (EP X pins Z Q) X.xe s
def gG(X:Cx)(f:Value)(r:List V->Hp->VK->Prop):Prop :=
 ∀(pins:List (Addr×Obj)) (s:Shared) (Z:St) (H:Hp) (xs:List V) (us:List Value) (Q:VK),Inv X pins Z H s->Vals xs us->r xs H Q ->
  wpAny (model X.prog X.w) X.A (call f us) (EP X pins Z Q) X.xe s
def tOp(r:R2)(ta tb:TE):TE:=fun Z H Q=>ta Z H fun x H1=>tb Z H1 fun y H2=>r x y H2 Q
def tUn(r:V->Hp->VK->Prop)(ta:TE):TE:=fun Z H Q=>ta Z H fun x H1=>r x H1 Q
def rI(C:Int->Int->Prop)(g:Int->Int->V):R2:=fun x y H Q=>∃i j,x=.int i/\y=.int j/\C i j/\Q (g i j) H
def rI0(g:Int->Int->V):R2:=fun x y H Q=>∃i j,x=.int i/\y=.int j/\Q (g i j) H
def rU(g:Int->V):V->Hp->VK->Prop:=fun x H Q=>∃i,x=.int i/\Q (g i) H
section
variable {X:Cx} {a b c:Expr} {ta tb tc:TE} {pos:Pos}
theorem Jc(ha:PE X a ta)(hb:PE X b tb){pins:List (Addr×Obj)}{s:Shared}{Z:St}{H:Hp}{R:V->V->Hp->Prop}(I:Inv X pins Z H s)
  (h:ta Z H fun x H1=>tb Z H1 fun y H2=>R x y H2) {Q:Value->Shared->Prop} {f:Value->Value->Sem Value}
  (hf:∀v u s2 x y H2,Inv X pins Z H2 s2->RelV x v->RelV y u->R x y H2->wpAny (model X.prog X.w) X.A (f v u) Q X.xe s2) :
  wpAny (model X.prog X.w) X.A (eval a X.env) (fun v s₁=>wpAny (model X.prog X.w) X.A (eval b X.env) (fun u s₂=>wpAny (model X.prog X.w) X.A (f v u) Q X.xe s₂) X.xe s₁) X.xe s:=by
 refine thn (ha pins s Z H _ I h) fun v s1 hw'=>?_
 obtain⟨x,H1,I1,r1,q1⟩:=hw'
 refine thn (hb pins s1 Z H1 _ I1 q1) fun u s2 hw'=>?_
 obtain⟨y,H2,I2,r2,q2⟩:=hw'
 exact hf v u s2 x y H2 I2 r1 r2 q2
theorem Sx{op:Operator}{r:R2}(ho:OpR X (binaryOp op) r)(ha:PE X a ta)(hb:PE X b tb):PE X (.BinOp a op b pos) (tOp r ta tb):=by
 intro pins s Z H Q I h
 exact wpAny_BinOp (Jc ha hb I h fun v u s2 x y H2 I2 rx ry q=>ho pins s2 Z H2 x y v u Q I2 rx ry q)
theorem Sy{op:UnaryOp}{r:V->Hp->VK->Prop}(ho:UnR X (unaryOp op) r)(ha:PE X a ta):PE X (.UnaryOp op a pos) (tUn r ta):=by
 intro pins s Z H Q I h
 exact UnaryOp_ (thn (ha pins s Z H _ I h) fun v s1 ⟨x,H1,I1,r1,q1⟩=>ho pins s1 Z H1 x v Q I1 r1 q1)
theorem opI{f:Value->Value->Sem Value}{C:Int->Int->Prop}{g:Int->Int->Int}
  (rule:∀(i j:Int) (t u:Tok) (s:Shared) (Q:Value->Shared->Prop) (E:Value->Shared->Prop),C i j->Q (.int (g i j) s.toks) { s with toks:=s.toks+1 }->wpAny (model X.prog X.w) X.A (f (.int i t) (.int j u)) Q E s) :
  OpR X f (rI C fun i j=>.int (g i j)):=by
 intro pins s Z H x y v u Q I rx ry h
 obtain⟨i,j,rfl,rfl,hc,q⟩:=h
 obtain⟨t,rfl⟩:=rx
 obtain⟨t',rfl⟩:=ry
 exact rule i j t t' s _ _ hc ⟨.int (g i j),H,I.tok _,⟨_,rfl⟩,q⟩
theorem Qs{f:Value->Value->Sem Value}{g:Int->Int->Int}
  (rule:∀(i j:Int) (t u:Tok) (s:Shared) (Q:Value->Shared->Prop) (E:Value->Shared->Prop),Q (.int (g i j) s.toks) { s with toks:=s.toks+1 }->wpAny (model X.prog X.w) X.A (f (.int i t) (.int j u)) Q E s) :
  OpR X f (rI0 fun i j=>.int (g i j)):=by
 intro pins s Z H x y v u Q I rx ry h
 obtain⟨i,j,rfl,rfl,q⟩:=h
 obtain⟨t,rfl⟩:=rx
 obtain⟨t',rfl⟩:=ry
 exact rule i j t t' s _ _ ⟨.int (g i j),H,I.tok _,⟨_,rfl⟩,q⟩
theorem Qt{f:Value->Value->Sem Value}{g:Int->Int->Bool}
  (rule:∀(i j:Int) (t u:Tok) (s:Shared) (Q:Value->Shared->Prop) (E:Value->Shared->Prop),Q (.bool (g i j)) s->wpAny (model X.prog X.w) X.A (f (.int i t) (.int j u)) Q E s) :
  OpR X f (rI0 fun i j=>.bl (g i j)):=by
 intro pins s Z H x y v u Q I rx ry h
 obtain⟨i,j,rfl,rfl,q⟩:=h
 obtain⟨t,rfl⟩:=rx
 obtain⟨t',rfl⟩:=ry
 exact rule i j t t' s _ _ ⟨.bl (g i j),H,I,rfl,q⟩
def Uc(i j:Int):Prop:=0<j/\j<1073741824
def Jd(i j:Int):Prop:=(-(2 ^ 64)<i/\i<2 ^ 64)\/(-(2 ^ 64)<j/\j<2 ^ 64)
theorem Jd.ok{i j:Int}(h:Jd i j):IntMulOk i j:=by
 rcases h with⟨h1,h2⟩ |⟨h1,h2⟩
 ·exact .of_left (intBits_le_64 h1 h2)
 ·exact .of_right (intBits_le_64 h1 h2)
theorem Qu:OpR X (binaryOp .Add) (rI0 fun i j=>.int (i+j)):=Qs fun _ _ _ _ _ _ _ q=>add_int q
theorem Qv:OpR X (binaryOp .Sub) (rI0 fun i j=>.int (i-j)):=Qs fun _ _ _ _ _ _ _ q=>sub_int q
theorem Qw:OpR X (binaryOp .Mult) (rI Jd fun i j=>.int (i*j)):=opI fun _ _ _ _ _ _ _ hc q=>mul_int q hc.ok
theorem Mr:OpR X (binaryOp .FloorDiv) (rI Uc fun i j=>.int (i / j)):=opI fun i j _ _ _ _ _ hc q=>by
 have h1:(0:Int)<j:=hc.1
 have h2:j<1073741824:=hc.2
 exact floordiv_int (by omega) (by rw[Int.fdiv_eq_ediv_of_nonneg i (by omega)];exact q) (.inl (PyProof.noPylong_small (by omega)))
theorem Qx:OpR X (binaryOp .Mod) (rI (fun _ j=>0<j) fun i j=>.int (i%j)):=opI fun i j _ _ _ _ _ hc q=>by
 have h1:(0:Int)<j:=hc
 exact mod_int' (by omega) (by rw[Int.fmod_eq_emod_of_nonneg i (by omega)];exact q)
theorem unI{f:Value->Sem Value}{g:Int->Int}
  (rule:∀(i:Int) (t:Tok) (s:Shared) (Q:Value->Shared->Prop) (E:Value->Shared->Prop),Q (.int (g i) s.toks) { s with toks:=s.toks+1 }->wpAny (model X.prog X.w) X.A (f (.int i t)) Q E s) :
  UnR X f (rU fun i=>.int (g i)):=by
 intro pins s Z H x v Q I rx h
 obtain⟨i,rfl,q⟩:=h
 obtain⟨t,rfl⟩:=rx
 exact rule i t s _ _ ⟨.int (g i),H,I.tok _,⟨_,rfl⟩,q⟩
theorem Qy:UnR X (unaryOp .USub) (rU fun i=>.int (-i)):=unI fun _ _ _ _ _ q=>neg_int q
end
section
variable {X:Cx} {a b c:Expr} {ta tb tc:TE} {pos:Pos}
theorem GC{pins:List (Addr×Obj)}{Z:St}{H:Hp}{s:Shared}{Q:VK}{k k':Bool}(I:Inv X pins Z H s)(q:Q (.bl k) H)(e:k=k'):EP X pins Z Q (.bool k') s:=by
 subst e
 exact⟨.bl k,H,I,rfl,q⟩
theorem SJ:OpR X (compareOp .Lt) (rI0 fun i j=>.bl (decide (i<j))):=Qt fun _ _ _ _ _ _ _ q=>lt_int q
theorem SM:OpR X (compareOp .Gt) (rI0 fun i j=>.bl (decide (j<i))):=Qt fun _ _ _ _ _ _ _ q=>gt_int q
theorem Qz:OpR X (compareOp .Is) (fun x y H Q=>y=.non/\Q (.bl (decide (x=.non))) H):=by
 intro pins s Z H x y v u Q I rx ry h
 obtain⟨rfl,q⟩:=h
 cases ry
 refine is_none_gen (GC I q ?_)
 cases x<;>first
  | (cases rx;rfl)
  | (obtain⟨t,rfl⟩:=rx;rfl)
theorem Ms:OpR X (compareOp .IsNot) (fun x y H Q=>y=.non/\Q (.bl (!decide (x=.non))) H):=by
 intro pins s Z H x y v u Q I rx ry h
 obtain⟨rfl,q⟩:=h
 cases ry
 refine isnot_none_gen (GC I q ?_)
 cases x<;>first
  | (cases rx;rfl)
  | (obtain⟨t,rfl⟩:=rx;rfl)
theorem aR(b:Expr){op:CmpOp}(h:op ≠ .In:=by decide)(h2:op ≠ .NotIn:=by decide):behindInMarks op b=false:=by
 have e1:(op==CmpOp.In)=false:=by cases op<;>first |rfl |exact absurd rfl h
 have e2:(op==CmpOp.NotIn)=false:=by cases op<;>first |rfl |exact absurd rfl h2
 cases b<;>simp[behindInMarks,e1,e2]
theorem Dj{op:CmpOp}{r:R2}(ho:OpR X (compareOp op) r)(ha:PE X a ta)(hb:PE X b tb)(hm:behindInMarks op b=false):PE X (.Compare a [op] [b] pos) (tOp r ta tb):=by
 intro pins s Z H Q I h
 exact wpAny_Compare1 (Jc ha hb I h fun v u s2 x y H2 I2 rx ry q=>ho pins s2 Z H2 x y v u Q I2 rx ry q) hm
def SN(t:TE):TT:=fun Z H Q=>t Z H fun x H'=>∃k,x=.bl k/\Q k H'
theorem Dk{op:CmpOp}{r:R2}(ho:OpR X (compareOp op) r)(ha:PE X a ta)(hb:PE X b tb)(hm:behindInMarks op b=false):PT X (.Compare a [op] [b] pos) (SN (tOp r ta tb)):=by
 intro pins s Z H Q I h
 refine wpAny_isTrue_Compare1 (thn (ha pins s Z H _ I h) fun v s1 ⟨x,H1,I1,r1,q1⟩=>thn (hb pins s1 Z H1 _ I1 q1) fun u s2 ⟨y,H2,I2,r2,q2⟩ =>
  thn (ho pins s2 Z H2 x y v u _ I2 r1 r2 q2) fun c s3 hw'=>?_) hm
 obtain⟨z,H3,I3,r3,k,e,q3⟩:=hw'
 subst e
 cases r3
 exact wpAny_truthy_bool ⟨H3,I3,q3⟩
theorem pL:(sizeLine:Nat)<2 ^ 63:=by rw[sizeLine_eq];decide
theorem Ey:OpR X (binaryOp .Add) (fun x y H Q=>∃i j,x=.str i/\y=.str j/\i.length+j.length<=sizeLine/\Q (.str (i++j)) H):=by
 intro pins s Z H x y v u Q I rx ry h
 obtain⟨i,j,rfl,rfl,hz,q⟩:=h
 obtain⟨t,rfl⟩:=rx
 obtain⟨t',rfl⟩:=ry
 exact add_str (fun t' tk=>⟨.str (i++j),H,I.tok _,⟨_,rfl⟩,q⟩) hz
theorem vals1{x:V}{us:List Value}(r:Vals [x] us):∃u,us=[u]/\RelV x u:=by
 cases r with
 | cons r1 r2=>cases r2;exact⟨_,rfl,r1⟩
theorem vals2{x y:V}{us:List Value}(r:Vals [x,y] us):∃u w',us=[u,w']/\RelV x u/\RelV y w':=by
 cases r with
 | cons r1 r2 =>
  cases r2 with
  | cons r3 r4=>cases r4;exact⟨_,_,rfl,r1,r3⟩
theorem GD(hc:X.calm=true):gG X (.builtin "max") (fun xs H Q=>∃i j,xs=[.int i,.int j]/\Q (.int (if j>i then j else i)) H):=by
 intro pins s Z H xs us Q I r h
 obtain⟨i,j,rfl,q⟩:=h
 obtain⟨u,w',rfl,⟨t,rfl⟩,⟨t',rfl⟩⟩:=vals2 r
 refine max_two_ints (I.ok.hd hc) fun h' tk k=>⟨_,H,I.kept k,?_,q⟩
 by_cases hj:j>i
 ·rw[if_pos hj,if_pos hj];exact⟨_,rfl⟩
 ·rw[if_neg hj,if_neg hj];exact⟨_,rfl⟩
theorem GF(hc:X.calm=true):gG X (.builtin "min") (fun xs H Q=>∃i j,xs=[.int i,.int j]/\Q (.int (if j<i then j else i)) H):=by
 intro pins s Z H xs us Q I r h
 obtain⟨i,j,rfl,q⟩:=h
 obtain⟨u,w',rfl,⟨t,rfl⟩,⟨t',rfl⟩⟩:=vals2 r
 refine min_two_ints (I.ok.hd hc) fun h' tk k=>⟨_,H,I.kept k,?_,q⟩
 by_cases hj:j<i
 ·rw[if_pos hj,if_pos hj];exact⟨_,rfl⟩
 ·rw[if_neg hj,if_neg hj];exact⟨_,rfl⟩
def Ud(K:PySem.W.Frag)(x:V)(H:Hp)(n:Nat):Prop :=
 match x with
 | .str y=>y.length<=sizeLine/\n=y.length
 | .byt y=>y.size<=sizeLine/\n=y.size
 | .ref p=>(∃xs,SqL K H p xs/\n=xs.length)\/∃xs,SqT K H p xs/\n=xs.length
 | _=>False
theorem Je:gG X (.builtin "len") (fun xs H Q=>∃x n,xs=[x]/\Ud X.K x H n/\Q (.int n) H):=by
 intro pins s Z H xs us Q I r h
 obtain⟨x,n,rfl,e,q⟩:=h
 obtain⟨u,rfl,rx⟩:=vals1 r
 have hl:=pL
 have hs:sizeLine=16777216:=sizeLine_eq
 cases x with
 | str y =>
  obtain⟨t,rfl⟩:=rx
  obtain⟨hy,e'⟩:y.length<=sizeLine/\n=y.length:=e
  subst e'
  exact len_str (by omega) ⟨.int _,H,I.tok _,⟨_,rfl⟩,q⟩
 | byt y =>
  obtain⟨t,rfl⟩:=rx
  obtain⟨hy,e'⟩:y.size<=sizeLine/\n=y.size:=e
  subst e'
  exact PySem.W.len_bytes (by omega) ⟨.int _,H,I.tok _,⟨_,rfl⟩,q⟩
 | ref p =>
  cases rx
  have e':(∃xs,SqL X.K H p xs/\n=xs.length)\/∃xs,SqT X.K H p xs/\n=xs.length:=e
  rcases e' with⟨xs,hx,e'⟩ |⟨xs,hx,e'⟩
  ·subst e'
   obtain⟨its,r',pl,hz⟩:=I.list hx
   have hlen:=r'.length
   exact Calls.call_len_list pl.isList (by simp only[List.size_toArray];omega) ⟨.int xs.length,H,I.tok _,⟨_,by simp only[List.size_toArray];rw[hlen]⟩,q⟩
  ·subst e'
   obtain⟨its,r',pl,hz⟩:=I.tuple hx
   have hlen:=r'.length
   exact len_tuple pl (by simp only[List.size_toArray];omega) ⟨.int xs.length,H,I.tok _,⟨_,by simp only[List.size_toArray];rw[hlen]⟩,q⟩
 | _=>exact(show False from e).elim
end
end L2
namespace L2
open PySem PySem.Spec PyProof.Rows
structure ObjM(h:Heap)(x dx C:Addr)(mA:Str->Option Value):Prop where
 obj:h.get? x=some (PySem.W.instObj C dx)
 ns:h.Ns1 dx mA
 ne:dx≠x
theorem GJ{h:Heap}{dx:Addr}{mA:Str->Option Value}(n:h.Ns1 dx mA):∃od,h.get? dx=some od/\∀name,PySem.W.lookIn name od=some (mA name):=by
 obtain⟨o,es,ep,ho,hd,hk,_,hm⟩:=n
 refine⟨o,ho,fun name=>?_⟩
 have e:=hm name
 unfold nsFind findBy at e
 rw[<-Array.find?_toList] at e
 unfold PySem.W.lookIn
 rw[hd]
 dsimp only
 split
 ·rename_i y q
  rw[q] at e
  exact congrArg some e
 ·rename_i q
  rw[q] at e
  have a:es.toList.any (·.refKey)=false:=by
   rw[List.any_eq_false]
   intro y hy
   obtain⟨z,t,hkey⟩:=hk y (Array.mem_toList_iff.mp hy)
   simp[DictEntry.refKey,hkey]
  have a':¬es.toList.any (·.refKey)=true:=by rw[a];exact Bool.false_ne_true
  rw[if_neg a']
  exact congrArg some e
theorem ObjM.look{h:Heap}{x dx C:Addr}{mA:Str->Option Value}(I:ObjM h x dx C mA):∃od,PySem.W.InstAt h x (PySem.W.instObj C dx) C (some od)/\∀name,PySem.W.lookIn name od=some (mA name) :=
 let⟨od,ho,hl⟩:=GJ I.ns
 ⟨od,⟨I.obj,rfl,rfl,ho⟩,hl⟩
section
variable {prog:Program} {w:World} {A:Around} {E:Value->Shared->Prop} {s:Shared} {K:PySem.W.Frag} {x dx C f:Addr} {mA:Str->Option Value} {name:Str} {v:Value}
theorem get_map{expr:Bool}{Q:Value->Shared->Prop}(X:K.In s.heap)(I:ObjM s.heap x dx C mA)(hg:PySem.W.plainGet K C name=true)(hh:PySem.W.hasDictIn K C=true)
  (ha:PySem.W.findIn K (.ref C) name=some none) (hv:mA name=some v) (hv':PySem.W.handedIn v=true) (h:Q v { s with toks:=s.toks+1 }) :
  wpAny (model prog w) A (getAttr (.ref x) name expr) Q E s:=by
 obtain⟨od,J,hl⟩:=I.look
 exact PySem.W.get_value X J (PySem.W.plainGet_of hg).1 (PySem.W.findObj_own hh ha rfl (by rw[hl,hv])) hv' h
theorem Jf{pl:Sem Bool}{Q:Value×List Value->Shared->Prop}(X:K.In s.heap)(I:ObjM s.heap x dx C mA)(hg:PySem.W.plainGet K C name=true)
  (hf:PySem.W.findIn K (.ref C) name=some (some (.ref f))) (ht:PySem.W.isFn K (.ref f)=true) (hv:mA name=none) (h:Q (.ref f,[.ref x]) s) :
  wpAny (model prog w) A (getMethod (.ref x) name pl) Q E s:=by
 obtain⟨od,J,hl⟩:=I.look
 exact PySem.W.method_fn X J (PySem.W.plainGet_of hg).1 (PySem.W.plainGet_of hg).2 hf (beq_iff_eq.mp ht) (by show(PySem.W.lookIn name od).map (·.isSome)=some false;rw[hl,hv];rfl) h
theorem Mu{ns:List Str}{Q:Unit->Shared->Prop}(X:K.In s.heap)(I:ObjM s.heap x dx C mA)
  (hs:PySem.W.findIn K (.ref C) "__setattr__" = some (some (.builtin "object.__setattr__"))) (hp:PySem.W.plainOver K C=true) (ht:PySem.W.takerIn K C name=some none) (hh:PySem.W.hasDictIn K C=true)
  (hw:PySem.Within mA ns) (hsz:ns.length<=sizeLine)
  (h:∀h',ObjM h' x dx C (fun y=>if y=name then some v else mA y)->Heap.SameBut dx s.heap h'->Q () { s with heap:=h',toks:=s.toks+2 }) :
  wpAny (model prog w) A (setAttr (.ref x) name v) Q E s:=by
 obtain⟨od,J,hl⟩:=I.look
 refine PySem.W.set_plain X J hs (PySem.W.osa_open (s:={ s with toks:=s.toks+1 }) (r:=none) X J hp ht fun b=>?_)
 obtain⟨cd,hc,hd'⟩:=PySem.W.any_some hh
 have hx:s.heap.get? x=some ⟨.ref C,some dx,.plain,#[]⟩:=I.obj
 refine wpAny_bind (wpAny_pure (wpAny_bind (wpAny_bind (wpAny_loadPart hx (wpAny_bind (PySem.W.Looks.here (s:={ s with toks:=s.toks+1 }) (PySem.W.looks_clsIn X hc) ?_))))))
 rw[hd']
 refine wpAny_pure (a:=some dx) (wpAny_bind (wpAny_pure (wpAny_bind ?_)))
 refine wpAny_nsSet1 (s:={ s with toks:=s.toks+1 }) I.ns fun h' hn2 hs2=>?_
 obtain⟨oD,esD,epD,hoD,hdD,hcD⟩:=hn2.count (PySem.Within.cons name v hw)
 refine wpAny_bind (wpAny_lookBehind hoD (by rw[hdD];exact pastItsLine_dict (Nat.le_trans hcD (by rw[List.length_cons];omega))) ?_)
 exact wpAny_pure (h _ ⟨(hs2.2 _ (Ne.symm I.ne)).trans I.obj,hn2,I.ne⟩ hs2)
theorem Jg{R:Result->Shared->Prop}{vs:List Value}{kw:List (Str×Value)}(X:K.In s.heap)(hm:PySem.W.makesIn K C=true)
  (hi:PySem.W.findIn K (.ref C) "__init__" = some (some (.ref f))) (hf:PySem.W.typeIn K (.ref f)=some (.type "function"))
  (h:codeAny (model prog w) (A.under (.builtin "type.__call__" ⟨.ref C::vs,kw⟩)) (.call (.ref f) ⟨.ref (s.heap.objs.size+1)::vs,kw⟩) (PySem.W.InitBack (s.heap.objs.size+1) R)
   { s with heap:=(s.heap.push PySem.W.emptyDict).push (PySem.W.instObj C s.heap.objs.size) }) :
  codeAny (model prog w) A (.call (.ref C) ⟨vs,kw⟩) R s:=by
 obtain⟨hh,g,d,t,os⟩:=s
 exact PySem.W.make_core (PySem.W.makes_of X hm) (PySem.W.looks_findIn X hi) (fun self=>PySem.W.bind_fn X self hf) (.inl rfl) h
end
def gB(f:Str)(v:V):List (Str×V)->List (Str×V)
 | []=>[(f,v)]
 | (g,x)::r=>if g=f then(g,v)::r else(g,x)::gB f v r
theorem ux(f g:Str)(v:V):∀fs:List (Str×V),(gB f v fs).lookup g=if g=f then some v else fs.lookup g
 | []=>by
  show List.lookup g [(f,v)]=_
  by_cases h:g=f
  ·have hb:(g==f)=true:=beq_iff_eq.mpr h
   simp only[List.lookup,hb,if_pos h]
  ·have hb:(g==f)=false:=beq_eq_false_iff_ne.mpr h
   simp only[List.lookup,hb,if_neg h]
 | (k,x)::r=>by
  have ih:=ux f g v r
  rw[show gB f v ((k,x)::r)=(if k=f then(k,v)::r else(k,x)::gB f v r) from rfl]
  by_cases hk:k=f
  ·rw[if_pos hk]
   by_cases h:g=k
   ·have hb:(g==k)=true:=beq_iff_eq.mpr h
    simp only[List.lookup,hb,if_pos (h.trans hk)]
   ·have hb:(g==k)=false:=beq_eq_false_iff_ne.mpr h
    simp only[List.lookup,hb,if_neg (fun e:g=f=>h (e.trans hk.symm))]
  ·rw[if_neg hk]
   by_cases h:g=k
   ·have hb:(g==k)=true:=beq_iff_eq.mpr h
    simp only[List.lookup,hb,if_neg (fun e:g=f=>hk (h.symm.trans e))]
   ·have hb:(g==k)=false:=beq_eq_false_iff_ne.mpr h
    simp only[List.lookup,hb]
    exact ih
theorem rK(f:Str)(v:V):∀fs:List (Str×V),f∈(gB f v fs).map (·.1)/\∀g,g∈fs.map (·.1)->g∈(gB f v fs).map (·.1)
 | []=>⟨by simp[gB],fun g h=>by simp at h⟩
 | (k,x)::r=>by
  obtain⟨i1,i2⟩:=rK f v r
  rw[show gB f v ((k,x)::r)=(if k=f then(k,v)::r else(k,x)::gB f v r) from rfl]
  by_cases hk:k=f
  ·rw[if_pos hk]
   subst hk
   exact⟨by simp,fun g h=>by simpa using h⟩
  ·rw[if_neg hk]
   refine⟨?_,fun g h=>?_⟩
   ·rw[List.map_cons]
    exact List.mem_cons_of_mem _ i1
   ·rw[List.map_cons] at h ⊢
    rcases List.mem_cons.mp h with e |e
    ·exact List.mem_cons.mpr (.inl e)
    ·exact List.mem_cons_of_mem _ (i2 g e)
theorem uy(f:Str)(v:V):∀fs:List (Str×V),(gB f v fs).length<=fs.length+1
 | []=>by simp[gB]
 | (k,x)::r=>by
  have ih:=uy f v r
  rw[show gB f v ((k,x)::r)=(if k=f then(k,v)::r else(k,x)::gB f v r) from rfl]
  by_cases hk:k=f
  ·rw[if_pos hk,List.length_cons,List.length_cons];omega
  ·rw[if_neg hk,List.length_cons,List.length_cons];omega
theorem iw.some_of{v:V}{o:Option Value}(r:iw (some v) o):∃u,o=some u/\RelV v u:=by
 cases o with
 | none=>exact(show False from r).elim
 | some u=>exact⟨u,rfl,r⟩
theorem iw.none_of{o:Option Value}(r:iw none o):o=none:=by
 cases o with
 | none=>rfl
 | some u=>exact(show False from r).elim
theorem GK{v:V}{u:Value}(r:RelV v u):PySem.W.handedIn u=true:=by
 cases v with
 | non=>cases (show u=Value.none from r);rfl
 | bl b=>cases (show u=Value.bool b from r);rfl
 | int i=>obtain⟨t,e⟩:=(show ∃t,u=Value.int i t from r);cases e;rfl
 | str x=>obtain⟨t,e⟩:=(show ∃t,u=Value.str x t from r);cases e;rfl
 | byt b=>obtain⟨t,e⟩:=(show ∃t,u=Value.bytes b t from r);cases e;rfl
 | flt b=>obtain⟨t,e⟩:=(show ∃t,u=Value.float b t from r);cases e;rfl
 | ref a=>cases (show u=Value.ref a from r);rfl
 | ty n=>cases (show u=Value.type n from r);rfl
section
variable {P:Program} {w:World} {H H':Hp} {h h':Heap} {a C dx:Addr} {fs fs':List (Str×V)}
theorem tK(hok:HOk P w H h)(e:H a=some (.ins C dx fs)):∃mA,ObjM h a dx C mA/\(∀f,iw (fs.lookup f) (mA f))/\PySem.Within mA (fs.map (·.1))/\fs.length<=1000/\H dx=some (.own a):=by
 obtain⟨d,z,ne,ob,mA,n,r,q⟩:=(show bV P w H h a (.ins C dx fs) from hok a _ e)
 exact⟨mA,⟨ob,n,ne⟩,r,q,z,d⟩
end
structure Cls(K:PySem.W.Frag)(C:Addr):Prop where
 pg:PySem.W.plainGet K C Str.empty=true
 hd:PySem.W.hasDictIn K C=true
 po:PySem.W.plainOver K C=true
 sa:PySem.W.findIn K (.ref C) "__setattr__" = some (some (.builtin "object.__setattr__"))
theorem Cls.get{K:PySem.W.Frag}{C:Addr}(c:Cls K C)(f:Str):PySem.W.plainGet K C f=true:=c.pg
def mF(K:PySem.W.Frag)(C:Addr)(f:Str):Prop:=PySem.W.findIn K (.ref C) f=some none
theorem mF.taker{K:PySem.W.Frag}{C:Addr}{f:Str}(n:mF K C f):PySem.W.takerIn K C f=some none:=by
 unfold PySem.W.takerIn
 rw[show PySem.W.findIn K (.ref C) f=some none from n]
 rfl
structure Meth(K:PySem.W.Frag)(C:Addr)(m:Str)(f:Addr):Prop where
 at_:PySem.W.findIn K (.ref C) m=some (some (.ref f))
 fn:PySem.W.isFn K (.ref f)=true
 kp:PySem.W.keepIn K (.ref f)=true
section
variable {X:Cx} {pins:List (Addr×Obj)} {Z:St} {H:Hp} {s:Shared} {a C dx:Addr} {fs:List (Str×V)} {f:Str} {v:V} {A:Around} {E:Value->Shared->Prop}
theorem Ez{b:Bool}{Q:Value->Shared->Prop}(I:Inv X pins Z H s)(e:H a=some (.ins C dx fs))(c:Cls X.K C)(n:mF X.K C f)(l:fs.lookup f=some v)
  (h:∀u s',Inv X pins Z H s'->RelV v u->Q u s'):wpAny (model X.prog X.w) A (getAttr (.ref a) f b) Q E s:=by
 obtain⟨mA,O,r,_,_,_⟩:=tK I.hok e
 obtain⟨u,hu,ru⟩:=iw.some_of (v:=v) (o:=mA f) (by rw[<-l];exact r f)
 exact get_map I.kIn O (c.get f) c.hd n hu (GK ru) (h u _ (I.tok _) ru)
theorem qy{m:Str}{g:Addr}{pl:Sem Bool}{Q:Value×List Value->Shared->Prop}(I:Inv X pins Z H s)(e:H a=some (.ins C dx fs))(c:Cls X.K C)(k:Meth X.K C m g)(l:fs.lookup m=none)
  (h:Q (.ref g,[.ref a]) s):wpAny (model X.prog X.w) A (getMethod (.ref a) m pl) Q E s:=by
 obtain⟨mA,O,r,_,_,_⟩:=tK I.hok e
 have hn:mA m=none:=iw.none_of (by rw[<-l];exact r m)
 exact Jf I.kIn O (c.get m) k.at_ k.fn hn h
theorem EY{y:V}{u:Value}{Q:Unit->Shared->Prop}(I:Inv X pins Z H s)(e:H a=some (.ins C dx fs))(c:Cls X.K C)(n:mF X.K C f)(hl:fs.length<1000)(ry:RelV y u)
  (h:∀s',Inv X pins Z (upd H a (.ins C dx (gB f y fs))) s'->Q () s'):wpAny (model X.prog X.w) A (setAttr (.ref a) f u) Q E s:=by
 obtain⟨mA,O,r,wi,_,ho⟩:=tK I.hok e
 have hz:(fs.map (·.1)).length<=sizeLine:=by rw[List.length_map,sizeLine_eq];omega
 refine Mu I.kIn O c.sa c.po n.taker c.hd wi hz fun h' O' sb=>h _ ?_
 have hd:∃o,h'.get? dx=some o:=let⟨o,_,_,e',_⟩:=O'.ns;⟨o,e'⟩
 refine I.write (x:=a) (e:=dx) (by rw[e];exact True.intro) (.inr ho) (fun b q hb z=>(sb.2 b hb).trans z) hd ?_
 refine⟨by rw[aD O.ne];exact ho,?_,O.ne,O'.obj,_,O'.ns,fun g=>?_,fun g hg=>?_⟩
 ·have:=uy f y fs;omega
 ·show iw ((gB f y fs).lookup g) (if g=f then some u else mA g)
  rw[ux]
  by_cases q:g=f
  ·rw[if_pos q,if_pos q];exact ry
  ·rw[if_neg q,if_neg q];exact r g
 ·by_cases q:g=f
  ·rw[q];exact(rK f y fs).1
  ·refine(rK f y fs).2 g (wi g fun z=>hg ?_)
   show(if g=f then some u else mA g)=none
   rw[if_neg q];exact z
theorem Inv.made(I:Inv X pins Z H s):Inv X pins Z (upd (upd H s.heap.objs.size (.own (s.heap.objs.size+1))) (s.heap.objs.size+1) (.ins C s.heap.objs.size []))
  { s with heap:=(s.heap.push PySem.W.emptyDict).push (PySem.W.instObj C s.heap.objs.size) }:=by
 have e1:(s.heap.push PySem.W.emptyDict).get? s.heap.objs.size=some PySem.W.emptyDict:=Heap.get?_push_size s.heap rfl
 have e2:((s.heap.push PySem.W.emptyDict).push (PySem.W.instObj C s.heap.objs.size)).get? (s.heap.objs.size+1)=some (PySem.W.instObj C s.heap.objs.size):=by
  have:=Heap.get?_push_size (s.heap.push PySem.W.emptyDict) (o:=PySem.W.instObj C s.heap.objs.size) rfl
  rwa [Heap.size_push] at this
 have e3:(s.heap.push PySem.W.emptyDict).Ns s.heap.objs.size (fun _=>none):=⟨PySem.W.emptyDict,#[],_,e1,rfl,(fun e he=>absurd he (by simp)),fun _=>rfl⟩
 have I1:=I.laid (a:=s.heap.objs.size) (o:=.own (s.heap.objs.size+1)) (h':=s.heap.push PySem.W.emptyDict) (t':=s.toks) (fun b u q=>Heap.get?_push_of_some _ q) (Nat.le_refl _) ⟨_,e1⟩
 refine I1.laid (a:=s.heap.objs.size+1) (o:=.ins C s.heap.objs.size []) (t':=s.toks) (fun b u q=>Heap.get?_push_of_some _ q) (Nat.le_of_eq (Heap.size_push _ _)) ?_
 have ne:s.heap.objs.size≠s.heap.objs.size+1:=Nat.ne_of_lt (Nat.lt_succ_self _)
 refine⟨by rw[aD ne,aM],Nat.zero_le _,ne,e2,fun _=>none,(Heap.Ns1.of_empty e3).at fun o q=>Heap.get?_push_of_some _ q,fun _=>True.intro,fun y hy=>absurd rfl hy⟩
theorem Mv{prog:Program}{w:World}{env:Env}{e:Expr}{f:Str}{pos:Pos}{s:Shared}{Q:Value->Shared->Prop}(hb:attributeBase e f env (eval e env)=eval e env)
  (h:wpAny (model prog w) A (eval e env) (fun o s₁=>wpAny (model prog w) A (getAttr o f true) Q E s₁) E s):wpAny (model prog w) A (eval (.Attribute e f pos) env) Q E s :=
 Attribute_any_ h (by rw[arm_eval_Attribute,hb])
end
def Ue(K:PySem.W.Frag)(ta:TE)(f:Str):TE:=fun Z H Q=>ta Z H fun x H1=>∃a C dx fs v,x=.ref a/\H1 a=some (.ins C dx fs)/\Cls K C/\mF K C f/\fs.lookup f=some v/\Q v H1
def Ug(K:PySem.W.Frag)(ta tv:TE)(f:Str):TS:=fun D Z H=>tv Z H fun y H1=>ta Z H1 fun x H2=>∃a C dx fs,x=.ref a/\H2 a=some (.ins C dx fs)/\Cls K C/\mF K C f/\fs.length<1000 /\
 D.nx Z (upd H2 a (.ins C dx (gB f y fs)))
section
variable {X:Cx} {o e value:Expr} {f:Str} {pos pos' tpos:Pos} {ta tv:TE}
theorem QB(he:PE X e ta)(hb:attributeBase e f X.env (eval e X.env)=eval e X.env):PE X (.Attribute e f pos) (Ue X.K ta f):=by
 intro pins s Z H Q I h
 refine Mv hb (thn (he pins s Z H _ I h) fun u s1 hw'=>?_)
 obtain⟨x,H1,I1,rx,a,C,dx,fs,v,ex,ea,c,n,l,q⟩:=hw'
 subst ex
 obtain rfl:u=Value.ref a:=rx
 exact Ez I1 ea c n l fun u' s2 I2 ru=>⟨v,H1,I2,ru,q⟩
theorem QC(ha:PE X o ta)(hv:PE X value tv)(hs:swapsWith value (some (.Attribute o f pos')) pos.line X.env=pure false):PS X (.Assign [.Attribute o f pos'] value pos) (Ug X.K ta tv f):=by
 intro pins s Z H D I h
 refine plainObj_wpAny_Assign_Attribute (thn (hv pins s Z H _ I h) fun u s1 ⟨y,H1,I1,ry,q⟩=>thn (ha pins s1 Z H1 _ I1 q) fun ov s2 hw'=>?_) hs
 obtain⟨x,H2,I2,rx,a,C,dx,fs,ex,ea,c,n,l,q2⟩:=hw'
 subst ex
 obtain rfl:ov=Value.ref a:=rx
 exact EY I2 ea c n l ry fun s3 I3=>⟨Z,_,I3,q2⟩
end
section
variable {X:Cx} {pins:List (Addr×Obj)} {Z:St} {H:Hp} {s:Shared} {A:Around} {E:Value->Shared->Prop} {Q:Value->Shared->Prop} {c:Value} {b:Bool}
inductive TyOf(K:PySem.W.Frag)(H:Hp):V->Value->Prop where
 | non:TyOf K H .non (.type "NoneType")
 | bl (x:Bool):TyOf K H (.bl x) (.type "bool")
 | int (i:Int):TyOf K H (.int i) (.type "int")
 | str (x:Str):TyOf K H (.str x) (.type "str")
 | flt (x:UInt64):TyOf K H (.flt x) (.type "float")
 | lst {a:Addr} {xs:List V} (e:H a=some (.lst xs)):TyOf K H (.ref a) (.type "list")
 | frz {a:Addr} {o:Obj} {xs:List V} (e:H a=some (.frz o (.lst xs))):TyOf K H (.ref a) (.type "list")
 | tup {a:Addr} {xs:List V} (e:H a=some (.tup xs)):TyOf K H (.ref a) (.type "tuple")
 | dK {a:Addr} {kvs:List (Key×V)} (e:H a=some (.dK kvs)):TyOf K H (.ref a) (.type "dict")
 | dT {a:Addr} {kvs:List (List Key×V)} (e:H a=some (.dT kvs)):TyOf K H (.ref a) (.type "dict")
 | ins {a C dx:Addr} {fs:List (Str×V)} (e:H a=some (.ins C dx fs)) (cl:Cls K C) (ha:PySem.W.findIn K (.ref C) "__class__" = some (some (.builtin "object.__class__")))
   (hn:PySem.W.specialIn K (.builtin "object.__class__") "__get__" = some (some (.builtin "getset_descriptor.__get__"))) (htk:PySem.W.takesIn K (.builtin "object.__class__")=some true)
   (hm:PySem.W.mroIn K C (.type "object")=some true):TyOf K H (.ref a) (.ref C)
theorem rM{x:V}{u t:Value}(I:Inv X pins Z H s)(rx:RelV x u)(ty:TyOf X.K H x t)(e:PySem.W.kitOne X.K t c=some b)(h:∀tk,Q (.bool b) { s with toks:=tk }) :
  wpAny (model X.prog X.w) A (call (.builtin "isinstance") [u,c]) Q E s:=by
 cases ty with
 | non=>cases (show u=Value.none from rx);exact PySem.W.kia_one PySem.W.kitx_none I.kIn True.intro e (fun z=>nomatch z) h
 | bl y=>cases (show u=Value.bool y from rx);exact PySem.W.kia_one PySem.W.kitx_bool I.kIn True.intro e (fun z=>nomatch z) h
 | int i=>obtain⟨t,q⟩:=(show ∃t,u=Value.int i t from rx);cases q;exact PySem.W.kia_one PySem.W.kitx_int I.kIn True.intro e (fun z=>nomatch z) h
 | str y=>obtain⟨t,q⟩:=(show ∃t,u=Value.str y t from rx);cases q;exact PySem.W.kia_one PySem.W.kitx_str I.kIn True.intro e (fun z=>nomatch z) h
 | flt y=>obtain⟨t,q⟩:=(show ∃t,u=Value.float y t from rx);cases q;exact PySem.W.kia_one PySem.W.kitx_float I.kIn True.intro e (fun z=>nomatch z) h
 | @lst a xs ea =>
  cases (show u=Value.ref a from rx)
  obtain⟨_,_,n,_,h1⟩:=(show bV X.prog X.w H s.heap a (.lst xs) from I.hok a _ ea)
  exact PySem.W.kia_one PySem.W.kitx_list I.kIn ⟨_,h1,rfl⟩ e (fun z=>nomatch z) h
 | @frz a ob xs ea =>
  cases (show u=Value.ref a from rx)
  obtain⟨_,_,_,n,_,h1⟩:=(show bV X.prog X.w H s.heap a (.frz ob (.lst xs)) from I.hok a _ ea)
  exact PySem.W.kia_one PySem.W.kitx_list I.kIn ⟨_,h1,rfl⟩ e (fun z=>nomatch z) h
 | @tup a xs ea =>
  cases (show u=Value.ref a from rx)
  obtain⟨_,_,_,p⟩:=(show bV X.prog X.w H s.heap a (.tup xs) from I.hok a _ ea)
  obtain⟨o,h1,h2,_⟩:=p
  exact PySem.W.kia_one PySem.W.kitx_tuple I.kIn ⟨o,h1,h2⟩ e (fun z=>nomatch z) h
 | @dK a kvs ea =>
  cases (show u=Value.ref a from rx)
  obtain⟨_,_,vs,_,p⟩:=(show bV X.prog X.w H s.heap a (.dK kvs) from I.hok a _ ea)
  obtain⟨o,es,ep,h1,h2,_⟩:=p
  exact PySem.W.kia_one PySem.W.kitx_dict I.kIn ⟨o,h1,h2.1⟩ e (fun z=>nomatch z) h
 | @dT a kvs ea =>
  cases (show u=Value.ref a from rx)
  obtain⟨_,_,xs,_,o,es,ep,h1,h2,_⟩:=(show bV X.prog X.w H s.heap a (.dT kvs) from I.hok a _ ea)
  exact PySem.W.kia_one PySem.W.kitx_dict I.kIn ⟨o,h1,h2.1⟩ e (fun z=>nomatch z) h
 | @ins a C dx fs ea cl ha hn htk hm =>
  cases (show u=Value.ref a from rx)
  obtain⟨mA,O,_⟩:=tK I.hok ea
  obtain⟨od,J,_⟩:=O.look
  exact PySem.W.kia_one (PySem.W.kitx_own (cl.get _) cl.hd ha hn htk hm) I.kIn J e (fun z=>nomatch z) h
end
end L2
namespace L2
open PySem PySem.Spec PyProof.Rows
structure Room(k:Nat)(A:Around):Prop where
 hd:A.handled=none
 dp:A.depth+3*k+5<recursionLimit
 un:A.units+16*k+200<cLine
 gd:A.guards=some []:=by rfl
theorem Room.mono{j k:Nat}{A:Around}(r:Room k A)(h:j<=k):Room j A:=⟨r.hd,by have:=r.dp;omega,by have:=r.un;omega,r.gd⟩
theorem Room.deeper{k:Nat}{A:Around}(r:Room (k+1) A)(env:Env):Room k (A.deeper env) :=
 ⟨r.hd,by have:=r.dp;show A.depth+1+3*k+5<_;omega,by have:=r.un;show A.units+3+16*k+200<_;omega,r.gd⟩
theorem Room.in1{k:Nat}{A:Around}(r:Room (k+1) A):Room k A.in1 :=
 ⟨r.hd,by have:=r.dp;show A.depth+3*k+5<_;omega,by have:=r.un;show A.units+1+16*k+200<_;omega,r.gd⟩
theorem E_{A:Around}{C:Addr}{us:List Value}{kw:List (Str×Value)}:(A.under (.builtin "type.__call__" ⟨.ref C::us,kw⟩)).depth=A.depth+1:=by
 first |rfl |simp[Around.under,Code.weight,Code.isCreation,Code.isGuard,Code.isCaller,Code.frames,Code.isFrame,guardIds]
theorem Fb{A:Around}{C:Addr}{us:List Value}{kw:List (Str×Value)}:(A.under (.builtin "type.__call__" ⟨.ref C::us,kw⟩)).units=A.units+1:=by
 first |rfl |simp[Around.under,Code.cUnits,Code.frames,Code.isFrame]
theorem Room.make{k:Nat}{A:Around}(r:Room (k+1) A)(C:Addr)(us:List Value)(kw:List (Str×Value)):Room k (A.under (.builtin "type.__call__" ⟨.ref C::us,kw⟩)) :=
 ⟨r.hd,by have:=r.dp;rw[E_];omega,by have:=r.un;rw[Fb];omega,by first |exact r.gd |simpa [Around.under,Code.isGuard,Code.frames,Code.isFrame,guardIds] using r.gd⟩
theorem Room.depth{k:Nat}{A:Around}(r:Room k A):A.depth<recursionLimit:=by have:=r.dp;omega
theorem Room.units{k:Nat}{A:Around}(r:Room k A):A.units+64<cLine:=by have:=r.un;omega
def xF:TA:=fun _ H Q=>Q [] H
def Fd(ta:TE)(tr:TA):TA:=fun Z H Q=>ta Z H fun x H1=>tr Z H1 fun xs H2=>Q (x::xs) H2
section
variable {X:Cx} {e:Expr} {es:List Expr} {te:TE} {t:TA} {pos:Pos}
theorem dH:PA X [] xF:=fun _ _ _ _ H Q I h=>Calls.spliced_nil ⟨[],H,I,.nil,h⟩
theorem bR(ha:PE X e te)(hr:PA X es t)(hs:starEach (e::es) X.env=(false,eval e X.env)::starEach es X.env:=by rfl):PA X (e::es) (Fd te t):=by
 intro pos pins s Z H Q I h
 rw[hs]
 show wpAny _ _ (spliced ((false,eval e X.env)::backTo pos (starEach es X.env))) _ _ s
 refine Calls.spliced_cons (thn (ha pins s Z H _ I h) fun u s1 hw'=>?_)
 obtain⟨x,H1,I1,r1,q1⟩:=hw'
 exact thn (hr pos pins s1 Z H1 _ I1 q1) fun us s2 ⟨xs,H2,I2,r2,q2⟩=>⟨x::xs,H2,I2,.cons r1 r2,q2⟩
def Uh(t:TA):TE:=fun Z H Q=>t Z H fun xs H1=>xs.length<=sizeLine/\∀p,H1 p=none->Q (.ref p) (upd H1 p (.tup xs))
def Ui(t:TA):TE:=fun Z H Q=>t Z H fun xs H1=>xs.length<=sizeLine/\∀p,H1 p=none->Q (.ref p) (upd H1 p (.lst xs))
theorem GP{x1}(h:PA X es t):PE X (.Tuple es x1 pos) (Uh t):=by
 intro pins s Z H Q I hq
 refine wpAny_Tuple_spliced (thn (h pos pins s Z H _ I hq) fun us s1 ⟨xs,H1,I1,r,z,q⟩=>⟨by rw[<-r.length];exact z,?_⟩)
 have hf:H1 s1.heap.objs.size=none:=I1.hok.fresh (Nat.le_refl _)
 refine⟨.ref s1.heap.objs.size,upd H1 s1.heap.objs.size (.tup xs),I1.laid (t':=s1.toks) (fun b u e=>Heap.get?_push_of_some _ e) (Nat.le_refl _) ?_,rfl,q _ hf⟩
 exact⟨z,us,r,⟨_,Heap.get?_push_size _ rfl,rfl,_,rfl⟩⟩
theorem Aa(h:PA X es t):PE X (.List es pos) (Ui t):=by
 intro pins s Z H Q I hq
 refine wpAny_List_spliced (thn (h pos pins s Z H _ I hq) fun us s1 ⟨xs,H1,I1,r,z,q⟩=>⟨by rw[<-r.length];exact z,?_⟩)
 have hf:H1 s1.heap.objs.size=none:=I1.hok.fresh (Nat.le_refl _)
 refine⟨.ref s1.heap.objs.size,upd H1 s1.heap.objs.size (.lst xs),I1.laid (t':=s1.toks) (fun b u e=>Heap.get?_push_of_some _ e) (Nat.le_refl _) ?_,rfl,q _ hf⟩
 exact⟨z,us,0,r,Heap.get?_push_size _ rfl⟩
end
abbrev Sp:=List V->Hp->VK->XK->Prop
abbrev CXT:=List Env->Hp->Shared->XK->Value->Shared->Prop
structure Env0(P:Program)(w:World)(K:PySem.W.Frag)(mg:Str->Option Value)(base:Heap)(A:Around)(outer:List Env)(s:Shared)(H:Hp):Prop where
 frames:A.frames=some outer
 mod:Mod K mg base
 bs:∀b o,base.get? b=some o->s.heap.get? b=some o/\H b=none
 bsz:base.objs.size<=s.heap.objs.size
 funs:s.heap.FunFrames base outer
 frf:∀b∈frs outer,H b=none
 hok:HOk P w H s.heap
 bare:AllBare s.gens
def CE(outer:List Env)(P:Program)(w:World)(H:Hp)(s:Shared)(Q:VK)(u:Value)(s':Shared):Prop :=
 ∃v H',s'.os=s.os/\AllBare s'.gens/\Un (frs outer) [] H H' s.heap s'.heap/\HOk P w H' s'.heap/\RelV v u/\Q v H'
def CR(CX:CXT)(outer:List Env)(P:Program)(w:World)(H:Hp)(s:Shared)(Q:VK)(E:XK)(r:Result)(s':Shared):Prop :=
 match r with
 | .ok (.ret u)=>CE outer P w H s Q u s'
 | .ok _=>False
 | .error e=>CX outer H s E e s'
structure FnOk(P:Program)(w:World)(K:PySem.W.Frag)(mg:Str->Option Value)(base:Heap)(CX:CXT)(k:Nat)(f:Addr)(fd:FuncData)(ps:List Str)(sp:Sp):Prop where
 len:∀vs H Q E,sp vs H Q E->vs.length=ps.length
 run:∀(A:Around) (outer:List Env) (s:Shared) (H:Hp) (args:Args) (us:List Value) (vs:List V) (Q:VK) (E:XK),Room k A->Env0 P w K mg base A outer s H->BindsTo s fd args (ps.zip us)->Vals vs us->sp vs H Q E ->
  codeAny (model P w) A (.call (.ref f) args) (CR CX outer P w H s Q E) s
theorem FnOk.imp{P:Program}{w:World}{K:PySem.W.Frag}{mg:Str->Option Value}{base:Heap}{CX:CXT}{k:Nat}{f:Addr}{fd:FuncData}{ps:List Str}{sp sp':Sp}(F:FnOk P w K mg base CX k f fd ps sp)
  (h:∀vs H Q E,sp' vs H Q E->sp vs H Q E):FnOk P w K mg base CX k f fd ps sp' :=
 ⟨fun vs H Q E q=>F.len vs H Q E (h _ _ _ _ q),fun A outer s H args us vs Q E hr he hb hv hs=>F.run A outer s H args us vs Q E hr he hb hv (h _ _ _ _ hs)⟩
theorem Env0.make{P:Program}{w:World}{K:PySem.W.Frag}{mg:Str->Option Value}{base:Heap}{A:Around}{outer:List Env}{s:Shared}{H:Hp}(e:Env0 P w K mg base A outer s H)(C:Addr)(us:List Value)(kw:List (Str×Value)) :
  Env0 P w K mg base (A.under (.builtin "type.__call__" ⟨.ref C::us,kw⟩)) outer s H:=⟨by first |exact e.frames |(simpa [Around.under,Code.envs,Code.isFrame,pushEnvs] using e.frames),e.mod,e.bs,e.bsz,e.funs,e.frf,e.hok,e.bare⟩
theorem Env0.in1{P:Program}{w:World}{K:PySem.W.Frag}{mg:Str->Option Value}{base:Heap}{A:Around}{outer:List Env}{s:Shared}{H:Hp}(e:Env0 P w K mg base A outer s H) :
  Env0 P w K mg base A.in1 outer s H:=⟨e.frames,e.mod,e.bs,e.bsz,e.funs,e.frf,e.hok,e.bare⟩
section
variable {X:Cx} {pins:List (Addr×Obj)} {Z:St} {H:Hp} {s s':Shared}
theorem Inv.env0(I:Inv X pins Z H s):Env0 X.prog X.w X.K X.mg X.base X.A X.stack s H :=
 ⟨I.ok.frames,I.ok.mod,I.bs,Nat.le_trans I.ok.bsz I.sz,I.stack,I.stkFree,I.hok,I.bare⟩
theorem Inv.after{Q:VK}{u:Value}(I:Inv X pins Z H s)(h:CE X.stack X.prog X.w H s Q u s'):EP X pins Z Q u s':=by
 obtain⟨v,H',os,bare,un,hok,r,q⟩:=h
 obtain⟨hh,g,d,t,os'⟩:=s'
 obtain rfl:os'=s.os:=os
 exact⟨v,H',I.call (h':=hh) (g':=g) (d':=d) (t':=t) (ch:=[]) un hok bare (fun b z=>absurd z (by simp)),r,q⟩
end
def Fe(sp:Sp)(dvs:List V)(E:XK)(t:TA):TE:=fun Z H Q=>t Z H fun vs H1=>sp (vs++dvs) H1 Q E
def Ff(C:Addr)(m:Str)(sp:Sp)(dvs:List V)(E:XK)(ta:TE)(t:TA):TE:=fun Z H Q=>ta Z H fun x H1=>∃a dx fs,x=.ref a/\H1 a=some (.ins C dx fs)/\fs.lookup m=none /\
 t Z H1 fun vs H2=>sp (x::(vs++dvs)) H2 Q E
def Lk(C:Addr)(sp:Sp)(dvs:List V)(E:XK)(t:TA):TE:=fun Z H Q=>t Z H fun vs H1=>∀x dx,H1 x=none->H1 dx=none->dx≠x ->
 sp (.ref x::(vs++dvs)) (upd (upd H1 dx (.own x)) x (.ins C dx [])) (fun v H2=>v=.non/\Q (.ref x) H2) E
def Binds(K:PySem.W.Frag)(fd:FuncData)(ps:List Str)(ds:List Value):Prop :=
 ∀(s:Shared) (us:List Value),K.In s.heap->(us++ds).length=ps.length->BindsTo s fd ⟨us,[]⟩ (ps.zip (us++ds))
theorem Binds.all{K:PySem.W.Frag}{fd:FuncData}{ps:List Str}(h:∀us:List Value,us.length=ps.length->bindArgs fd ⟨us,[]⟩=pure (ps.zip us)):Binds K fd ps []:=fun s us _ hl=>by
 rw[List.append_nil] at hl ⊢
 exact .of_eq (h us hl)
def Passes(CX:CXT)(X:Cx)(E:XK):Prop:=∀(pins:List (Addr×Obj)) (Z:St) (H:Hp) (s:Shared) (e:Value) (s':Shared),Inv X pins Z H s->CX X.stack H s E e s'->X.xe e s'
section
variable {X:Cx} {CX:CXT} {k:Nat} {f C:Addr} {fd:FuncData} {ps:List Str} {sp:Sp} {dvs:List V} {ds:List Value} {E:XK} {x m:Str} {p pos apos:Pos} {e o:Expr} {es:List Expr} {ta:TE} {t:TA}
theorem vG{pins:List (Addr×Obj)}{Z:St}{H:Hp}{s:Shared}{Q:VK}{us:List Value}{vs:List V}(F:FnOk X.prog X.w X.K X.mg X.base CX k f fd ps sp)(hr:Room k X.A)(hb:Binds X.K fd ps ds)(hd:Vals dvs ds)(hx:Passes CX X E)
  (I:Inv X pins Z H s) (r:Vals vs us) (h:sp (vs++dvs) H Q E):wpAny (model X.prog X.w) X.A (call (.ref f) us) (EP X pins Z Q) X.xe s:=by
 have r2:Vals (vs++dvs) (us++ds):=r.append hd
 have hl:(us++ds).length=ps.length:=by rw[<-r2.length];exact F.len _ _ _ _ h
 refine wpAny_call (codeAny_mono (F.run X.A X.stack s H ⟨us,[]⟩ (us++ds) (vs++dvs) Q E hr I.env0 (hb s us I.kIn hl) r2 h) fun r s' hq=>?_)
 cases r with
 | error e=>exact hx pins Z H s e s' I hq
 | ok fl =>
  cases fl with
  | ret u=>exact I.after hq
  | next=>exact False.elim hq
  | brk=>exact False.elim hq
  | cont=>exact False.elim hq
theorem Mw(F:FnOk X.prog X.w X.K X.mg X.base CX k f fd ps sp)(hr:Room k X.A)(hg:Gl X x)(hm:X.mg x=some (.ref f))(hk:PySem.W.keepIn X.K (.ref f)=true)(hb:Binds X.K fd ps ds)(hd:Vals dvs ds)(hx:Passes CX X E)
  (ha:PA X (e::es) t) (hdb:(x==("__debug__":Str))=false:=by decide) (he:starEach (e::es) X.env=(false,eval e X.env)::starEach es X.env:=by rfl) (hpl:(backTo pos (starEach es X.env)).any (·.1)=false:=by rfl) :
  PE X (.Call (.Name x p) (e::es) [] pos) (Fe sp dvs E t):=by
 intro pins s Z H Q I h
 refine wpAny_Call_Name_kw (lR I hg hm ?_ hdb)
 refine PySem.W.callWith_K (h₀:=X.base) I.ok.mod.kin hk (thn (ha pos pins s Z H _ I h) fun us s1 ⟨vs,H1,I1,r,q⟩=>⟨I1.kIn,?_⟩) he hpl
 exact vG F hr hb hd hx I1 r q
theorem Jh(F:FnOk X.prog X.w X.K X.mg X.base CX k f fd ps sp)(hr:Room k X.A)(hg:Gl X x)(hm:X.mg x=some (.ref f))(hk:PySem.W.keepIn X.K (.ref f)=true)(hb:Binds X.K fd ps ds)(hd:Vals dvs ds)(hx:Passes CX X E)
  (hdb:(x==("__debug__":Str))=false:=by decide):PE X (.Call (.Name x p) [] [] pos) (Fe sp dvs E xF):=by
 intro pins s Z H Q I h
 refine wpAny_Call_Name_kw (lR I hg hm ?_ hdb)
 exact PySem.W.callWith_K0 I.kIn hk (vG (us:=[]) F hr hb hd hx I .nil h)
theorem Mx{pl:Sem Bool}(he:PE X o ta)(c:Cls X.K C)(hm:Meth X.K C m f)(F:FnOk X.prog X.w X.K X.mg X.base CX k f fd ps sp)(hr:Room k X.A)(hb:Binds X.K fd ps ds)(hd:Vals dvs ds)(hx:Passes CX X E)(ha:PA X (e::es) t)
  (hst:starEach (e::es) X.env=(false,eval e X.env)::starEach es X.env:=by rfl) (hpl:(backTo pos (starEach es X.env)).any (·.1)=false:=by rfl)
  (ht:eval (.Call (.Attribute o m apos) (e::es) [] pos) X.env=(do
   let ov <-eval o X.env
   standAt apos.atName
   let (f,first) <-holding [ov] (getMethod ov m pl)
   callWith pos f first (backTo pos (starEach (e::es) X.env)) (backToKw pos (keywordEach [] X.env))):=by rfl) :
  PE X (.Call (.Attribute o m apos) (e::es) [] pos) (Ff C m sp dvs E ta t):=by
 intro pins s Z H Q I h
 refine PySem.W.methodCall_KW (pl:=pl) (thn (he pins s Z H _ I h) fun u s1 hw'=>?_) ht
 obtain⟨x,H1,I1,rx,a,dx,fs,ex,ea,l,q⟩:=hw'
 subst ex
 obtain rfl:u=Value.ref a:=rx
 refine qy I1 ea c hm l ?_
 refine PySem.W.callWith_K (first:=[.ref a]) (h₀:=X.base) I.ok.mod.kin hm.kp (thn (ha pos pins s1 Z H1 _ I1 q) fun us s2 ⟨vs,H2,I2,r,q2⟩=>⟨I2.kIn,?_⟩) hst hpl
 exact vG (us:=.ref a::us) (vs:=.ref a::vs) F hr hb hd hx I2 (.cons rfl r) q2
theorem Ji{pl:Sem Bool}(he:PE X o ta)(c:Cls X.K C)(hm:Meth X.K C m f)(F:FnOk X.prog X.w X.K X.mg X.base CX k f fd ps sp)(hr:Room k X.A)(hb:Binds X.K fd ps ds)(hd:Vals dvs ds)(hx:Passes CX X E)
  (ht:eval (.Call (.Attribute o m apos) [] [] pos) X.env=(do
   let ov <-eval o X.env
   standAt apos.atName
   let (f,first) <-holding [ov] (getMethod ov m pl)
   callWith pos f first (backTo pos (starEach [] X.env)) (backToKw pos (keywordEach [] X.env))):=by rfl) :
  PE X (.Call (.Attribute o m apos) [] [] pos) (Ff C m sp dvs E ta xF):=by
 intro pins s Z H Q I h
 refine PySem.W.methodCall_KW (pl:=pl) (thn (he pins s Z H _ I h) fun u s1 hw'=>?_) ht
 obtain⟨x,H1,I1,rx,a,dx,fs,ex,ea,l,q⟩:=hw'
 subst ex
 obtain rfl:u=Value.ref a:=rx
 refine qy I1 ea c hm l ?_
 exact PySem.W.callWith_K0 (first:=[.ref a]) I1.kIn hm.kp (vG (us:=[.ref a]) (vs:=[.ref a]) F hr hb hd hx I1 (.cons rfl .nil) q)
structure Mk(K:PySem.W.Frag)(C f:Addr):Prop where
 makes:PySem.W.makesIn K C=true
 init:PySem.W.findIn K (.ref C) "__init__" = some (some (.ref f))
 fn:PySem.W.isFn K (.ref f)=true
 kp:PySem.W.keepIn K (.ref C)=true
theorem Jj{pins:List (Addr×Obj)}{Z:St}{H:Hp}{s:Shared}{Q:VK}{us:List Value}{vs:List V}(M:Mk X.K C f)(F:FnOk X.prog X.w X.K X.mg X.base CX k f fd ps sp)(hr:Room (k+1) X.A)(hb:Binds X.K fd ps ds)(hd:Vals dvs ds)
  (hx:Passes CX X E) (I:Inv X pins Z H s) (r:Vals vs us)
  (h:∀x dx,H x=none->H dx=none->dx≠x->sp (.ref x::(vs++dvs)) (upd (upd H dx (.own x)) x (.ins C dx [])) (fun v H2=>v=.non/\Q (.ref x) H2) E) :
  wpAny (model X.prog X.w) X.A (call (.ref C) us) (EP X pins Z Q) X.xe s:=by
 have hq:=h (s.heap.objs.size+1) s.heap.objs.size (I.hok.fresh (Nat.le_succ _)) (I.hok.fresh (Nat.le_refl _)) (Nat.ne_of_lt (Nat.lt_succ_self _))
 have I2:=Inv.made (C:=C) I
 have r2:Vals (V.ref (s.heap.objs.size+1)::(vs++dvs)) (Value.ref (s.heap.objs.size+1)::(us++ds)):=.cons rfl (r.append hd)
 have hl:(Value.ref (s.heap.objs.size+1)::us++ds).length=ps.length:=by
  have e:=r2.length
  rw[F.len _ _ _ _ hq] at e
  exact e.symm
 refine wpAny_call (Jg (f:=f) I.kIn M.makes M.init (beq_iff_eq.mp M.fn) (codeAny_mono (F.run _ X.stack _ _ ⟨Value.ref (s.heap.objs.size+1)::us,[]⟩ (Value.ref (s.heap.objs.size+1)::(us++ds)) _ _ E (hr.make C us [])
  (I2.env0.make C us []) (hb _ (Value.ref (s.heap.objs.size+1)::us) I2.kIn hl) r2 hq) fun r s' hq'=>?_))
 cases r with
 | error e=>exact hx pins Z _ _ e s' I2 hq'
 | ok fl =>
  cases fl with
  | ret u =>
   obtain⟨v,H',I3,rv,ev,q3⟩:=I2.after hq'
   subst ev
   exact⟨rv,⟨V.ref (s.heap.objs.size+1),H',I3,rfl,q3⟩⟩
  | next=>exact False.elim hq'
  | brk=>exact False.elim hq'
  | cont=>exact False.elim hq'
theorem Jk(M:Mk X.K C f)(F:FnOk X.prog X.w X.K X.mg X.base CX k f fd ps sp)(hr:Room (k+1) X.A)(hg:Gl X x)(hm:X.mg x=some (.ref C))(hb:Binds X.K fd ps ds)(hd:Vals dvs ds)(hx:Passes CX X E)
  (hdb:(x==("__debug__":Str))=false:=by decide):PE X (.Call (.Name x p) [] [] pos) (Lk C sp dvs E xF):=by
 intro pins s Z H Q I h
 refine wpAny_Call_Name_kw (lR I hg hm ?_ hdb)
 exact PySem.W.callWith_K0 I.kIn M.kp (Jj (us:=[]) M F hr hb hd hx I .nil h)
end
def PK(X:Cx)(kws:List Keyword)(t:TA):Prop :=
 ∀(pos:Pos) (pins:List (Addr×Obj)) (s:Shared) (Z:St) (H:Hp) (Q:List V->Hp->Prop),Inv X pins Z H s->t Z H Q->wpAny (model X.prog X.w) X.A (evalAll ((backToKw pos (keywordEach kws X.env)).map (·.2))) (AP X pins Z Q) X.xe s
section
variable {X:Cx} {CX:CXT} {k:Nat} {f C:Addr} {fd:FuncData} {ps ks:List Str} {sp:Sp} {E:XK} {x m:Str} {p pos apos kpos:Pos} {e o:Expr} {es:List Expr} {kws:List Keyword} {te ta:TE} {t tk:TA} {nm:Option Str}
theorem QD:PK X [] xF:=fun _ _ _ _ H Q I h=>wpAny_evalAll_nil ⟨[],H,I,.nil,h⟩
theorem Dl(ha:PE X e te)(hr:PK X kws t):PK X (⟨nm,e,kpos⟩::kws) (Fd te t):=by
 intro pos pins s Z H Q I h
 show wpAny _ _ (evalAll ((do let v <-eval e X.env;standAt pos;pure v)::(backToKw pos (keywordEach kws X.env)).map (·.2))) _ _ s
 refine wpAny_evalAll_cons (wpAny_bind (thn (ha pins s Z H _ I h) fun u s1 ⟨x,H1,I1,r1,q1⟩=>wpAny_bind (wpAny_standAt (wpAny_pure ?_))))
 exact thn (hr pos pins s1 Z H1 _ I1 q1) fun us s2 ⟨xs,H2,I2,r2,q2⟩=>⟨x::xs,H2,I2,.cons r1 r2,q2⟩
variable {g:List Value->List Value->List Value} {gV:List V->List V->List V}
end
structure FnScope(N P:List Str)(sc:Scope):Prop where
 kind:sc.kind=.function
 co:sc.isCoroutine=false
 gen:sc.isGenerator=false
 nd:N.Nodup
 pre:N.take P.length=P
 par:∀x∈P,sc.names.lookup x=some .local\/sc.names.lookup x=some .cell
 nofree:∀y∈sc.names,y.2 ≠ .free
theorem yx{kindOf:Str->Option NameKind}{x:Str}:∀{binds:List (Str×Value)} {m:Str->Option Value},(∀v,(x,v)∉binds)->bindL kindOf binds m x=m x
 | [],_,_=>rfl
 | (n,v)::r,m,h=>by
  unfold bindL
  rw[yx fun w hw=>h w (List.mem_cons_of_mem _ hw)]
  split
  ·have:x≠n:=by rintro rfl;exact h v List.mem_cons_self
   simp[this]
  ·rfl
theorem yz{kindOf:Str->Option NameKind}{x:Str}:∀{binds:List (Str×Value)} {m:Str->Option Value},(∀v,(x,v)∉binds)->bindC kindOf binds m x=m x
 | [],_,_=>rfl
 | (n,v)::r,m,h=>by
  unfold bindC
  rw[yz fun w hw=>h w (List.mem_cons_of_mem _ hw)]
  split
  ·rfl
  ·have:x≠n:=by rintro rfl;exact h v List.mem_cons_self
   simp[this]
theorem yC{kindOf:Str->Option NameKind}{x:Str}{v:Value}:∀{P:List Str} {vs:List Value} {i:Nat} {m:Str->Option Value},P.Nodup->P[i]? = some x->vs[i]? = some v->kindOf x=some .local ->
  bindL kindOf (P.zip vs) m x=some v
 | [],_,_,_,_,h,_,_=>by simp at h
 | _::_,[],_,_,_,_,h,_=>by simp at h
 | p::P,w::vs,0,m,nd,h1,h2,hk=>by
  simp at h1 h2;subst h1;subst h2
  show bindL kindOf ((p,w)::P.zip vs) m p=_
  unfold bindL
  rw[yx fun v hv=>(List.nodup_cons.mp nd).1 (List.of_mem_zip hv).1,if_pos hk]
  simp
 | p::P,w::vs,i+1,m,nd,h1,h2,hk=>by
  show bindL kindOf ((p,w)::P.zip vs) m x=_
  unfold bindL
  exact yC (i:=i) (List.nodup_cons.mp nd).2 (by simpa using h1) (by simpa using h2) hk
theorem yD{kindOf:Str->Option NameKind}{x:Str}{v:Value}:∀{P:List Str} {vs:List Value} {i:Nat} {m:Str->Option Value},P.Nodup->P[i]? = some x->vs[i]? = some v->kindOf x≠some .local ->
  bindC kindOf (P.zip vs) m x=some v
 | [],_,_,_,_,h,_,_=>by simp at h
 | _::_,[],_,_,_,_,h,_=>by simp at h
 | p::P,w::vs,0,m,nd,h1,h2,hk=>by
  simp at h1 h2;subst h1;subst h2
  show bindC kindOf ((p,w)::P.zip vs) m p=_
  unfold bindC
  rw[yz fun v hv=>(List.nodup_cons.mp nd).1 (List.of_mem_zip hv).1,if_neg hk]
  simp
 | p::P,w::vs,i+1,m,nd,h1,h2,hk=>by
  show bindC kindOf ((p,w)::P.zip vs) m x=_
  unfold bindC
  exact yD (i:=i) (List.nodup_cons.mp nd).2 (by simpa using h1) (by simpa using h2) hk
def start(N:List Str)(vs:List V):St:=vs.map some++List.replicate (N.length-vs.length) none
def bG(CX:CXT)(P:Program)(w:World)(K:PySem.W.Frag)(mg:Str->Option Value)(base:Heap)(N:List Str)(qual:Str)(scope:Scope)(f:Addr)(cd:Value)(A:Around)(outer:List Env)(s:Shared)(H:Hp)(E:XK):Cx where
 prog:=P
 w:=w
 K:=K
 mg:=mg
 base:=base
 A:=A.deeper (envOfC qual scope s.heap.objs.size f cd)
 N:=N
 s₀:=s
 H₀:=H
 env:=envOfC qual scope s.heap.objs.size f cd
 outer:=outer
 stack:=envOfC qual scope s.heap.objs.size f cd::outer
 ex:=[]
 calm:=true
 fn:=fun _=>true
 pn:=[]
 xe:=fun e s'=>wpAny (model P w) (A.deeper (envOfC qual scope s.heap.objs.size f cd)) (leaving (envOfC qual scope s.heap.objs.size f cd) e) (fun _ s''=>CX outer H s E e s'') (fun e' s''=>CX outer H s E e' s'') s'
theorem Ab{sc:Scope}{n:Nat}{x:Str}(h:sc.names.lookup x=some .cell):∃c,(cellsFrom n sc.names []).lookup x=some c:=by
 have q:=PySem.W.cellsFrom_some sc.names n [] (.inl h)
 exact Option.isSome_iff_exists.mp q
theorem GQ{CX:CXT}{P:Program}{w:World}{K:PySem.W.Frag}{mg:Str->Option Value}{base:Heap}{N ps:List Str}{qual:Str}{scope:Scope}{f:Addr}{cd:Value}{A:Around}{outer:List Env}{s s1:Shared}{H:Hp}{E:XK}{us:List Value}{vs:List V}
  (S:FnScope N ps scope) (hd:A.handled=none) (e0:Env0 P w K mg base A outer s H) (hl:vs.length=ps.length) (r:Vals vs us)
  (x:InCallC s s.heap.objs.size (bindL (envOfC qual scope s.heap.objs.size f cd).kindOf (ps.zip us) fun _=>none) (cellsFrom (s.heap.objs.size+1) scope.names []) (bindC (envOfC qual scope s.heap.objs.size f cd).kindOf (ps.zip us) fun _=>none) s1) :
  Inv (bG CX P w K mg base N qual scope f cd A outer s H E) [] (start N vs) H s1:=by
 have hpl:ps.length<=N.length:=by have:=congrArg List.length S.pre;rw[List.length_take] at this;omega
 obtain⟨h1,tk,rfl,hk⟩:=x.done
 have noA:∀b:Addr,b∉(bG CX P w K mg base N qual scope f cd A outer s H E).ex:=fun b z=>absurd (show b∈([]:List Addr) from z) (by simp)
 refine⟨⟨e0.mod,S.kind,rfl,rfl,Nat.le_refl _,fun y z c h1 h2=>?_,fun y hy=>?_,fun y c _ h=>?_,fun _=>hd,Around.frames_deeper e0.frames,.inr ⟨rfl,rfl⟩,fun b z=>absurd z (noA b),e0.bs,e0.bsz,fun b _ _=>noA b,fun b z=>absurd z (noA b),e0.funs,e0.frf⟩,
  rfl,e0.bare,Un.kept hk,⟨_,x.toInCall.ns,fun i y v h1 h2 h3=>?_⟩,fun y c h=>⟨_,x.cell y c h⟩,e0.hok.fresh (Nat.le_refl _),fun y c h=>?_,fun p hp=>absurd (show p∈([]:List (Addr×Obj)) from hp) (by simp),e0.hok.kept hk,?_⟩
 ·exact name_of_addr x.apart (PySem.mem_of_lookup h1) (PySem.mem_of_lookup h2)
 ·have hy:scope.names.lookup y=some .cell\/scope.names.lookup y=some .free:=hy
  rcases hy with hy |hy
  ·exact Ab hy
  ·exact absurd rfl (S.nofree _ (PySem.mem_of_lookup hy))
 ·exact Nat.le_of_lt (x.above y c (PySem.mem_of_lookup h))
 ·have hi:i<vs.length:=by
   unfold start at h2
   by_cases hi:i<vs.length
   ·exact hi
   ·rw[List.getElem?_append_right (by simpa using hi)] at h2
    rw[List.getElem?_replicate] at h2
    split at h2<;>cases h2
  have ha:vs[i]? = some v:=by
   unfold start at h2
   rw[List.getElem?_append_left (by simpa using hi),List.getElem?_map] at h2
   cases e:vs[i]? with
   | none=>rw[e] at h2;cases h2
   | some a=>rw[e] at h2;cases h2;rfl
  obtain⟨u,hu,rv⟩:=r.get ha
  have hp:ps[i]? = some y:=by
   rw[<-S.pre,List.getElem?_take_of_lt (by omega)];exact h1
  have ndP:ps.Nodup:=by rw[<-S.pre];exact S.nd.sublist (List.take_sublist _ _)
  refine⟨u,rv,?_⟩
  rcases S.par y (List.mem_of_getElem? hp) with k |k
  ·exact .inl ⟨k,yC ndP hp hu k⟩
  ·obtain⟨c,e⟩:=Ab (n:=s.heap.objs.size+1) k
   refine .inr ⟨.inl k,c,e,?_⟩
   have q:=x.cell y c e
   rw[yD ndP hp hu (by show scope.names.lookup y≠_;rw[k];decide)] at q
   exact q
 ·exact .inl (e0.hok.fresh (Nat.le_of_lt (x.above y c (PySem.mem_of_lookup h))))
 ·unfold start
  show _=N.length
  rw[List.length_append,List.length_map,List.length_replicate]
  omega
theorem Fg{CX:CXT}{P:Program}{w:World}{K:PySem.W.Frag}{mg:Str->Option Value}{base:Heap}{k:Nat}{f:Addr}{name qual:Str}{params:Arguments}{body:List Stmt}{scope:Scope}{dV kV doc pm cdv ct oc:Value}{an od:Option Addr}
  {osl:Array (Option Value)} {N ps:List Str} {sp:Sp} (lk:K.lookup f=some ⟨oc,od,.func (PySem.W.fnOf name qual params body scope dV kV doc pm an cdv ct),osl⟩) (hcd:PySem.W.codeIn K cdv qual=true) (S:FnScope N ps scope)
  (len:∀vs H Q E,sp vs H Q E->vs.length=ps.length)
  (hbody:∀(A:Around) (outer:List Env) (s:Shared) (H:Hp) (vs:List V) (Q:VK) (E:XK),Room k (A.deeper (envOfC qual scope s.heap.objs.size f cdv))->sp vs H Q E ->
   ∃t,PSs (bG CX P w K mg base N qual scope f cdv A outer s H E) body t/\t { nx:=fun _ H'=>Q .non H',rt:=Q } (start N vs) H) :
  FnOk P w K mg base CX (k+1) f (PySem.W.fnOf name qual params body scope dV kV doc pm an cdv ct) ps sp:=by
 refine⟨len,fun A outer s H args us vs Q E hr e0 hb r hsp=>?_⟩
 have hl:=len _ _ _ _ hsp
 have KX:K.In s.heap:=e0.mod.kin.keeps fun b o e=>(e0.bs b o e).1
 have lim:s.heap.NoLimit:=e0.mod.nolimit.keeps fun b o e=>(e0.bs b o e).1
 have hkind:∀y∈ps.zip us,scope.names.lookup y.1=some .local\/(scope.names.lookup y.1=some .cell/\((cellsFrom (s.heap.objs.size+1) scope.names []).lookup y.1).isSome=true):=fun hw' hy=>by
  obtain⟨n,v⟩:=hw'
  rcases S.par n (List.of_mem_zip hy).1 with q |q
  ·exact .inl q
  ·exact .inr ⟨q,PySem.W.cellsFrom_some _ _ _ (.inl q)⟩
 refine codeAny_call_function hr.depth (KX _ _ lk) rfl S.co S.gen rfl (PySem.W.codeRec_of KX hcd) (hb _ _ _ _ ?_)
 refine wpAny_newFunctionEnv_cells S.kind hkind fun env he s1 x=>?_
 subst he
 refine⟨lim.keeps x.toInCall.keep,codeAny_func ?_⟩
 obtain⟨t,ht,hq⟩:=hbody A outer s H vs Q E (hr.deeper _) hsp
 have I:Inv (bG CX P w K mg base N qual scope f cdv A outer s H E) [] (start N vs) H s1:=GQ S hr.hd e0 hl r x
 refine wpAny_mono (ht [] s1 (start N vs) H _ I hq) (fun fl s' hs=>?_) fun e s' hs=>hs
 have fin:∀{Z':St} {H':Hp} {v:V} {u:Value},Inv (bG CX P w K mg base N qual scope f cdv A outer s H E) [] Z' H' s'->RelV v u->Q v H'->CE outer P w H s Q u s' :=
  fun {Z' H' v u} J rv q=>⟨v,H',J.os,J.bare,J.base,J.hok,rv,q⟩
 cases fl with
 | ret u =>
  obtain⟨v,Z',H',J,rv,q⟩:=hs
  exact fin J rv q
 | next =>
  obtain⟨Z',H',J,q⟩:=hs
  exact fin (v:=V.non) (u:=Value.none) J rfl q
 | brk =>
  obtain⟨_,_,_,q⟩:=hs
  exact False.elim q
 | cont =>
  obtain⟨_,_,_,q⟩:=hs
  exact False.elim q
end L2
namespace L2
open PySem PySem.Spec PyProof.Rows
section
variable {X:Cx} {x:Str} {p pos:Pos} {e:Expr} {es:List Expr} {t:TA} {id T:String} {r:List V->Hp->VK->Prop}
def tCB(r:List V->Hp->VK->Prop)(t:TA):TE:=fun Z H Q=>t Z H fun vs H1=>r vs H1 Q
theorem gb(hc:gG X (.builtin id) r)(hg:Gl X x)(hm:X.mg x=none)(hv:bootBuiltins x=some (.builtin id))(ha:PA X (e::es) t)(hn:x ≠ "__name__":=by decide)(hdb:(x==("__debug__":Str))=false:=by decide)
  (he:starEach (e::es) X.env=(false,eval e X.env)::starEach es X.env:=by rfl) (hpl:(backTo pos (starEach es X.env)).any (·.1)=false:=by rfl):PE X (.Call (.Name x p) (e::es) [] pos) (tCB r t):=by
 intro pins s Z H Q I h
 refine wpAny_Call_Name_kw (nW I hg hm hv ?_ hn hdb)
 exact PyProof.Rows.callWith_builtin1 (thn (ha pos pins s Z H _ I h) fun us s1 ⟨vs,H1,I1,r1,q1⟩=>hc pins s1 Z H1 vs us Q I1 r1 q1) he hpl
theorem GR(hc:gG X (.type T) r)(hg:Gl X x)(hm:X.mg x=none)(hv:bootBuiltins x=some (.type T))(ha:PA X (e::es) t)(hn:x ≠ "__name__":=by decide)(hdb:(x==("__debug__":Str))=false:=by decide)
  (he:starEach (e::es) X.env=(false,eval e X.env)::starEach es X.env:=by rfl) (hpl:(backTo pos (starEach es X.env)).any (·.1)=false:=by rfl):PE X (.Call (.Name x p) (e::es) [] pos) (tCB r t):=by
 intro pins s Z H Q I h
 refine wpAny_Call_Name_kw (nW I hg hm hv ?_ hn hdb)
 exact PyProof.Rows.callWith_type1 (thn (ha pos pins s Z H _ I h) fun us s1 ⟨vs,H1,I1,r1,q1⟩=>hc pins s1 Z H1 vs us Q I1 r1 q1) he hpl
end
end L2
namespace HT
open PySem PyProof.Rows
def lexLt:List Int->List Int->Bool
 | [],[]=>false
 | [],_::_=>true
 | _::_,[]=>false
 | x::xs,y::ys=>if x=y then lexLt xs ys else decide (x<y)
theorem eO(x y:Int)(xs ys:List Int):lexLt (x::xs) (y::ys)=if x=y then lexLt xs ys else decide (x<y):=rfl
theorem zE:lexLt [] []=false:=rfl
theorem xG(y:Int)(ys:List Int):lexLt [] (y::ys)=true:=rfl
theorem xH(x:Int)(xs:List Int):lexLt (x::xs) []=false:=rfl
theorem Jl(A:Around)(s:Shared)(a:Int)(t:Tok)(c:Int)(u:Tok):∃e,SeqAt.EqAt A s (.int a t) (.int c u) e/\(e=true↔a=c) :=
 ⟨(a==c),SeqAt.EqAt.int_int a t c u,by simp⟩
theorem Jm(A:Around)(s:Shared)(a:Int)(t:Tok)(c:Int)(u:Tok)(prog:Program)(w:World)(E:Value->Shared->Prop)(Q:Value->Shared->Prop)(h:Q (.bool (decide (a<c))) s) :
  wpAny (model prog w) A (richCompare .Lt (.int a t) (.int c u)) Q E s :=
 (PyProof.Rows.lt_int h:wpAny (model prog w) A (compareOp .Lt (.int a t) (.int c u)) Q E s)
section
open PySem.SeqAt
open PySem.AutoSeq1 (wpAny_loadPart')
open PySem.MeetsSeq PySem.MeetsSeq2 PySem.MeetsSeq3
theorem zF(l b:Addr)(items items2:Array Value)(n n2:Nat)(dd dd2:Option Addr)(sl sl2:Array (Option Value))(ns ms:List Int)(hi:IntsAre items.toList ns)(hj:IntsAre items2.toList ms) :
  Meets (Builtin.«tuple.__lt__» ⟨[.ref l,.ref b],[]⟩)
   (fun _ R s=>s.heap.get? l=some { cls:=.type "tuple",dict:=dd,data:=.seq items n,slots:=sl }/\s.heap.get? b=some { cls:=.type "tuple",dict:=dd2,data:=.seq items2 n2,slots:=sl2 } /\
    R (.ok (.ret (.bool (lexLt ns ms)))) s) :=
 .of_wp fun prog w A R s h=>by
  obtain⟨hp,g,d,tk,os⟩:=s;obtain⟨hl,hb,h⟩:=h
  have f2:=AutoSeq1.sub_tuple_tuple
  have z1:items.size=ns.length:=by rw[<-hi.length];simp
  have z2:items2.size=ms.length:=by rw[<-hj.length];simp
  wp_walk using wpAny_loadPart' hl,wpAny_loadPart' hb,wpAny_forIn_list _ (fun rest b s'=>b.1=none/\s'=⟨hp,g,d,tk,os⟩/\∃(vs ws:List Value) (ns' ms':List Int),rest=vs.zip ws /\
   IntsAre vs ns'/\IntsAre ws ms'/\ns'.length+items2.size=ms'.length+items.size/\R (.ok (.ret (.bool (lexLt ns' ms')))) ⟨hp,g,d,tk,os⟩) _
  case turn =>
   rintro⟨y,x⟩ rest b s' ⟨hb',rfl,vs,ws,ns',ms',hz,hvi,hwi,hlen,hR⟩
   cases hvi with
   | nil=>rw[List.zip_nil_left] at hz;cases hz
   | cons a t hvi' =>
    cases hwi with
    | nil=>rw[List.zip_nil_right] at hz;cases hz
    | cons c u hwi' =>
     rw[List.zip_cons_cons] at hz
     injection hz with hyx hrest
     injection hyx with hy hx
     subst hy hx
     rw[eO] at hR
     simp only[List.length_cons] at hlen
     obtain⟨e,he,hiff⟩:=Jl A.in1 ⟨hp,g,d,tk,os⟩ a t c u
     refine wpAny_bind (he prog w _ _ ?_)
     cases e with
     | true =>
      rw[if_pos (hiff.mp rfl)] at hR
      wp_walk
      exact⟨rfl,rfl,_,_,_,_,hrest,hvi',hwi',by omega,hR⟩
     | false =>
      rw[if_neg (fun q=>absurd (hiff.mpr q) Bool.false_ne_true)] at hR
      have hri:=Jm A.in1 ⟨hp,g,d,tk,os⟩ a t c u prog w
      wp_walk using hri
      exact⟨_,rfl,by simpa using hR⟩
  case fin =>
   rintro⟨b1,b2⟩ s' ⟨hb',rfl,vs,ws,ns',ms',hz,hvi,hwi,hlen,hR⟩
   simp only at hb'
   subst hb'
   have hv:lexLt ns' ms'=decide (items.size<items2.size):=by
    cases hvi with
    | nil =>
     cases hwi with
     | nil =>
      simp only[List.length_nil] at hlen
      rw[zE]
      exact(decide_eq_false (by omega)).symm
     | cons c u hw =>
      simp only[List.length_nil,List.length_cons] at hlen
      rw[xG]
      exact(decide_eq_true (by omega)).symm
    | cons a t hv =>
     cases hwi with
     | nil =>
      simp only[List.length_nil,List.length_cons] at hlen
      rw[xH]
      exact(decide_eq_false (by omega)).symm
     | cons c u hw =>
      rw[List.zip_cons_cons] at hz
      cases hz
   rw[hv] at hR
   wp_walk
   exact⟨_,rfl,by simpa [Builtin.Tuple.tupleCompareSizes] using hR⟩
  case h =>
   exact⟨rfl,rfl,items.toList,items2.toList,ns,ms,rfl,hi,hj,by omega,h⟩
end
section
variable {prog:Program} {w:World} {A:Around} {E:Value->Shared->Prop} {s:Shared}
theorem Fi{l b:Addr}{items items2:Array Value}{ns ms:List Int}{Q:Value->Shared->Prop}(hl:IsTup s.heap l items)(hb:IsTup s.heap b items2)(hi:IntsAre items.toList ns)(hj:IntsAre items2.toList ms)
  (hu:A.units<cLine) (h:Q (.bool (lexLt ns ms)) s):wpAny (model prog w) A (compareOp .Lt (.ref l) (.ref b)) Q E s:=by
 obtain⟨⟨cls,dd,data,sl⟩,ho,hc,n,hd⟩:=id hl
 obtain⟨⟨cls2,dd2,data2,sl2⟩,ho2,hc2,n2,hd2⟩:=id hb
 simp only at hc hd hc2 hd2
 subst hc hd hc2 hd2
 exact richCompare_meets_room (op:=.Lt) ⟨_,ho,rfl⟩ ⟨_,ho2,rfl⟩ PySem.F.slot_tuple_lt PySem.F.entry_tuple_lt (PySem.F.args_tuple_lt_2 _ _) (zF l b items items2 n n2 dd dd2 sl sl2 ns ms hi hj)
  ⟨ho,ho2,show Value.bool (lexLt ns ms)≠Value.notImplemented/\Q (.bool (lexLt ns ms)) s from⟨(fun x=>nomatch x),h⟩⟩ hu
end
end HT
namespace L2
open PySem PySem.Spec PyProof.Rows
theorem intsAre_of{ns:List Int}:∀{us:List Value},Vals (ns.map V.int) us->IntsAre us ns:=by
 induction ns with
 | nil=>intro us r;rw[List.map_nil] at r;cases r;exact .nil
 | cons n ns ih =>
  intro us r
  rw[List.map_cons] at r
  cases r with
  | cons r1 r2 =>
   obtain⟨t,e⟩:=r1
   subst e
   exact .cons n t (ih r2)
end L2
namespace L2
open PySem PySem.Spec PyProof.Rows
def ixN(n:Nat)(i:Int):Option Nat:=if 0<=i then(if i<n then some i.toNat else none) else if -(n:Int)<=i then some (i+n).toNat else none
def atI{α:Type}(xs:List α)(i:Int):Option α:=(ixN xs.length i).bind fun j=>xs[j]?
theorem Mz{n:Nat}{i:Int}{j:Nat}(h:ixN n i=some j):seqIndex? i n=some j/\j<n /\ -(n:Int)<=i/\i<n:=by
 unfold ixN at h
 by_cases h0:0<=i
 ·rw[if_pos h0] at h
  by_cases h1:i<n
  ·rw[if_pos h1] at h
   have e:i.toNat=j:=Option.some.inj h
   exact⟨by rw[seqIndex_of h0 h1,e],by omega,by omega,h1⟩
  ·rw[if_neg h1] at h;cases h
 ·rw[if_neg h0] at h
  by_cases h1:-(n:Int)<=i
  ·rw[if_pos h1] at h
   have e:(i+n).toNat=j:=Option.some.inj h
   exact⟨by rw[seqIndex_neg (by omega) h1,e],by omega,h1,by omega⟩
  ·rw[if_neg h1] at h;cases h
theorem xJ{α:Type}{xs:List α}{i:Int}{v:α}(h:atI xs i=some v):∃j,seqIndex? i xs.length=some j/\xs[j]? = some v/\j<xs.length /\ -(xs.length:Int)<=i/\i<xs.length:=by
 unfold atI at h
 cases e:ixN xs.length i with
 | none=>rw[e] at h;cases h
 | some j =>
  rw[e] at h
  obtain⟨h1,h2,h3,h4⟩:=Mz e
  exact⟨j,h1,h,h2,h3,h4⟩
theorem MF{α:Type}{xs:List α}{j:Nat}{v:α}(h:xs[j]? = some v):atI xs (j:Int)=some v:=by
 have hj:j<xs.length:=(List.getElem?_eq_some_iff.mp h).1
 have e:ixN xs.length (j:Int)=some j:=by
  unfold ixN
  rw[if_pos (by omega),if_pos (by omega)];simp
 unfold atI;rw[e];exact h
theorem Jo{α:Type}(xs:List α)(v:α):atI (xs++[v]) (-1)=some v:=by
 have hl:(xs++[v]).length=xs.length+1:=by simp
 have e:ixN (xs++[v]).length (-1)=some xs.length:=by
  unfold ixN
  rw[hl,if_neg (by decide),if_pos (by omega)]
  congr 1
  omega
 unfold atI
 rw[e]
 show(xs++[v])[xs.length]? = some v
 simp
def xK(b:Expr):Prop:=∀o i,subscripted b false o i=operate [o,i] (getItem o i)
def IxR(X:Cx)(r:R2):Prop :=
 ∀(value slice:Expr) (pins:List (Addr×Obj)) (s:Shared) (Z:St) (H:Hp) (x y:V) (v u:Value) (Q:VK),Inv X pins Z H s->RelV x v->RelV y u->r x y H Q ->
  subscripted slice false v u=operate [v,u] (getItem v u)->wpAny (model X.prog X.w) X.A (subscriptTail value slice v u) (EP X pins Z Q) X.xe s
def MtR(X:Cx)(id:String)(r:V->List V->Hp->VK->Prop):Prop :=
 ∀(pins:List (Addr×Obj)) (s:Shared) (Z:St) (H:Hp) (x:V) (xs:List V) (v:Value) (us:List Value) (Q:VK),Inv X pins Z H s->RelV x v->Vals xs us->r x xs H Q ->
  wpAny (model X.prog X.w) X.A (call (.builtin id) (v::us)) (EP X pins Z Q) X.xe s
section
variable {X:Cx} {a b:Expr} {ta tb:TE} {pos:Pos}
theorem IxR.or{r r':R2}(h:IxR X r)(h':IxR X r'):IxR X (fun x y H Q=>r x y H Q\/r' x y H Q):=by
 intro value slice pins s Z H x y v u Q I rx ry q hs
 rcases q with q |q
 ·exact h value slice pins s Z H x y v u Q I rx ry q hs
 ·exact h' value slice pins s Z H x y v u Q I rx ry q hs
theorem Ln{r:R2}(hr:IxR X r)(ha:PE X a ta)(hb:PE X b tb)(hs:xK b):PE X (.Subscript a b pos) (tOp r ta tb):=by
 intro pins s Z H Q I h
 exact Subscript_ (Jc ha hb I h fun v u s2 x y H2 I2 rx ry q=>hr a b pins s2 Z H2 x y v u Q I2 rx ry q (hs _ _))
def QF(K:PySem.W.Frag):R2:=fun x y H Q=>∃p xs i v,x=.ref p/\y=.int i/\SqL K H p xs/\atI xs i=some v/\Q v H
def QG(K:PySem.W.Frag):R2:=fun x y H Q=>∃p xs i v,x=.ref p/\y=.int i/\SqT K H p xs/\atI xs i=some v/\Q v H
def QH:R2:=fun x y H Q=>∃z i c,x=.str z/\y=.int i/\z.length<=sizeLine/\atI z.cps.toList i=some c/\Q (.str ⟨#[c]⟩) H
theorem Dm:IxR X (QF X.K):=by
 intro value slice pins s Z H x y v u Q I rx ry h hs
 obtain⟨p,xs,i,z,rfl,rfl,hq,he,q⟩:=h
 cases rx
 obtain⟨t,rfl⟩:=ry
 obtain⟨its,r,pl,hz⟩:=I.list hq
 obtain⟨j,h1,h2,h3,h4,h5⟩:=xJ he
 obtain⟨w,ew,rw'⟩:=r.get h2
 have hl:=r.length
 have hn:=pL
 have fin:EP X pins Z Q w s:=⟨z,H,I,rw',q⟩
 by_cases h0:0<=i
 ·have hj:i.toNat=j:=by
   rw[seqIndex_of h0 h5] at h1
   exact Option.some.inj h1
  exact item_listR pl.isList h0 (by omega) (by rw[hj];simpa using ew) fin hs
 ·have hj:(i+(its.toArray.size:Int)).toNat=j:=by
   rw[seqIndex_neg (by omega) h4] at h1
   rw[List.size_toArray,<-hl]
   exact Option.some.inj h1
  exact subscriptTail_builtinR (x:=w) pl.isList.typeIs slot_list_getitem.lookup
   (wpAny_getItem_list_neg (Q:=fun r s'=>r=w/\EP X pins Z Q r s') pl.isList (by omega) (by rw[List.size_toArray]<;>omega) (by omega) (by rw[hj];simpa using ew) ⟨rfl,fin⟩) hs
theorem GX:IxR X (QG X.K):=by
 intro value slice pins s Z H x y v u Q I rx ry h hs
 obtain⟨p,xs,i,z,rfl,rfl,hq,he,q⟩:=h
 cases rx
 obtain⟨t,rfl⟩:=ry
 obtain⟨its,r,pl,hz⟩:=I.tuple hq
 obtain⟨j,h1,h2,h3,h4,h5⟩:=xJ he
 obtain⟨w,ew,rw'⟩:=r.get h2
 have hl:=r.length
 have hn:=pL
 have fin:EP X pins Z Q w s:=⟨z,H,I,rw',q⟩
 exact subscriptTail_builtinR (x:=w) pl.typeIs slot_tuple_getitem.lookup
  (getItem_tuple (j:=j) (Q:=fun r s'=>r=w/\EP X pins Z Q r s') pl (by omega) (by omega) (by rw[List.size_toArray,<-hl];exact h1) (by simpa using ew) ⟨rfl,fin⟩) hs
theorem QJ:IxR X QH:=by
 intro value slice pins s Z H x y v u Q I rx ry h hs
 obtain⟨z,i,c,rfl,rfl,hz,he,q⟩:=h
 obtain⟨t,rfl⟩:=rx
 obtain⟨t',rfl⟩:=ry
 obtain⟨j,h1,h2,h3,h4,h5⟩:=xJ he
 have hl:z.cps.toList.length=z.length:=by simp[Str.length]
 rw[hl] at h1 h4 h5
 have hn:=pL
 exact tail_any (typeIs_str s z t) slot_str_getitem.lookup (getItem_str (c:=c) (by
  have e1:decide (i < -(2 ^ 63:Int))=false:=decide_eq_false (by omega)
  have e2:decide (i ≥ 2 ^ 63)=false:=decide_eq_false (by omega)
  rw[e1,e2,Bool.or_false]) (by rw[h1];simpa using h2) ⟨.str ⟨#[c]⟩,H,I.tok _,⟨_,rfl⟩,q⟩) hs
def rIx(K:PySem.W.Frag):R2:=fun x y H Q=>QF K x y H Q\/QG K x y H Q\/QH x y H Q
theorem QK:IxR X (rIx X.K):=Dm.or (GX.or QJ)
theorem kZ:gG X (.builtin "len") (fun xs H Q=>∃p ys,xs=[.ref p]/\(SqL X.K H p ys\/SqT X.K H p ys)/\Q (.int ys.length) H):=by
 intro pins s Z H xs us Q I r h
 obtain⟨p,ys,rfl,hq,q⟩:=h
 obtain⟨u,rfl,rx⟩:=vals1 r
 cases rx
 have hn:=pL
 rcases hq with hq |hq
 ·obtain⟨its,r',pl,hz⟩:=I.list hq
  have hlen:=r'.length
  exact Calls.call_len_list pl.isList (by simp only[List.size_toArray]<;>omega) ⟨.int ys.length,H,I.tok _,⟨s.toks+1,by rw[List.size_toArray,hlen]⟩,q⟩
 ·obtain⟨its,r',pl,hz⟩:=I.tuple hq
  have hlen:=r'.length
  exact len_tuple pl (by simp only[List.size_toArray]<;>omega) ⟨.int ys.length,H,I.tok _,⟨s.toks+1,by rw[List.size_toArray,hlen]⟩,q⟩
theorem Ac:gG X (.builtin "len") (fun xs H Q=>∃z,xs=[.str z]/\z.length<=sizeLine/\Q (.int z.length) H):=by
 intro pins s Z H xs us Q I r h
 obtain⟨z,rfl,hz,q⟩:=h
 obtain⟨u,rfl,t,rfl⟩:=vals1 r
 have hn:=pL
 exact len_str (by omega) ⟨.int z.length,H,I.tok _,⟨_,rfl⟩,q⟩
def tyV(K:PySem.W.Frag)(T:String)(x:V)(H:Hp):Prop:=match x with
 | .str _=>T = "str"
 | .int _=>T = "int"
 | .ref p=>(T = "list" /\ ∃xs,SqL K H p xs)\/(T = "tuple" /\ ∃o,K.lookup p=some o/\o.cls=.type "tuple" /\ o.dict=none) \/
   (T = "dict" /\ ((∃kvs,H p=some (.dK kvs))\/∃kvs,H p=some (.dT kvs)))\/(T = "set" /\ ∃S n,H p=some (.set S n))
 | _=>False
theorem QL{pins:List (Addr×Obj)}{Z:St}{H:Hp}{s:Shared}{T:String}{x:V}{v:Value}(I:Inv X pins Z H s)(r:RelV x v)(ty:tyV X.K T x H) :
  s.TypeIs v T/\∀a,v=.ref a->∃ob,s.heap.get? a=some ob/\ob.dict=none:=by
 cases x with
 | str z =>
  obtain⟨t,rfl⟩:=r
  cases (show T = "str" from ty)
  exact⟨typeIs_str s z t,fun _ e=>nomatch e⟩
 | int i =>
  obtain⟨t,rfl⟩:=r
  cases (show T = "int" from ty)
  exact⟨typeIs_int s i t,fun _ e=>nomatch e⟩
 | ref p =>
  cases r
  rcases ty with⟨rfl,xs,hq⟩ |⟨rfl,o,hk,hc,hd⟩ |⟨rfl,hk⟩ |⟨rfl,S,n,hk⟩
  ·obtain⟨its,_,pl,_⟩:=I.list hq
   refine⟨pl.isList.typeIs,fun a e=>?_⟩
   cases e
   obtain⟨o,n,e,c,hd,_⟩:=pl
   exact⟨o,e,hd⟩
  ·refine⟨⟨o,I.kIn p o hk,hc⟩,fun a e=>?_⟩
   cases e
   exact⟨o,I.kIn _ o hk,hd⟩
  ·have z:∃o,s.heap.get? p=some o/\o.ExactDict:=by
    rcases hk with⟨kvs,hk⟩ |⟨kvs,hk⟩
    ·obtain⟨_,_,_,_,o,_,_,e,ex,_⟩:=I.hok p _ hk
     exact⟨o,e,ex⟩
    ·obtain⟨_,_,_,_,o,_,_,e,ex,_⟩:=I.hok p _ hk
     exact⟨o,e,ex⟩
   obtain⟨o,e,ex⟩:=z
   refine⟨⟨o,e,ex.1⟩,fun a e2=>?_⟩
   cases e2
   exact⟨o,e,ex.2.1⟩
  ·obtain⟨o,_,_,_,e,ex,_⟩:=I.hok p _ hk
   refine⟨⟨o,e,ex.1⟩,fun a e2=>?_⟩
   cases e2
   exact⟨o,e,ex.2.1⟩
 | _=>exact False.elim ty
def tBM(K:PySem.W.Frag)(T:String)(r:V->List V->Hp->VK->Prop)(to:TE)(t:TA):TE:=fun Z H Q=>to Z H fun x H1=>tyV K T x H1/\t Z H1 fun xs H2=>r x xs H2 Q
variable {o e:Expr} {es:List Expr} {to:TE} {t:TA} {name:Str} {apos cpos:Pos} {T id:String} {r:V->List V->Hp->VK->Prop}
theorem Lp(pa:PlainAttrs T)(slot:Slot T name id)(hty:typeOf (.builtin id)=pure (.type "method_descriptor"))(hm:MtR X id r)(ho:PE X o to)(ha:PA X (e::es) t)
  (hbase:attributeBase o name X.env (eval o X.env)=eval o X.env:=by rfl)
  (hfew:((backTo cpos (starEach (e::es) X.env)).all (fun x=>!x.1) && (backToKw cpos (keywordEach [] X.env)).all (fun x=>x.1.isSome)
   && decide ((e::es).length+([]:List Keyword).length+(if([]:List Keyword).isEmpty then 0 else 1)<30))=true:=by rfl)
  (hline:(apos.endLine==cpos.line)=true:=by rfl) (hs:starEach (e::es) X.env=(false,eval e X.env)::starEach es X.env:=by rfl) (hplain:(backTo cpos (starEach es X.env)).any (·.1)=false:=by rfl) :
  PE X (.Call (.Attribute o name apos) (e::es) [] cpos) (tBM X.K T r to t):=by
 intro pins s Z H Q I h
 refine wpAny_Call_method_late hbase hfew hline rfl (thn (ho pins s Z H _ I h) fun v s1 hw'=>?_)
 obtain⟨x,H1,I1,r1,ty,q1⟩:=hw'
 obtain⟨h1,h2⟩:=QL I1 r1 ty
 refine⟨T,id,pa,slot,hty,h1,h2,?_⟩
 have hA:=ha cpos pins s1 Z H1 _ I1 q1
 rw[hs] at hA ⊢
 refine Calls.callWith_builtin (by show(false || (backTo cpos (starEach es X.env)).any (·.1))=false;rw[hplain]<;>rfl) (Calls.evalArgs_plain ?_)
 exact thn hA fun us s2 ⟨vs,H2,I2,r2,q2⟩=>hm pins s2 Z H2 x vs v us Q I2 r1 r2 q2
/- xs.append(e),list.index on a module's tuple .. are MtR facts of 06m -/
end
end L2
namespace L2
open PySem PySem.Spec PyProof.Rows
def MtM(X:Cx)(id:String)(r:V->List V->Hp->VK->Prop):Prop :=
 ∀(pins:List (Addr×Obj)) (s:Shared) (Z:St) (H:Hp) (x:V) (xs:List V) (v:Value) (us:List Value) (Q:VK),Inv X pins Z H s->RelV x v->Vals xs us->r x xs H Q ->
  wpAny (model X.prog X.w) X.A (call (.builtin id) (v::us)) (EP X pins Z Q) X.xe s
theorem Vals.one{x:V}{us:List Value}(h:Vals [x] us):∃u,us=[u]/\RelV x u:=vals1 h
theorem Vals.rep{xs:List V}{us:List Value}(h:Vals xs us):∀k:Nat,Vals (List.replicate k xs).flatten (List.replicate k us).flatten
 | 0=>.nil
 | k+1=>by
  rw[List.replicate_succ,List.replicate_succ,List.flatten_cons,List.flatten_cons]
  exact Vals.append h (Vals.rep h k)
theorem foldl_rep(its:List Value):∀(k:Nat) (acc:List Value),
  List.foldl (fun x1 x2=>x1++x2) acc.toArray (List.replicate k its.toArray)=(acc++(List.replicate k its).flatten).toArray
 | 0,acc=>by simp
 | k+1,acc=>by
  have e:acc.toArray++its.toArray=(acc++its).toArray:=by simp
  have e2:(acc++its)++(List.replicate k its).flatten=acc++(List.replicate (k+1) its).flatten:=by
   rw[List.replicate_succ,List.flatten_cons,List.append_assoc]
  rw[<-e2,<-foldl_rep its k (acc++its),<-e,List.replicate_succ,List.foldl_cons]
section
variable {X:Cx} {pins:List (Addr×Obj)} {Z:St} {H:Hp} {s:Shared} {l b:Addr} {xs ys zs:List V}
theorem Inv.lset{its its':List Value}{n:Nat}{f:Array Value->Array Value}{t':Nat}(I:Inv X pins Z H s)(hH:H l=some (.lst xs))
  (e:s.heap.get? l=some { cls:=.type "list",data:=.seq its.toArray n }) (hf:f its.toArray=its'.toArray) (hv:Vals ys its') (hz:ys.length<=sizeLine) :
  Inv X pins Z (upd H l (.lst ys)) { s with heap:=s.heap.update l (Obj.mapSeq f),toks:=t' }:=by
 have q:=PySem.IsL.update e f
 rw[hf] at q
 refine I.write (x:=l) (e:=l) (by rw[hH];exact trivial) (.inl rfl) (fun b' u hb hu=>(Heap.get?_update_other s.heap (Obj.mapSeq f) (Ne.symm hb)).trans hu) ⟨_,q⟩ ?_
 exact⟨hz,its',_,hv,q⟩
theorem Inv.lnew{its:List Value}{t':Nat}(I:Inv X pins Z H s)(hv:Vals ys its)(hz:ys.length<=sizeLine) :
  Inv X pins Z (upd H s.heap.objs.size (.lst ys)) { s with heap:=s.heap.push { cls:=.type "list",data:=.seq its.toArray },toks:=t' } :=
 I.laid (fun _ _ q=>Heap.get?_push_of_some _ q) (Nat.le_refl _) ⟨hz,its,0,hv,Heap.get?_push_size _ rfl⟩
theorem Inv.fresh(I:Inv X pins Z H s):H s.heap.objs.size=none:=I.hok.fresh (Nat.le_refl _)
theorem Inv.lstM(I:Inv X pins Z H s)(hH:H l=some (.lst xs)):xs.length<=sizeLine/\∃(its:List Value) (n:Nat),Vals xs its/\xs.length=its.length/\s.heap.get? l=some { cls:=.type "list",data:=.seq its.toArray n }:=by
 obtain⟨z,its,n,r,e⟩:=I.hok l _ hH
 exact⟨z,its,n,r,r.length,e⟩
theorem Jp{n:Nat}(h:n<=sizeLine):Builtin.List.listTooLong n=false:=by
 unfold Builtin.List.listTooLong
 exact decide_eq_false (by omega)
end
section
variable {X:Cx}
def Dp:V->List V->Hp->VK->Prop:=fun x vs H Q=>∃l xs y,x=.ref l/\vs=[y]/\H l=some (.lst xs)/\xs.length<sizeLine/\Q .non (upd H l (.lst (xs++[y])))
theorem rN:MtM X "list.append" Dp:=by
 intro pins s Z H x vs v us Q I rx rv h
 obtain⟨l,xs,y,rfl,rfl,hH,hz,q⟩:=h
 cases rx
 obtain⟨u,rfl,ru⟩:=rv.one
 obtain⟨z,its,n,r,hl,e⟩:=I.lstM hH
 refine call_meets F.slot_list_append ⟨_,e,rfl⟩ F.entry_list_append (F.args_list_append_2 _ _) (PySem.list_append l its.toArray n u (by rw[List.size_toArray];omega)) ⟨e,?_⟩
 refine⟨.non,_,I.lset (its':=its++[u]) hH e (by simp) (r.append (.cons ru .nil)) ?_,rfl,q⟩
 rw[List.length_append,List.length_singleton]
 omega
def Uj:R2:=fun x y H Q=>∃l b xs zs,x=.ref l/\y=.ref b/\H l=some (.lst xs)/\H b=some (.lst zs)/\xs.length+zs.length<=sizeLine/\∀p,H p=none->Q (.ref p) (upd H p (.lst (xs++zs)))
theorem QM:OpR X (binaryOp .Add) Uj:=by
 intro pins s Z H x y v u Q I rx ry h
 obtain⟨l,b,xs,zs,rfl,rfl,hH,hB,hz,q⟩:=h
 cases rx
 cases ry
 obtain⟨z,its,n,r,hl,e⟩:=I.lstM hH
 obtain⟨z2,its2,n2,r2,hl2,e2⟩:=I.lstM hB
 refine PySem.P.add_list e e2 ?_ (by rw[List.size_toArray,List.size_toArray];omega)
 have ea:its.toArray++its2.toArray=(its++its2).toArray:=by simp
 rw[ea]
 exact⟨.ref _,_,I.lnew (t':=s.toks) (r.append r2) (by rw[List.length_append];omega),rfl,q _ I.fresh⟩
def Uk:R2:=fun x y H Q=>∃l k xs,x=.ref l/\y=.int k/\H l=some (.lst xs) /\ -(2 ^ 63)<=k/\k<2 ^ 63/\xs.length*k.toNat<=sizeLine /\
 ∀p,H p=none->Q (.ref p) (upd H p (.lst (List.replicate k.toNat xs).flatten))
theorem len_rep{α:Type}(xs:List α)(k:Nat):(List.replicate k xs).flatten.length=k*xs.length:=by
 induction k with
 | zero=>simp
 | succ k ih=>rw[List.replicate_succ,List.flatten_cons,List.length_append,ih,Nat.succ_mul,Nat.add_comm]
theorem QQ:OpR X (binaryOp .Mult) Uk:=by
 intro pins s Z H x y v u Q I rx ry h
 obtain⟨l,k,xs,rfl,rfl,hH,h1,h2,hz,q⟩:=h
 cases rx
 obtain⟨t,rfl⟩:=ry
 obtain⟨z,its,n,r,hl,e⟩:=I.lstM hH
 have hlen:its.toArray.size*k.toNat<=sizeLine:=by rw[List.size_toArray,<-hl];exact hz
 have hcap:¬its.toArray.size*k.toNat>(2 ^ 63-1) / 8:=by
  have:(sizeLine:Nat)<=(2 ^ 63-1) / 8:=by decide
  omega
 have hfit:¬(!Builtin.List.listFitsIndex k)=true:=by
  rw[fitsIndex_both h1 h2]
  exact Bool.false_ne_true
 have hlong:¬Builtin.List.listTooLong (its.toArray.size*k.toNat)=true:=by
  rw[Jp hlen]
  exact Bool.false_ne_true
 have hnew:List.foldl (fun x1 x2=>x1++x2) #[] (List.replicate (if its.toArray.isEmpty=true then 0 else k.toNat) its.toArray)=(List.replicate k.toNat its).flatten.toArray:=by
  have f0:∀m:Nat,List.foldl (fun x1 x2=>x1++x2) #[] (List.replicate m its.toArray)=(List.replicate m its).flatten.toArray:=fun m=>by
   have:=foldl_rep its m []
   rw[List.nil_append] at this
   exact this
  rw[f0]
  cases its with
  | nil=>simp
  | cons a r'=>rw[if_neg (by simp)]
 refine wpAny_binaryOp_repeat_ref (T:="list") (U:="int") (by decide) ⟨_,e,rfl⟩ (fun s'=>typeIs_int s' k t) noFill_list_mul F.fills_int_mul F.slot_int_rmul repeat_list F.slot_int_index.lookup
  (call_meets F.slot_int_rmul (typeIs_int s k t) F.entry_int_rmul (F.args_int_rmul_2 _ _) (int___rmul___int_list k t l its.toArray n)
   ⟨e,rfl,⟨_,e,rfl⟩,call_meets F.slot_list_mul ⟨_,e,rfl⟩ F.entry_list_mul (F.args_list_mul_2 _ _) (AutoListH.list___mul___list_int_3 l its.toArray n k t hfit hcap hlong) ⟨e,?_⟩⟩)
 rw[hnew]
 exact⟨.ref _,_,I.lnew (t':=s.toks) (r.rep k.toNat) (by rw[len_rep,Nat.mul_comm];exact hz),rfl,q _ I.fresh⟩
end
section
variable {prog:Program} {w:World} {A:Around} {E:Value->Shared->Prop} {s:Shared}
set_option maxRecDepth 100000 in
end
end L2
namespace L2
open PySem PySem.Spec PyProof.Rows
section
variable {κ:Type} [DecidableEq κ]
def iW(kvs:List (κ×V))(k:κ):Option V:=(kvs.find? fun kv=>decide (kv.1=k)).map (·.2)
def putK(kvs:List (κ×V))(k:κ)(v:V):List (κ×V) :=
 if(kvs.any fun kv=>decide (kv.1=k))=true then kvs.map (fun kv=>if kv.1=k then(kv.1,v) else kv) else kvs++[(k,v)]
def ig(kvs:List (κ×V))(k:κ):List (κ×V):=kvs.filter fun kv=>decide (kv.1≠k)
theorem qC{p:κ×V}{r:List (κ×V)}{k:κ}(e:p.1=k):iW (p::r) k=some p.2:=by simp[iW,List.find?_cons,e]
theorem qD{p:κ×V}{r:List (κ×V)}{k:κ}(e:¬p.1=k):iW (p::r) k=iW r k:=by simp[iW,List.find?_cons,e]
theorem Ad(k:κ):∀kvs:List (κ×V),(kvs.any fun kv=>decide (kv.1=k))=(iW kvs k).isSome
 | []=>rfl
 | p::r=>by
  rw[List.any_cons]
  by_cases e:p.1=k
  ·simp only[qC e,decide_eq_true e,Bool.true_or,Option.isSome_some]
  ·rw[qD e,decide_eq_false e,Bool.false_or];exact Ad k r
theorem pF(kvs:List (κ×V))(k:κ)(v:V):(putK kvs k v).length<=kvs.length+1:=by
 unfold putK
 split
 ·rw[List.length_map];omega
 ·rw[List.length_append,List.length_cons,List.length_nil];omega
theorem iw.isSome_eq{o:Option V}{u:Option Value}(r:iw o u):o.isSome=u.isSome:=by
 cases o with
 | none=>cases u with
  | none=>rfl
  | some _=>exact(show False from r).elim
 | some _=>cases u with
  | none=>exact(show False from r).elim
  | some _=>rfl
theorem iw.getD{o:Option V}{u:Option Value}{d:V}{d':Value}(r:iw o u)(rd:RelV d d'):RelV (o.getD d) (u.getD d'):=by
 cases o with
 | none=>cases u with
  | none=>exact rd
  | some _=>exact(show False from r).elim
 | some _=>cases u with
  | none=>exact(show False from r).elim
  | some _=>exact r
theorem KV.val{kvs:List (κ×V)}{vs:List (κ×Value)}(r:KV kvs vs)(k:κ):iw (iW kvs k) (valueAt vs k):=by
 unfold KV at r
 induction r with
 | nil=>exact True.intro
 | @cons p q ps qs h t ih =>
  obtain⟨h1,h2⟩:=h
  by_cases e:p.1=k
  ·have e':q.1=k:=h1.symm.trans e
   have b:valueAt (q::qs) k=some q.2:=by simp[valueAt,List.find?_cons,e']
   rw[qC e,b];exact h2
  ·have e':¬q.1=k:=fun z=>e (h1.trans z)
   have b:valueAt (q::qs) k=valueAt qs k:=by simp[valueAt,List.find?_cons,e']
   rw[qD e,b];exact ih
theorem KV.any{kvs:List (κ×V)}{vs:List (κ×Value)}(r:KV kvs vs)(k:κ):(kvs.any fun kv=>decide (kv.1=k))=vs.any fun kv=>decide (kv.1=k):=by
 unfold KV at r
 induction r with
 | nil=>rfl
 | cons h t ih=>rw[List.any_cons,List.any_cons,ih,h.1]
theorem KV.repl{kvs:List (κ×V)}{vs:List (κ×Value)}(r:KV kvs vs)(k:κ){y:V}{u:Value}(ry:RelV y u) :
  KV (kvs.map fun kv=>if kv.1=k then(kv.1,y) else kv) (vs.map fun kv=>if kv.1=k then(kv.1,u) else kv):=by
 unfold KV at r ⊢
 induction r with
 | nil=>exact .nil
 | @cons p q ps qs h t ih =>
  rw[List.map_cons,List.map_cons]
  refine .cons ?_ ih
  obtain⟨h1,h2⟩:=h
  by_cases e:p.1=k
  ·rw[if_pos e,if_pos (h1.symm.trans e)];exact⟨h1,ry⟩
  ·rw[if_neg e,if_neg (fun z=>e (h1.trans z))];exact⟨h1,h2⟩
theorem KV.put{kvs:List (κ×V)}{vs:List (κ×Value)}(r:KV kvs vs)(k:κ){y:V}{u:Value}(ry:RelV y u):KV (putK kvs k y) (stored vs k u):=by
 unfold putK stored
 rw[r.any k]
 by_cases e:(vs.any fun kv=>decide (kv.1=k))=true
 ·rw[if_pos e,if_pos e];exact r.repl k ry
 ·rw[if_neg e,if_neg e];exact Paired.snoc r ⟨rfl,ry⟩
theorem KV.drop{kvs:List (κ×V)}{vs:List (κ×Value)}(r:KV kvs vs)(k:κ):KV (ig kvs k) (without vs k):=by
 unfold KV at r ⊢
 unfold ig without
 induction r with
 | nil=>exact .nil
 | @cons p q ps qs h t ih =>
  obtain⟨h1,h2⟩:=h
  rw[List.filter_cons,List.filter_cons]
  by_cases e:p.1=k
  ·have a:¬decide (p.1≠k)=true:=by simp[e]
   have b:¬decide (q.1≠k)=true:=by simp[h1.symm.trans e]
   rw[if_neg a,if_neg b];exact ih
  ·have e':¬q.1=k:=fun z=>e (h1.trans z)
   have a:decide (p.1≠k)=true:=by simp[e]
   have b:decide (q.1≠k)=true:=by simp[e']
   rw[if_pos a,if_pos b];exact .cons ⟨h1,h2⟩ ih
theorem KV.keys{kvs:List (κ×V)}{vs:List (κ×Value)}(r:KV kvs vs):kvs.map (·.1)=vs.map (·.1):=by
 unfold KV at r
 induction r with
 | nil=>rfl
 | cons h t ih=>rw[List.map_cons,List.map_cons,ih,h.1]
theorem KV.length{kvs:List (κ×V)}{vs:List (κ×Value)}(r:KV kvs vs):kvs.length=vs.length:=Paired.length r
theorem Ae(kvs:List (κ×V))(k:κ):(ig kvs k).length<=kvs.length:=List.length_filter_le _ _
end
theorem mY{P:Program}{w:World}{k:Key}{u:Value}(r:RelV (kV k) u):(cg P w).is k u=true:=by
 cases k with
 | inl i=>obtain⟨t,e⟩:=(show ∃t,u=Value.int i t from r);subst e;exact Cy P w i t
 | inr x=>obtain⟨t,e⟩:=(show ∃t,u=Value.str x t from r);subst e;exact Cz P w x t
theorem yE{P:Program}{w:World}:∀{ks:List Key} {us:List Value},Vals (ks.map kV) us->ItemsAre (cg P w) ks us
 | [],_,r=>by rw[List.map_nil] at r;cases r;exact .nil
 | k::ks,_,r=>by
  rw[List.map_cons] at r
  cases r with
  | cons h t=>exact .cons (mY h) (yE t)
abbrev KT(H:Hp):List (List Key×V)->List (List Key×Addr×Value)->Prop:=Paired fun p q=>p.1=q.1/\H q.2.1=some (.tup (p.1.map kV))/\RelV p.2 q.2.2
theorem KT.val{H:Hp}{kvs:List (List Key×V)}{xs:List (List Key×Addr×Value)}(r:KT H kvs xs)(k:List Key):iw (iW kvs k) ((atKey xs k).map (·.2)):=by
 induction r with
 | nil=>exact True.intro
 | @cons p q ps qs h t ih =>
  obtain⟨h1,_,h2⟩:=h
  by_cases e:p.1=k
  ·have e':q.1=k:=h1.symm.trans e
   have b:atKey (q::qs) k=some q.2:=by simp[atKey,List.find?_cons,e']
   rw[qC e,b];exact h2
  ·have e':¬q.1=k:=fun z=>e (h1.trans z)
   have b:atKey (q::qs) k=atKey qs k:=by simp[atKey,List.find?_cons,e']
   rw[qD e,b];exact ih
theorem KT.repl{H:Hp}{kvs:List (List Key×V)}{xs:List (List Key×Addr×Value)}(r:KT H kvs xs)(k:List Key){y:V}{u:Value}(ry:RelV y u) :
  KT H (kvs.map fun kv=>if kv.1=k then(kv.1,y) else kv) (xs.map (putAt k u)):=by
 induction r with
 | nil=>exact .nil
 | @cons p q ps qs h t ih =>
  rw[List.map_cons,List.map_cons]
  refine .cons ?_ ih
  obtain⟨h1,h2,h3⟩:=h
  unfold putAt
  by_cases e:p.1=k
  ·rw[if_pos e,if_pos (h1.symm.trans e)];exact⟨h1,h2,ry⟩
  ·rw[if_neg e,if_neg (fun z=>e (h1.trans z))];exact⟨h1,h2,h3⟩
theorem KT.put{H:Hp}{kvs:List (List Key×V)}{xs:List (List Key×Addr×Value)}(r:KT H kvs xs)(k:List Key){b:Addr}{y:V}{u:Value}(hb:H b=some (.tup (k.map kV)))(ry:RelV y u) :
  KT H (putK kvs k y) (storedH xs k b u):=by
 have e:(kvs.any fun kv=>decide (kv.1=k))=(atKey xs k).isSome:=by
  rw[Ad,(r.val k).isSome_eq,Option.isSome_map]
 unfold putK storedH
 rw[e]
 by_cases q:(atKey xs k).isSome=true
 ·rw[if_pos q,if_pos q];exact r.repl k ry
 ·rw[if_neg q,if_neg q];exact Paired.snoc r ⟨rfl,hb,ry⟩
theorem KT.keeps{H H':Hp}{kvs:List (List Key×V)}{xs:List (List Key×Addr×Value)}(r:KT H kvs xs)(ht:∀b ys,H b=some (.tup ys)->H' b=some (.tup ys)):KT H' kvs xs :=
 Paired.mapP r fun _ _ z=>⟨z.1,ht _ _ z.2.1,z.2.2⟩
section
variable {P:Program} {w:World} {H:Hp} {h:Heap} {a:Addr}
theorem Lq{u:HO}(ok:HOk P w H h)(e:Rd H a u):bV P w H h a u:=e.ok ok
theorem oX{kvs:List (Key×V)}(ok:HOk P w H h)(e:Rd H a (.dK kvs)):kvs.length<=sizeLine/\(a==sysModules)=false/\∃vs,KV kvs vs/\h.DictOf (cg P w) a vs :=
 show bV P w H h a (.dK kvs) from Lq ok e
theorem tL{kvs:List (Key×V)}(ok:HOk P w H h)(e:H a=some (.dK kvs)):kvs.length<=sizeLine/\(a==sysModules)=false/\∃vs,KV kvs vs/\h.DictOf (cg P w) a vs:=oX ok (.inl e)
theorem mG{ks:List Key}(ok:HOk P w H h)(e:H a=some (.tup (ks.map kV))):(tupleKind (cg P w)).is h ks a:=by
 obtain⟨_,its,r,o,h1,h2,n,h3⟩:=(show bV P w H h a (.tup (ks.map kV)) from ok a _ e)
 exact⟨o,its.toArray,n,h1,h2,h3,by simpa using yE r⟩
theorem oY{kvs:List (List Key×V)}(ok:HOk P w H h)(e:Rd H a (.dT kvs)):kvs.length<=sizeLine/\(a==sysModules)=false /\
  ∃xs,KT H kvs xs/\h.DictOfH (tupleKind (cg P w)) a xs:=by
 obtain⟨z,y,xs,r,o,es,ep,h1,h2,h3,h4,h5⟩:=(show bV P w H h a (.dT kvs) from Lq ok e)
 refine⟨z,y,xs,r,o,es,ep,h1,h2,h3,h4,fun x hx=>?_,h5⟩
 have all:∀{l:List (List Key×V)} {m:List (List Key×Addr×Value)},KT H l m->∀x∈m,(tupleKind (cg P w)).is h x.1 x.2.1:=by
  intro l m q
  induction q with
  | nil=>intro x hx;exact nomatch hx
  | @cons p q ps qs hq t ih =>
   intro x hx
   rcases List.mem_cons.mp hx with e |hx
   ·subst e
    exact mG ok (by rw[<-hq.1];exact hq.2.1)
   ·exact ih x hx
 exact all r x hx
theorem Lr{kvs:List (List Key×V)}(ok:HOk P w H h)(e:H a=some (.dT kvs)):kvs.length<=sizeLine/\(a==sysModules)=false /\
  ∃xs,KT H kvs xs/\h.DictOfH (tupleKind (cg P w)) a xs:=oY ok (.inl e)
end
def iY(H:Hp)(a:Addr)(y:V)(r:Option V):Prop :=
 (∃kvs k,Rd H a (.dK kvs)/\y=kV k/\r=iW kvs k)\/∃kvs k b,Rd H a (.dT kvs)/\y=.ref b/\H b=some (.tup (k.map kV))/\r=iW kvs k
def qF(H:Hp)(a:Addr)(y v:V)(H':Hp):Prop :=
 (∃kvs k,H a=some (.dK kvs)/\y=kV k/\kvs.length<sizeLine/\H'=upd H a (.dK (putK kvs k v))) \/
 ∃kvs k b,H a=some (.dT kvs)/\y=.ref b/\H b=some (.tup (k.map kV))/\kvs.length<sizeLine/\H'=upd H a (.dT (putK kvs k v))
theorem iY.k{H:Hp}{a:Addr}{kvs:List (Key×V)}{k:Key}(e:H a=some (.dK kvs)):iY H a (kV k) (iW kvs k):=.inl ⟨kvs,k,.inl e,rfl,rfl⟩
theorem iY.t{H:Hp}{a b:Addr}{kvs:List (List Key×V)}{k:List Key}(e:H a=some (.dT kvs))(eb:H b=some (.tup (k.map kV))):iY H a (.ref b) (iW kvs k):=.inr ⟨kvs,k,b,.inl e,rfl,eb,rfl⟩
theorem qF.k{H:Hp}{a:Addr}{kvs:List (Key×V)}{k:Key}{v:V}(e:H a=some (.dK kvs))(hl:kvs.length<sizeLine):qF H a (kV k) v (upd H a (.dK (putK kvs k v))):=.inl ⟨kvs,k,e,rfl,hl,rfl⟩
theorem qF.t{H:Hp}{a b:Addr}{kvs:List (List Key×V)}{k:List Key}{v:V}(e:H a=some (.dT kvs))(eb:H b=some (.tup (k.map kV)))(hl:kvs.length<sizeLine) :
  qF H a (.ref b) v (upd H a (.dT (putK kvs k v))):=.inr ⟨kvs,k,b,e,rfl,eb,hl,rfl⟩
section
variable {X:Cx} {pins:List (Addr×Obj)} {Z:St} {H:Hp} {s:Shared} {a:Addr} {y v:V} {u r:Value} {o:Option V} {A:Around} {E:Value->Shared->Prop}
theorem Inv.big(I:Inv X pins Z H s):sysModules<s.heap.objs.size:=by
 have h:mainGlobals<s.heap.objs.size:=(I.mod.glob.keeps I.bk).lt
 exact Nat.lt_trans (by decide) h
theorem GZ{Q:Value->Shared->Prop}(hu:A.units+1<cLine)(I:Inv X pins Z H s)(g:iY H a y (some v))(ry:RelV y u)(h:∀w' s',Inv X pins Z H s'->RelV v w'->Q w' s') :
  wpAny (model X.prog X.w) A (getItem (.ref a) u) Q E s:=by
 rcases g with⟨kvs,k,e,ey,l⟩ |⟨kvs,k,b,e,ey,eb,l⟩
 ·subst ey
  obtain⟨z,hd,vs,rel,dd⟩:=oX I.hok e
  obtain⟨w',hw,rw'⟩:=iw.some_of (v:=v) (o:=valueAt vs k) (by rw[l];exact rel.val k)
  exact wpAny_getItem_of (mY ry) dd.mapOf hw (h w' _ (I.tok _) rw')
 ·subst ey
  cases (show u=Value.ref b from ry)
  obtain⟨z,hd,xs,rel,dd⟩:=oY I.hok e
  obtain⟨w',hw,rw'⟩:=iw.some_of (v:=v) (o:=(atKey xs k).map (·.2)) (by rw[l];exact rel.val k)
  obtain⟨p,hp,hp2⟩:=Option.map_eq_some_iff.mp hw
  refine wpAny_getItem_heap (tupleKind_room_in1 hu) (mG I.hok eb) dd hp ?_
  rw[hp2]
  exact h w' _ (I.tok _) rw'
theorem Ul{Q:Value->Shared->Prop}(hu:A.units+1<cLine)(I:Inv X pins Z H s)(g:iY H a y o)(ry:RelV y u)(h:∀s',Inv X pins Z H s'->Q (.bool o.isSome) s') :
  wpAny (model X.prog X.w) A (compareOp .In u (.ref a)) Q E s:=by
 rcases g with⟨kvs,k,e,ey,l⟩ |⟨kvs,k,b,e,ey,eb,l⟩
 ·subst ey
  obtain⟨z,hd,vs,rel,dd⟩:=oX I.hok e
  refine wpAny_in_of (mY ry) hd dd.mapOf ?_
  rw[<-(rel.val k).isSome_eq,<-l]
  exact h _ (I.tok _)
 ·subst ey
  cases (show u=Value.ref b from ry)
  obtain⟨z,hd,xs,rel,dd⟩:=oY I.hok e
  refine wpAny_in_heap (tupleKind_room_in1 hu) (mG I.hok eb) hd dd ?_
  have q:=(rel.val k).isSome_eq
  rw[Option.isSome_map] at q
  rw[<-q,<-l]
  exact h _ (I.tok _)
theorem MJ{Q:Value->Shared->Prop}(hu:A.units+1<cLine)(I:Inv X pins Z H s)(g:iY H a y o)(ry:RelV y u)(h:∀s',Inv X pins Z H s'->Q (.bool (!o.isSome)) s') :
  wpAny (model X.prog X.w) A (compareOp .NotIn u (.ref a)) Q E s:=by
 rcases g with⟨kvs,k,e,ey,l⟩ |⟨kvs,k,b,e,ey,eb,l⟩
 ·subst ey
  obtain⟨z,hd,vs,rel,dd⟩:=oX I.hok e
  refine wpAny_notIn_of (mY ry) hd dd.mapOf ?_
  rw[<-(rel.val k).isSome_eq,<-l]
  exact h _ (I.tok _)
 ·subst ey
  cases (show u=Value.ref b from ry)
  obtain⟨z,hd,xs,rel,dd⟩:=oY I.hok e
  refine wpAny_notIn_heap (tupleKind_room_in1 hu) (mG I.hok eb) hd dd ?_
  have q:=(rel.val k).isSome_eq
  rw[Option.isSome_map] at q
  rw[<-q,<-l]
  exact h _ (I.tok _)
theorem pM{h':Heap}{t':Nat}{ob:HO}(I:Inv X pins Z H s)(mu:Mut (H a))(hs:Heap.SameBut a s.heap h')(he:∃q,h'.get? a=some q)(new:bV X.prog X.w (upd H a ob) h' a ob) :
  Inv X pins Z (upd H a ob) { s with heap:=h',toks:=t' } :=
 I.write (x:=a) (e:=a) mu (.inl rfl) (fun b q hb z=>(hs.2 b hb).trans z) he new
theorem Af{P:Program}{w:World}{H':Hp}{h':Heap}{kvs:List (Key×V)}{vs:List (Key×Value)}(z:kvs.length<=sizeLine)(hd:(a==sysModules)=false)(rel:KV kvs vs)(dd:h'.DictOf (cg P w) a vs) :
  bV P w H' h' a (.dK kvs):=⟨z,hd,vs,rel,dd⟩
theorem G_{H':Hp}{Q:Unit->Shared->Prop}(hu:A.units+1<cLine)(I:Inv X pins Z H s)(g:qF H a y v H')(ry:RelV y u)(rv:RelV v r)(h:∀s',Inv X pins Z H' s'->Q () s') :
  wpAny (model X.prog X.w) A (setItem (.ref a) u r) Q E s:=by
 rcases g with⟨kvs,k,e,ey,l,eH⟩ |⟨kvs,k,b,e,ey,eb,l,eH⟩
 ·subst ey eH
  obtain⟨z,hd,vs,rel,dd⟩:=tL I.hok e
  have hz:vs.length<=sizeLine:=by rw[<-rel.length];exact z
  have hl:(putK kvs k v).length<=sizeLine:=by have:=pF kvs k v;omega
  refine wpAny_setItem_pairs (hsz:=hz) (mY ry) dd fun h' dd' hs=>h _ ?_
  have he:∃q,h'.get? a=some q:=let⟨q,_,_,hq,_⟩:=dd';⟨q,hq⟩
  exact pM I (by rw[e];exact True.intro) hs he (Af hl hd (rel.put k rv) dd')
 ·subst ey eH
  cases (show u=Value.ref b from ry)
  obtain⟨z,hd,xs,rel,dd⟩:=Lr I.hok e
  have hz:xs.length<=sizeLine:=by rw[<-Paired.length rel];exact z
  have hl:(putK kvs k v).length<=sizeLine:=by have:=pF kvs k v;omega
  refine wpAny_setItem_heap (hsz:=hz) (tupleKind_room_in1 hu) (mG I.hok eb) dd fun h' dd' hs=>h _ ?_
  obtain⟨q,es,ep,hq,h2,h3,h4,_,h5⟩:=dd'
  refine pM I (by rw[e];exact True.intro) hs ⟨q,hq⟩ ⟨hl,hd,_,(rel.put k eb rv).keeps fun c ys ec=>?_,q,es,ep,hq,h2,h3,h4,h5⟩
  rw[aD (Lh ec e (fun z=>nomatch z))]
  exact ec
end
section
variable {X:Cx} {pins:List (Addr×Obj)} {Z:St} {H:Hp} {s:Shared} {a:Addr} {kvs:List (Key×V)} {k:Key} {u:Value} {A:Around} {E:Value->Shared->Prop}
theorem SQ{v:V}{more:List Value}{Q:Value->Shared->Prop}(I:Inv X pins Z H s)(e:H a=some (.dK kvs))(ry:RelV (kV k) u)(l:iW kvs k=some v)(hm:more=[]\/∃x,more=[x])
  (h:∀w' s',Inv X pins Z (upd H a (.dK (ig kvs k))) s'->RelV v w'->Q w' s'):wpAny (model X.prog X.w) A (call (.builtin "dict.pop") (.ref a::u::more)) Q E s:=by
 obtain⟨z,hd,vs,rel,dd⟩:=tL I.hok e
 obtain⟨w',hw,rw'⟩:=iw.some_of (v:=v) (o:=valueAt vs k) (by rw[<-l];exact rel.val k)
 have hp:(keyPart u).isSome=true:=by
  cases k with
  | inl i=>obtain⟨t,q⟩:=(show ∃t,u=Value.int i t from ry);subst q;rfl
  | inr x=>obtain⟨t,q⟩:=(show ∃t,u=Value.str x t from ry);subst q;rfl
 have ha:argsOk "dict.pop" ⟨.ref a::u::more,[]⟩:=by
  rcases hm with q |⟨x,q⟩
  ·subst q;exact PySem.F.args_dict_pop_2 _ _
  ·subst q;exact PySem.F.args_dict_pop_3 _ _ _
 refine call_meetsIn PySem.F.slot_dict_pop dd.typeIs PySem.F.entry_dict_pop ha (meets_dict_pop_there (cg X.prog X.w) a (mY ry) more hm hp)
  ⟨vs,w',dd,by rw[<-rel.length];exact z,hw,fun h' dd' hs=>h w' _ ?_ rw'⟩
 have he:∃q,h'.get? a=some q:=let⟨q,_,_,hq,_⟩:=dd';⟨q,hq⟩
 exact pM I (by rw[e];exact True.intro) hs he (Af (Nat.le_trans (Ae kvs k) z) hd (rel.drop k) dd')
end
def Jq(i:Expr):Prop:=∀ov iv,subscripted i false ov iv=operate [ov,iv] (getItem ov iv)
theorem MK{prog:Program}{w:World}{A:Around}{E:Value->Shared->Prop}{s:Shared}{env:Env}{value slice:Expr}{pos:Pos}{T id:String}{Q:Value->Shared->Prop}
  (hl:typeLookup (.type T) "__getitem__" = pure (some (.builtin id))) (hs:Jq slice)
  (h:wpAny (model prog w) A (eval value env) (fun o s₁=>wpAny (model prog w) A (eval slice env) (fun i s₂=>s₂.TypeIs o T/\wpAny (model prog w) A (getItem o i) Q E s₂) E s₁) E s) :
  wpAny (model prog w) A (eval (.Subscript value slice pos) env) Q E s:=by
 refine Subscript_ (wpAny_mono h (fun o s₁ h₁=>wpAny_mono h₁ (fun i s₂ h₂=>?_) fun _ _ x=>x) fun _ _ x=>x)
 obtain⟨hT,h₂⟩:=h₂
 unfold subscriptTail
 refine wpAny_bind ?_
 rw[getitemInPython_of_ne hT.not_modules]
 refine wpAny_bind (wpAny_specialOf hT hl ?_)
 have fin:wpAny (model prog w) A (subscripted slice false o i) (fun r s₃=>wpAny (model prog w) A (letTemporaryGo value o r>>=fun _=>pure r) Q E s₃) E s₂:=by
  rw[hs o i]
  exact wpAny_operating (wpAny_mono h₂ (fun r s₃ h₃=>wpAny_bind (wpAny_letTemporaryGo (wpAny_pure h₃))) fun _ _ x=>x)
 first
  | exact wpAny_pure (wpAny_bind fin)
  | exact wpAny_bind (wpAny_pure (wpAny_bind fin))
  | exact wpAny_bind fin
theorem CJ{X:Cx}{pins:List (Addr×Obj)}{Z:St}{H:Hp}{s:Shared}{a:Addr}{y:V}{o:Option V}(I:Inv X pins Z H s)(g:iY H a y o):s.TypeIs (.ref a) "dict":=by
 rcases g with⟨kvs,k,e,_,_⟩ |⟨kvs,k,b,e,_,_,_⟩
 ·obtain⟨_,_,vs,_,dd⟩:=oX I.hok e
  exact dd.typeIs
 ·obtain⟨_,_,xs,_,dd⟩:=oY I.hok e
  exact dd.typeIs
def SX(td ty:TE):TE:=fun Z H Q=>td Z H fun x H1=>ty Z H1 fun y H2=>∃a v,x=.ref a/\iY H2 a y (some v)/\Q v H2
def Um(ty td:TE):TE:=fun Z H Q=>ty Z H fun y H1=>td Z H1 fun x H2=>∃a o,x=.ref a/\iY H2 a y o/\Q (.bl o.isSome) H2
def MN(ty td:TE):TE:=fun Z H Q=>ty Z H fun y H1=>td Z H1 fun x H2=>∃a o,x=.ref a/\iY H2 a y o/\Q (.bl (!o.isSome)) H2
def ir(td ty tv:TE):TS:=fun D Z H=>tv Z H fun v H1=>td Z H1 fun x H2=>ty Z H2 fun y H3=>∃a H4,x=.ref a/\qF H3 a y v H4/\D.nx Z H4
section
variable {X:Cx} {o i e value:Expr} {pos pos' tpos:Pos} {td ty tv:TE}
theorem MP(hu:X.A.units+1<cLine)(ho:PE X o td)(hi:PE X i ty)(hs:Jq i):PE X (.Subscript o i pos) (SX td ty):=by
 intro pins s Z H Q I h
 refine MK PySem.F.slot_dict_getitem.lookup hs (thn (ho pins s Z H _ I h) fun u s1 ⟨x,H1,I1,rx,q1⟩=>thn (hi pins s1 Z H1 _ I1 q1) fun iv s2 hw'=>?_)
 obtain⟨y,H2,I2,ry,a,v,ex,g,q2⟩:=hw'
 subst ex
 obtain rfl:u=Value.ref a:=rx
 exact⟨CJ I2 g,GZ hu I2 g ry fun w' s3 I3 rw'=>⟨v,H2,I3,rw',q2⟩⟩
theorem QR(hu:X.A.units+1<cLine)(hi:PE X i ty)(ho:PE X o td):PC X .In i o (Um ty td):=by
 intro pins s Z H Q I h
 refine thn (hi pins s Z H _ I h) fun iv s1 ⟨y,H1,I1,ry,q1⟩=>thn (ho pins s1 Z H1 _ I1 q1) fun u s2 hw'=>?_
 obtain⟨x,H2,I2,rx,a,ov,ex,g,q2⟩:=hw'
 subst ex
 obtain rfl:u=Value.ref a:=rx
 exact Ul hu I2 g ry fun s3 I3=>⟨.bl ov.isSome,H2,I3,rfl,q2⟩
theorem Ha(hu:X.A.units+1<cLine)(hi:PE X i ty)(ho:PE X o td):PC X .NotIn i o (MN ty td):=by
 intro pins s Z H Q I h
 refine thn (hi pins s Z H _ I h) fun iv s1 ⟨y,H1,I1,ry,q1⟩=>thn (ho pins s1 Z H1 _ I1 q1) fun u s2 hw'=>?_
 obtain⟨x,H2,I2,rx,a,ov,ex,g,q2⟩:=hw'
 subst ex
 obtain rfl:u=Value.ref a:=rx
 exact MJ hu I2 g ry fun s3 I3=>⟨.bl (!ov.isSome),H2,I3,rfl,q2⟩
theorem MT(hu:X.A.units+1<cLine)(ho:PE X o td)(hi:PE X i ty)(hv:PE X value tv)(hs:swapsWith value (some (.Subscript o i pos')) pos.line X.env=pure false) :
  PS X (.Assign [.Subscript o i pos'] value pos) (ir td ty tv):=by
 intro pins s Z H D I h
 refine wpAny_Assign_Subscript (thn (hv pins s Z H _ I h) fun r s1 ⟨v,H1,I1,rv,q1⟩=>thn (ho pins s1 Z H1 _ I1 q1) fun u s2 ⟨x,H2,I2,rx,q2⟩=>thn (hi pins s2 Z H2 _ I2 q2) fun iv s3 hw'=>?_) hs
 obtain⟨y,H3,I3,ry,a,H4,ex,g,q3⟩:=hw'
 subst ex
 obtain rfl:u=Value.ref a:=rx
 exact G_ hu I3 g ry rv fun s4 I4=>⟨Z,H4,I4,q3⟩
end
theorem Ag{P:Program}{w:World}{H:Hp}(h:Heap)(hb:sysModules<h.objs.size):bV P w H (h.push { cls:=.type "dict",data:=.dict #[] }) h.objs.size (.dK []) :=
 ⟨Nat.zero_le _,beq_eq_false_iff_ne.mpr (Ne.symm (Nat.ne_of_lt hb)),[],.nil,Heap.DictOf.new h⟩
theorem Jr{P:Program}{w:World}{H:Hp}(h:Heap)(hb:sysModules<h.objs.size):bV P w H (h.push { cls:=.type "dict",data:=.dict #[] }) h.objs.size (.dT []) :=
 ⟨Nat.zero_le _,beq_eq_false_iff_ne.mpr (Ne.symm (Nat.ne_of_lt hb)),[],.nil,_,#[],0,Heap.get?_push_size _ rfl,⟨rfl,rfl,rfl⟩,rfl,rfl,List.nodup_nil⟩
def QS:TE:=fun _ H Q=>∀p,H p=none->Q (.ref p) (upd H p (.dK []))
def QT:TE:=fun _ H Q=>∀p,H p=none->Q (.ref p) (upd H p (.dT []))
section
variable {X:Cx} {pos:Pos}
theorem Js:PE X (.Dict [] [] pos) QS:=fun pins s Z H Q I h =>
 wpAny_Dict_empty ⟨.ref s.heap.objs.size,_,I.laid (a:=s.heap.objs.size) (o:=.dK []) (t':=s.toks) (fun _ _ q=>Heap.get?_push_of_some _ q) (Nat.le_refl _) (Ag s.heap I.big),rfl,h _ (I.hok.fresh (Nat.le_refl _))⟩
theorem Jt:PE X (.Dict [] [] pos) QT:=fun pins s Z H Q I h =>
 wpAny_Dict_empty ⟨.ref s.heap.objs.size,_,I.laid (a:=s.heap.objs.size) (o:=.dT []) (t':=s.toks) (fun _ _ q=>Heap.get?_push_of_some _ q) (Nat.le_refl _) (Jr s.heap I.big),rfl,h _ (I.hok.fresh (Nat.le_refl _))⟩
end
def vH:List (TE×TE)->St->Hp->(List (V×V)->Hp->Prop)->Prop
 | [],_,H,Q=>Q [] H
 | (tk,tv)::r,Z,H,Q=>tk Z H fun x H1=>tv Z H1 fun y H2=>vH r Z H2 fun ps H3=>Q ((x,y)::ps) H3
abbrev VV:List (V×V)->List (Value×Value)->Prop:=Paired fun p q=>RelV p.1 q.1/\RelV p.2 q.2
def PPs(X:Cx)(pos:Pos)(keys:List (Option Expr))(values:List Expr)(trs:List (TE×TE)):Prop :=
 ∀(pins:List (Addr×Obj)) (s:Shared) (Z:St) (H:Hp) (Q:List (V×V)->Hp->Prop),Inv X pins Z H s->vH trs Z H Q ->
  wpAny (model X.prog X.w) X.A (evalPairs (pairTrees keys values X.env pos)) (fun vs s'=>∃ps H',Inv X pins Z H' s'/\VV ps vs/\Q ps H') X.xe s
theorem M_{X:Cx}{pos:Pos}:PPs X pos [] [] []:=fun pins s Z H Q I h=>pairTrees_nil_walk ⟨[],H,I,.nil,h⟩
theorem Ju{X:Cx}{pos:Pos}{k v:Expr}{ks:List (Option Expr)}{vs:List Expr}{tk tv:TE}{trs:List (TE×TE)}(hk:PE X k tk)(hv:PE X v tv)(hr:PPs X pos ks vs trs) :
  PPs X pos (some k::ks) (v::vs) ((tk,tv)::trs):=fun pins s Z H Q I h =>
 pairTrees_cons_walk (thn (hk pins s Z H _ I h) fun u s1 ⟨x,H1,I1,rx,q1⟩=>thn (hv pins s1 Z H1 _ I1 q1) fun w2 s2 ⟨y,H2,I2,ry,q2⟩ =>
  thn (hr pins s2 Z H2 _ I2 q2) fun ws s3 ⟨ps,H3,I3,rel,q3⟩=>⟨(x,y)::ps,H3,I3,.cons ⟨rx,ry⟩ rel,q3⟩)
def nY(kvs more:List (Key×V)):List (Key×V):=more.foldl (fun acc kv=>putK acc kv.1 kv.2) kvs
theorem KV.merge:∀{more:List (Key×V)} {rs:List (Key×Value)} {kvs:List (Key×V)} {vs:List (Key×Value)},KV more rs->KV kvs vs->KV (nY kvs more) (merged vs rs):=by
 intro more rs kvs vs r
 unfold KV at r
 induction r generalizing kvs vs with
 | nil=>intro q;exact q
 | @cons p q ps qs h t ih =>
  intro r0
  have e:KV (putK kvs p.1 p.2) (stored vs q.1 q.2):=by
   have:=r0.put p.1 h.2
   rw[<-h.1];exact this
  exact ih e
theorem rC:∀(more kvs:List (Key×V)),(nY kvs more).length<=kvs.length+more.length
 | [],kvs=>by show kvs.length<=kvs.length+0;omega
 | p::r,kvs=>by
  have h1:=rC r (putK kvs p.1 p.2)
  have h2:=pF kvs p.1 p.2
  show(nY (putK kvs p.1 p.2) r).length<=_
  rw[List.length_cons];omega
theorem vI{P:Program}{w:World}:∀{kvs:List (Key×V)} {ws:List (Value×Value)},VV (kvs.map fun kv=>(kV kv.1,kv.2)) ws->∃rs,Carries (cg P w) ws rs/\KV kvs rs
 | [],_,r=>by rw[List.map_nil] at r;cases r;exact⟨[],True.intro,.nil⟩
 | p::kvs,_,r=>by
  rw[List.map_cons] at r
  cases r with
  | @cons a b as bs h t =>
   obtain⟨rs,c,q⟩:=vI (P:=P) (w:=w) t
   obtain⟨b1,b2⟩:=b
   exact⟨(p.1,b2)::rs,⟨mY h.1,rfl,c⟩,.cons ⟨rfl,h.2⟩ q⟩
def S_(trs:List (TE×TE)):TE:=fun Z H Q=>∀p,H p=none->vH trs Z (upd H p (.dK [])) fun ps H2=>H2 p=some (.dK [])/\∃kvs:List (Key×V),ps=kvs.map (fun kv=>(kV kv.1,kv.2))/\kvs.length<=15/\Q (.ref p) (upd H2 p (.dK (nY [] kvs)))
theorem Nb{X:Cx}{pos:Pos}{keys:List (Option Expr)}{values:List Expr}{trs:List (TE×TE)}(h:PPs X pos keys values trs)(hall:keys.all (·.isSome)=true)(hl:keys.length=values.length)(h0:keys≠[])
  (h15:keys.length<=15):PE X (.Dict keys values pos) (S_ trs):=by
 intro pins s Z H Q I q
 have hn:=I.hok.fresh (Nat.le_refl s.heap.objs.size)
 have I1:=I.laid (a:=s.heap.objs.size) (o:=.dK []) (h':=s.heap.push { cls:=.type "dict",data:=.dict #[] }) (t':=s.toks) (fun _ _ q=>Heap.get?_push_of_some _ q) (Nat.le_refl _) (Ag s.heap I.big)
 refine wpAny_Dict_walk (knd:=cg X.prog X.w) hall hl h0 h15 (thn (h pins _ Z _ _ I1 (q _ hn)) fun ws s2 hw'=>?_)
 obtain⟨ps,H2,I2,rel,e,kvs,ep,lk,q2⟩:=hw'
 subst ep
 obtain⟨rs,c,rk⟩:=vI (P:=X.prog) (w:=X.w) rel
 obtain⟨z,hd,vs0,r0,dd⟩:=tL I2.hok e
 cases r0
 refine⟨rs,c,dd,fun h' dd' hs=>⟨.ref s.heap.objs.size,_,?_,rfl,q2⟩⟩
 have hz:(nY [] kvs).length<=sizeLine:=by
  have h1:=rC kvs []
  rw[List.length_nil] at h1
  rw[sizeLine_eq];omega
 have he:∃q,h'.get? s.heap.objs.size=some q:=let⟨q,_,_,hq,_⟩:=dd';⟨q,hq⟩
 exact pM I2 (by rw[e];exact True.intro) hs he (Af hz hd (rk.merge .nil) dd')
structure M1(X:Cx)(o:Expr)(m:Str)(apos:Pos)(e:Expr)(cpos:Pos):Prop where
 base:attributeBase o m X.env (eval o X.env)=eval o X.env
 few:((backTo cpos (starEach [e] X.env)).all (fun x=>!x.1) && (backToKw cpos (keywordEach [] X.env)).all (fun x=>x.1.isSome)
  && decide (([e]:List Expr).length+([]:List Keyword).length+(if([]:List Keyword).isEmpty then 0 else 1)<30))=true
 line:(apos.endLine==cpos.line)=true
 trees:backTo cpos (starEach [e] X.env)=[(false,eval e X.env)]
structure M2(X:Cx)(o:Expr)(m:Str)(apos:Pos)(e f:Expr)(cpos:Pos):Prop where
 base:attributeBase o m X.env (eval o X.env)=eval o X.env
 few:((backTo cpos (starEach [e,f] X.env)).all (fun x=>!x.1) && (backToKw cpos (keywordEach [] X.env)).all (fun x=>x.1.isSome)
  && decide (([e,f]:List Expr).length+([]:List Keyword).length+(if([]:List Keyword).isEmpty then 0 else 1)<30))=true
 line:(apos.endLine==cpos.line)=true
 trees:backTo cpos (starEach [e,f] X.env)=[(false,eval e X.env),(false,eval f X.env)]
def IsD(H:Hp)(a:Addr):Prop:=(∃kvs,Rd H a (.dK kvs))\/∃kvs,Rd H a (.dT kvs)
theorem Ah{X:Cx}{pins:List (Addr×Obj)}{Z:St}{H:Hp}{s:Shared}{a:Addr}(I:Inv X pins Z H s)(d:IsD H a) :
  s.TypeIs (.ref a) "dict" /\ (∀b,Value.ref a=.ref b->∃ob,s.heap.get? b=some ob/\ob.dict=none)/\(a==sysModules)=false:=by
 rcases d with⟨kvs,e⟩ |⟨kvs,e⟩
 ·obtain⟨_,hd,vs,_,dd⟩:=oX I.hok e
  refine⟨dd.typeIs,fun b q=>?_,hd⟩
  cases q
  obtain⟨ob,_,_,h1,h2,_⟩:=dd
  exact⟨ob,h1,h2.2.1⟩
 ·obtain⟨_,hd,xs,_,dd⟩:=oY I.hok e
  refine⟨dd.typeIs,fun b q=>?_,hd⟩
  cases q
  obtain⟨ob,_,_,h1,h2,_⟩:=dd
  exact⟨ob,h1,h2.2.1⟩
section
variable {X:Cx} {pins:List (Addr×Obj)} {Z:St} {H:Hp} {s:Shared} {a:Addr} {y d:V} {u r:Value} {o:Option V} {A:Around} {E:Value->Shared->Prop}
theorem QV{Q:Value->Shared->Prop}(hu:A.units+1<cLine)(I:Inv X pins Z H s)(g:iY H a y o)(ry:RelV y u)(h:∀w' s',Inv X pins Z H s'->RelV (o.getD .non) w'->Q w' s') :
  wpAny (model X.prog X.w) A (call (.builtin "dict.get") [.ref a,u]) Q E s:=by
 rcases g with⟨kvs,k,e,ey,l⟩ |⟨kvs,k,b,e,ey,eb,l⟩
 ·subst ey
  obtain⟨z,hd,vs,rel,dd⟩:=oX I.hok e
  refine call_meetsIn PySem.F.slot_dict_get dd.typeIs PySem.F.entry_dict_get (PySem.F.args_dict_get_2 _ _) (meets_dict_get (cg X.prog X.w) a (mY ry) hd) ⟨_,dd.mapOf,h _ _ (I.tok _) ?_⟩
  rw[l]
  exact(rel.val k).getD rfl
 ·subst ey
  cases (show u=Value.ref b from ry)
  obtain⟨z,hd,xs,rel,dd⟩:=oY I.hok e
  refine call_meetsIn PySem.F.slot_dict_get dd.typeIs PySem.F.entry_dict_get (PySem.F.args_dict_get_2 _ _) (meetsH_dict_get (tupleKind (cg X.prog X.w)) a b hd) ⟨tupleKind_room_in1 hu,k,xs,mG I.hok eb,dd,h _ _ (I.tok _) ?_⟩
  rw[l]
  exact(rel.val k).getD rfl
theorem QW{Q:Value->Shared->Prop}(hu:A.units+1<cLine)(I:Inv X pins Z H s)(g:iY H a y o)(ry:RelV y u)(rd:RelV d r)(h:∀w' s',Inv X pins Z H s'->RelV (o.getD d) w'->Q w' s') :
  wpAny (model X.prog X.w) A (call (.builtin "dict.get") [.ref a,u,r]) Q E s:=by
 rcases g with⟨kvs,k,e,ey,l⟩ |⟨kvs,k,b,e,ey,eb,l⟩
 ·subst ey
  obtain⟨z,hd,vs,rel,dd⟩:=oX I.hok e
  refine call_meetsIn PySem.F.slot_dict_get dd.typeIs PySem.F.entry_dict_get (PySem.F.args_dict_get_3 _ _ _) (meets_dict_get_default (cg X.prog X.w) a (mY ry) hd r) ⟨_,dd.mapOf,h _ _ (I.tok _) ?_⟩
  rw[l]
  exact(rel.val k).getD rd
 ·subst ey
  cases (show u=Value.ref b from ry)
  obtain⟨z,hd,xs,rel,dd⟩:=oY I.hok e
  refine call_meetsIn PySem.F.slot_dict_get dd.typeIs PySem.F.entry_dict_get (PySem.F.args_dict_get_3 _ _ _) (meetsH_dict_get_default (tupleKind (cg X.prog X.w)) a b hd r) ⟨tupleKind_room_in1 hu,k,xs,mG I.hok eb,dd,h _ _ (I.tok _) ?_⟩
  rw[l]
  exact(rel.val k).getD rd
end
def QX(td ty:TE):TE:=fun Z H Q=>td Z H fun x H1=>∃a,x=.ref a/\IsD H1 a/\ty Z H1 fun y H2=>∃o,iY H2 a y o/\Q (o.getD .non) H2
def QZ(td ty tx:TE):TE:=fun Z H Q=>td Z H fun x H1=>∃a,x=.ref a/\IsD H1 a/\ty Z H1 fun y H2=>tx Z H2 fun z H3=>∃o,iY H3 a y o/\Q (o.getD z) H3
section
variable {X:Cx} {o e f:Expr} {apos cpos:Pos} {td ty tx:TE}
theorem Jv(hu:X.A.units+1<cLine)(ho:PE X o td)(he:PE X e ty)(m:M1 X o "get" apos e cpos):PE X (.Call (.Attribute o "get" apos) [e] [] cpos) (QX td ty):=by
 intro pins s Z H Q I h
 refine wpAny_Call_method m.base m.few m.line PySem.F.plainAttrs_dict PySem.F.slot_dict_get PySem.F.type_dict_get (thn (ho pins s Z H _ I h) fun u s1 hw'=>?_)
 obtain⟨x,H1,I1,rx,a,ex,d,q1⟩:=hw'
 subst ex
 obtain rfl:u=Value.ref a:=rx
 obtain⟨t1,t2,_⟩:=Ah I1 d
 refine⟨t1,t2,?_⟩
 rw[m.trees]
 refine Calls.callWith_builtin rfl (Calls.evalArgs_plain (Calls.spliced_cons (thn (he pins s1 Z H1 _ I1 q1) fun iv s2 ⟨y,H2,I2,ry,ov,g,q2⟩=>Calls.spliced_nil ?_)))
 exact QV hu I2 g ry fun w' s3 I3 rw'=>⟨_,H2,I3,rw',q2⟩
theorem Jw(hu:X.A.units+1<cLine)(ho:PE X o td)(he:PE X e ty)(hf:PE X f tx)(m:M2 X o "get" apos e f cpos):PE X (.Call (.Attribute o "get" apos) [e,f] [] cpos) (QZ td ty tx):=by
 intro pins s Z H Q I h
 refine wpAny_Call_method m.base m.few m.line PySem.F.plainAttrs_dict PySem.F.slot_dict_get PySem.F.type_dict_get (thn (ho pins s Z H _ I h) fun u s1 hw'=>?_)
 obtain⟨x,H1,I1,rx,a,ex,d,q1⟩:=hw'
 subst ex
 obtain rfl:u=Value.ref a:=rx
 obtain⟨t1,t2,_⟩:=Ah I1 d
 refine⟨t1,t2,?_⟩
 rw[m.trees]
 refine Calls.callWith_builtin rfl (Calls.evalArgs_plain (Calls.spliced_cons (thn (he pins s1 Z H1 _ I1 q1) fun iv s2 ⟨y,H2,I2,ry,q2⟩ =>
  Calls.spliced_cons (thn (hf pins s2 Z H2 _ I2 q2) fun fv s3 ⟨z,H3,I3,rz,ov,g,q3⟩=>Calls.spliced_nil ?_))))
 exact QW hu I3 g ry rz fun w' s4 I4 rw'=>⟨_,H3,I4,rw',q3⟩
end
end L2
namespace Att
open PySem PySem.W PySem.Calls PyProof.Rows
theorem vJ{P:Params}{h:Heap}:∀(ns:List Int) (vs:List Value),WellAll P h vs (ns.map WData.int)->IntsAre vs ns:=by
 intro ns
 induction ns with
 | nil =>
  intro vs w
  rw[List.map_nil] at w
  cases w
  exact .nil
 | cons n ns ih =>
  intro vs w
  rw[List.map_cons] at w
  cases w with
  | cons a b =>
   cases a
   exact .cons _ _ (ih _ b)
theorem Hb{l:OpenLaw}{n:Nat}(hn:l.most=some n){P:Params}{h:Heap}{args:List WData}{vals:List Value}
  (hpre:l.row.toRowW.claim.pre args=true) (hwl:WellAll P h vals args) :
  ∃a vs ns,vals=[Value.ref a]/\args=[WData.list (ns.map WData.int)]/\h.get? a=some { cls:=.type "list",data:=.seq vs.toArray }/\IntsAre vs ns/\ns.length<=n:=by
 have hsh:WShape.hasAll [] args [.list .int]=true:=(pre_splitW hpre).1
 have hc:l.pre.holds [] { args:=args }=true:=(pre_splitW hpre).2
 obtain⟨d,r,rfl,h1,h2⟩:=hasAllW_cons hsh
 obtain rfl:=hasAllW_nil h2
 obtain⟨xs,rfl,h3⟩:=hasW_list h1
 obtain⟨ns,rfl⟩:=items_int h3
 have hlen:ns.length<=n:=by
  unfold OpenLaw.pre at hc
  have h4:(WTm.not (.lt (.lit (.int (n:Int))) (.len (.arg 0)))).holds [] { args:=[.list (ns.map .int)] }=true:=by
   have h4:=(holds_andW hc).1
   rw[hn] at h4
   exact h4
  have h5:=condW_of h4 (w_not (w_lt w_lit (w_len_list (w_arg rfl))))
  rw[List.length_map] at h5
  refine Nat.le_of_not_lt fun q=>?_
  have q':(n:Int)<((ns.length:Nat):Int):=by omega
  first
   | (rw[decide_eq_true q'] at h5;exact absurd h5 (by decide))
   | (simp at h5;omega)
 cases hwl with
 | cons w1 w2 =>
  cases w2
  cases w1 with
  | list ho hall=>exact⟨_,_,ns,rfl,rfl,ho,vJ ns _ hall,hlen⟩
theorem Hc(l:OpenLaw)(args:List WData):l.row.toRowW.claim.post args (.bool true) args=true :=
 postW_of (r:=l.row.toRowW) (X:=(true==true))
  (show WShape.has [] (.bool true) .bool=true by first |rfl |decide |simp[WShape.has,WShape.arms,WShape.armsAll])
  (show(WTm.eq .res (.lit (.bool true))).value [] { args:=args,res:=some (.bool true),after:=args }=some (.bool (true==true)) from w_eq_bool (w_res rfl) w_lit) rfl
theorem CK{l:OpenLaw}{n:Nat}{q:Program}{loose:List Str}{XP:(Str->Option Value)->Heap->Prop}{YP:World->Heap->Prop}{d:DefRec}
  (hn:l.most=some n) (hdf:d.params.defaults=[])
  (call:∀(w:World) (s₀ s₁:Shared) (mg mb:Str->Option Value) (fa:Addr) (o:Obj) (pm cd doc:Value) (a:Addr) (vs:List Value) (ns:List Int),
   Ground q loose [] XP w s₀ mg mb s₁.heap->YP w s₁.heap ->
   s₁.heap.get? fa=some o->o.data=.func (docDef d.name d.params d.body d.scope pm cd doc)->s₁.heap.CodeRec cd d.name->mg d.name=some (.ref fa) ->
   s₁.heap.get? a=some { cls:=.type "list",data:=.seq vs.toArray }->IntsAre vs ns->ns.length<=n->s₁.gens = #[] ->
   codeAny (model l.prog w) callerA (.call (.ref fa) ⟨[.ref a],[]⟩) (fun r s'=>r=.ok (.ret (.bool true))/\OldK s₁.heap s'.heap/\s'.os=s₁.os/\AllBare s'.gens) s₁) :
  WalkO q loose XP YP l.row.toRowW d [] (fun f vs=>PySem.call f vs):=by
 intro w s₀ s₁ mg mb G Yoo fa o pm cd doc dV kV ho hd hcd hD hmg hg args vals as hpre hlay hrd hwl hlo
 obtain rfl:dV=.none:=Dflts.none hD hdf
 obtain rfl:kV=.none:=Dflts.noKw hD
 obtain⟨a,vs,ns,rfl,rfl,hobj,hints,hlen⟩:=Hb hn hpre hwl
 refine enter_call (codeAny_mono (call w s₀ s₁ mg mb fa o pm cd doc a vs ns G Yoo ho (fd_plain hd) hcd hmg hobj hints hlen hg) fun r s' hq=>?_)
 obtain⟨rfl,h2,h3,h4⟩:=hq
 exact⟨.inl ⟨.bool true,.bool true,[],rfl,fun _=>rfl,.bool true,Hc l _,fun _=>⟨List.Pairwise.nil,fun _ hm=>(nomatch hm)⟩⟩,h2,h3,h4⟩
section
variable {prog:Program} {w:World} {A:Around} {E:Value->Shared->Prop} {s:Shared} {K:Frag}
def ledger(h:Heap)(L d:Addr):List (Addr×Obj):=(List.range h.objs.size).filterMap fun a=>if a=L\/a=d then none else(h.get? a).map fun o=>(a,o)
end
end Att
namespace L2
open PySem PySem.Spec PyProof.Rows
theorem yF:∀{vs:List Value} {ns:List Int},IntsAre vs ns->Vals (ns.map V.int) vs
 | _,_,.nil=>.nil
 | _,_,.cons n t h=>.cons ⟨t,rfl⟩ (yF h)
def Only(H:Hp):Prop:=∀b,H b=none\/∃o xs,H b=some (.frz o (.lst xs))
theorem Jx{P:Program}{w:World}{K:PySem.W.Frag}{mg mb:Str->Option Value}{CX:CXT}{k:Nat}{fa a:Addr}{fd:FuncData}{x:Str}{sp:Sp}{s₁:Shared}{vs:List Value}{ns:List Int}
  (KX:K.In s₁.heap) (hns:s₁.heap.Ns mainGlobals mg) (hb:s₁.heap.Ns builtinsNs mb) (hbb:∀x:Str,x ≠ "__name__" -> mb x=bootBuiltins x) (hlim:s₁.heap.NoLimit) (hg:s₁.gens = #[])
  (ha:s₁.heap.get? a=some { cls:=.type "list",data:=.seq vs.toArray }) (hi:IntsAre vs ns) (hl:ns.length<=sizeLine) (hr:Room k callerA)
  (F:∀base:Heap,K.In base->base.Ns mainGlobals mg->FnOk P w K mg base CX k fa fd [x] sp) (hbind:∀(s:Shared) (u:Value),BindsTo s fd ⟨[u],[]⟩ [(x,u)])
  (hsp:∀H:Hp,Only H->SqL K H a (ns.map V.int)->sp [.ref a] H (fun v _=>v=.bl true) fun _ _ _=>False)
  (hCX:∀H e s',CX [] H s₁ (fun _ _ _=>False) e s'->False) :
  codeAny (model P w) callerA (.call (.ref fa) ⟨[.ref a],[]⟩) (fun r s'=>r=.ok (.ret (.bool true))/\OldK s₁.heap s'.heap/\s'.os=s₁.os/\AllBare s'.gens) s₁:=by
 have rv:=yF hi
 have lenV:=hi.length
 have core:∀H:Hp,Only H->SqL K H a (ns.map V.int)->HOk P w H s₁.heap->(∀b,H b≠none->b=a)->(H a≠none->K.lookup a=none) ->
   codeAny (model P w) callerA (.call (.ref fa) ⟨[.ref a],[]⟩) (fun r s'=>r=.ok (.ret (.bool true))/\OldK s₁.heap s'.heap/\s'.os=s₁.os/\AllBare s'.gens) s₁:=by
  intro H hO hS hok hA hK
  have ais:∀{b:Addr} {o:Obj},s₁.heap.get? b=some o->H b=none->(qx s₁.heap H).get? b=some o:=fun e n=>IW e n
  have noA:∀{b:Addr} {o:Obj} {es:Array DictEntry} {ep:Nat},s₁.heap.get? b=some o->o.data=.dict es ep->H b=none:=fun {b o es ep} e d=>by
   cases q:H b with
   | none=>rfl
   | some u =>
    have e':b=a:=hA b (by rw[q];simp)
    subst e'
    rw[ha] at e;cases e
    have d':Data.seq vs.toArray _=Data.dict es ep:=d
    cases d'
  have nsK:∀{b:Addr} {m:Str->Option Value},s₁.heap.Ns b m->(qx s₁.heap H).Ns b m:=fun {b m} ⟨o,es,ep,e,d,r⟩=>⟨o,es,ep,ais e (noA e d),d,r⟩
  have hKb:K.In (qx s₁.heap H):=fun b o e=>ais (KX b o e) (by
   cases q:H b with
   | none=>rfl
   | some u =>
    have e':b=a:=hA b (by rw[q];simp)
    subst e'
    rw[hK (by rw[q];simp)] at e;cases e)
  have hM:Mod K mg (qx s₁.heap H):=⟨hKb,nsK hns,⟨mb,nsK hb,hbb⟩,let⟨mc,h1,h2⟩:=hlim;⟨mc,nsK h1,h2⟩⟩
  have e0:Env0 P w K mg (qx s₁.heap H) callerA [] s₁ H:=⟨rfl,hM,fun b o e=>Mj e,Nat.le_of_eq (Gr _ _),trivial,fun b hb=>absurd (show b∈([]:List Addr) from hb) (by simp),hok,.of_eq hg⟩
  refine codeAny_mono ((F _ hKb (nsK hns)).run callerA [] s₁ H ⟨[.ref a],[]⟩ [.ref a] [.ref a] _ _ hr e0 (hbind s₁ (.ref a)) (.cons rfl .nil) (hsp H hO hS)) fun r s' h=>?_
  cases r with
  | error e=>exact(hCX H e s' h).elim
  | ok fl =>
   cases fl with
   | next=>exact False.elim h
   | brk=>exact False.elim h
   | cont=>exact False.elim h
   | ret u =>
    obtain⟨v,H',os,bare,un,hok',r',q⟩:=h
    have q':v=.bl true:=q
    subst q'
    obtain rfl:u=Value.bool true:=r'
    refine⟨rfl,OldK.of_keep fun b o e=>?_,os,bare⟩
    cases q:H b with
    | none=>exact un.keep b o e q (by intro z;exact absurd (show b∈([]:List Addr) from z) (by simp)) (by simp)
    | some u =>
     rcases hO b with z |⟨ob,xs,z⟩
     ·rw[q] at z;cases z
     ·have z2:=un.frzs b ob _ z
      obtain⟨e1,_⟩:=hok b _ z
      obtain⟨e2,_⟩:=hok' b _ z2
      rw[e] at e1;cases e1
      exact e2
 cases hk:K.lookup a with
 | some o =>
  have e:=KX a o hk
  rw[ha] at e
  cases e
  refine core (fun _=>none) (fun _=>.inl rfl) (.inr ⟨_,vs.toArray,_,hk,rfl,rfl,rfl,by rw[List.size_toArray,lenV];exact hl,by simpa using rv⟩) (fun b u z=>by have z':(none:Option HO)=some u:=z;cases z') (fun b z=>absurd rfl z) fun z=>absurd rfl z
 | none =>
  refine core (fun b=>if b=a then some (.frz { cls:=.type "list",data:=.seq vs.toArray } (.lst (ns.map V.int))) else none) (fun b=>?_) (.inl (.inr ⟨{ cls:=.type "list",data:=.seq vs.toArray },if_pos rfl⟩)) (fun b u z=>?_) (fun b z=>?_) fun _=>hk
  ·by_cases hb:b=a
   ·exact .inr ⟨_,_,if_pos hb⟩
   ·exact .inl (if_neg hb)
  ·by_cases hb:b=a
   ·have z':=(if_pos hb).symm.trans z
    cases z'
    subst hb
    exact⟨ha,by rw[List.length_map];exact hl,vs,_,rv,ha⟩
   ·have z':=(if_neg hb).symm.trans z
    cases z'
  ·by_cases hb:b=a
   ·exact hb
   ·exact absurd (if_neg hb) z
end L2
namespace L2
open PySem PySem.Spec PyProof.Rows
abbrev KOf{K:PySem.W.Frag}{h:Heap}(_:K.In h):PySem.W.Frag:=K
theorem Dq{l:PySem.W.OpenLaw}{n k:Nat}{q:Program}{loose:List Str}{XP:(Str->Option Value)->Heap->Prop}{YP:World->Heap->Prop}{d:DefRec}{K:Params->PySem.W.Frag}{CX:World->CXT}{sp:World->Sp}{x:Str}
  (hn:l.most=some n) (hn2:n<=sizeLine) (hdf:d.params.defaults=[]) (hr:Room k callerA)
  (hY:∀(w:World) (h:Heap),YP w h->(K w.params).In h)
  (F:∀(w:World) (mg:Str->Option Value) (fa:Addr) (h:Heap),(K w.params).In h->h.Ns mainGlobals mg->mg d.name=some (.ref fa) ->
   ∃fd:FuncData,(∀(s:Shared) (u:Value),BindsTo s fd ⟨[u],[]⟩ [(x,u)]) /\
    ∀base:Heap,(K w.params).In base->base.Ns mainGlobals mg->FnOk l.prog w (K w.params) mg base (CX w) k fa fd [x] (sp w))
  (hsp:∀(w:World) (H:Hp) (a:Addr) (ns:List Int),ns.length<=n->Only H->SqL (K w.params) H a (ns.map V.int)->sp w [.ref a] H (fun v _=>v=.bl true) fun _ _ _=>False)
  (hCX:∀(w:World) (H:Hp) (s:Shared) (e:Value) (s':Shared),CX w [] H s (fun _ _ _=>False) e s'->False) :
  PySem.W.WalkO q loose XP YP l.row.toRowW d [] (fun f vs=>PySem.call f vs):=by
 refine Att.CK hn hdf fun w s₀ s₁ mg mb fa o pm cd doc a vs ns G Yoo ho hd hcd hmg hobj hints hlen hg=>?_
 have KX:=hY w _ Yoo
 obtain⟨fd,hb,hF⟩:=F w mg fa _ KX G.T.g hmg
 exact Jx KX G.T.g G.T.b G.T.builtins G.T.nolimit hg hobj hints (Nat.le_trans hlen hn2) hr hF hb (fun H hO hS=>hsp w H a ns hlen hO hS) fun H e s'=>hCX w H s₁ e s'
end L2
/- THE LAST THEOREM (shape;LID,My.* are yours):
  My.Adr: a structure of the addresses that your layer names (classes,functions);My.Txt K t: a structure (Prop) of the equations over K;
  My.txt_mk:{K} {implicit addresses ..} (e1:nsIn K mainGlobals "law" = some (some (.ref f))) (e2:K.lookup f=some ⟨oc,od,.func (fnOf "law" "law" params body scope dV kV doc pm an cdv ct),sl⟩) (e3:codeIn K cdv "law" = true) ..:∃t,My.Txt K t
set_option maxRecDepth 100000 in
set_option maxHeartbeats 0 in
theorem PySem.Challenge.cw_LID_holds : PySem.Challenge.rw_LID.Holds := by
 w_on;o_law;k_head;(case hw=>w_witness2)
 k_fill
 refine L2.Dq (l:=PySem.Challenge.rw_LID) (n:=63) (k:=40) (x:="script") (CX:=fun w=>..) (sp:=fun _=>My.sp_law) rfl (by decide) rfl ⟨rfl,by decide,by decide⟩ (fun w h Yoo=>PySem.W.kIn_of Yoo) ?F ?S ?C
 case F =>
  intro w mg fa h KX G hmg
  have T:∃t,My.Txt (L2.KOf KX) t:=by
   dsimp only[L2.KOf]                          -- K must stand as «<heap const> w.params» for k_is
   refine' My.txt_mk ?e1 ?e2 ?e3 ..
   (case e1=>PySem.W.k_is)                    -- in the order: a name->its address->its object->its parts
   (case e2=>PySem.W.k_is)
   ..
  obtain⟨t,T⟩:=T
  have e0:=hmg.symm.trans (PySem.W.mg_of KX G T.law)
  cases e0                                       -- fa is the law's own address
  exact⟨_,fun s u=>.of_eq rfl,fun base kb nb=>My.Cw T kb nb⟩     -- if «.of_eq rfl» comes too early: refine' ⟨_,?b,fun base kb nb=>My.Cw T kb nb⟩;exact fun s u=>.of_eq rfl
 case S=>exact fun w H a ns hl hO hS=>..
 case C=>exact ..
(the tactic k_is has no namespace: write k_is) -/
namespace L2
open PySem PySem.Spec PyProof.Rows
def inClass(s:Stmt)(j:Nat):Stmt:=match s with
 | .ClassDef _ _ _ body _ _ _ _ _ _ _=>body.getD j (.Pass ⟨0,0,0,0⟩)
 | _=>.Pass ⟨0,0,0,0⟩
def aY(s:Stmt):Arguments:=match s with
 | .FunctionDef _ a _ _ _ _ _ _ _ _=>a
 | _=>{ posonlyargs:=[],args:=[],vararg:=none,kwonlyargs:=[],kw_defaults:=[],kwarg:=none,defaults:=[] }
def aW(s:Stmt):List Stmt:=match s with
 | .FunctionDef _ _ b _ _ _ _ _ _ _=>b
 | _=>[]
def au(s:Stmt):Scope:=match s with
 | .FunctionDef _ _ _ _ _ _ sc _ _ _=>sc
 | _=>{ kind:=.function,names:=[],isGenerator:=false,isCoroutine:=false }
abbrev CX0:CXT:=fun _ _ _ _ _ _=>False
abbrev E0:XK:=fun _ _ _=>False
theorem vK{X:Cx}:Passes CX0 X E0:=fun _ _ _ _ _ _ _ h=>h.elim
structure Fun(K:PySem.W.Frag)(x qual:Str)(st:Stmt)(f:Addr)(fd:FuncData):Prop where
 ex:∃(oc:Value) (od:Option Addr) (kV doc pm:Value) (an:Option Addr) (cdv ct:Value) (osl:Array (Option Value)),
  fd=PySem.W.fnOf x qual (aY st) (aW st) (au st) .none kV doc pm an cdv ct/\K.lookup f=some ⟨oc,od,.func fd,osl⟩/\PySem.W.codeIn K cdv qual=true
 kp:PySem.W.keepIn K (.ref f)=true
section
variable {P:Program} {w:World} {K:PySem.W.Frag} {mg:Str->Option Value} {base:Heap}
theorem Fun.ok{x qual:Str}{st:Stmt}{f:Addr}{fd:FuncData}{N ps:List Str}{k:Nat}{sp:Sp}(F:Fun K x qual st f fd)(S:FnScope N ps (au st))(len:∀vs H Q E,sp vs H Q E->vs.length=ps.length)
  (hbody:∀(cdv:Value) (A:Around) (outer:List Env) (s:Shared) (H:Hp) (vs:List V) (Q:VK) (E:XK),Room k (A.deeper (envOfC qual (au st) s.heap.objs.size f cdv))->sp vs H Q E ->
   ∃t,PSs (bG CX0 P w K mg base N qual (au st) f cdv A outer s H E).nox (aW st) t/\t { nx:=fun _ H'=>Q .non H',rt:=Q } (start N vs) H):FnOk P w K mg base CX0 (k+1) f fd ps sp:=by
 obtain⟨oc,od,kV,doc,pm,an,cdv,ct,osl,rfl,lk,hcd⟩:=F.ex
 refine Fg lk hcd S len fun A outer s H vs Q E hr hsp=>?_
 obtain⟨t,h,q⟩:=hbody cdv A outer s H vs Q E hr hsp
 exact⟨t,h.nox,q⟩
theorem Fun.binds{x qual:Str}{st:Stmt}{f:Addr}{fd:FuncData}{ps:List Str}(F:Fun K x qual st f fd)
  (h:∀(kV doc pm:Value) (an:Option Addr) (cdv ct:Value) (us:List Value),us.length=ps.length->bindArgs (PySem.W.fnOf x qual (aY st) (aW st) (au st) .none kV doc pm an cdv ct) ⟨us,[]⟩=pure (ps.zip us)):Binds K fd ps []:=by
 obtain⟨oc,od,kV,doc,pm,an,cdv,ct,osl,rfl,lk,hcd⟩:=F.ex
 exact .all (h kV doc pm an cdv ct)
theorem cH{x qual:Str}{st:Stmt}{f:Addr}{oc:Value}{od an:Option Addr}{osl:Array (Option Value)}{kV doc pm cdv ct:Value}(l:K.lookup f=some ⟨oc,od,.func (PySem.W.fnOf x qual (aY st) (aW st) (au st) .none kV doc pm an cdv ct),osl⟩)
  (c:PySem.W.codeIn K cdv qual=true) (k:PySem.W.keepIn K (.ref f)=true):Fun K x qual st f (PySem.W.fnOf x qual (aY st) (aW st) (au st) .none kV doc pm an cdv ct):=⟨⟨oc,od,kV,doc,pm,an,cdv,ct,osl,rfl,l,c⟩,k⟩
end
theorem bc{A:Around}{k:Nat}(hr:Room k A):A.units+1<cLine:=Nat.lt_of_le_of_lt (Nat.add_le_add_left (by decide:1<=64) _) hr.units
section
variable {X:Cx}
theorem pv(i:Nat){x:Str}{pos:Pos}(hN:X.N[i]? = some x:=by rfl)(hv:Vis X.env.scope x:=by first |exact Or.inl rfl |exact Or.inr (Or.inl rfl) |exact Or.inr (Or.inr rfl))(hd:(x==("__debug__":Str))=false:=by decide)
  (hcd:(x==("__classdict__":Str))=false:=by decide):PE X (.Name x pos) (xu i):=Qd hN hv hd hcd
end
theorem Jy{A B:Prop}(h:B):if false=true then A else B:=by
 rw[if_neg Bool.false_ne_true]
 exact h
theorem Jz{A B:Prop}(h:A):if true=true then A else B:=by
 rw[if_pos rfl]
 exact h
def bK(H H':Hp):Prop:=∀b o,H b=some o->H' b=some o
theorem bK.refl(H:Hp):bK H H:=fun _ _ h=>h
theorem bK.trans{H H1 H2:Hp}(a:bK H H1)(b:bK H1 H2):bK H H2:=fun c o h=>b c o (a c o h)
theorem bK.seq{K:PySem.W.Frag}{H H':Hp}{a:Addr}{xs:List V}(e:bK H H')(h:SqL K H a xs):SqL K H' a xs:=by
 rcases h with (h |⟨o,h⟩) |h
 ·exact .inl (.inl (e _ _ h))
 ·exact .inl (.inr ⟨o,e _ _ h⟩)
 ·exact .inr h
end L2
namespace L2
open PySem PySem.Spec PyProof.Rows
def clos(cells:List (Str×Addr)):List (Str×NameKind)->List (Str×Addr)->List (Str×Addr)
 | [],acc=>acc
 | (n,k)::r,acc=>clos cells r (if k == .free then(n,(cells.lookup n).getD 0)::acc else acc)
theorem Ai{env:Env}:∀(names:List (Str×NameKind)) (acc:List (Str×Addr)),(∀y∈names,y.2=.free->∃c,env.cells.lookup y.1=some c) ->
  (forIn names acc (fun(x:Str×NameKind) (r:List (Str×Addr))=>if(x.2==NameKind.free)=true then(do let a <-cellOf env x.1;pure (ForInStep.yield ((x.1,a)::r))) else pure (ForInStep.yield r)):Sem (List (Str×Addr)))=pure (clos env.cells names acc)
 | [],acc,_=>rfl
 | (n,k)::r,acc,h=>by
  rw[List.forIn_cons]
  have ih:=fun a=>Ai r a fun y hy=>h y (List.mem_cons_of_mem _ hy)
  cases hk:(k==NameKind.free) with
  | true =>
   have hk':k=.free:=by cases k<;>first |rfl |exact absurd hk (by decide)
   obtain⟨c,hc⟩:=h (n,k) List.mem_cons_self hk'
   have hc':env.cells.lookup n=some c:=hc
   have e:cellOf env n=pure c:=by unfold cellOf;rw[hc']
   dsimp only
   rw[if_pos rfl,e]
   show(forIn r ((n,c)::acc) _:Sem _)=_
   rw[ih]
   conv=>rhs;unfold clos
   rw[if_pos hk,hc']
   rfl
  | false =>
   dsimp only
   rw[if_neg (by decide)]
   show(forIn r acc _:Sem _)=_
   rw[ih]
   conv=>rhs;unfold clos
   rw[if_neg (by rw[hk];decide)]
theorem vN{scope:Scope}{env:Env}(h:∀y∈scope.names,y.2=.free->∃c,env.cells.lookup y.1=some c):closureFor scope env=pure (clos env.cells scope.names []):=by
 have e:=Ai scope.names [] h
 simp only[closureFor]
 rw[e]
 rfl
theorem Dr{cells:List (Str×Addr)}:∀{names:List (Str×NameKind)} {acc:List (Str×Addr)} {x:Str} {c:Addr},(∀y∈names,y.2=.free->∃c,cells.lookup y.1=some c)->(∀x c,acc.lookup x=some c->cells.lookup x=some c) ->
  (clos cells names acc).lookup x=some c->cells.lookup x=some c
 | [],acc,x,c,_,ha,h=>ha x c h
 | (n,k)::r,acc,x,c,hn,ha,h=>by
  unfold clos at h
  refine Dr (fun y hy=>hn y (List.mem_cons_of_mem _ hy)) (fun y d hy=>?_) h
  split at hy
  ·rename_i hk
   have hk':k=.free:=by cases k<;>first |rfl |exact absurd hk (by decide)
   obtain⟨c',hc⟩:=hn (n,k) List.mem_cons_self hk'
   have hc':cells.lookup n=some c':=hc
   rw[List.lookup_cons] at hy
   cases e:(y==n) with
   | true =>
    rw[e] at hy
    have ey:y=n:=by simpa using e
    subst ey
    rw[hc'] at hy ⊢
    exact hy
   | false =>
    rw[e] at hy
    exact ha y d hy
  ·exact ha y d hy
theorem Aj{cells:List (Str×Addr)}:∀{names:List (Str×NameKind)} {acc:List (Str×Addr)} {x:Str},(∃c,acc.lookup x=some c)->∃c,(clos cells names acc).lookup x=some c
 | [],_,_,h=>h
 | (n,k)::r,acc,x,h=>by
  unfold clos
  refine Aj ?_
  split
  ·rw[List.lookup_cons]
   cases (x==n) with
   | true=>exact⟨_,rfl⟩
   | false=>exact h
  ·exact h
theorem uJ{cells:List (Str×Addr)}:∀{names:List (Str×NameKind)} {acc:List (Str×Addr)} {x:Str},(x,NameKind.free)∈names->∃c,(clos cells names acc).lookup x=some c
 | [],_,_,h=>by cases h
 | (n,k)::r,acc,x,h=>by
  unfold clos
  rcases List.mem_cons.mp h with e |e
  ·cases e
   refine Aj ?_
   rw[if_pos (by decide),List.lookup_cons]
   simp
  ·exact uJ e
def bO(X:Cx)(N:List Str)(scope:Scope)(cl:List (Str×Addr))(C:Addr)(fp:List Addr)(s:Shared)(H:Hp):Cx :=
 { X with N:=N,s₀:=s,H₀:=H,env:=compEnvC scope cl C X.env,outer:=X.stack,stack:=X.stack,ex:=fp,fn:=fun _=>false,pn:=[],xe:=fun _ _=>False }
def inner(μ:List (Option Nat))(Z:St):St:=μ.map fun o=>o.bind fun j=>(Z[j]?).join
def mR(oN:List Str)(osc:Scope)(N:List Str)(isc:Scope)(μ:List (Option Nat)):Bool :=
 decide (μ.length=N.length) && (μ.zip N).all fun(o,x)=>match o with
  | none=>true
  | some j=>decide (oN[j]? = some x) && decide (osc.names.lookup x=some .cell) && (decide (isc.names.lookup x=some .cell) || decide (isc.names.lookup x=some .free))
theorem mR.get{oN N:List Str}{osc isc:Scope}{μ:List (Option Nat)}(h:mR oN osc N isc μ=true){i j:Nat}{x:Str}(h1:μ[i]? = some (some j))(h2:N[i]? = some x) :
  oN[j]? = some x/\osc.names.lookup x=some .cell/\(isc.names.lookup x=some .cell\/isc.names.lookup x=some .free):=by
 unfold mR at h
 rw[Bool.and_eq_true] at h
 have hz:(μ.zip N)[i]? = some (some j,x):=by rw[List.getElem?_zip_eq_some];exact⟨h1,h2⟩
 have q:=List.all_eq_true.mp h.2 _ (List.mem_of_getElem? hz)
 simp only[Bool.and_eq_true,Bool.or_eq_true,decide_eq_true_eq] at q
 exact⟨q.1.1,q.1.2,q.2⟩
section
variable {prog:Program} {w:World} {A:Around} {R:Result->Shared->Prop} {s:Shared}
theorem CN{elt target iter:Expr}{ifs:List Expr}{scope:Scope}{pos:Pos}{it acc:Value}{env:Env}(I:Nat->Shared->Prop)
  (turn:∀n s,I n s->wpAny (model prog w) A (pyNext it) (fun r s₁=>match r with
   | none=>R (.ok .next) s₁
   | some v=>wpAny (model prog w) A (letOwnedTupleGo target it v) (fun _ s₂=>wpAny (model prog w) A (assign target env v) (fun _ s₂ =>
     wpAny (model prog w) A (forIn ifs true fun c r=>if r=true then do let ok <-isTrue c env (eval c env);pure (ForInStep.yield ok) else pure (ForInStep.yield r)) (fun ok s₃ =>
      if ok=true then wpAny (model prog w) A (eval elt env) (fun x s₄ =>
       wpAny (model prog w) A (call (.builtin "list.append") [acc,x]) (fun _ s₅=>∃m,m<n/\I m s₅) (fun _ _=>False) s₄) (fun _ _=>False) s₃
      else ∃m,m<n/\I m s₃) (fun _ _=>False) s₂) (fun _ _=>False) s₂) (fun _ _=>False) s₁) (fun _ _=>False) s)
  (n:Nat) (h:I n s) :
  codeAny (model prog w) A (.compLoop (.ListComp elt [⟨target,iter,ifs,0⟩] scope pos) 0 it acc env) R s:=by
 refine codeAny_loop rfl I (fun n s hI=>?_) n h
 show wpAny _ A ((compTurn (.ListComp elt [⟨target,iter,ifs,0⟩] scope pos) 0 it acc env).onRaise (fun x=>do noteFrame x env;theTreesLotGoes x)) _ _ s
 refine wpAny_noted ?_
 rw[compTurn_list]
 refine wpAny_bind (wpAny_standAt (wpAny_bind (wpAny_mono (turn n s hI) (fun r s₁ h₁=>?_) fun _ _ h'=>h'.elim)))
 cases r with
 | none=>exact wpAny_pure h₁
 | some v =>
  refine wpAny_bind (wpAny_mono h₁ (fun _ s₂ h₂=>wpAny_bind (wpAny_mono h₂ (fun _ s₃ h₃=>wpAny_bind (wpAny_mono h₃ (fun ok s₄ h₄=>?_) fun _ _ h'=>h'.elim)) fun _ _ h'=>h'.elim)) fun _ _ h'=>h'.elim)
  cases ok with
  | false=>exact wpAny_pure ⟨rfl,h₄⟩
  | true =>
   exact wpAny_bind (wpAny_bind (wpAny_mono h₄ (fun x s₅ h₅=>wpAny_bind (wpAny_mono h₅ (fun _ s₆ h₆=>wpAny_pure (wpAny_pure ⟨rfl,h₆⟩)) fun _ _ h'=>h'.elim)) fun _ _ h'=>h'.elim))
end
def PTs(X:Cx)(ifs:List Expr)(t:TT):Prop :=
 ∀(pins:List (Addr×Obj)) (s:Shared) (Z:St) (H:Hp) (Q:Bool->Hp->Prop),Inv X pins Z H s->t Z H Q ->
  wpAny (model X.prog X.w) X.A (forIn ifs true fun c r=>if r=true then do let ok <-isTrue c X.env (eval c X.env);pure (ForInStep.yield ok) else pure (ForInStep.yield r)) (TP X pins Z Q) X.xe s
theorem Nf{X:Cx}:PTs X [] (fun _ H Q=>Q true H):=fun pins s Z H Q I h=>wpAny_tests_nil ⟨H,I,h⟩
def Ls(μ:List (Option Nat))(g:TG)(tt:TT)(te:TE)(Z:St)(Q:VK)(J:It)(H1:Hp):Prop :=
 ∀p,H1 p=none->∃W:Nat->Nat->St->Hp->Prop,(∃m,W 0 m (inner μ Z) (upd H1 p (.lst [])))/\∀i m Z' H',W i m Z' H' ->
  (J.stop i H'/\Q (.ref p) H')\/(J.go i H'/\∃Nn:St->Hp->Prop,(∀Z2 H2,Nn Z2 H2->∃m',m'<m/\W (i+1) m' Z2 H2) /\
   ∀x H2,J.yld i H' x H2->g x Z' H2 fun Z3 H3=>tt Z3 H3 fun b H4=>if b=true then te Z3 H4 fun y H5=>∃ys,H5 p=some (.lst ys)/\ys.length<sizeLine/\Nn Z3 (upd H5 p (.lst (ys++[y]))) else Nn Z3 H4)
def vO(μ:List (Option Nat))(wi:TI)(g:TG)(tt:TT)(te:TE):TE:=fun Z H Q=>wi Z H (Ls μ g tt te Z Q)
section
variable {X:Cx} {pins:List (Addr×Obj)} {Z:St} {H2:Hp} {s2:Shared} {tg iter elt:Expr} {ifs:List Expr} {scope:Scope} {pos:Pos} {it:Addr} {fp:List Addr} {tn:Nat->Heap->Prop} {J:It} {N:List Str} {μ:List (Option Nat)} {g:TG} {tt:TT} {te:TE} {Q:VK}
theorem yG{RR:Value->Addr->Result->Shared->Prop}(I2:Inv X pins Z H2 s2)(T:Turn X.prog X.w X.K tg J fp it tn)(st2:tn 0 s2.heap)(f2:∀b∈fp,eZ X pins H2 b)(hc:X.calm=true)
  (hcell:∀y∈scope.names,y.2 ≠ .cell) (hkind:scope.kind=.function) (hfr:∀y∈scope.names,y.2=.free->∃c,X.env.cells.lookup y.1=some c)
  (hhas:∀x,((relabel scope X.env).names.lookup x=some .cell\/(relabel scope X.env).names.lookup x=some .free)->(x,NameKind.free)∈scope.names)
  (hμ:mR X.N X.env.scope N (relabel scope X.env) μ=true)
  (hg:∀C s H,PG (bO X N scope (clos X.env.cells scope.names []) C fp s H) tg g) (ht:∀C s H,PTs (bO X N scope (clos X.env.cells scope.names []) C fp s H) ifs tt) (he:∀C s H,PE (bO X N scope (clos X.env.cells scope.names []) C fp s H) elt te)
  (hW:Ls μ g tt te Z Q J H2)
  (hRR:∀p C s' H' m,Inv X pins Z H' s'->s'.heap.Ns C m->eZ X pins H' C->Q (.ref p) H'->RR (.ref p) C (.ok .next) s') :
  wpAny (model X.prog X.w) X.A (newList []) (fun acc s₃=>wpAny (model X.prog X.w) X.A (newFunctionEnv scope X.env.globals (clos X.env.cells scope.names []) [] X.env.qual none .none (some X.env)) (fun cenv s₄ =>
   codeAny (model X.prog X.w) X.A (.compStart (.ListComp elt [⟨tg,iter,ifs,0⟩] scope pos) 0 (.ref it) acc { cenv with scope:=relabel scope X.env }) (RR acc cenv.locals) s₄) X.xe s₃) X.xe s2:=by
 refine wpAny_newObj_type (wpAny_newFunctionEnv hcell (by intro y hy;simp at hy) (fun h₁ hns₁ hsb₁=>?_) hkind)
 dsimp only at hns₁ hsb₁ ⊢
 generalize hH2:s2.heap.push { cls:=.type "list",dict:=none,data:=.seq ([]:List Value).toArray }=G at hns₁ hsb₁ ⊢
 have hC:G.objs.size=s2.heap.objs.size+1:=by rw[<-hH2,Heap.size_push]
 have hDC:s2.heap.objs.size≠G.objs.size:=by rw[hC];exact Nat.ne_of_lt (Nat.lt_succ_self _)
 have hCle:s2.heap.objs.size<=G.objs.size:=by rw[hC];exact Nat.le_succ _
 have below:∀b,b<s2.heap.objs.size->b≠G.objs.size/\b≠s2.heap.objs.size:=fun b hb=>⟨by rw[hC];exact Nat.ne_of_lt (Nat.lt_succ_of_lt hb),Nat.ne_of_lt hb⟩
 have old:∀b o,s2.heap.get? b=some o->h₁.get? b=some o:=fun b o e=>hsb₁.extBut b o (below b (Heap.lt_size e)).1 (Heap.get?_push_of_some _ (hH2 ▸ Heap.get?_push_of_some _ e))
 have hobj:h₁.get? s2.heap.objs.size=some { cls:=.type "list",dict:=none,data:=.seq ([]:List Value).toArray }:=hsb₁.extBut _ _ hDC (Heap.get?_push_of_some _ (hH2 ▸ Heap.get?_push_size _ rfl))
 have hclin:∀x c,(clos X.env.cells scope.names []).lookup x=some c->X.env.cells.lookup x=some c:=fun x c h=>Dr hfr (fun _ _ z=>by simp at z) h
 have cellt:∀x c,(clos X.env.cells scope.names []).lookup x=some c->c<s2.heap.objs.size:=fun x c h=>by
  obtain⟨v,o,ho,_⟩:=I2.cell x c (hclin x c h)
  exact Heap.lt_size ho
 have fplt:∀b∈fp,b<s2.heap.objs.size:=fun b hb=>by
  obtain⟨o,ho,_⟩:=T.obj 0 _ st2 b hb
  exact Heap.lt_size ho
 have Hn:∀a,s2.heap.objs.size<=a->H2 a=none:=fun a ha=>I2.hok.fresh ha
 obtain⟨W,⟨m0,w0⟩,turn⟩:=hW s2.heap.objs.size (Hn _ (Nat.le_refl _))
 have okc:(bO X N scope (clos X.env.cells scope.names []) G.objs.size fp s2 H2).Ok:=by
  refine⟨I2.ok.mod,by show(relabel scope X.env).kind=_;exact hkind,I2.ok.glob,I2.ok.blt,hCle,fun x y c h1 h2=>?_,fun x hx=>?_,fun _ _ z=>(by cases z),I2.ok.hd,I2.ok.frames,.inl rfl,fun b hb=>⟨?_,fun x c h z=>?_⟩,I2.bs,Nat.le_trans I2.ok.bsz I2.sz,fun b o e hb=>?_,fun b hb z=>?_,I2.stack,I2.stkFree⟩
  ·exact I2.ok.inj x y c (hclin x c h1) (hclin y c h2)
  ·exact uJ (hhas x hx)
  ·exact(below b (fplt b hb)).1
  ·exact(f2 b hb).2.2.2.2.1 x c (hclin x c h) z
  ·rcases (f2 b hb).2.2.2.1 with z |z
   ·exact I2.ok.noex b o e z
   ·exact absurd (Nat.lt_of_lt_of_le (Heap.lt_size e) (Nat.le_trans I2.ok.bsz z)) (Nat.lt_irrefl _)
  ·rcases List.mem_cons.mp (I2.stkSub b z) with e |e
   ·exact(f2 b hb).2.1 e
   ·exact(f2 b hb).2.2.1 e
 have Hfree:∀b,b≠s2.heap.objs.size->H2 b=none->(upd H2 s2.heap.objs.size (.lst [])) b=none:=fun b h1 h2=>by rw[aD h1];exact h2
 have I3:Inv (bO X N scope (clos X.env.cells scope.names []) G.objs.size fp s2 H2) [] (inner μ Z) (upd H2 s2.heap.objs.size (.lst [])) { s2 with heap:=h₁,toks:=s2.toks+([]:List (Str×Value)).length }:=by
  refine⟨okc,rfl,I2.bare,Un.laid old (Nat.le_refl _) (Hn _ (Nat.le_refl _)),⟨_,hns₁,fun i x v e1 e2 e3=>?_⟩,fun x c h=>?_,Hfree _ hDC.symm (Hn _ hCle),fun x c h=>(I2.freeC x c (hclin x c h)).elim (fun z=>.inl (Hfree _ (below c (cellt x c h)).2 z)) (fun⟨_,o1,b1,z⟩=>.inr ⟨rfl,o1,b1,by rw[aD (below c (cellt x c h)).2];exact z⟩),fun p hp=>absurd (show p∈([]:List (Addr×Obj)) from hp) (by simp),I2.hok.laid old (Nat.le_refl _) ⟨by decide,[],0,.nil,hobj⟩,?_⟩
  ·have e1':N[i]? = some x:=e1
   have e2':(μ.map fun o=>o.bind fun j=>(Z[j]?).join)[i]? = some (some v):=e2
   rw[List.getElem?_map] at e2'
   cases q:μ[i]? with
   | none=>rw[q] at e2';cases e2'
   | some o =>
    rw[q] at e2'
    cases o with
    | none=>cases e2'
    | some j =>
     have e4:(Z[j]?).join=some v:=Option.some.inj e2'
     have e5:Z[j]? = some (some v):=by
      cases z:Z[j]? with
      | none=>rw[z] at e4;cases e4
      | some y=>rw[z] at e4;cases y with
       | none=>cases e4
       | some y=>rw[show y=v from Option.some.inj e4]
     obtain⟨a1,a2,a3⟩:=mR.get hμ q e1'
     obtain⟨m,hn,hl⟩:=I2.loc
     obtain⟨u,r,l⟩:=hl j x v a1 e5 (.inr (.inl a2))
     refine⟨u,r,?_⟩
     rcases l with⟨k,_⟩ |⟨_,c,hcc,hce⟩
     ·exact absurd ((show X.env.scope.names.lookup x=some .local from k).symm.trans a2) (by intro z;cases z)
     ·obtain⟨c',hc'⟩:∃c,(clos X.env.cells scope.names []).lookup x=some c:=uJ (hhas x a3)
      have ec:c'=c:=Option.some.inj ((hclin x c' hc').symm.trans hcc)
      subst ec
      exact .inr ⟨a3,c',hc',hce.keeps old⟩
  ·obtain⟨v,z⟩:=I2.cell x c (hclin x c h)
   exact⟨v,z.keeps old⟩
  ·show(μ.map _).length=N.length
   rw[List.length_map]
   have q:=hμ
   unfold mR at q
   rw[Bool.and_eq_true] at q
   exact of_decide_eq_true q.1
 have fin:∀{Z':St} {H':Hp} {s':Shared},Inv (bO X N scope (clos X.env.cells scope.names []) G.objs.size fp s2 H2) [] Z' H' s'->Q (.ref s2.heap.objs.size) H'->RR (.ref s2.heap.objs.size) G.objs.size (.ok .next) s':=fun {Z' H' s'} I4 q=>by
  have I5:Inv X pins Z H' s':=I2.call' (ch:=fp) I4.os I4.base I4.hok I4.bare fun b hb=>⟨(f2 b hb).2.2.2.1,(f2 b hb).2.1,(f2 b hb).2.2.2.2.1,(f2 b hb).2.2.2.2.2⟩
  obtain⟨m,hn,_⟩:=I4.loc
  have hn':s'.heap.Ns G.objs.size m:=hn
  refine hRR _ _ s' H' m I5 hn' ⟨I4.free,Nat.ne_of_gt (Nat.lt_of_lt_of_le I2.lt hCle),I2.nofs hCle,.inr (Nat.le_trans I2.sz hCle),fun x c h z=>?_,fun p hp z=>?_⟩ q
  ·obtain⟨v,o,ho,_⟩:=I2.cell x c h
   exact(below c (Heap.lt_size ho)).1 z
  ·exact(below p.1 (Heap.lt_size (I2.pin p hp).1)).1 z
 have stat:∀{H':Hp},(∀b∈fp,H' b=none)->∀b∈fp,eZ (bO X N scope (clos X.env.cells scope.names []) G.objs.size fp s2 H2) [] H' b:=fun {H'} hn b hb=>by
  refine⟨hn b hb,(below b (fplt b hb)).1,fun z=>?_,.inl hb,fun x c h z=>(f2 b hb).2.2.2.2.1 x c (hclin x c h) z,fun p hp=>absurd (show p∈([]:List (Addr×Obj)) from hp) (by simp)⟩
  exact okc.exfs b hb z
 have loop:codeAny (model X.prog X.w) X.A (.compLoop (.ListComp elt [⟨tg,iter,ifs,0⟩] scope pos) 0 (.ref it) (.ref s2.heap.objs.size) (compEnvC scope (clos X.env.cells scope.names []) G.objs.size X.env))
   (RR (.ref s2.heap.objs.size) G.objs.size) { s2 with heap:=h₁,toks:=s2.toks+([]:List (Str×Value)).length }:=by
  refine CN (fun n s'=>∃i Z' H',Inv (bO X N scope (clos X.env.cells scope.names []) G.objs.size fp s2 H2) [] Z' H' s'/\tn i s'.heap/\(∀b∈fp,H' b=none)/\W i n Z' H') ?_ m0
   ⟨0,inner μ Z,_,I3,T.keep _ _ _ st2 (fun b hb o e=>old b o e),fun b hb=>Hfree b (below b (fplt b hb)).2 (f2 b hb).1,w0⟩
  rintro n s3 ⟨i,Z3,H3,I3,st3,fr3,w3⟩
  rcases turn i n Z3 H3 w3 with⟨stop,qn⟩ |⟨go,Nn,hN,step⟩
  ·refine thn (T.done (bO X N scope (clos X.env.cells scope.names []) G.objs.size fp s2 H2) rfl rfl rfl hc i [] s3 Z3 H3 _ I3 (stat fr3) st3 stop) fun r s4 ⟨hr,I4⟩=>?_
   subst hr
   exact fin I4 qn
  ·refine thn (T.item (bO X N scope (clos X.env.cells scope.names []) G.objs.size fp s2 H2) rfl rfl rfl hc i [] s3 Z3 H3 _ I3 (stat fr3) st3 go) fun r s4 ⟨u,hr,h4⟩=>?_
   subst hr
   refine thn h4 fun _ s5 hw'=>?_
   obtain⟨x,H5,I5,r5,y5,st5,fr5⟩:=hw'
   have I5':=I5.pinned (stat fr5) (T.obj _ _ st5)
   have again:∀{Z7:St} {H7:Hp} {s7:Shared},Inv (bO X N scope (clos X.env.cells scope.names []) G.objs.size fp s2 H2) ([]++rJ fp s5.heap) Z7 H7 s7->Nn Z7 H7 ->
     ∃m,m<n/\∃i Z' H',Inv (bO X N scope (clos X.env.cells scope.names []) G.objs.size fp s2 H2) [] Z' H' s7/\tn i s7.heap/\(∀b∈fp,H' b=none)/\W i m Z' H':=fun {Z7 H7 s7} I7 n7=>by
    obtain⟨m',hm,w7⟩:=hN Z7 H7 n7
    refine⟨m',hm,i+1,Z7,H7,I7.unpinned,T.keep _ _ _ st5 fun b hb o e=>(I7.pin (b,o) (List.mem_append_right _ (List.mem_append_right _ (mX hb e)))).1,fun b hb=>?_,w7⟩
    obtain⟨o,e,d⟩:=T.obj _ _ st5 b hb
    exact(I7.pin (b,o) (List.mem_append_right _ (List.mem_append_right _ (mX hb e)))).2.1
   refine thn (hg G.objs.size s2 H2 _ s5 Z3 H5 x u _ I5' r5 (step x H5 y5)) fun _ s6 hw'=>?_
   obtain⟨Z6,H6,I6,q6⟩:=hw'
   refine thn (ht G.objs.size s2 H2 _ s6 Z6 H6 _ I6 q6) fun ok s7 ⟨H7,I7,q7⟩=>?_
   cases ok with
   | false =>
    rw[if_neg (by decide)] at q7 ⊢
    exact again I7 q7
   | true =>
    rw[if_pos rfl] at q7 ⊢
    refine thn (he G.objs.size s2 H2 _ s7 Z6 H7 _ I7 q7) fun u8 s8 hw'=>?_
    obtain⟨y,H8,I8,r8,ys,e8,l8,q8⟩:=hw'
    have ma:=rN (X:=bO X N scope (clos X.env.cells scope.names []) G.objs.size fp s2 H2) _ s8 Z6 H8 (.ref s2.heap.objs.size) [y] (.ref s2.heap.objs.size) [u8]
     (fun _ H9=>Nn Z6 H9) I8 rfl (.cons r8 .nil) ⟨_,ys,y,rfl,rfl,e8,l8,q8⟩
    exact thn ma fun _ s9 ⟨_,H9,I9,_,q9⟩=>again I9 q9
 exact codeAny_compStart_list loop (T.self _ 0 _ _ _ (T.keep _ _ _ st2 (fun b hb o e=>old b o e)) loop)
theorem Ds{wi:TI}(hc:X.calm=true)(hcell:∀y∈scope.names,y.2 ≠ .cell)(hkind:scope.kind=.function)(hnames:∀y∈scope.names,y.2=.local->scope.names.lookup y.1=some .local)
  (hfree:∀y∈scope.names,y.2=.free->X.env.kindOf y.1=some .cell\/X.env.kindOf y.1=some .free)
  (hhas:∀x,((relabel scope X.env).names.lookup x=some .cell\/(relabel scope X.env).names.lookup x=some .free)->(x,NameKind.free)∈scope.names)
  (hμ:mR X.N X.env.scope N (relabel scope X.env) μ=true) (hi:PI X tg iter wi)
  (hg:∀fp C s H,PG (bO X N scope (clos X.env.cells scope.names []) C fp s H) tg g) (ht:∀fp C s H,PTs (bO X N scope (clos X.env.cells scope.names []) C fp s H) ifs tt) (he:∀fp C s H,PE (bO X N scope (clos X.env.cells scope.names []) C fp s H) elt te)
  (hs:∀x,foldedSetIterable iter X.env x=pure x:=by intro _;rfl):PE X (.ListComp elt [⟨tg,iter,ifs,0⟩] scope pos) (vO μ wi g tt te):=by
 intro pins s Z H Q I h
 have hfr:∀y∈scope.names,y.2=.free->∃c,X.env.cells.lookup y.1=some c:=fun y hy hk=>I.ok.has y.1 (hfree y hy hk)
 rw[eval_ListComp]
 refine wpAny_comprehension_free (use:=none) rfl hs (vN hfr) hkind hnames (thn (hi pins s Z H _ I h) fun v s1 h1=>thn h1 fun itv s2 h2=>?_)
 obtain⟨it,fp,tn,J,H2,rfl,I2,T,st2,f2,W⟩:=h2
 refine yG (RR:=fun acc C=>compPost (model X.prog X.w) X.A X.xe none (EP X pins Z Q) acc C) I2 T st2 f2 hc hcell hkind hfr hhas hμ (hg fp) (ht fp) (he fp) W ?_
 intro p C s' H' m I' hn fc q
 exact⟨m,hn,fun h' hsb=>⟨.ref p,H',I'.turned (t':=s'.toks) (fun b o ne e=>(hsb.2 b ne).trans e) fc.1 (Ne.symm fc.2.1).symm fc.2.2.2.1 fc.2.2.2.2.1 fc.2.2.2.2.2,rfl,q⟩⟩
theorem Ng{wi:TI}{i:Nat}{y:Str}{py spos:Pos}(hN:X.N.Nodup)(hiN:X.N[i]? = some y)(hx:Loc X.env.scope y)(hc:X.calm=true)(hcell:∀y∈scope.names,y.2 ≠ .cell)(hkind:scope.kind=.function)(hnames:∀y∈scope.names,y.2=.local->scope.names.lookup y.1=some .local)
  (hfree:∀y∈scope.names,y.2=.free->X.env.kindOf y.1=some .cell\/X.env.kindOf y.1=some .free)
  (hhas:∀x,((relabel scope X.env).names.lookup x=some .cell\/(relabel scope X.env).names.lookup x=some .free)->(x,NameKind.free)∈scope.names)
  (hμ:mR X.N X.env.scope N (relabel scope X.env) μ=true) (hi:PI X tg iter wi)
  (hg:∀fp C s H,PG (bO X N scope (clos X.env.cells scope.names []) C fp s H) tg g) (ht:∀fp C s H,PTs (bO X N scope (clos X.env.cells scope.names []) C fp s H) ifs tt) (he:∀fp C s H,PE (bO X N scope (clos X.env.cells scope.names []) C fp s H) elt te)
  (hsw:swapsWith (.ListComp elt [⟨tg,iter,ifs,0⟩] scope pos) (some (.Name y py)) spos.line X.env=pure true:=by rfl)
  (hf:X.fn y=true\/X.env.scope.names.lookup y=some .local:=by first |exact .inl rfl |exact .inr rfl |assumption)
  (hs:∀x,foldedSetIterable iter X.env x=pure x:=by intro _;rfl):PS X (.Assign [.Name y py] (.ListComp elt [⟨tg,iter,ifs,0⟩] scope pos) spos) (zX (vO μ wi g tt te) (vD i)):=by
 intro pins s Z H D I h
 have hfr:∀y∈scope.names,y.2=.free->∃c,X.env.cells.lookup y.1=some c:=fun y hy hk=>I.ok.has y.1 (hfree y hy hk)
 rw[exec_Assign_Name_used _ _ _ _ hsw]
 refine wpAny_bind (wpAny_standAt (wpAny_bind ?_))
 show wpAny _ _ (do let _ <-comprehension (.ListComp elt [⟨tg,iter,ifs,0⟩] scope pos) scope X.env _ (newList []) false (eval iter X.env) (some (assign (.Name y py) X.env))) _ _ s
 refine wpAny_bind (wpAny_mono (wpAny_comprehension_free (use:=some (assign (.Name y py) X.env)) (Q:=fun _ s'=>SP X pins D .next s') rfl hs (vN hfr) hkind hnames
  (thn (hi pins s Z H _ I h) fun v s1 h1=>thn h1 fun itv s2 h2=>?_)) (fun _ s' hq=>wpAny_pure (wpAny_pure hq)) fun _ _ e=>e)
 obtain⟨it,fp,tn,J,H2,rfl,I2,T,st2,f2,W⟩:=h2
 refine yG (RR:=fun acc C=>compPost (model X.prog X.w) X.A X.xe (some (assign (.Name y py) X.env)) (fun _ s'=>SP X pins D .next s') acc C) I2 T st2 f2 hc hcell hkind hfr hhas hμ (hg fp) (ht fp) (he fp) W ?_
 intro p C s' H' m I' hn fc q
 show wpAny _ _ (assign (.Name y py) X.env (.ref p)) _ _ s'
 refine wpAny_assign_Name (rH (v:=.ref p) I' hN hiN hx rfl (fun s'' I'' hsm=>?_) hf)
 obtain⟨a,sb,ha⟩:=hsm
 have ne:C≠a:=by
  rcases ha with ha |ha
  ·rw[ha];exact fc.2.1
  ·exact(fc.2.2.2.2.1 y a ha).symm
 exact⟨m,hn.sameBut sb ne,fun h' hsb=>⟨_,H',I''.turned (t':=s''.toks) (fun b o ne e=>(hsb.2 b ne).trans e) fc.1 fc.2.1 fc.2.2.2.1 fc.2.2.2.2.1 fc.2.2.2.2.2,q⟩⟩
end
end L2
namespace DL
open PySem PySem.Spec PyProof.Rows L2
abbrev St:=L2.St
inductive D where
 | non |bl (b:Bool) |int (i:Int) |str (x:Str) |tup (xs:List D) |lst (xs:List D) |scr (ns:List Int) |obj (n:Nat)
mutual
def Is(K:PySem.W.Frag)(α:List Addr)(F:Hp):D->V->Prop
 | .non,v=>v=.non
 | .bl b,v=>v=.bl b
 | .int i,v=>v=.int i
 | .str x,v=>v=.str x
 | .tup xs,v=>∃a vs,v=.ref a/\F a=some (.tup vs)/\IsL K α F xs vs
 | .lst xs,v=>∃a vs,v=.ref a/\F a=some (.lst vs)/\IsL K α F xs vs
 | .scr ns,v=>∃a,v=.ref a/\SqL K F a (ns.map V.int)
 | .obj n,v=>∃a,α[n]? = some a/\v=.ref a
def IsL(K:PySem.W.Frag)(α:List Addr)(F:Hp):List D->List V->Prop
 | [],vs=>vs=[]
 | d::ds,vs=>∃v r,vs=v::r/\Is K α F d v/\IsL K α F ds r
end
section
variable {K:PySem.W.Frag} {α α':List Addr} {F F':Hp}
mutual
theorem Is.mono(ff:bK F F')(al:∃more,α'=α++more):∀(d:D) {v:V},Is K α F d v->Is K α' F' d v
 | .non,_,h=>by rw[Is] at h ⊢;exact h
 | .bl _,_,h=>by rw[Is] at h ⊢;exact h
 | .int _,_,h=>by rw[Is] at h ⊢;exact h
 | .str _,_,h=>by rw[Is] at h ⊢;exact h
 | .tup xs,_,h=>by
  rw[Is] at h ⊢
  obtain⟨a,vs,e,q,r⟩:=h
  exact⟨a,vs,e,ff _ _ q,IsL.mono ff al xs r⟩
 | .lst xs,_,h=>by
  rw[Is] at h ⊢
  obtain⟨a,vs,e,q,r⟩:=h
  exact⟨a,vs,e,ff _ _ q,IsL.mono ff al xs r⟩
 | .scr ns,_,h=>by
  rw[Is] at h ⊢
  obtain⟨a,e,q⟩:=h
  exact⟨a,e,ff.seq q⟩
 | .obj n,_,h=>by
  rw[Is] at h ⊢
  obtain⟨a,e,q⟩:=h
  obtain⟨more,rfl⟩:=al
  refine⟨a,?_,q⟩
  rw[List.getElem?_append_left (List.getElem?_eq_some_iff.mp e).1]
  exact e
theorem IsL.mono(ff:bK F F')(al:∃more,α'=α++more):∀(ds:List D) {vs:List V},IsL K α F ds vs->IsL K α' F' ds vs
 | [],_,h=>by rw[IsL] at h ⊢;exact h
 | d::ds,_,h=>by
  rw[IsL] at h ⊢
  obtain⟨v,r,e,h1,h2⟩:=h
  exact⟨v,r,e,Is.mono ff al d h1,IsL.mono ff al ds h2⟩
end
theorem IsL.nil:IsL K α F [] []:=by rw[IsL]
theorem IsL.cons{d:D}{v:V}{ds:List D}{vs:List V}(h:Is K α F d v)(r:IsL K α F ds vs):IsL K α F (d::ds) (v::vs):=by rw[IsL];exact⟨v,vs,rfl,h,r⟩
theorem IsL.of_nil{vs:List V}(h:IsL K α F [] vs):vs=[]:=by rw[IsL] at h;exact h
theorem IsL.of_cons{d:D}{ds:List D}{vs:List V}(h:IsL K α F (d::ds) vs):∃v r,vs=v::r/\Is K α F d v/\IsL K α F ds r:=by rw[IsL] at h;exact h
theorem IsL.length:∀{ds:List D} {vs:List V},IsL K α F ds vs->ds.length=vs.length
 | [],vs,h=>by rw[h.of_nil];rfl
 | d::ds,vs,h=>by
  obtain⟨v,r,rfl,_,t⟩:=h.of_cons
  rw[List.length_cons,List.length_cons,t.length]
theorem IsL.append:∀{ds es:List D} {vs us:List V},IsL K α F ds vs->IsL K α F es us->IsL K α F (ds++es) (vs++us)
 | [],_,_,_,h,q=>by rw[h.of_nil];exact q
 | d::ds,es,vs,us,h,q=>by
  obtain⟨v,r,rfl,h1,t⟩:=h.of_cons
  exact .cons h1 (t.append q)
theorem IsL.get:∀{ds:List D} {vs:List V} {i:Nat} {d:D},IsL K α F ds vs->ds[i]? = some d->∃v,vs[i]? = some v/\Is K α F d v
 | [],_,_,_,_,e=>by simp at e
 | d::ds,vs,0,x,h,e=>by
  obtain⟨v,r,rfl,h1,t⟩:=h.of_cons
  rw[List.getElem?_cons_zero] at e
  cases e
  exact⟨v,rfl,h1⟩
 | d::ds,vs,i+1,x,h,e=>by
  obtain⟨v,r,rfl,h1,t⟩:=h.of_cons
  rw[List.getElem?_cons_succ] at e
  obtain⟨u,e1,q⟩:=t.get e
  exact⟨u,by rw[List.getElem?_cons_succ];exact e1,q⟩
theorem IsL.rep{ds:List D}{vs:List V}(h:IsL K α F ds vs):∀n:Nat,IsL K α F (List.replicate n ds).flatten (List.replicate n vs).flatten
 | 0=>.nil
 | n+1=>by
  rw[List.replicate_succ,List.replicate_succ,List.flatten_cons,List.flatten_cons]
  exact h.append (h.rep n)
theorem IsL.ints:∀(ns:List Int),IsL K α F (ns.map D.int) (ns.map V.int)
 | []=>.nil
 | n::ns=>.cons (by rw[Is]) (IsL.ints ns)
end
structure E4 where
 α:List Addr
 F:Hp
 A:Addr->Prop
 H:Hp
structure Ext(e e':E4):Prop where
 fz:∀b o u,e.H b=some (.frz o u)->e'.H b=some (.frz o u)
 hk:∀b o,e.H b=some o->¬e.A b->e'.H b=some o
 dm:∀b o,e.H b=some o->∃o',e'.H b=some o'
 ff:bK e.F e'.F
 fn:∀b o,e'.F b=some o->e.F b=some o\/e.H b=none\/((∃xs,o=.tup xs)/\e.H b=some o/\¬e.A b)
 an:∀b,e'.A b->e.A b\/e.H b=none
 aa:∀b,e.A b->e'.A b
 al:∃more,e'.α=e.α++more
theorem Ext.refl(e:E4):Ext e e:=⟨fun _ _ _ h=>h,fun _ _ h _=>h,fun _ o h=>⟨o,h⟩,bK.refl _,fun _ _ h=>.inl h,fun _ h=>.inl h,fun _ h=>h,[],by simp⟩
theorem Ext.back{e e':E4}(x:Ext e e'){b:Addr}(h:e'.H b=none):e.H b=none:=by
 cases q:e.H b with
 | none=>rfl
 | some o=>obtain⟨o',z⟩:=x.dm b o q;rw[h] at z;cases z
theorem Ext.trans{a b c:E4}(x:Ext a b)(y:Ext b c):Ext a c:=by
 refine⟨fun p o u h=>y.fz p o u (x.fz p o u h),fun p o h hn=>y.hk p o (x.hk p o h hn) fun z=>?_,fun p o h=>?_,x.ff.trans y.ff,fun p o h=>?_,fun p h=>?_,fun p h=>y.aa p (x.aa p h),?_⟩
 ·rcases x.an p z with q |q
  ·exact hn q
  ·rw[q] at h;cases h
 ·obtain⟨o',h'⟩:=x.dm p o h
  exact y.dm p o' h'
 ·rcases y.fn p o h with q |q |⟨q1,q2,q3⟩
  ·exact x.fn p o q
  ·exact .inr (.inl (x.back q))
  ·have n:¬a.A p:=fun z=>q3 (x.aa p z)
   cases z:a.H p with
   | none=>exact .inr (.inl rfl)
   | some o' =>
    have z':=x.hk p o' z n
    rw[q2] at z'
    cases z'
    exact .inr (.inr ⟨q1,rfl,n⟩)
 ·rcases y.an p h with q |q
  ·exact x.an p q
  ·exact .inr (x.back q)
 ·obtain⟨m,e1⟩:=x.al
  obtain⟨n,e2⟩:=y.al
  exact⟨m++n,by rw[e2,e1,List.append_assoc]⟩
theorem Ext.keepOwn{e e':E4}(x:Ext e e'){a:Addr}{vs:List V}(h:e.H a=some (.lst vs))(hF:e.F a=none)(hA:¬e.A a):e'.H a=some (.lst vs)/\e'.F a=none/\¬e'.A a:=by
 refine⟨x.hk a _ h hA,?_,fun z=>?_⟩
 ·cases z:e'.F a with
  | none=>rfl
  | some o =>
   rcases x.fn a o z with y |y |⟨⟨xs,rfl⟩,y,_⟩
   ·rw[hF] at y;cases y
   ·rw[h] at y;cases y
   ·rw[h] at y;cases y
 ·rcases x.an a z with y |y
  ·exact hA y
  ·rw[h] at y;cases y
inductive OS where
 | mls (xs:List D) |dead |exc (c:Str) |ins (c:Str) (fs:List (Str×D)) |fzK (kvs:List (Key×D)) |dK (kvs:List (Key×D)) |dT (kvs:List (List Key×D)) |fzT (kvs:List (List Key×D))
 | tab (l:Str) (pos:Pos) (q:Str) |clo (l q x:Str) (m:Nat)
def cz(K:PySem.W.Frag)(α:List Addr)(F:Hp){κ:Type}:List (κ×D)->List (κ×V)->Prop
 | [],vs=>vs=[]
 | p::r,vs=>∃v t,vs=(p.1,v)::t/\Is K α F p.2 v/\cz K α F r t
theorem cz.mono{K:PySem.W.Frag}{α α':List Addr}{F F':Hp}{κ:Type}(ff:bK F F')(al:∃more,α'=α++more):∀{ps:List (κ×D)} {vs:List (κ×V)},cz K α F ps vs->cz K α' F' ps vs
 | [],_,h=>h
 | p::r,_,⟨v,t,e,i,q⟩=>⟨v,t,e,Is.mono ff al _ i,cz.mono ff al q⟩
abbrev Cl:=Str->Option Addr
def isDef:Stmt->Bool
 | .FunctionDef .. => true
 | _=>false
def Q_(K:PySem.W.Frag)(x:Str):Option Stmt:=match PySem.W.nsIn K mainGlobals x with
 | some (some (.ref f))=>(match K.lookup f with
  | some ⟨_,_,.func fd,_⟩=>(match fd.body with
   | .stmts b=>b.find? isDef
   | _=>none)
  | _=>none)
 | _=>none
def uK(K:PySem.W.Frag)(C:Cl)(e:E4)(a:Addr):OS->Prop
 | .mls xs=>∃vs,e.H a=some (.lst vs)/\IsL K e.α e.F xs vs
 | .dead=>True
 | .exc c=>∃Ca ob u,C c=some Ca/\e.H a=some (.frz ob u)/\ob.cls=.ref Ca
 | .ins c fs=>∃Ca dx fvs,C c=some Ca/\e.H a=some (.ins Ca dx fvs)/\cz K e.α e.F fs fvs
 | .fzK kvs=>∃vs o,e.H a=some (.frz o (.dK vs))/\cz K e.α e.F kvs vs
 | .dK kvs=>∃vs,e.H a=some (.dK vs)/\cz K e.α e.F kvs vs
 | .dT kvs=>∃vs,e.H a=some (.dT vs)/\cz K e.α e.F kvs vs
 | .fzT kvs=>∃vs o,e.H a=some (.frz o (.dT vs))/\cz K e.α e.F kvs vs
 | .tab l pos q=>∃cd,PySem.W.tabIn K l=some (cd,a)/\(e.H a=some (.tbl #[])\/∃c' ob,e.H a=some (.tbl #[rawInt pos.line,rawInt pos.col,.ref c'])/\e.F c'=some (.frz ob (.own 0))/\∃vs t,ob.data=.fields vs/\vs[1]? = some (.str q t))
 | .clo l q x m=>∃st c am c' nm doc pm ctv cob ob,Q_ K l=some st/\e.H a=some (.frz { cls:=.type "function",data:=.func (PySem.W.fnX nm q (aY st) (aW st) (au st) [(x,c)] .none .none doc pm none (.ref c') ctv) } (.own 0)) /\
   e.F c=some (.frz cob (.own a))/\cob.data=.cell (some (.ref am))/\e.α[m]? = some am/\e.F c'=some (.frz ob (.own 0))/\∃vs t,ob.data=.fields vs/\vs[1]? = some (.str q t)
structure Wf(K:PySem.W.Frag)(C:Cl)(e:E4)(U:List OS):Prop where
 fh:bK e.F e.H
 fa:∀b,e.A b->e.F b=none
 ah:∀b,e.A b->e.H b≠none/\∀xs,e.H b≠some (.tup xs)
 ol:e.α.length=U.length
 nd:e.α.Nodup
 ob:∀(n:Nat) (a:Addr) (o:OS),e.α[n]? = some a->U[n]? = some o->e.A a/\uK K C e a o
section
variable {K:PySem.W.Frag} {C:Cl} {e e':E4} {U U':List OS}
theorem Is.ext(x:Ext e e'){d:D}{v:V}(h:Is K e.α e.F d v):Is K e'.α e'.F d v:=Is.mono x.ff x.al d h
theorem IsL.ext(x:Ext e e'){d:List D}{v:List V}(h:IsL K e.α e.F d v):IsL K e'.α e'.F d v:=IsL.mono x.ff x.al d h
def E4.new(e:E4)(p:Addr)(o:HO):E4:=⟨e.α,upd e.F p o,e.A,upd e.H p o⟩
theorem Wf.nF(w:Wf K C e U){p:Addr}(hp:e.H p=none):e.F p=none:=by
 cases q:e.F p with
 | none=>rfl
 | some o=>rw[w.fh p o q] at hp;cases hp
theorem Wf.new_ext(w:Wf K C e U){p:Addr}{o:HO}(hp:e.H p=none):Ext e (e.new p o):=by
 refine⟨fun b o' u h=>?_,fun b u h _=>?_,fun b u h=>⟨u,?_⟩,fun b u h=>?_,fun b u h=>?_,fun b h=>.inl h,fun b h=>h,[],by simp[E4.new]⟩
 ·show upd e.H p o b=some (.frz o' u);rw[aD (aP h hp)];exact h
 ·show upd e.H p o b=some u;rw[aD (aP h hp)];exact h
 ·show upd e.H p o b=some u;rw[aD (aP h hp)];exact h
 ·show upd e.F p o b=some u;rw[aD (aP h (w.nF hp))];exact h
 ·have h:upd e.F p o b=some u:=h
  by_cases hb:b=p
  ·subst hb;exact .inr (.inl hp)
  ·rw[aD hb] at h;exact .inl h
theorem uK.keep{a:Addr}{o:OS}(h:uK K C e a o)(hH:∀u,e.H a=some u->e'.H a=some u)(ff:bK e.F e'.F)(al:∃more,e'.α=e.α++more):uK K C e' a o:=by
 cases o with
 | mls xs=>obtain⟨vs,h1,h2⟩:=h;exact⟨vs,hH _ h1,IsL.mono ff al xs h2⟩
 | dead=>trivial
 | exc c=>obtain⟨Ca,ob,u,h1,h2,h3⟩:=h;exact⟨Ca,ob,u,h1,hH _ h2,h3⟩
 | ins c fs=>obtain⟨Ca,dx,fvs,h1,h2,h3⟩:=h;exact⟨Ca,dx,fvs,h1,hH _ h2,h3.mono ff al⟩
 | fzK kvs=>obtain⟨vs,ob,h1,h2⟩:=h;exact⟨vs,ob,hH _ h1,h2.mono ff al⟩
 | dK kvs=>obtain⟨vs,h1,h2⟩:=h;exact⟨vs,hH _ h1,h2.mono ff al⟩
 | dT kvs=>obtain⟨vs,h1,h2⟩:=h;exact⟨vs,hH _ h1,h2.mono ff al⟩
 | fzT kvs=>obtain⟨vs,ob,h1,h2⟩:=h;exact⟨vs,ob,hH _ h1,h2.mono ff al⟩
 | tab l pos q =>
  obtain⟨cd,h0,h1 |⟨c',ob,h1,h2,h3⟩⟩:=h
  ·exact⟨cd,h0,.inl (hH _ h1)⟩
  ·exact⟨cd,h0,.inr ⟨c',ob,hH _ h1,ff _ _ h2,h3⟩⟩
 | clo l q x m =>
  obtain⟨st,c,am,c',nm,doc,pm,ctv,cob,ob,h0,h1,h2,h3,h4,h5,h6⟩:=h
  refine⟨st,c,am,c',nm,doc,pm,ctv,cob,ob,h0,hH _ h1,ff _ _ h2,h3,?_,ff _ _ h5,h6⟩
  obtain⟨more,z⟩:=al
  rw[z,List.getElem?_append_left (List.getElem?_eq_some_iff.mp h4).1]
  exact h4
theorem Wf.new(w:Wf K C e U){p:Addr}{o:HO}(hp:e.H p=none):Wf K C (e.new p o) U:=by
 have x:Ext e (e.new p o):=w.new_ext hp
 have ne:∀b,e.A b->b≠p:=fun b h z=>by subst z;exact(w.ah b h).1 hp
 refine⟨fun b u h=>?_,fun b h=>?_,fun b h=>?_,w.ol,w.nd,fun n a u h1 h2=>⟨(w.ob n a u h1 h2).1,(w.ob n a u h1 h2).2.keep (fun v hv=>?_) x.ff x.al⟩⟩
 ·have h:upd e.F p o b=some u:=h
  show upd e.H p o b=some u
  by_cases hb:b=p
  ·subst hb;rw[aM] at h ⊢;exact h
  ·rw[aD hb] at h ⊢;exact w.fh b u h
 ·show upd e.F p o b=none
  rw[aD (ne b h)];exact w.fa b h
 ·show upd e.H p o b≠none/\∀xs,upd e.H p o b≠some (.tup xs)
  rw[aD (ne b h)];exact w.ah b h
 ·show upd e.H p o a=some v
  rw[aD (ne a (w.ob n a u h1 h2).1)];exact hv
end
inductive Sl where
 | und |dat (d:D) |own (xs:List D)
structure RelE(K:PySem.W.Frag)(e:E4)(Z:St)(Y:List Sl):Prop where
 len:Z.length=Y.length
 dat:∀(i:Nat) (d:D),Y[i]? = some (.dat d)->∃v,Z[i]? = some (some v)/\Is K e.α e.F d v
 own:∀(i:Nat) (ds:List D),Y[i]? = some (.own ds)->∃a vs,Z[i]? = some (some (.ref a))/\e.H a=some (.lst vs)/\IsL K e.α e.F ds vs/\e.F a=none/\¬e.A a
 sep:∀(i j:Nat) (ds es:List D) (a:Addr),Y[i]? = some (.own ds)->Y[j]? = some (.own es)->Z[i]? = some (some (.ref a))->Z[j]? = some (some (.ref a))->i=j
section
variable {K:PySem.W.Frag} {C:Cl} {e e' e₀:E4} {U U':List OS} {Z:St} {Y:List Sl}
theorem RelE.ext(r:RelE K e Z Y)(x:Ext e e'):RelE K e' Z Y:=by
 refine⟨r.len,fun i d h=>?_,fun i ds h=>?_,r.sep⟩
 ·obtain⟨v,e1,q⟩:=r.dat i d h
  exact⟨v,e1,q.ext x⟩
 ·obtain⟨a,vs,e1,e2,q,n1,n2⟩:=r.own i ds h
  obtain⟨z1,z2,z3⟩:=x.keepOwn e2 n1 n2
  exact⟨a,vs,e1,z1,q.ext x,z2,z3⟩
theorem RelE.set(r:RelE K e Z Y)(i:Nat){d:D}{v:V}(h:Is K e.α e.F d v):RelE K e (Z.set i (some v)) (Y.set i (.dat d)):=by
 refine⟨by simp[r.len],fun j d' hj=>?_,fun j ds hj=>?_,fun j k ds es a hj hk h1 h2=>?_⟩
 ·by_cases e1:i=j
  ·subst e1
   have hl:i<Y.length:=by
    have:=(List.getElem?_eq_some_iff.mp hj).1
    simpa using this
   rw[List.getElem?_set_self hl] at hj
   cases hj
   exact⟨v,List.getElem?_set_self (by rw[r.len];exact hl),h⟩
  ·rw[List.getElem?_set_ne e1] at hj ⊢
   exact r.dat j d' hj
 ·by_cases e1:i=j
  ·subst e1
   have hl:i<Y.length:=by
    have:=(List.getElem?_eq_some_iff.mp hj).1
    simpa using this
   rw[List.getElem?_set_self hl] at hj
   cases hj
  ·rw[List.getElem?_set_ne e1] at hj ⊢
   exact r.own j ds hj
 ·have ne:∀(j:Nat) (ds:List D),(Y.set i (.dat d))[j]? = some (.own ds)->i≠j:=fun j ds hj e1=>by
   subst e1
   have hl:i<Y.length:=by
    have:=(List.getElem?_eq_some_iff.mp hj).1
    simpa using this
   rw[List.getElem?_set_self hl] at hj
   cases hj
  have n1:=ne j ds hj
  have n2:=ne k es hk
  rw[List.getElem?_set_ne n1] at hj h1
  rw[List.getElem?_set_ne n2] at hk h2
  exact r.sep j k ds es a hj hk h1 h2
end
abbrev Den:=List Sl->List OS->Option (D×List OS)
abbrev cB:=List Sl->List OS->Option (Bool×List OS)
abbrev bB:=List Sl->List OS->Option (List D×List OS)
def tD(K:PySem.W.Frag)(C:Cl)(g:Den):TE:=fun Z H Q=>∃e U Y d U',e.H=H/\Wf K C e U/\RelE K e Z Y/\g Y U=some (d,U')/\∀v e',Ext e e'->Wf K C e' U'->Is K e'.α e'.F d v->Q v e'.H
def tDT(K:PySem.W.Frag)(C:Cl)(g:cB):TT:=fun Z H Q=>∃e U Y b U',e.H=H/\Wf K C e U/\RelE K e Z Y/\g Y U=some (b,U')/\∀e',Ext e e'->Wf K C e' U'->Q b e'.H
def tDA(K:PySem.W.Frag)(C:Cl)(g:bB):TA:=fun Z H Q=>∃e U Y ds U',e.H=H/\Wf K C e U/\RelE K e Z Y/\g Y U=some (ds,U')/\∀vs e',Ext e e'->Wf K C e' U'->IsL K e'.α e'.F ds vs->Q vs e'.H
def PD(X:Cx)(C:Cl)(x:Expr)(g:Den):Prop:=PE X x (tD X.K C g)
def PDT(X:Cx)(C:Cl)(x:Expr)(g:cB):Prop:=PT X x (tDT X.K C g)
def PDW(X:Cx)(C:Cl)(x:Expr)(g:cB):Prop:=PW X x (tDT X.K C g)
def PDA(X:Cx)(C:Cl)(xs:List Expr)(g:bB):Prop:=PA X xs (tDA X.K C g)
section
variable {X:Cx} {C:Cl} {x:Expr}
theorem bx{t t':TE}(h:PE X x t)(i:∀Z H Q,t' Z H Q->t Z H Q):PE X x t':=fun pins s Z H Q I hw=>h pins s Z H Q I (i Z H Q hw)
theorem pN{t t':TT}(h:PT X x t)(i:∀Z H Q,t' Z H Q->t Z H Q):PT X x t':=fun pins s Z H Q I hw=>h pins s Z H Q I (i Z H Q hw)
theorem Hd{t t':TT}(h:PW X x t)(i:∀Z H Q,t' Z H Q->t Z H Q):PW X x t':=fun whole pins s Z H Q I hw=>h whole pins s Z H Q I (i Z H Q hw)
theorem Hf{xs:List Expr}{t t':TA}(h:PA X xs t)(i:∀Z H Q,t' Z H Q->t Z H Q):PA X xs t':=fun pos pins s Z H Q I hw=>h pos pins s Z H Q I (i Z H Q hw)
theorem cQ{st:Stmt}{t t':TS}(h:PS X st t)(i:∀D Z H,t' D Z H->t D Z H):PS X st t':=fun pins s Z H D I hw=>h pins s Z H D I (i D Z H hw)
theorem pO{st:List Stmt}{t t':TS}(h:PSs X st t)(i:∀D Z H,t' D Z H->t D Z H):PSs X st t':=fun pins s Z H D I hw=>h pins s Z H D I (i D Z H hw)
def aj(i:Nat):Den:=fun Y U=>match Y[i]? with |some (.dat d)=>some (d,U) |_=>none
theorem ak{i:Nat}(h:PE X x (xu i)):PD X C x (aj i):=bx h fun Z H Q hw'=>by
 obtain⟨e,U,Y,d,U',eH,w,r,g,k⟩:=hw'
 subst eH
 unfold aj at g
 cases q:Y[i]? with
 | none=>rw[q] at g;cases g
 | some s =>
  rw[q] at g
  cases s with
  | dat d' =>
   cases g
   obtain⟨v,e1,i1⟩:=r.dat _ _ q
   exact⟨v,e1,k v e (Ext.refl e) w i1⟩
  | und=>cases g
  | own _=>cases g
def gC(d:D):Den:=fun _ U=>some (d,U)
theorem Fj{v:V}{d:D}(h:PE X x (tC v))(hd:∀α F,Is X.K α F d v):PD X C x (gC d):=bx h fun Z H Q hw'=>by
 obtain⟨e,U,Y,d',U',eH,w,r,g,k⟩:=hw'
 subst eH
 cases g
 exact k v e (Ext.refl e) w (hd _ _)
theorem az{i:Int}{j pos}:PD X C (.Constant (.int i) j pos) (gC (.int i)):=Fj Qe fun _ _=>by rw[Is]
theorem eQ{b:Bool}{j pos}:PD X C (.Constant (.bool b) j pos) (gC (.bl b)):=Fj RX fun _ _=>by rw[Is]
theorem dz{j pos}:PD X C (.Constant .none j pos) (gC .non):=Fj Gs fun _ _=>by rw[Is]
theorem bN{z:Str}{j pos}:PD X C (.Constant (.str z) j pos) (gC (.str z)):=Fj zV fun _ _=>by rw[Is]
end
def OpD(X:Cx)(C:Cl)(f:Value->Value->Sem Value)(r:D->D->Option D):Prop :=
 OpR X f fun x y H Q=>∃e U d₁ d₂ z,e.H=H/\Wf X.K C e U/\Is X.K e.α e.F d₁ x/\Is X.K e.α e.F d₂ y/\r d₁ d₂=some z/\∀v e',Ext e e'->Wf X.K C e' U->Is X.K e'.α e'.F z v->Q v e'.H
def gOp(r:D->D->Option D)(f g:Den):Den:=fun Y U=>match f Y U with
 | some (x,U₁)=>match g Y U₁ with
  | some (y,U₂)=>match r x y with
   | some z=>some (z,U₂)
   | none=>none
  | none=>none
 | none=>none
section
variable {X:Cx} {C:Cl} {a b:Expr} {f g:Den} {r:D->D->Option D} {pos:Pos}
theorem tM{K:PySem.W.Frag}{r':R2}(hr:∀x y H Q,(∃e U d₁ d₂ z,e.H=H/\Wf K C e U/\Is K e.α e.F d₁ x/\Is K e.α e.F d₂ y/\r d₁ d₂=some z/\∀v e',Ext e e'->Wf K C e' U->Is K e'.α e'.F z v->Q v e'.H)->r' x y H Q)
  {Z:St} {H:Hp} {Q:VK} (h:tD K C (gOp r f g) Z H Q):tOp r' (tD K C f) (tD K C g) Z H Q:=by
 obtain⟨e,U,Y,d,U',eH,w,rl,q,k⟩:=h
 unfold gOp at q
 cases q1:f Y U with
 | none=>rw[q1] at q;cases q
 | some p1 =>
  obtain⟨x,U₁⟩:=p1
  rw[q1] at q
  dsimp only at q
  cases q2:g Y U₁ with
  | none=>rw[q2] at q;cases q
  | some p2 =>
   obtain⟨y,U₂⟩:=p2
   rw[q2] at q
   dsimp only at q
   cases q3:r x y with
   | none=>rw[q3] at q;cases q
   | some z =>
    rw[q3] at q
    cases q
    refine⟨e,U,Y,x,U₁,eH,w,rl,q1,fun v e1 x1 w1 i1=>?_⟩
    refine⟨e1,U₁,Y,y,_,rfl,w1,rl.ext x1,q2,fun u e2 x2 w2 i2=>?_⟩
    exact hr v u e2.H Q ⟨e2,_,x,y,d,rfl,w2,i1.ext x2,i2,q3,fun v' e3 x3 w3 i3=>k v' e3 ((x1.trans x2).trans x3) w3 i3⟩
theorem aV{op:Operator}(ho:OpD X C (binaryOp op) r)(ha:PD X C a f)(hb:PD X C b g):PD X C (.BinOp a op b pos) (gOp r f g) :=
 bx (Sx ho ha hb) fun Z H Q h=>tM (fun _ _ _ _ h=>h) h
theorem dJ{op:CmpOp}(ho:OpD X C (compareOp op) r)(ha:PD X C a f)(hb:PD X C b g)(hm:behindInMarks op b=false):PD X C (.Compare a [op] [b] pos) (gOp r f g) :=
 bx (Dj ho ha hb hm) fun Z H Q h=>tM (fun _ _ _ _ h=>h) h
def gT(g:Den):cB:=fun Y U=>match g Y U with
 | some (.bl b,U')=>some (b,U')
 | _=>none
theorem pP{K:PySem.W.Frag}{Z:St}{H:Hp}{Q:Bool->Hp->Prop}(h:tDT K C (gT g) Z H Q):tD K C g Z H fun x H'=>∃c,x=V.bl c/\Q c H':=by
 obtain⟨e,U,Y,b,U',eH,w,rl,q,k⟩:=h
 unfold gT at q
 cases q1:g Y U with
 | none=>rw[q1] at q;cases q
 | some p1 =>
  obtain⟨x,U₁⟩:=p1
  rw[q1] at q
  cases x with
  | bl c =>
   cases q
   refine⟨e,U,Y,_,_,eH,w,rl,q1,fun v e1 x1 w1 i1=>?_⟩
   rw[Is] at i1
   exact⟨b,i1,k e1 x1 w1⟩
  | _=>cases q
theorem aZ{op:CmpOp}(ho:OpD X C (compareOp op) r)(ha:PD X C a f)(hb:PD X C b g)(hm:behindInMarks op b=false):PDT X C (.Compare a [op] [b] pos) (gT (gOp r f g)) :=
 pN (Dk ho ha hb hm) fun Z H Q h=>tM (fun _ _ _ _ h=>h) (pP h)
theorem jF{x:Expr}(h:PD X C x g)(he:∀whole,isTrue x X.env whole=(do let v <-whole;standAt x.pos;holding [v] (truthy v)):=by intro _;rfl):PDT X C x (gT g) :=
 pN (Qf h he) fun Z H Q h=>pP h
def dI(c:Int->Int->Bool)(f:Int->Int->Int):D->D->Option D
 | .int i,.int j=>if c i j=true then some (.int (f i j)) else none
 | _,_=>none
def dB(f:Int->Int->Bool):D->D->Option D
 | .int i,.int j=>some (.bl (f i j))
 | _,_=>none
theorem Hg{c:Int->Int->Bool}{f:Int->Int->Int}{d₁ d₂ z:D}(h:dI c f d₁ d₂=some z):∃i j,d₁=.int i/\d₂=.int j/\c i j=true/\z=.int (f i j):=by
 unfold dI at h
 split at h
 ·split at h
  ·cases h;exact⟨_,_,rfl,rfl,‹_›,rfl⟩
  ·cases h
 ·cases h
theorem Ra{f:Int->Int->Bool}{d₁ d₂ z:D}(h:dB f d₁ d₂=some z):∃i j,d₁=.int i/\d₂=.int j/\z=.bl (f i j):=by
 unfold dB at h
 split at h
 ·cases h;exact⟨_,_,rfl,rfl,rfl⟩
 ·cases h
theorem xM{K:PySem.W.Frag}{α:List Addr}{F:Hp}{i:Int}{v:V}(h:Is K α F (.int i) v):v=.int i:=by rw[Is] at h;exact h
theorem Lw{h:Value->Value->Sem Value}{P:Int->Int->Prop}{c:Int->Int->Bool}{k:Int->Int->Int}(ho:OpR X h (rI P fun i j=>.int (k i j)))(hc:∀i j,c i j=true->P i j):OpD X C h (dI c k):=by
 rintro pins s Z H x y v u Q I rx ry ⟨e,U,d₁,d₂,z,eH,w,i1,i2,q,kk⟩
 obtain⟨i,j,e1,e2,hcc,e3⟩:=Hg q
 rw[e1] at i1
 rw[e2] at i2
 refine ho pins s Z _ x y v u Q I rx ry ⟨i,j,xM i1,xM i2,hc i j hcc,?_⟩
 rw[<-eH]
 exact kk _ e (Ext.refl e) w (by rw[e3,Is])
theorem Rb{h:Value->Value->Sem Value}{k:Int->Int->Int}(ho:OpR X h (rI0 fun i j=>.int (k i j))):OpD X C h (dI (fun _ _=>true) k):=by
 rintro pins s Z H x y v u Q I rx ry ⟨e,U,d₁,d₂,z,eH,w,i1,i2,q,kk⟩
 obtain⟨i,j,e1,e2,hcc,e3⟩:=Hg q
 rw[e1] at i1
 rw[e2] at i2
 refine ho pins s Z _ x y v u Q I rx ry ⟨i,j,xM i1,xM i2,?_⟩
 rw[<-eH]
 exact kk _ e (Ext.refl e) w (by rw[e3,Is])
theorem Lx{h:Value->Value->Sem Value}{k:Int->Int->Bool}(ho:OpR X h (rI0 fun i j=>.bl (k i j))):OpD X C h (dB k):=by
 rintro pins s Z H x y v u Q I rx ry ⟨e,U,d₁,d₂,z,eH,w,i1,i2,q,kk⟩
 obtain⟨i,j,e1,e2,e3⟩:=Ra q
 rw[e1] at i1
 rw[e2] at i2
 refine ho pins s Z _ x y v u Q I rx ry ⟨i,j,xM i1,xM i2,?_⟩
 rw[<-eH]
 exact kk _ e (Ext.refl e) w (by rw[e3,Is])
end
end DL
namespace DL
open PySem PySem.Spec PyProof.Rows L2
abbrev big:Nat:=100000
theorem iZ{n:Nat}(h:n<=big):n<=sizeLine:=Nat.le_trans h (by decide)
theorem pQ{n:Nat}(h:n<big):n<sizeLine:=Nat.lt_of_lt_of_le h (by decide)
open Classical in
def grd{β:Type}(P:Prop)(x:Option β):Option β:=if P then x else none
theorem gD{β:Type}{P:Prop}{x:Option β}(h:P):grd P x=x:=if_pos h
theorem lU{β:Type}{P:Prop}{x:Option β}{z:β}(h:grd P x=some z):P/\x=some z:=by
 by_cases q:P
 ·rw[gD q] at h;exact⟨q,h⟩
 ·have e:grd P x=none:=if_neg q
  rw[e] at h;cases h
section
variable {X:Cx} {C:Cl} {a b c x:Expr} {f g h:Den} {r:D->D->Option D} {pos:Pos}
def bY:D->D->Option D
 | .int i,.int j=>some (.int (i+j))
 | .lst xs,.lst ys=>if xs.length+ys.length<=big then some (.lst (xs++ys)) else none
 | .str p,.str q=>if p.length+q.length<=big then some (.str (p++q)) else none
 | _,_=>none
theorem Nh{d₁ d₂ z:D}(q:bY d₁ d₂=some z):(∃i j,d₁=.int i/\d₂=.int j/\z=.int (i+j))\/(∃xs ys,d₁=.lst xs/\d₂=.lst ys/\xs.length+ys.length<=big/\z=.lst (xs++ys)) \/
  ∃xs ys,d₁=.str xs/\d₂=.str ys/\xs.length+ys.length<=big/\z=.str (xs++ys):=by
 unfold bY at q
 split at q
 ·cases q;exact .inl ⟨_,_,rfl,rfl,rfl⟩
 ·split at q
  ·cases q;exact .inr (.inl ⟨_,_,rfl,rfl,‹_›,rfl⟩)
  ·cases q
 ·split at q
  ·cases q;exact .inr (.inr ⟨_,_,rfl,rfl,‹_›,rfl⟩)
  ·cases q
 ·cases q
theorem cu:OpD X C (binaryOp .Add) bY:=by
 intro pins s Z H x y v u Q I rx ry hw
 obtain⟨e,U,d₁,d₂,z,eH,w,i1,i2,q,kk⟩:=hw
 subst eH
 rcases Nh q with⟨i,j,rfl,rfl,rfl⟩ |⟨xs,ys,rfl,rfl,hl,rfl⟩ |⟨i,j,rfl,rfl,hl,rfl⟩
 ·rw[Is] at i1 i2
  subst i1 i2
  exact Qu pins s Z _ _ _ v u Q I rx ry ⟨i,j,rfl,rfl,kk _ e (Ext.refl e) w (by rw[Is])⟩
 ·rw[Is] at i1 i2
  obtain⟨l,vs,rfl,h1,r1⟩:=i1
  obtain⟨m,us,rfl,h2,r2⟩:=i2
  refine QM pins s Z _ _ _ v u Q I rx ry ⟨l,m,vs,us,rfl,rfl,w.fh _ _ h1,w.fh _ _ h2,by rw[<-r1.length,<-r2.length];exact iZ hl,fun p hp=>?_⟩
  refine kk _ (e.new p _) (w.new_ext hp) (w.new hp) ?_
  rw[Is]
  exact⟨p,_,rfl,aM,(r1.append r2).ext (w.new_ext hp)⟩
 ·rw[Is] at i1 i2
  subst i1 i2
  exact Ey pins s Z _ _ _ v u Q I rx ry ⟨i,j,rfl,rfl,iZ hl,kk _ e (Ext.refl e) w (by rw[Is])⟩
def cR:D->D->Option D
 | .int i,.int j=>grd ((-(2 ^ 64)<i/\i<2 ^ 64)\/(-(2 ^ 64)<j/\j<2 ^ 64)) (some (.int (i*j)))
 | .lst xs,.int k=>grd (-(2 ^ 62)<=k/\k<2 ^ 62/\xs.length*k.toNat<=big) (some (.lst (List.replicate k.toNat xs).flatten))
 | _,_=>none
theorem Ni{d₁ d₂ z:D}(q:cR d₁ d₂=some z):(∃i j,d₁=.int i/\d₂=.int j/\((-(2 ^ 64)<i/\i<2 ^ 64)\/(-(2 ^ 64)<j/\j<2 ^ 64))/\z=.int (i*j)) \/
  ∃xs k,d₁=.lst xs/\d₂=.int k/\(-(2 ^ 62)<=k/\k<2 ^ 62/\xs.length*k.toNat<=big)/\z=.lst (List.replicate k.toNat xs).flatten:=by
 unfold cR at q
 split at q
 ·obtain⟨hl,q⟩:=lU q;cases q;exact .inl ⟨_,_,rfl,rfl,hl,rfl⟩
 ·obtain⟨hl,q⟩:=lU q;cases q;exact .inr ⟨_,_,rfl,rfl,hl,rfl⟩
 ·cases q
theorem fB:OpD X C (binaryOp .Mult) cR:=by
 intro pins s Z H x y v u Q I rx ry hw
 obtain⟨e,U,d₁,d₂,z,eH,w,i1,i2,q,kk⟩:=hw
 subst eH
 rcases Ni q with⟨i,j,rfl,rfl,hl,rfl⟩ |⟨xs,k,rfl,rfl,hl,rfl⟩
 ·rw[Is] at i1 i2
  subst i1 i2
  exact Qw pins s Z _ _ _ v u Q I rx ry ⟨i,j,rfl,rfl,hl,kk _ e (Ext.refl e) w (by rw[Is])⟩
 ·rw[Is] at i1
  rw[Is] at i2
  obtain⟨l,vs,rfl,h1,r1⟩:=i1
  subst i2
  refine QQ pins s Z _ _ _ v u Q I rx ry ⟨l,k,vs,rfl,rfl,w.fh _ _ h1,by omega,by omega,by rw[<-r1.length];exact iZ hl.2.2,fun p hp=>?_⟩
  refine kk _ (e.new p _) (w.new_ext hp) (w.new hp) ?_
  rw[Is]
  exact⟨p,_,rfl,aM,(r1.rep _).ext (w.new_ext hp)⟩
abbrev JB:D->D->Option D:=dI (fun _ _=>true) fun i j=>i-j
theorem Dt:OpD X C (binaryOp .Sub) JB:=Rb Qv
abbrev bT:D->D->Option D:=dI (fun _ j=>decide (0<j)) fun i j=>i%j
theorem bU:OpD X C (binaryOp .Mod) bT:=Lw Qx fun _ _ h=>of_decide_eq_true h
abbrev k_:D->D->Option D:=dI (fun _ j=>decide (0<j) && decide (j<1073741824)) fun i j=>i / j
theorem pR:OpD X C (binaryOp .FloorDiv) k_:=Lw Mr fun _ _ h=>by
 rw[Bool.and_eq_true,decide_eq_true_eq,decide_eq_true_eq] at h
 exact h
abbrev ltD:D->D->Option D:=dB fun i j=>decide (i<j)
theorem rO:OpD X C (compareOp .Lt) ltD:=Lx SJ
abbrev gtD:D->D->Option D:=dB fun i j=>decide (j<i)
theorem rP:OpD X C (compareOp .Gt) gtD:=Lx SM
mutual
def toP:D->PyData
 | .non=>.none
 | .bl b=>.bool b
 | .int i=>.int i
 | .str x=>.str x
 | .tup xs=>.tuple (e_ xs)
 | .lst xs=>.list (e_ xs)
 | .scr ns=>.list (ns.map PyData.int)
 | .obj _=>.dict []
def e_:List D->List PyData
 | []=>[]
 | d::ds=>toP d::e_ ds
end
end
section
variable {X:Cx} {pins:List (Addr×Obj)} {Z:St} {H:Hp} {s:Shared} {K:PySem.W.Frag} {α:List Addr} {F:Hp}
mutual
theorem jX(I:Inv X pins Z H s)(hK:K=X.K)(ff:bK F H):∀(d:D) {v:V} {u:Value},(toP d).canLay0=true->Is K α F d v->RelV v u->∃as,Reads s.heap u (toP d) as
 | .non,v,u,_,h,r=>by
  rw[Is] at h;subst h;cases (show u=Value.none from r);rw[toP];exact⟨_,.none⟩
 | .bl b,v,u,_,h,r=>by
  rw[Is] at h;subst h;cases (show u=Value.bool b from r);rw[toP];exact⟨_,.bool b⟩
 | .int i,v,u,_,h,r=>by
  rw[Is] at h;subst h;obtain⟨t,q⟩:=(show ∃t,u=Value.int i t from r);subst q;rw[toP];exact⟨_,.int i t⟩
 | .str x,v,u,_,h,r=>by
  rw[Is] at h;subst h;obtain⟨t,q⟩:=(show ∃t,u=Value.str x t from r);subst q;rw[toP];exact⟨_,.str x t⟩
 | .tup xs,v,u,hc,h,r=>by
  rw[Is] at h
  obtain⟨a,vs,rfl,e,q⟩:=h
  cases (show u=Value.ref a from r)
  obtain⟨_,its,rv,o,e1,e2,n,e3⟩:=(show bV X.prog X.w H s.heap a (.tup vs) from I.hok a _ (ff _ _ e))
  rw[toP] at hc ⊢
  obtain⟨as,z⟩:=oZ I hK ff xs (by simpa [PyData.canLay0] using hc) q rv
  exact⟨as,.tuple e1 e2 e3 (by simpa using z)⟩
 | .lst xs,v,u,hc,h,r=>by
  rw[Is] at h
  obtain⟨a,vs,rfl,e,q⟩:=h
  cases (show u=Value.ref a from r)
  obtain⟨_,its,n,rv,e1⟩:=(show bV X.prog X.w H s.heap a (.lst vs) from I.hok a _ (ff _ _ e))
  rw[toP] at hc ⊢
  obtain⟨as,z⟩:=oZ I hK ff xs (by simpa [PyData.canLay0] using hc) q rv
  exact⟨_,.list e1 rfl rfl (by simpa using z)⟩
 | .scr ns,v,u,hc,h,r=>by
  rw[Is] at h
  obtain⟨a,rfl,q⟩:=h
  cases (show u=Value.ref a from r)
  subst hK
  obtain⟨its,rv,pl,_⟩:=I.list (ff.seq q)
  rw[toP]
  exact⟨_,reads_newData pl.isList (PySem.W.ke_carried (intsAre_of rv))⟩
 | .obj n,v,u,hc,h,r=>by rw[toP] at hc;simp[PyData.canLay0] at hc
theorem oZ(I:Inv X pins Z H s)(hK:K=X.K)(ff:bK F H):∀(ds:List D) {vs:List V} {us:List Value},PyData.canLayAll0 (e_ ds)=true->IsL K α F ds vs->Vals vs us->∃as,ReadsAll s.heap us (e_ ds) as
 | [],vs,us,_,h,r=>by
  rw[h.of_nil] at r;cases r;rw[e_];exact⟨_,.nil⟩
 | d::ds,vs,us,hc,h,r=>by
  obtain⟨v,t,rfl,h1,h2⟩:=h.of_cons
  cases r with
  | cons r1 r2 =>
   rw[e_] at hc ⊢
   have hc':(toP d).canLay0=true/\PyData.canLayAll0 (e_ ds)=true:=by simpa [PyData.canLayAll0] using hc
   obtain⟨as,z1⟩:=jX I hK ff d hc'.1 h1 r1
   obtain⟨bs,z2⟩:=oZ I hK ff ds hc'.2 h2 r2
   exact⟨_,.cons z1 z2⟩
end
end
end DL
namespace DL
open PySem PySem.Spec PyProof.Rows L2
section
variable {X:Cx} {C:Cl} {a b c x:Expr} {f g h:Den} {r:D->D->Option D} {pos:Pos}
def eqD(neg:Bool)(p q:D):Option D:=if SeqAt.shaped (toP p) && SeqAt.shaped (toP q) then some (.bl (if neg then !PyData.eqv (toP p) (toP q) else PyData.eqv (toP p) (toP q))) else none
theorem cC(hu:X.A.units+64<cLine):OpD X C (compareOp .Eq) (eqD false):=by
 intro pins s Z H x y v u Q I rx ry hw
 obtain⟨e,U,d₁,d₂,z,eH,w,i1,i2,q,kk⟩:=hw
 subst eH
 unfold eqD at q
 split at q
 ·rename_i hs
  rw[Bool.and_eq_true] at hs
  cases q
  obtain⟨as,r1⟩:=jX I rfl w.fh d₁ (SeqAt.canLay_of_shaped hs.1) i1 rx
  obtain⟨bs,r2⟩:=jX I rfl w.fh d₂ (SeqAt.canLay_of_shaped hs.2) i2 ry
  exact eq_dataH r1 r2 hs.1 hs.2 hu ⟨.bl _,e.H,I,rfl,kk _ e (Ext.refl e) w (by rw[Is];rfl)⟩
 ·cases q
theorem lg(hu:X.A.units+64<cLine):OpD X C (compareOp .NotEq) (eqD true):=by
 intro pins s Z H x y v u Q I rx ry hw
 obtain⟨e,U,d₁,d₂,z,eH,w,i1,i2,q,kk⟩:=hw
 subst eH
 unfold eqD at q
 split at q
 ·rename_i hs
  rw[Bool.and_eq_true] at hs
  cases q
  obtain⟨as,r1⟩:=jX I rfl w.fh d₁ (SeqAt.canLay_of_shaped hs.1) i1 rx
  obtain⟨bs,r2⟩:=jX I rfl w.fh d₂ (SeqAt.canLay_of_shaped hs.2) i2 ry
  exact ne_dataH r1 r2 hs.1 hs.2 hu ⟨.bl _,e.H,I,rfl,kk _ e (Ext.refl e) w (by rw[Is];rfl)⟩
 ·cases q
def isNone:D->Bool
 | .non=>true
 | _=>false
def JC:D->Bool
 | .non=>true
 | .int _=>true
 | .tup _=>true
 | .lst _=>true
 | _=>false
def isB(neg p:Bool):D->Option D
 | .bl q=>some (.bl (if neg then !(q==p) else q==p))
 | d=>if JC d then some (.bl neg) else none
def isD(neg:Bool)(d:D):D->Option D
 | .non=>some (.bl (if neg then !isNone d else isNone d))
 | .bl p=>isB neg p d
 | _=>none
theorem Ak{K:PySem.W.Frag}{α:List Addr}{F:Hp}{d:D}{v:V}(h:Is K α F d v):decide (v=.non)=isNone d:=by
 cases d<;>rw[Is] at h
 ·subst h;rfl
 ·subst h;rfl
 ·subst h;rfl
 ·subst h;rfl
 ·obtain⟨a,vs,rfl,_⟩:=h;rfl
 ·obtain⟨a,vs,rfl,_⟩:=h;rfl
 ·obtain⟨a,rfl,_⟩:=h;rfl
 ·obtain⟨a,_,rfl⟩:=h;rfl
theorem Du{K:PySem.W.Frag}{α:List Addr}{F:Hp}{d:D}{v:V}{u:Value}{p:Bool}(h:JC d=true)(i:Is K α F d v)(r:RelV v u):plainIs u (.bool p)=true/\u ≠ .bool p:=by
 cases d with
 | non=>rw[Is] at i;subst i;cases (show u=Value.none from r);exact⟨rfl,fun z=>by cases z⟩
 | int i'=>rw[Is] at i;subst i;obtain⟨t,rfl⟩:=(show ∃t,u=Value.int i' t from r);exact⟨rfl,fun z=>by cases z⟩
 | tup _=>rw[Is] at i;obtain⟨l,vs,rfl,_⟩:=i;cases (show u=Value.ref l from r);exact⟨rfl,fun z=>by cases z⟩
 | lst _=>rw[Is] at i;obtain⟨l,vs,rfl,_⟩:=i;cases (show u=Value.ref l from r);exact⟨rfl,fun z=>by cases z⟩
 | _=>cases h
theorem Dv{neg p:Bool}{d z:D}(q:isB neg p d=some z):(∃r,d=.bl r/\z=.bl (if neg then !(r==p) else r==p))\/(JC d=true/\z=.bl neg):=by
 unfold isB at q
 split at q
 ·cases q;exact .inl ⟨_,rfl,rfl⟩
 ·split at q
  ·cases q;exact .inr ⟨‹_›,rfl⟩
  ·cases q
theorem Dw{neg:Bool}{d₁ d₂ z:D}(q:isD neg d₁ d₂=some z):(d₂=.non/\z=.bl (if neg then !isNone d₁ else isNone d₁))\/∃p,d₂=.bl p/\isB neg p d₁=some z:=by
 unfold isD at q
 split at q
 ·cases q;exact .inl ⟨rfl,rfl⟩
 ·exact .inr ⟨_,rfl,q⟩
 ·cases q
theorem yH(p r:Bool):(Value.bool p==Value.bool r)=(p==r):=by cases p<;>cases r<;>rfl
theorem je:OpD X C (compareOp .Is) (isD false):=by
 intro pins s Z H x y v u Q I rx ry hw
 obtain⟨e,U,d₁,d₂,z,eH,w,i1,i2,q,kk⟩:=hw
 subst eH
 rcases Dw q with⟨rfl,rfl⟩ |⟨p,rfl,q⟩
 ·rw[Is] at i2
  subst i2
  refine Qz pins s Z _ _ _ v u Q I rx ry ⟨rfl,?_⟩
  rw[Ak i1]
  exact kk _ e (Ext.refl e) w (by rw[Is];rfl)
 ·rw[Is] at i2
  subst i2
  cases (show u=Value.bool p from ry)
  rcases Dv q with⟨r,rfl,rfl⟩ |⟨ho,rfl⟩
  ·rw[Is] at i1
   subst i1
   cases (show v=Value.bool r from rx)
   refine wpAny_is_plain rfl ?_
   rw[yH]
   exact⟨.bl _,e.H,I,rfl,kk _ e (Ext.refl e) w (by rw[Is];rfl)⟩
  ·obtain⟨h1,h2⟩:=Du (p:=p) ho i1 rx
   exact wpAny_is_other h1 h2 ⟨.bl _,e.H,I,rfl,kk _ e (Ext.refl e) w (by rw[Is])⟩
theorem mH:OpD X C (compareOp .IsNot) (isD true):=by
 intro pins s Z H x y v u Q I rx ry hw
 obtain⟨e,U,d₁,d₂,z,eH,w,i1,i2,q,kk⟩:=hw
 subst eH
 rcases Dw q with⟨rfl,rfl⟩ |⟨p,rfl,q⟩
 ·rw[Is] at i2
  subst i2
  refine Ms pins s Z _ _ _ v u Q I rx ry ⟨rfl,?_⟩
  rw[Ak i1]
  exact kk _ e (Ext.refl e) w (by rw[Is];rfl)
 ·rw[Is] at i2
  subst i2
  cases (show u=Value.bool p from ry)
  rcases Dv q with⟨r,rfl,rfl⟩ |⟨ho,rfl⟩
  ·rw[Is] at i1
   subst i1
   cases (show v=Value.bool r from rx)
   refine wpAny_isNot_plain rfl ?_
   rw[yH]
   exact⟨.bl _,e.H,I,rfl,kk _ e (Ext.refl e) w (by rw[Is];rfl)⟩
  ·obtain⟨h1,h2⟩:=Du (p:=p) ho i1 rx
   exact wpAny_isNot_other h1 h2 ⟨.bl _,e.H,I,rfl,kk _ e (Ext.refl e) w (by rw[Is])⟩
def jn(p q:cB):cB:=fun Y U=>match p Y U with
 | some (true,U')=>q Y U'
 | some (false,U')=>some (false,U')
 | none=>none
def pG(p q:cB):cB:=fun Y U=>match p Y U with
 | some (true,U')=>some (true,U')
 | some (false,U')=>q Y U'
 | none=>none
def my(p:cB):cB:=fun Y U=>match p Y U with
 | some (k,U')=>some (!k,U')
 | none=>none
variable {p q:cB} {rest:List Expr}
theorem JD{K:PySem.W.Frag}{Z:St}{H:Hp}{Q:Bool->Hp->Prop}(hw:tDT K C (jn p q) Z H Q):Qg (tDT K C p) (tDT K C q) Z H Q:=by
 obtain⟨e,U,Y,k,U',eH,w,rl,e1,kk⟩:=hw
 unfold jn at e1
 cases e2:p Y U with
 | none=>rw[e2] at e1;cases e1
 | some z =>
  obtain⟨k1,U1⟩:=z
  rw[e2] at e1
  refine⟨e,U,Y,k1,U1,eH,w,rl,e2,fun e' x' w'=>?_⟩
  cases k1 with
  | true =>
   rw[if_pos rfl]
   exact⟨e',U1,Y,k,U',rfl,w',rl.ext x',e1,fun e'' x'' w''=>kk e'' (x'.trans x'') w''⟩
  | false =>
   rw[if_neg (by decide)]
   cases e1
   exact kk e' x' w'
theorem Nj{K:PySem.W.Frag}{Z:St}{H:Hp}{Q:Bool->Hp->Prop}(hw:tDT K C (pG p q) Z H Q):tOr (tDT K C p) (tDT K C q) Z H Q:=by
 obtain⟨e,U,Y,k,U',eH,w,rl,e1,kk⟩:=hw
 unfold pG at e1
 cases e2:p Y U with
 | none=>rw[e2] at e1;cases e1
 | some z =>
  obtain⟨k1,U1⟩:=z
  rw[e2] at e1
  refine⟨e,U,Y,k1,U1,eH,w,rl,e2,fun e' x' w'=>?_⟩
  cases k1 with
  | true =>
   rw[if_pos rfl]
   cases e1
   exact kk e' x' w'
  | false =>
   rw[if_neg (by decide)]
   exact⟨e',U1,Y,k,U',rfl,w',rl.ext x',e1,fun e'' x'' w''=>kk e'' (x'.trans x'') w''⟩
theorem lV(ha:PDT X C a p):PDW X C (.BoolOp .And [a] pos) p:=Mm ha
theorem pU(ha:PDT X C a p):PDW X C (.BoolOp .Or [a] pos) p:=Qh ha
theorem lW(ha:PDT X C a p)(hb:PDW X C (.BoolOp .And (b::rest) pos) q):PDW X C (.BoolOp .And (a::b::rest) pos) (jn p q):=Hd (Qi ha hb) fun _ _ _ h=>JD h
theorem rQ(ha:PDT X C a p)(hb:PDW X C (.BoolOp .Or (b::rest) pos) q):PDW X C (.BoolOp .Or (a::b::rest) pos) (pG p q):=Hd (RZ ha hb) fun _ _ _ h=>Nj h
theorem PDW.pt(h:PDW X C x p):PDT X C x p:=PW.pt h
theorem tO(ha:PDT X C a p):PDT X C (.UnaryOp .Not a pos) (my p):=pN (Qj ha) fun Z H Q hw'=>by
 obtain⟨e,U,Y,k,U',eH,w,rl,e1,kk⟩:=hw'
 unfold my at e1
 cases e2:p Y U with
 | none=>rw[e2] at e1;cases e1
 | some z =>
  obtain⟨k1,U1⟩:=z
  rw[e2] at e1
  cases e1
  exact⟨e,U,Y,k1,_,eH,w,rl,e2,kk⟩
def jW(f g:Den):Den:=fun Y U=>match f Y U with
 | some (.bl true,U')=>g Y U'
 | some (.bl false,U')=>some (.bl false,U')
 | _=>none
def xN(f g:Den):Den:=fun Y U=>match f Y U with
 | some (.bl true,U')=>some (.bl true,U')
 | some (.bl false,U')=>g Y U'
 | _=>none
def zL(f:Den):Den:=fun Y U=>match f Y U with
 | some (.bl k,U')=>some (.bl (!k),U')
 | _=>none
theorem jf{op}(h:PD X C a f):PD X C (.BoolOp op [a] pos) f:=Qk h
theorem lq(ha:PD X C a f)(hb:PD X C (.BoolOp .And (b::rest) pos) g):PD X C (.BoolOp .And (a::b::rest) pos) (jW f g):=bx (Ql ha hb) fun Z H Q hw'=>by
 obtain⟨e,U,Y,d,U',eH,w,rl,e1,kk⟩:=hw'
 unfold jW at e1
 cases e2:f Y U with
 | none=>rw[e2] at e1;cases e1
 | some z =>
  obtain⟨d1,U1⟩:=z
  rw[e2] at e1
  refine⟨e,U,Y,d1,U1,eH,w,rl,e2,fun v e' x' w' i'=>?_⟩
  cases d1 with
  | bl k1 =>
   rw[Is] at i'
   refine⟨k1,i',?_⟩
   cases k1 with
   | true =>
    rw[if_pos rfl]
    exact⟨e',U1,Y,d,U',rfl,w',rl.ext x',e1,fun v e'' x'' w''=>kk v e'' (x'.trans x'') w''⟩
   | false =>
    rw[if_neg (by decide)]
    cases e1
    exact kk _ e' x' w' (by rw[Is])
  | _=>cases e1
theorem Fl(ha:PD X C a f)(hb:PD X C (.BoolOp .Or (b::rest) pos) g):PD X C (.BoolOp .Or (a::b::rest) pos) (xN f g):=bx (Sh ha hb) fun Z H Q hw'=>by
 obtain⟨e,U,Y,d,U',eH,w,rl,e1,kk⟩:=hw'
 unfold xN at e1
 cases e2:f Y U with
 | none=>rw[e2] at e1;cases e1
 | some z =>
  obtain⟨d1,U1⟩:=z
  rw[e2] at e1
  refine⟨e,U,Y,d1,U1,eH,w,rl,e2,fun v e' x' w' i'=>?_⟩
  cases d1 with
  | bl k1 =>
   rw[Is] at i'
   refine⟨k1,i',?_⟩
   cases k1 with
   | true =>
    rw[if_pos rfl]
    cases e1
    exact kk _ e' x' w' (by rw[Is])
   | false =>
    rw[if_neg (by decide)]
    exact⟨e',U1,Y,d,U',rfl,w',rl.ext x',e1,fun v e'' x'' w''=>kk v e'' (x'.trans x'') w''⟩
  | _=>cases e1
theorem Rc(ha:PD X C a f):PD X C (.UnaryOp .Not a pos) (zL f):=bx (Qm ha) fun Z H Q hw'=>by
 obtain⟨e,U,Y,d,U',eH,w,rl,e1,kk⟩:=hw'
 unfold zL at e1
 cases e2:f Y U with
 | none=>rw[e2] at e1;cases e1
 | some z =>
  obtain⟨d1,U1⟩:=z
  rw[e2] at e1
  refine⟨e,U,Y,d1,U1,eH,w,rl,e2,fun v e' x' w' i'=>?_⟩
  cases d1 with
  | bl k1 =>
   rw[Is] at i'
   cases e1
   exact⟨k1,i',kk _ e' x' w' (by rw[Is])⟩
  | _=>cases e1
end
end DL
namespace DL
open PySem PySem.Spec PyProof.Rows L2
section
variable {X:Cx} {C:Cl} {a b c x:Expr} {es:List Expr} {f g h:Den} {ga:bB} {pos:Pos}
def aA:bB:=fun _ U=>some ([],U)
def ao(f:Den)(g:bB):bB:=fun Y U=>match f Y U with
 | some (d,U1)=>match g Y U1 with
  | some (ds,U2)=>some (d::ds,U2)
  | none=>none
 | none=>none
theorem aB:PDA X C [] aA:=Hf dH fun Z H Q hw'=>by
 obtain⟨e,U,Y,ds,U',eH,w,rl,e1,kk⟩:=hw'
 subst eH
 cases e1
 exact kk [] e (Ext.refl e) w .nil
theorem aq(ha:PD X C x f)(hr:PDA X C es ga)(hs:starEach (x::es) X.env=(false,eval x X.env)::starEach es X.env:=by rfl):PDA X C (x::es) (ao f ga) :=
 Hf (bR ha hr hs) fun Z H Q hw'=>by
  obtain⟨e,U,Y,ds,U',eH,w,rl,e1,kk⟩:=hw'
  unfold ao at e1
  cases q1:f Y U with
  | none=>rw[q1] at e1;cases e1
  | some p1 =>
   obtain⟨d,U1⟩:=p1
   rw[q1] at e1
   dsimp only at e1
   cases q2:ga Y U1 with
   | none=>rw[q2] at e1;cases e1
   | some p2 =>
    obtain⟨ds',U2⟩:=p2
    rw[q2] at e1
    cases e1
    refine⟨e,U,Y,d,U1,eH,w,rl,q1,fun v e' x' w' i'=>?_⟩
    exact⟨e',U1,Y,ds',_,rfl,w',rl.ext x',q2,fun vs e'' x'' w'' i''=>kk _ e'' (x'.trans x'') w'' (.cons (i'.ext x'') i'')⟩
def cV(g:bB):Den:=fun Y U=>match g Y U with
 | some (ds,U')=>if ds.length<=big then some (.tup ds,U') else none
 | none=>none
def ji(g:bB):Den:=fun Y U=>match g Y U with
 | some (ds,U')=>if ds.length<=big then some (.lst ds,U') else none
 | none=>none
theorem dC{x1}(ha:PDA X C es ga):PD X C (.Tuple es x1 pos) (cV ga):=bx (GP ha) fun Z H Q hw'=>by
 obtain⟨e,U,Y,d,U',eH,w,rl,e1,kk⟩:=hw'
 unfold cV at e1
 cases q1:ga Y U with
 | none=>rw[q1] at e1;cases e1
 | some p1 =>
  obtain⟨ds,U1⟩:=p1
  rw[q1] at e1
  dsimp only at e1
  split at e1
  ·rename_i hl
   cases e1
   refine⟨e,U,Y,ds,_,eH,w,rl,q1,fun vs e' x' w' i'=>⟨by rw[<-i'.length];exact iZ hl,fun p hp=>?_⟩⟩
   refine kk _ (e'.new p (.tup vs)) (x'.trans (w'.new_ext hp)) (w'.new hp) ?_
   rw[Is]
   exact⟨p,vs,rfl,aM,i'.ext (w'.new_ext hp)⟩
  ·cases e1
theorem gf(ha:PDA X C es ga):PD X C (.List es pos) (ji ga):=bx (Aa ha) fun Z H Q hw'=>by
 obtain⟨e,U,Y,d,U',eH,w,rl,e1,kk⟩:=hw'
 unfold ji at e1
 cases q1:ga Y U with
 | none=>rw[q1] at e1;cases e1
 | some p1 =>
  obtain⟨ds,U1⟩:=p1
  rw[q1] at e1
  dsimp only at e1
  split at e1
  ·rename_i hl
   cases e1
   refine⟨e,U,Y,ds,_,eH,w,rl,q1,fun vs e' x' w' i'=>⟨by rw[<-i'.length];exact iZ hl,fun p hp=>?_⟩⟩
   refine kk _ (e'.new p (.lst vs)) (x'.trans (w'.new_ext hp)) (w'.new hp) ?_
   rw[Is]
   exact⟨p,vs,rfl,aM,i'.ext (w'.new_ext hp)⟩
  ·cases e1
def ixD:D->D->Option D
 | .lst xs,.int i=>atI xs i
 | .tup xs,.int i=>atI xs i
 | .scr ns,.int i=>(atI ns i).map D.int
 | .str z,.int i=>if z.length<=big then(atI z.cps.toList i).map fun c=>D.str ⟨#[c]⟩ else none
 | _,_=>none
theorem Al{K:PySem.W.Frag}{α:List Addr}{F:Hp}{ds:List D}{vs:List V}{i:Int}{d:D}(r:IsL K α F ds vs)(h:atI ds i=some d):∃v,atI vs i=some v/\Is K α F d v:=by
 unfold atI at h ⊢
 rw[<-r.length]
 cases q:ixN ds.length i with
 | none=>rw[q] at h;cases h
 | some j =>
  rw[q] at h
  exact r.get h
theorem JF{K:PySem.W.Frag}:∀x y H Q,(∃e U d₁ d₂ z,e.H=H/\Wf K C e U/\Is K e.α e.F d₁ x/\Is K e.α e.F d₂ y/\ixD d₁ d₂=some z/\∀v e',Ext e e'->Wf K C e' U->Is K e'.α e'.F z v->Q v e'.H)->rIx K x y H Q:=by
 rintro x y H Q ⟨e,U,d₁,d₂,z,eH,w,i1,i2,q,kk⟩
 subst eH
 unfold ixD at q
 cases d₁<;>cases d₂<;>first |cases q |skip
 ·rename_i zz i
  dsimp only at q
  simp only[Is] at i1 i2
  subst i1 i2
  split at q
  ·rename_i hl
   cases e2:atI zz.cps.toList i with
   | none=>rw[e2] at q;cases q
   | some c =>
    rw[e2] at q
    cases q
    exact .inr (.inr ⟨zz,i,c,rfl,rfl,iZ hl,e2,kk _ e (Ext.refl e) w (by rw[Is])⟩)
  ·cases q
 ·rename_i xs i
  simp only[Is] at i1 i2
  obtain⟨p,vs,rfl,h1,r1⟩:=i1
  subst i2
  obtain⟨v,e1,i3⟩:=Al r1 q
  exact .inr (.inl ⟨p,vs,i,v,rfl,rfl,SqT.of (w.fh _ _ h1),e1,kk v e (Ext.refl e) w i3⟩)
 ·rename_i xs i
  simp only[Is] at i1 i2
  obtain⟨p,vs,rfl,h1,r1⟩:=i1
  subst i2
  obtain⟨v,e1,i3⟩:=Al r1 q
  exact .inl ⟨p,vs,i,v,rfl,rfl,SqL.of (w.fh _ _ h1),e1,kk v e (Ext.refl e) w i3⟩
 ·rename_i ns i
  simp only[Is] at i1 i2
  obtain⟨p,rfl,h1⟩:=i1
  subst i2
  dsimp only at q
  cases e2:atI ns i with
  | none=>rw[e2] at q;cases q
  | some n =>
   rw[e2] at q
   cases q
   refine .inl ⟨p,ns.map V.int,i,.int n,rfl,rfl,w.fh.seq h1,?_,kk _ e (Ext.refl e) w (by rw[Is])⟩
   unfold atI at e2 ⊢
   rw[List.length_map]
   cases e3:ixN ns.length i with
   | none=>rw[e3] at e2;cases e2
   | some j =>
    rw[e3] at e2
    show(ns.map V.int)[j]? = _
    rw[List.getElem?_map,show ns[j]? = some n from e2]
    rfl
theorem aL(ha:PD X C a f)(hb:PD X C b g)(hs:xK b:=by intro _ _;rfl):PD X C (.Subscript a b pos) (gOp ixD f g) :=
 bx (Ln QK ha hb hs) fun Z H Q hw=>tM JF hw
def CallD(X:Cx)(C:Cl)(f:Value)(r:List D->Option D):Prop :=
 gG X f fun xs H Q=>∃e U ds z,e.H=H/\Wf X.K C e U/\IsL X.K e.α e.F ds xs/\r ds=some z/\∀v e',Ext e e'->Wf X.K C e' U->Is X.K e'.α e'.F z v->Q v e'.H
def gCB(r:List D->Option D)(g:bB):Den:=fun Y U=>match g Y U with
 | some (ds,U1)=>match r ds with
  | some z=>some (z,U1)
  | none=>none
 | none=>none
theorem Nk{K:PySem.W.Frag}{r:List D->Option D}{Z:St}{H:Hp}{Q:VK}(hw:tD K C (gCB r ga) Z H Q) :
  tCB (fun xs H Q=>∃e U ds z,e.H=H/\Wf K C e U/\IsL K e.α e.F ds xs/\r ds=some z/\∀v e',Ext e e'->Wf K C e' U->Is K e'.α e'.F z v->Q v e'.H) (tDA K C ga) Z H Q:=by
 obtain⟨e,U,Y,d,U',eH,w,rl,e1,kk⟩:=hw
 unfold gCB at e1
 cases q1:ga Y U with
 | none=>rw[q1] at e1;cases e1
 | some p1 =>
  obtain⟨ds,U1⟩:=p1
  rw[q1] at e1
  dsimp only at e1
  cases q2:r ds with
  | none=>rw[q2] at e1;cases e1
  | some z =>
   rw[q2] at e1
   cases e1
   exact⟨e,U,Y,ds,_,eH,w,rl,q1,fun vs e' x' w' i'=>⟨e',_,ds,_,rfl,w',i',q2,fun v e'' x'' w''=>kk v e'' (x'.trans x'') w''⟩⟩
theorem cM{id:String}{n:Str}{p:Pos}{r:List D->Option D}(hc:CallD X C (.builtin id) r)(hg:Gl X n)(hm:X.mg n=none)(hv:bootBuiltins n=some (.builtin id))(ha:PDA X C (x::es) ga)(hn:n ≠ "__name__":=by decide)(hdb:(n==("__debug__":Str))=false:=by decide)
  (he:starEach (x::es) X.env=(false,eval x X.env)::starEach es X.env:=by rfl) (hpl:(backTo pos (starEach es X.env)).any (·.1)=false:=by rfl):PD X C (.Call (.Name n p) (x::es) [] pos) (gCB r ga) :=
 bx (gb hc hg hm hv ha hn hdb he hpl) fun _ _ _ hw=>Nk hw
theorem lX{K:PySem.W.Frag}{α:List Addr}{F:Hp}{d:D}{vs:List V}(h:IsL K α F [d] vs):∃v,vs=[v]/\Is K α F d v:=by
 obtain⟨v,r,rfl,i,t⟩:=h.of_cons
 rw[t.of_nil]
 exact⟨v,rfl,i⟩
theorem pW{K:PySem.W.Frag}{α:List Addr}{F:Hp}{d d':D}{vs:List V}(h:IsL K α F [d,d'] vs):∃v u,vs=[v,u]/\Is K α F d v/\Is K α F d' u:=by
 obtain⟨v,r,rfl,i,t⟩:=h.of_cons
 obtain⟨u,rfl,i2⟩:=lX t
 exact⟨v,u,rfl,i,i2⟩
def lu:List D->Option D
 | [.lst xs]=>some (.int xs.length)
 | [.tup xs]=>some (.int xs.length)
 | [.scr ns]=>some (.int ns.length)
 | [.str z]=>if z.length<=big then some (.int z.length) else none
 | _=>none
theorem iG:CallD X C (.builtin "len") lu:=by
 intro pins s Z H xs us Q I r hw
 obtain⟨e,U,ds,z,eH,w,i,q,kk⟩:=hw
 subst eH
 match ds,q with
 | [.lst ys],q =>
  obtain⟨v,rfl,iv⟩:=lX i
  rw[Is] at iv
  obtain⟨p,vs,rfl,h1,r1⟩:=iv
  cases q
  exact kZ pins s Z _ _ us Q I r ⟨p,vs,rfl,.inl (SqL.of (w.fh _ _ h1)),kk _ e (Ext.refl e) w (by rw[Is,r1.length])⟩
 | [.tup ys],q =>
  obtain⟨v,rfl,iv⟩:=lX i
  rw[Is] at iv
  obtain⟨p,vs,rfl,h1,r1⟩:=iv
  cases q
  exact kZ pins s Z _ _ us Q I r ⟨p,vs,rfl,.inr (SqT.of (w.fh _ _ h1)),kk _ e (Ext.refl e) w (by rw[Is,r1.length])⟩
 | [.scr ns],q =>
  obtain⟨v,rfl,iv⟩:=lX i
  rw[Is] at iv
  obtain⟨p,rfl,h1⟩:=iv
  cases q
  exact kZ pins s Z _ _ us Q I r ⟨p,_,rfl,.inl (w.fh.seq h1),kk _ e (Ext.refl e) w (by rw[Is,List.length_map])⟩
 | [.str zz],q =>
  obtain⟨v,rfl,iv⟩:=lX i
  rw[Is] at iv
  subst iv
  have q:(if zz.length<=big then some (D.int zz.length) else none)=some z:=q
  split at q
  ·rename_i hl
   cases q
   exact Ac pins s Z _ _ us Q I r ⟨zz,rfl,iZ hl,kk _ e (Ext.refl e) w (by rw[Is])⟩
  ·cases q
def tQ:List D->Option D
 | [.int i,.int j]=>some (.int (if j<i then j else i))
 | _=>none
theorem yI(hc:X.calm=true):CallD X C (.builtin "min") tQ:=by
 intro pins s Z H xs us Q I r hw
 obtain⟨e,U,ds,z,eH,w,i,q,kk⟩:=hw
 subst eH
 obtain⟨k,j,rfl,rfl⟩:∃k j,ds=[.int k,.int j]/\z=.int (if j<k then j else k):=by
  unfold tQ at q
  split at q
  ·cases q;exact⟨_,_,rfl,rfl⟩
  ·cases q
 ·obtain⟨v,u,rfl,i1,i2⟩:=pW i
  rw[Is] at i1 i2
  subst i1 i2
  exact GF hc pins s Z _ _ us Q I r ⟨k,j,rfl,kk _ e (Ext.refl e) w (by rw[Is])⟩
def vP:List D->Option D
 | [.int i,.int j]=>some (.int (if j>i then j else i))
 | _=>none
theorem yJ(hc:X.calm=true):CallD X C (.builtin "max") vP:=by
 intro pins s Z H xs us Q I r hw
 obtain⟨e,U,ds,z,eH,w,i,q,kk⟩:=hw
 subst eH
 obtain⟨k,j,rfl,rfl⟩:∃k j,ds=[.int k,.int j]/\z=.int (if j>k then j else k):=by
  unfold vP at q
  split at q
  ·cases q;exact⟨_,_,rfl,rfl⟩
  ·cases q
 ·obtain⟨v,u,rfl,i1,i2⟩:=pW i
  rw[Is] at i1 i2
  subst i1 i2
  exact GD hc pins s Z _ _ us Q I r ⟨k,j,rfl,kk _ e (Ext.refl e) w (by rw[Is])⟩
def tyD:D->Option String
 | .non=>some "NoneType"
 | .bl _=>some "bool"
 | .int _=>some "int"
 | .str _=>some "str"
 | .tup _=>some "tuple"
 | .lst _=>some "list"
 | _=>none
def gH(T:String)(d:D):Option D:=match tyD d with
 | some t=>some (.bl (decide (t=T) || (decide (t = "bool") && decide (T = "int"))))
 | none=>none
def gUn(r:D->Option D)(g:Den):Den:=fun Y U=>match g Y U with
 | some (d,U1)=>match r d with
  | some z=>some (z,U1)
  | none=>none
 | none=>none
theorem Nm{K:PySem.W.Frag}{α:List Addr}{F H:Hp}(ff:bK F H){d:D}{v:V}{t:String}(i:Is K α F d v)(h:tyD d=some t):TyOf K H v (.type t):=by
 cases d<;>rw[Is] at i<;>(try cases h)
 ·subst i;exact .non
 ·subst i;exact .bl _
 ·subst i;exact .int _
 ·subst i;exact .str _
 ·obtain⟨a,vs,rfl,e,_⟩:=i;exact .tup (ff _ _ e)
 ·obtain⟨a,vs,rfl,e,_⟩:=i;exact .lst (ff _ _ e)
theorem dR{T:String}{n:Str}{p:Pos}{y:Expr}(ha:PD X C x g)(hy:PE X y (tC (.ty T)))(hg:Gl X n)(hm:X.mg n=none)(hv:bootBuiltins n=some (.builtin "isinstance"))
  (hk:∀t∈["NoneType","bool","int","str","tuple","list"],PySem.W.kitOne X.K (.type t) (.type T)=some (decide (t=T) || (decide (t = "bool") && decide (T = "int"))))
  (hn:n ≠ "__name__":=by decide) (hdb:(n==("__debug__":Str))=false:=by decide)
  (he:starEach [x,y] X.env=(false,eval x X.env)::starEach [y] X.env:=by rfl) (he2:starEach [y] X.env=(false,eval y X.env)::starEach [] X.env:=by rfl) (hpl:(backTo pos (starEach [y] X.env)).any (·.1)=false:=by rfl) :
  PD X C (.Call (.Name n p) [x,y] [] pos) (gUn (gH T) g):=by
 have hc:gG X (.builtin "isinstance") (fun xs H Q=>∃v t k,xs=[v,.ty T]/\TyOf X.K H v (.type t)/\PySem.W.kitOne X.K (.type t) (.type T)=some k/\Q (.bl k) H):=by
  intro pins s Z H xs us Q I r hw
  obtain⟨v,t,k,rfl,ty,e,q⟩:=hw
  obtain⟨u,w',rfl,r1,r2⟩:=vals2 r
  cases (show w'=Value.type T from r2)
  exact rM I r1 ty e fun tk=>⟨.bl k,H,I.tok tk,rfl,q⟩
 refine bx (gb hc hg hm hv (bR ha (bR hy dH he2) he) hn hdb he hpl) fun Z H Q hw'=>?_
 obtain⟨e,U,Y,d,U',eH,w,rl,e1,kk⟩:=hw'
 unfold gUn at e1
 cases q1:g Y U with
 | none=>rw[q1] at e1;cases e1
 | some p1 =>
  obtain⟨d1,U1⟩:=p1
  rw[q1] at e1
  dsimp only at e1
  unfold gH at e1
  cases q2:tyD d1 with
  | none=>rw[q2] at e1;cases e1
  | some t =>
   rw[q2] at e1
   cases e1
   refine⟨e,U,Y,d1,_,eH,w,rl,q1,fun v e' x' w' i'=>?_⟩
   refine⟨v,t,_,rfl,Nm w'.fh i' q2,hk t ?_,kk _ e' x' w' (by rw[Is])⟩
   cases d1<;>cases q2<;>simp
end
end DL
namespace DL
open PySem PySem.Spec PyProof.Rows L2
inductive Out where
 | nx (Y:List Sl) (U:List OS) |rt (d:D) (U:List OS) |bk (Y:List Sl) (U:List OS) |ct (Y:List Sl) (U:List OS)
abbrev aU:=List Sl->List OS->Option Out
structure RelS(K:PySem.W.Frag)(C:Cl)(e₀ e:E4)(U:List OS)(Z:St)(Y:List Sl):Prop where
 wf:Wf K C e U
 rel:RelE K e Z Y
 ext:Ext e₀ e
 fresh:∀(i:Nat) (ds:List D) (a:Addr),Y[i]? = some (.own ds)->Z[i]? = some (some (.ref a))->e₀.H a=none
def Tc(K:PySem.W.Frag)(C:Cl)(e₀:E4)(Dn:Ends):Out->Prop
 | .nx Y U=>∀e Z,RelS K C e₀ e U Z Y->Dn.nx Z e.H
 | .bk Y U=>∀e Z,RelS K C e₀ e U Z Y->Dn.bk Z e.H
 | .ct Y U=>∀e Z,RelS K C e₀ e U Z Y->Dn.ct Z e.H
 | .rt d U=>∀e v,Ext e₀ e->Wf K C e U->Is K e.α e.F d v->Dn.rt v e.H
def tDS(K:PySem.W.Frag)(C:Cl)(e₀:E4)(g:aU):TS:=fun Dn Z H=>∃e U Y o,e.H=H/\RelS K C e₀ e U Z Y/\g Y U=some o/\Tc K C e₀ Dn o
def PDS(X:Cx)(C:Cl)(st:Stmt)(g:aU):Prop:=∀e₀,PS X st (tDS X.K C e₀ g)
def PDB(X:Cx)(C:Cl)(st:List Stmt)(g:aU):Prop:=∀e₀,PSs X st (tDS X.K C e₀ g)
section
variable {K:PySem.W.Frag} {C:Cl} {e₀ e e':E4} {U U':List OS} {Z:St} {Y:List Sl}
theorem RelS.to(r:RelS K C e₀ e U Z Y)(x:Ext e e')(w:Wf K C e' U'):RelS K C e₀ e' U' Z Y:=⟨w,r.rel.ext x,r.ext.trans x,r.fresh⟩
theorem jG{i j:Nat}{d:D}{ds:List D}(h:(Y.set i (.dat d))[j]? = some (.own ds)):i≠j:=fun e1=>by
 subst e1
 have hl:i<Y.length:=by
  have:=(List.getElem?_eq_some_iff.mp h).1
  simpa using this
 rw[List.getElem?_set_self hl] at h
 cases h
theorem RelS.set(r:RelS K C e₀ e U Z Y)(i:Nat){d:D}{v:V}(h:Is K e.α e.F d v):RelS K C e₀ e U (Z.set i (some v)) (Y.set i (.dat d)) :=
 ⟨r.wf,r.rel.set i h,r.ext,fun j ds a h1 h2=>by
  have n:=jG h1
  rw[List.getElem?_set_ne n] at h1 h2
  exact r.fresh j ds a h1 h2⟩
end
section
variable {X:Cx} {C:Cl} {a b c x:Expr} {f g:Den} {p:cB} {st:Stmt} {rest sts sts':List Stmt} {s t:aU} {pos:Pos}
def aX:aU:=fun Y U=>some (.nx Y U)
def aK(s t:aU):aU:=fun Y U=>match s Y U with
 | some (.nx Y' U')=>t Y' U'
 | r=>r
theorem bf:PDB X C [] aX:=fun e₀=>pO Mp fun Dn Z H hw'=>by
 obtain⟨e,U,Y,o,eH,r,q,k⟩:=hw'
 subst eH
 cases q
 exact k e Z r
theorem aF(h1:PDS X C st s)(h2:PDB X C rest t):PDB X C (st::rest) (aK s t):=fun e₀=>pO (zW (h1 e₀) (h2 e₀)) fun Dn Z H hw'=>by
 obtain⟨e,U,Y,o,eH,r,q,k⟩:=hw'
 unfold aK at q
 cases q1:s Y U with
 | none=>rw[q1] at q;cases q
 | some o1 =>
  rw[q1] at q
  refine⟨e,U,Y,o1,eH,r,q1,?_⟩
  cases o1 with
  | nx Y' U'=>exact fun e' Z' r'=>⟨e',U',Y',o,rfl,r',q,k⟩
  | rt d U'=>cases q;exact k
  | bk Y' U'=>cases q;exact k
  | ct Y' U'=>cases q;exact k
theorem aG(h1:PDS X C st s):PDB X C [st] s:=fun e₀=>Dg (h1 e₀)
def pX(γ:List Sl->Option (List Sl))(s:aU):aU:=fun Y U=>match γ Y with
 | some Y'=>s Y' U
 | none=>none
def Ly(γ:List Sl->Option (List Sl)):Prop:=∀(K:PySem.W.Frag) (C:Cl) (e₀ e:E4) (U:List OS) (Z:St) (Y Y':List Sl),γ Y=some Y'->RelS K C e₀ e U Z Y->∃e',e'.H=e.H/\RelS K C e₀ e' U Z Y'
theorem rR{γ:List Sl->Option (List Sl)}(hγ:Ly γ)(h:PDB X C sts s):PDB X C sts (pX γ s):=fun e₀=>pO (h e₀) fun Dn Z H hw'=>by
 obtain⟨e,U,Y,o,eH,r,q,k⟩:=hw'
 unfold pX at q
 cases q1:γ Y with
 | none=>rw[q1] at q;cases q
 | some Y' =>
  rw[q1] at q
  obtain⟨e',he,r'⟩:=hγ _ _ _ _ _ _ _ _ q1 r
  exact⟨e',U,Y',o,he.trans eH,r',q,k⟩
def frz(i:Nat):List Sl->Option (List Sl):=fun Y=>match Y[i]? with
 | some (.own ds)=>some (Y.set i (.dat (.lst ds)))
 | _=>some Y
theorem rT(i:Nat):Ly (frz i):=by
 intro K C e₀ e U Z Y Y' h r
 unfold frz at h
 cases q:Y[i]? with
 | none=>rw[q] at h;cases h;exact⟨e,rfl,r⟩
 | some sl =>
  rw[q] at h
  cases sl with
  | und=>cases h;exact⟨e,rfl,r⟩
  | dat d=>cases h;exact⟨e,rfl,r⟩
  | own ds =>
   cases h
   obtain⟨a,vs,e1,e2,i1,n1,n2⟩:=r.rel.own i ds q
   have h0:=r.fresh i ds a q e1
   have ff:bK e.F (upd e.F a (.lst vs)):=fun b o hb=>by rw[aD (aP hb n1)];exact hb
   have fh:bK (upd e.F a (.lst vs)) e.H:=fun b o hb=>by
    by_cases hba:b=a
    ·subst hba;rw[aM] at hb;cases hb;exact e2
    ·rw[aD hba] at hb;exact r.wf.fh b o hb
   have fn:∀b o,(upd e.F a (.lst vs)) b=some o->e.F b=some o\/b=a:=fun b o hb=>by
    by_cases hba:b=a
    ·exact .inr hba
    ·rw[aD hba] at hb;exact .inl hb
   refine⟨⟨e.α,upd e.F a (.lst vs),e.A,e.H⟩,rfl,⟨fh,fun b hb=>?_,r.wf.ah,r.wf.ol,r.wf.nd,fun n b o h1 h2=>⟨(r.wf.ob n b o h1 h2).1,(r.wf.ob n b o h1 h2).2.keep (fun u hu=>hu) ff ⟨[],by simp⟩⟩⟩,⟨by simp[r.rel.len],fun j d hj=>?_,fun j es hj=>?_,fun j k ds' es b hj hk hj' hk'=>?_⟩,⟨r.ext.fz,r.ext.hk,r.ext.dm,r.ext.ff.trans ff,fun b o hb=>?_,r.ext.an,r.ext.aa,r.ext.al⟩,fun j es b hj hj'=>?_⟩
   ·show upd e.F a _ b=none
    rw[aD (fun z=>n2 (by rw[<-z];exact hb))]
    exact r.wf.fa b hb
   ·by_cases e3:i=j
    ·subst e3
     have hl:i<Y.length:=(List.getElem?_eq_some_iff.mp q).1
     rw[List.getElem?_set_self hl] at hj
     cases hj
     refine⟨.ref a,e1,?_⟩
     rw[Is]
     exact⟨a,vs,rfl,aM,IsL.mono ff ⟨[],by simp⟩ ds i1⟩
    ·rw[List.getElem?_set_ne e3] at hj
     obtain⟨v,z1,z2⟩:=r.rel.dat j d hj
     exact⟨v,z1,Is.mono ff ⟨[],by simp⟩ d z2⟩
   ·have n:=jG hj
    rw[List.getElem?_set_ne n] at hj
    obtain⟨a',vs',z1,z2,z3,z4,z5⟩:=r.rel.own j es hj
    have na:a'≠a:=fun z=>n (r.rel.sep i j ds es a q hj e1 (by rw[<-z];exact z1))
    exact⟨a',vs',z1,z2,IsL.mono ff ⟨[],by simp⟩ es z3,by show upd e.F a _ a'=none;rw[aD na];exact z4,z5⟩
   ·have n:=jG hj
    have n':=jG hk
    rw[List.getElem?_set_ne n] at hj
    rw[List.getElem?_set_ne n'] at hk
    exact r.rel.sep j k ds' es b hj hk hj' hk'
   ·rcases fn b o hb with z |z
    ·exact r.ext.fn b o z
    ·subst z;exact .inr (.inl h0)
   ·have n:=jG hj
    rw[List.getElem?_set_ne n] at hj
    exact r.fresh j es b hj hj'
def bD(i:Nat)(g:Den):aU:=fun Y U=>match g Y U with
 | some (d,U')=>some (.nx (Y.set i (.dat d)) U')
 | none=>none
theorem Am{K:PySem.W.Frag}{e₀:E4}{i:Nat}{Dn:Ends}{Z:St}{H:Hp}(hw:tDS K C e₀ (bD i g) Dn Z H):zX (tD K C g) (vD i) Dn Z H:=by
 obtain⟨e,U,Y,o,eH,r,q,k⟩:=hw
 unfold bD at q
 cases q1:g Y U with
 | none=>rw[q1] at q;cases q
 | some p1 =>
  obtain⟨d,U'⟩:=p1
  rw[q1] at q
  cases q
  exact⟨e,U,Y,d,U',eH,r.wf,r.rel,q1,fun v e' x' w' i'=>k e' _ ((r.to x' w').set i i')⟩
theorem bC{i:Nat}{n:Str}{pos':Pos}(hN:X.N.Nodup)(hi:X.N[i]? = some n)(hx:Loc X.env.scope n)(he:PD X C x g)(hs:swapsWith x (some (.Name n pos')) pos.line X.env=pure false:=by rfl)(hf:X.fn n=true\/X.env.scope.names.lookup n=some .local:=by first |exact .inl rfl |exact .inr rfl |assumption) :
  PDS X C (.Assign [.Name n pos'] x pos) (bD i g):=fun e₀=>cQ (zY hN hi hx he hs hf) fun Dn Z H h=>Am h
def a_(g:Den):aU:=fun Y U=>match g Y U with
 | some (d,U')=>some (.rt d U')
 | none=>none
theorem aQ(he:PD X C x g):PDS X C (.Return (some x) pos) (a_ g):=fun e₀=>cQ (Qn he) fun Dn Z H hw'=>by
 obtain⟨e,U,Y,o,eH,r,q,k⟩:=hw'
 unfold a_ at q
 cases q1:g Y U with
 | none=>rw[q1] at q;cases q
 | some p1 =>
  obtain⟨d,U'⟩:=p1
  rw[q1] at q
  cases q
  exact⟨e,U,Y,d,U',eH,r.wf,r.rel,q1,fun v e' x' w' i'=>k e' v (r.ext.trans x') w' i'⟩
def sIf(p:cB)(s t:aU):aU:=fun Y U=>match p Y U with
 | some (true,U')=>s Y U'
 | some (false,U')=>t Y U'
 | none=>none
theorem bj(hc:PDT X C c p)(ha:PDB X C sts s)(hb:PDB X C sts' t):PDS X C (.If c sts sts' pos) (sIf p s t):=fun e₀=>cQ (Lj hc (ha e₀) (hb e₀)) fun Dn Z H hw'=>by
 obtain⟨e,U,Y,o,eH,r,q,k⟩:=hw'
 unfold sIf at q
 cases q1:p Y U with
 | none=>rw[q1] at q;cases q
 | some p1 =>
  obtain⟨d,U'⟩:=p1
  rw[q1] at q
  refine⟨e,U,Y,d,U',eH,r.wf,r.rel,q1,fun e' x' w'=>?_⟩
  cases d with
  | true=>rw[if_pos rfl];exact⟨e',U',Y,o,rfl,r.to x' w',q,k⟩
  | false=>rw[if_neg (by decide)];exact⟨e',U',Y,o,rfl,r.to x' w',q,k⟩
def eV(g:Den):aU:=fun Y U=>match g Y U with
 | some (_,U')=>some (.nx Y U')
 | none=>none
theorem gU(he:PD X C x g)(hs:swapsWith x none pos.line X.env=pure false:=by rfl):PDS X C (.Expr x pos) (eV g):=fun e₀=>cQ (tH he hs) fun Dn Z H hw'=>by
 obtain⟨e,U,Y,o,eH,r,q,k⟩:=hw'
 unfold eV at q
 cases q1:g Y U with
 | none=>rw[q1] at q;cases q
 | some p1 =>
  obtain⟨d,U'⟩:=p1
  rw[q1] at q
  cases q
  exact⟨e,U,Y,d,U',eH,r.wf,r.rel,q1,fun v e' x' w' i'=>k e' Z (r.to x' w')⟩
def vQ:aU:=fun _ _=>none
theorem yK:PDS X C st vQ:=fun e₀=>cQ I_ fun Dn Z H hw'=>by obtain⟨e,U,Y,o,eH,r,q,k⟩:=hw';cases q
def uL(i:Nat)(g:bB):aU:=fun Y U=>match g Y U with
 | some (ds,U')=>if ds.length<=big then some (.nx (Y.set i (.own ds)) U') else none
 | none=>none
theorem xO{i:Nat}{n:Str}{pos' lp:Pos}{es:List Expr}{ga:bB}(hN:X.N.Nodup)(hi:X.N[i]? = some n)(hx:Loc X.env.scope n)(he:PDA X C es ga)(hs:swapsWith (.List es lp) (some (.Name n pos')) pos.line X.env=pure false:=by rfl)(hf:X.fn n=true\/X.env.scope.names.lookup n=some .local:=by first |exact .inl rfl |exact .inr rfl |assumption) :
  PDS X C (.Assign [.Name n pos'] (.List es lp) pos) (uL i ga):=fun e₀=>cQ (zY hN hi hx (Aa he) hs hf) fun Dn Z H hw'=>by
 obtain⟨e,U,Y,o,eH,r,q,k⟩:=hw'
 unfold uL at q
 cases q1:ga Y U with
 | none=>rw[q1] at q;cases q
 | some p1 =>
  obtain⟨ds,U'⟩:=p1
  rw[q1] at q
  dsimp only at q
  split at q
  ·rename_i hl
   cases q
   refine⟨e,U,Y,ds,U',eH,r.wf,r.rel,q1,fun vs e' x' w' i'=>⟨by rw[<-i'.length];exact iZ hl,fun a ha=>?_⟩⟩
   have r':=r.to x' w'
   have hne:∀b u,e'.H b=some u->b≠a:=fun b u hb=>aP hb ha
   have hF:e'.F a=none:=w'.nF ha
   have hA:¬e'.A a:=fun z=>(w'.ah a z).1 ha
   have own1:∀(j:Nat) (es:List D),(Y.set i (.own ds))[j]? = some (.own es)->(j=i/\es=ds/\i<Y.length)\/(j≠i/\Y[j]? = some (.own es)):=fun j es hj=>by
    by_cases e1:i=j
    ·subst e1
     have hl:i<Y.length:=by
      have:=(List.getElem?_eq_some_iff.mp hj).1
      simpa using this
     rw[List.getElem?_set_self hl] at hj
     cases hj
     exact .inl ⟨rfl,rfl,hl⟩
    ·rw[List.getElem?_set_ne e1] at hj
     exact .inr ⟨fun z=>e1 z.symm,hj⟩
   refine k ⟨e'.α,e'.F,e'.A,upd e'.H a (.lst vs)⟩ _ ⟨⟨fun b u hb=>?_,w'.fa,fun b hb=>?_,w'.ol,w'.nd,fun n b u h1 h2=>⟨(w'.ob n b u h1 h2).1,(w'.ob n b u h1 h2).2.keep (fun z hz=>?_) (bK.refl _) ⟨[],by simp⟩⟩⟩,⟨by simp[r'.rel.len],fun j d hj=>?_,fun j es hj=>?_,fun j m es fs b hj hm h1 h2=>?_⟩,⟨fun b o' u hb=>by show upd e'.H a _ b=some (.frz o' u);rw[aD (hne b _ (r'.ext.fz b o' u hb))];exact r'.ext.fz b o' u hb,fun b u hb hn=>?_,fun b u hb=>?_,r'.ext.ff,r'.ext.fn,r'.ext.an,r'.ext.aa,r'.ext.al⟩,fun j es b hj h1=>?_⟩
   ·show upd e'.H a _ b=some u
    rw[aD (hne b u (w'.fh b u hb))];exact w'.fh b u hb
   ·show upd e'.H a _ b≠none/\∀xs,upd e'.H a _ b≠some (.tup xs)
    rw[aD (fun z=>hA (by rw[<-z];exact hb))];exact w'.ah b hb
   ·show upd e'.H a _ b=some z
    rw[aD (hne b z hz)];exact hz
   ·have n:i≠j:=fun e1=>by
     subst e1
     have hl:i<Y.length:=by
      have:=(List.getElem?_eq_some_iff.mp hj).1
      simpa using this
     rw[List.getElem?_set_self hl] at hj
     cases hj
    rw[List.getElem?_set_ne n] at hj ⊢
    exact r'.rel.dat j d hj
   ·rcases own1 j es hj with⟨rfl,rfl,hq⟩ |⟨n,hj'⟩
    ·exact⟨a,vs,List.getElem?_set_self (by rw[r'.rel.len];exact hq),aM,i',hF,hA⟩
    ·obtain⟨b,us,z1,z2,z3,z4,z5⟩:=r'.rel.own j es hj'
     exact⟨b,us,by rw[List.getElem?_set_ne n.symm];exact z1,by show upd e'.H a _ b=_;rw[aD (hne b _ z2)];exact z2,z3,z4,z5⟩
   ·rcases own1 j es hj with⟨rfl,rfl,hq⟩ |⟨n,hj'⟩
    ·rcases own1 m fs hm with⟨rfl,_,_⟩ |⟨n',hm'⟩
     ·rfl
     ·rw[List.getElem?_set_self (by rw[r'.rel.len];exact hq)] at h1
      rw[List.getElem?_set_ne n'.symm] at h2
      obtain⟨b',us,z1,z2,_⟩:=r'.rel.own m fs hm'
      rw[h2] at z1
      cases h1
      cases z1
      exact absurd rfl (hne _ _ z2)
    ·rcases own1 m fs hm with⟨rfl,_,hq⟩ |⟨n',hm'⟩
     ·rw[List.getElem?_set_self (by rw[r'.rel.len];exact hq)] at h2
      rw[List.getElem?_set_ne n.symm] at h1
      obtain⟨b',us,z1,z2,_⟩:=r'.rel.own j es hj'
      rw[h1] at z1
      cases h2
      cases z1
      exact absurd rfl (hne _ _ z2)
     ·rw[List.getElem?_set_ne n.symm] at h1
      rw[List.getElem?_set_ne n'.symm] at h2
      exact r'.rel.sep j m es fs b hj' hm' h1 h2
   ·show upd e'.H a _ b=some u
    have z:=r'.ext.hk b u hb hn
    rw[aD (hne b u z)];exact z
   ·obtain⟨u',z⟩:=r'.ext.dm b u hb
    exact⟨u',by show upd e'.H a _ b=some u';rw[aD (hne b u' z)];exact z⟩
   ·rcases own1 j es hj with⟨rfl,rfl,hq⟩ |⟨n,hj'⟩
    ·rw[List.getElem?_set_self (by rw[r'.rel.len];exact hq)] at h1
     cases h1
     exact r'.ext.back ha
    ·rw[List.getElem?_set_ne n.symm] at h1
     exact r'.fresh j es b hj' h1
  ·cases q
def mU(i:Nat)(g:Den):aU:=fun Y U=>match g Y U with
 | some (d,U')=>match Y[i]? with
  | some (.own ds)=>if ds.length<big then some (.nx (Y.set i (.own (ds++[d]))) U') else none
  | _=>none
 | none=>none
theorem JG{K:PySem.W.Frag}{e₀:E4}{i:Nat}{Dn:Ends}{Z:St}{H:Hp}(hw:tDS K C e₀ (mU i g) Dn Z H) :
  Li (tBM K "list" Dp (xu i) (Fd (tD K C g) xF)) Dn Z H:=by
 obtain⟨e,U,Y,o,eH,r,q,k⟩:=hw
 subst eH
 unfold mU at q
 cases q1:g Y U with
 | none=>rw[q1] at q;cases q
 | some p1 =>
  obtain⟨d,U'⟩:=p1
  rw[q1] at q
  dsimp only at q
  cases q2:Y[i]? with
  | none=>rw[q2] at q;cases q
  | some sl =>
   rw[q2] at q
   cases sl with
   | own ds =>
    dsimp only at q
    split at q
    ·rename_i hl
     cases q
     obtain⟨a,vs,e1,e2,i1,n1,n2⟩:=r.rel.own i ds q2
     refine⟨.ref a,e1,.inl ⟨rfl,_,SqL.of e2⟩,?_⟩
     refine⟨e,U,Y,d,U',rfl,r.wf,r.rel,q1,fun v e' x' w' i'=>?_⟩
     have r':=r.to x' w'
     obtain⟨a',vs',e1',e2',i1',n1',n2'⟩:=r'.rel.own i ds q2
     rw[e1] at e1'
     cases e1'
     refine⟨a,vs',v,rfl,rfl,e2',by rw[<-i1'.length];exact pQ hl,?_⟩
     have hil:i<Y.length:=(List.getElem?_eq_some_iff.mp q2).1
     have neH:∀(j:Nat) (es:List D) (b:Addr),j≠i->Y[j]? = some (.own es)->Z[j]? = some (some (.ref b))->b≠a:=fun j es b n hj h1 z=>by
      subst z
      exact n (r'.rel.sep j i es ds b hj q2 h1 e1)
     have own1:∀(j:Nat) (es:List D),(Y.set i (.own (ds++[d])))[j]? = some (.own es)->(j=i/\es=ds++[d])\/(j≠i/\Y[j]? = some (.own es)):=fun j es hj=>by
      by_cases e3:i=j
      ·subst e3
       rw[List.getElem?_set_self hil] at hj
       cases hj
       exact .inl ⟨rfl,rfl⟩
      ·rw[List.getElem?_set_ne e3] at hj
       exact .inr ⟨fun z=>e3 z.symm,hj⟩
     refine k ⟨e'.α,e'.F,e'.A,upd e'.H a (.lst (vs'++[v]))⟩ Z ⟨⟨fun b u hb=>?_,w'.fa,fun b hb=>?_,w'.ol,w'.nd,fun n b u h1 h2=>⟨(w'.ob n b u h1 h2).1,(w'.ob n b u h1 h2).2.keep (fun z hz=>?_) (bK.refl _) ⟨[],by simp⟩⟩⟩,⟨by simp[r'.rel.len],fun j d' hj=>?_,fun j es hj=>?_,fun j m es fs b hj hm h1 h2=>?_⟩,⟨fun b o' u hb=>by have q:=r'.ext.fz b o' u hb;show upd e'.H a _ b=some (.frz o' u);rw[aD (fun z=>by rw[z,e2'] at q;cases q)];exact q,fun b u hb hn=>?_,fun b u hb=>?_,r'.ext.ff,r'.ext.fn,r'.ext.an,r'.ext.aa,r'.ext.al⟩,fun j es b hj h1=>?_⟩
     ·show upd e'.H a _ b=some u
      rw[aD (fun z=>by subst z;rw[n1'] at hb;cases hb)]
      exact w'.fh b u hb
     ·show upd e'.H a _ b≠none/\∀xs,upd e'.H a _ b≠some (.tup xs)
      rw[aD (fun z=>n2' (by rw[<-z];exact hb))]
      exact w'.ah b hb
     ·show upd e'.H a _ b=some z
      rw[aD (fun y=>n2' (by rw[<-y];exact(w'.ob n b u h1 h2).1))]
      exact hz
     ·have n:i≠j:=fun e3=>by
       subst e3
       rw[List.getElem?_set_self hil] at hj
       cases hj
      rw[List.getElem?_set_ne n] at hj
      exact r'.rel.dat j d' hj
     ·rcases own1 j es hj with⟨rfl,rfl⟩ |⟨n,hj'⟩
      ·exact⟨a,_,e1,aM,i1'.append (.cons i' .nil),n1',n2'⟩
      ·obtain⟨b,us,z1,z2,z3,z4,z5⟩:=r'.rel.own j es hj'
       exact⟨b,us,z1,by show upd e'.H a _ b=_;rw[aD (neH j es b n hj' z1)];exact z2,z3,z4,z5⟩
     ·rcases own1 j es hj with⟨rfl,_⟩ |⟨n,hj'⟩
      ·rcases own1 m fs hm with⟨rfl,_⟩ |⟨n',hm'⟩
       ·rfl
       ·exact r'.rel.sep _ m ds fs b q2 hm' h1 h2
      ·rcases own1 m fs hm with⟨rfl,_⟩ |⟨n',hm'⟩
       ·exact r'.rel.sep j _ es ds b hj' q2 h1 h2
       ·exact r'.rel.sep j m es fs b hj' hm' h1 h2
     ·show upd e'.H a _ b=some u
      have h0:=r'.fresh i ds a q2 e1
      rw[aD (aP hb h0)]
      exact r'.ext.hk b u hb hn
     ·have h0:=r'.fresh i ds a q2 e1
      obtain⟨u',z⟩:=r'.ext.dm b u hb
      exact⟨u',by show upd e'.H a _ b=some u';rw[aD (aP hb h0)];exact z⟩
     ·rcases own1 j es hj with⟨rfl,_⟩ |⟨n,hj'⟩
      ·exact r'.fresh _ ds b q2 h1
      ·exact r'.fresh j es b hj' h1
    ·cases q
   | und=>cases q
   | dat _=>cases q
end
end DL
namespace DL
open PySem PySem.Spec PyProof.Rows L2
open Classical in
def hid(P:Addr->Prop)(H:Hp):Hp:=fun b=>if P b then none else H b
theorem Dy{P:Addr->Prop}{H:Hp}{b:Addr}(h:P b):hid P H b=none:=if_pos h
theorem tU{P:Addr->Prop}{H:Hp}{b:Addr}(h:¬P b):hid P H b=H b:=if_neg h
theorem qG{P:Addr->Prop}{H:Hp}{b:Addr}{o:HO}(h:hid P H b=some o):H b=some o:=by
 by_cases q:P b
 ·rw[Dy q] at h;cases h
 ·rw[tU q] at h;exact h
section
variable {K:PySem.W.Frag} {C:Cl} {e₀ e e':E4} {U U':List OS} {Z:St} {Y:List Sl}
theorem RelS.mark(r:RelS K C e₀ e U Z Y):∃e₁:E4,e₁.F=e.F/\e₁.α=e.α/\RelS K C e₁ e U Z Y/\(∀e',Ext e₁ e'->Ext e₀ e')/\(∀b,e₁.H b=none->e₀.H b=none)/\∀b o u,e.H b=some (.frz o u)->e₁.H b=some (.frz o u):=by
 have ho:∀b,(∃(i:Nat) (ds:List D),Y[i]? = some (Sl.own ds)/\Z[i]? = some (some (V.ref b)))->e₀.H b=none:=fun b ⟨i,ds,h1,h2⟩=>r.fresh i ds b h1 h2
 generalize hP:(fun b:Addr=>∃(i:Nat) (ds:List D),Y[i]? = some (Sl.own ds)/\Z[i]? = some (some (V.ref b)))=P
 have ho':∀b,P b->e₀.H b=none:=fun b h=>ho b (by rw[<-hP] at h;exact h)
 have hno:∀b,hid P e.H b=none->e₀.H b=none:=fun b h=>by
  by_cases q:P b
  ·exact ho' b q
  ·rw[tU q] at h;exact r.ext.back h
 have hs:∀b o,e₀.H b=some o->hid P e.H b=e.H b:=fun b o h=>tU (fun q=>by rw[ho' b q] at h;cases h)
 refine⟨⟨e.α,e.F,e.A,hid P e.H⟩,rfl,rfl,⟨r.wf,r.rel,⟨fun b o u h=>qG h,fun b o h _=>qG h,fun b o h=>⟨o,qG h⟩,bK.refl _,fun b o h=>.inl h,fun b h=>.inl h,fun b h=>h,[],by simp⟩,fun i ds a h1 h2=>?_⟩,fun e' x=>⟨fun b o u h=>x.fz b o u ((hs b _ h).trans (r.ext.fz b o u h)),fun b o h hn=>?_,fun b o h=>?_,r.ext.ff.trans x.ff,fun b o h=>?_,fun b h=>?_,fun b h=>x.aa b (r.ext.aa b h),?_⟩,hno,fun b o u h=>(tU (fun q=>?_)).trans h⟩
 ·exact Dy (by rw[<-hP];exact⟨i,ds,h1,h2⟩)
 ·have z:=r.ext.hk b o h hn
  refine x.hk b o ((hs b o h).trans z) fun hA=>?_
  rcases r.ext.an b hA with q |q
  ·exact hn q
  ·rw[q] at h;cases h
 ·obtain⟨o',z⟩:=r.ext.dm b o h
  exact x.dm b o' ((hs b o h).trans z)
 ·rcases x.fn b o h with q |q |⟨q1,q2,q3⟩
  ·exact r.ext.fn b o q
  ·exact .inr (.inl (hno b q))
  ·have n:¬e₀.A b:=fun z=>q3 (r.ext.aa b z)
   cases z:e₀.H b with
   | none=>exact .inr (.inl rfl)
   | some o' =>
    have z':=r.ext.hk b o' z n
    rw[qG q2] at z'
    cases z'
    exact .inr (.inr ⟨q1,rfl,n⟩)
 ·rcases x.an b h with q |q
  ·exact r.ext.an b q
  ·exact .inr (hno b q)
 ·obtain⟨m,e1⟩:=r.ext.al
  obtain⟨n,e2⟩:=x.al
  exact⟨m++n,by rw[e2];show e.α++n=_;rw[e1,List.append_assoc]⟩
 ·rw[<-hP] at q
  obtain⟨i,ds,h1,h2⟩:=q
  obtain⟨a',vs,e1,e2,_⟩:=r.rel.own i ds h1
  rw[h2] at e1
  cases e1
  rw[h] at e2
  cases e2
end
abbrev cT:=D->List Sl->Option (List Sl)
def tDG(K:PySem.W.Frag)(C:Cl)(β:cT):TG:=fun v Z H Q=>∃e U Y d Y',e.H=H/\Wf K C e U/\RelE K e Z Y/\Is K e.α e.F d v/\β d Y=some Y' /\
 ∀Z',RelE K e Z' Y'->(∀(j:Nat) (ds:List D),Y'[j]? = some (.own ds)->Y[j]? = some (.own ds)/\Z'[j]? = Z[j]?)->Q Z' e.H
def PDG(X:Cx)(C:Cl)(tg:Expr)(β:cT):Prop:=PG X tg (tDG X.K C β)
theorem Hh{X:Cx}{tg:Expr}{t t':TG}(h:PG X tg t)(i:∀v Z H Q,t' v Z H Q->t v Z H Q):PG X tg t':=fun pins s Z H v u Q I r hw=>h pins s Z H v u Q I r (i v Z H Q hw)
theorem Dz{X:Cx}{ts:List Expr}{t t':TGs}(h:PGs X ts t)(i:∀v Z H Q,t' v Z H Q->t v Z H Q):PGs X ts t':=fun pins s Z H v u Q I r hw=>h pins s Z H v u Q I r (i v Z H Q hw)
def bF(i:Nat):cT:=fun d Y=>some (Y.set i (.dat d))
theorem DG{Y:List Sl}{Z:St}{i:Nat}{d:D}{v:V}(j:Nat)(ds:List D)(h:(Y.set i (.dat d))[j]? = some (.own ds)):Y[j]? = some (.own ds)/\(Z.set i (some v))[j]? = Z[j]?:=by
 have n:=jG h
 rw[List.getElem?_set_ne n] at h
 exact⟨h,List.getElem?_set_ne n⟩
section
variable {X:Cx} {C:Cl} {pos:Pos}
theorem di{i:Nat}{x:Str}(hN:X.N.Nodup)(hi:X.N[i]? = some x)(hx:Loc X.env.scope x)(hf:X.fn x=true\/X.env.scope.names.lookup x=some .local:=by first |exact .inl rfl |exact .inr rfl |assumption):PDG X C (.Name x pos) (bF i) :=
 Hh (Dh hN hi hx hf) fun v Z H Q hw'=>by
  obtain⟨e,U,Y,d,Y',eH,w,r,is,b,k⟩:=hw'
  subst eH
  cases b
  exact k _ (r.set i is) DG
def nZ:List Nat->List D->List Sl->Option (List Sl)
 | [],[],Y=>some Y
 | i::is,d::ds,Y=>nZ is ds (Y.set i (.dat d))
 | _,_,_=>none
def Uo(K:PySem.W.Frag)(C:Cl)(is:List Nat):TGs:=fun vs Z H Q=>∃e U Y ds Y',e.H=H/\Wf K C e U/\RelE K e Z Y/\IsL K e.α e.F ds vs/\nZ is ds Y=some Y' /\
 ∀Z',RelE K e Z' Y'->(∀(j:Nat) (ds:List D),Y'[j]? = some (.own ds)->Y[j]? = some (.own ds)/\Z'[j]? = Z[j]?)->Q Z' e.H
def Fo(X:Cx)(C:Cl)(ts:List Expr)(is:List Nat):Prop:=PGs X ts (Uo X.K C is)
theorem qH:Fo X C [] []:=Dz Mq fun vs Z H Q hw'=>by
 obtain⟨e,U,Y,ds,Y',eH,w,r,is,b,k⟩:=hw'
 subst eH
 cases ds with
 | nil=>cases b;exact⟨is.of_nil,k _ r fun _ _ h=>⟨h,rfl⟩⟩
 | cons=>cases b
theorem iH{i:Nat}{is:List Nat}{x:Str}{ts:List Expr}{px:Pos}(hN:X.N.Nodup)(hi:X.N[i]? = some x)(hx:Loc X.env.scope x)(h2:Fo X C ts is)(hf:X.fn x=true\/X.env.scope.names.lookup x=some .local:=by first |exact .inl rfl |exact .inr rfl |assumption)
  (hs:(assignEach (.Name x px::ts) X.env).map (·.2)=assign (.Name x px) X.env::(assignEach ts X.env).map (·.2):=by rfl):Fo X C (.Name x px::ts) (i::is):=by
 refine Dz (Ja (Dh hN hi hx hf) h2 hs) fun vs Z H Q hw'=>?_
 obtain⟨e,U,Y,ds,Y',eH,w,r,il,b,k⟩:=hw'
 subst eH
 cases ds with
 | nil=>cases b
 | cons d ds =>
  obtain⟨v,vr,rfl,i1,i2⟩:=il.of_cons
  refine⟨v,vr,rfl,?_⟩
  refine⟨e,U,_,ds,Y',rfl,w,r.set i i1,i2,b,fun Z' r' o'=>k Z' r' fun j es hj=>?_⟩
  obtain⟨z1,z2⟩:=o' j es hj
  obtain⟨y1,y2⟩:=DG (Z:=Z) (v:=v) j es z1
  exact⟨y1,z2.trans y2⟩
def jj(is:List Nat):cT:=fun d Y=>match d with
 | .tup ds=>nZ is ds Y
 | _=>none
theorem vR:∀{is:List Nat} {ds:List D} {Y Y':List Sl},nZ is ds Y=some Y'->ds.length=is.length
 | [],[],_,_,_=>rfl
 | i::is,d::ds,Y,Y',h=>by
  rw[List.length_cons,List.length_cons,vR (is:=is) (ds:=ds) h]
 | [],_::_,_,_,h=>by cases h
 | _::_,[],_,_,h=>by cases h
theorem tW{es:List Expr}{k:Nat}{is:List Nat}(hc:X.calm=true)(h:Fo X C es is)
  (hn:(assignEach es X.env).length=is.length:=by rfl) (hst:(assignEach es X.env).findIdx? (·.1)=none:=by rfl):PDG X C (.Tuple es k pos) (jj is):=by
 refine Hh (Qo hc h hn hst) fun v Z H Q hw'=>?_
 obtain⟨e,U,Y,d,Y',eH,w,r,il,b,k⟩:=hw'
 subst eH
 unfold jj at b
 cases d with
 | tup ds =>
  rw[Is] at il
  obtain⟨a,vs,rfl,e1,i1⟩:=il
  exact⟨a,vs,rfl,SqT.of (w.fh _ _ e1),by rw[<-i1.length];exact vR b,e,U,Y,ds,Y',rfl,w,r,i1,b,k⟩
 | _=>cases b
def An(β:cT)(g:Den):aU:=fun Y U=>match g Y U with
 | some (d,U')=>match β d Y with
  | some Y'=>some (.nx Y' U')
  | none=>none
 | none=>none
theorem RelS.by{K:PySem.W.Frag}{e₀ e:E4}{U:List OS}{Z Z':St}{Y Y':List Sl}(r:RelS K C e₀ e U Z Y)(r':RelE K e Z' Y')(o:∀(j:Nat) (ds:List D),Y'[j]? = some (.own ds)->Y[j]? = some (.own ds)/\Z'[j]? = Z[j]?):RelS K C e₀ e U Z' Y' :=
 ⟨r.wf,r',r.ext,fun i ds a h1 h2=>by
  obtain⟨z1,z2⟩:=o i ds h1
  rw[z2] at h2
  exact r.fresh i ds a z1 h2⟩
theorem Np{tg x:Expr}{β:cT}{g:Den}(he:PD X C x g)(hg:PDG X C tg β)(hs:swapsWithSole [tg] x pos.line X.env=pure false:=by rfl)(hw:swappedStores [tg] x X.env=pure none:=by rfl)
  (h1:(assignEach [tg] X.env).map (·.2)=[assign tg X.env]:=by rfl):PDS X C (.Assign [tg] x pos) (An β g):=by
 refine fun e₀=>cQ (Qp he hg hs hw h1) fun Dn Z H hw'=>?_
 obtain⟨e,U,Y,o,eH,r,q,k⟩:=hw'
 unfold An at q
 cases q1:g Y U with
 | none=>rw[q1] at q;cases q
 | some p1 =>
  obtain⟨d,U'⟩:=p1
  rw[q1] at q
  dsimp only at q
  cases q2:β d Y with
  | none=>rw[q2] at q;cases q
  | some Y' =>
   rw[q2] at q
   cases q
   refine⟨e,U,Y,d,U',eH,r.wf,r.rel,q1,fun v e' x' w' i'=>?_⟩
   have r':=r.to x' w'
   exact⟨e',U',Y,d,Y',rfl,w',r'.rel,i',q2,fun Z' z o'=>k e' Z' (r'.by z o')⟩
end
def Walk(K:PySem.W.Frag)(e:E4)(J:It)(ds:List D):Prop:=∀(i:Nat) (e2:E4),bK e.F e2.F->(∃more,e2.α=e.α++more)->bK e2.F e2.H ->
 (i=ds.length->J.stop i e2.H)/\∀d,ds[i]? = some d->J.go i e2.H/\∀x H',J.yld i e2.H x H'->∃e3:E4,e3.H=H'/\Is K e3.α e3.F d x/\∀(C:Cl) (U:List OS),Wf K C e2 U->Ext e2 e3/\Wf K C e3 U
theorem Walk.still{K:PySem.W.Frag}{e:E4}{J:It}{ds:List D} (h:∀(i:Nat) (e2:E4),bK e.F e2.F->(∃more,e2.α=e.α++more)->bK e2.F e2.H ->
  (i=ds.length->J.stop i e2.H)/\∀d,ds[i]? = some d->J.go i e2.H/\∀x H',J.yld i e2.H x H'->H'=e2.H/\Is K e2.α e2.F d x):Walk K e J ds:=fun i e2 h1 h2 h3=>by
 obtain⟨a,b⟩:=h i e2 h1 h2 h3
 refine⟨a,fun d hd=>⟨(b d hd).1,fun x H' hy=>?_⟩⟩
 obtain⟨z,q⟩:=(b d hd).2 x H' hy
 exact⟨e2,z.symm,q,fun C U w=>⟨Ext.refl _,w⟩⟩
def tDI(K:PySem.W.Frag)(C:Cl)(γ:bB):TI:=fun Z H R=>∃e U Y ds U',e.H=H/\Wf K C e U/\RelE K e Z Y/\γ Y U=some (ds,U')/\∀e' J,Ext e e'->Wf K C e' U'->Walk K e' J ds->R J e'.H
def PDI(X:Cx)(C:Cl)(tg iter:Expr)(γ:bB):Prop:=PI X tg iter (tDI X.K C γ)
theorem vU{X:Cx}{tg iter:Expr}{t t':TI}(h:PI X tg iter t)(i:∀Z H R,t' Z H R->t Z H R):PI X tg iter t':=fun pins s Z H R I hw=>h pins s Z H R I (i Z H R hw)
section
variable {X:Cx} {C:Cl} {tg iter:Expr} {g:Den} {ga:bB} {pos p:Pos}
def Fp:D->Option (List D)
 | .lst xs=>some xs
 | .scr ns=>some (ns.map D.int)
 | _=>none
def jk(g:Den):bB:=fun Y U=>match g Y U with
 | some (d,U')=>match Fp d with
  | some ds=>some (ds,U')
  | none=>none
 | none=>none
theorem yL{K:PySem.W.Frag}{e:E4}{a:Addr}{vs:List V}{ds:List D}(h:SqL K e.F a vs)(r:IsL K e.α e.F ds vs):Walk K e (Itl K a) ds:=by
 refine Walk.still ?_
 intro i e2 ff al fh
 have h2:SqL K e2.H a vs:=fh.seq (ff.seq h)
 refine⟨fun z=>⟨vs,h2,by rw[<-r.length];exact Nat.le_of_eq z.symm⟩,fun d hd=>?_⟩
 obtain⟨v,hv,iv⟩:=(IsL.mono ff al ds r).get hd
 exact⟨⟨vs,v,h2,hv⟩,fun x H' ⟨z1,z2⟩=>⟨z1,by
  have:=z2 vs h2
  rw[hv] at this
  cases this
  exact iv⟩⟩
theorem jY(h:PD X C iter g):PDI X C tg iter (jk g):=vU (Di h) fun Z H R hw'=>by
 obtain⟨e,U,Y,ds,U',eH,w,rl,q,k⟩:=hw'
 unfold jk at q
 cases q1:g Y U with
 | none=>rw[q1] at q;cases q
 | some p1 =>
  obtain⟨d,U1⟩:=p1
  rw[q1] at q
  dsimp only at q
  refine⟨e,U,Y,d,U1,eH,w,rl,q1,fun v e' x' w' i'=>?_⟩
  cases d with
  | lst xs =>
   cases q
   rw[Is] at i'
   obtain⟨a,vs,rfl,h1,r1⟩:=i'
   exact⟨a,rfl,⟨vs,SqL.of (w'.fh _ _ h1)⟩,k e' _ x' w' (yL (SqL.of h1) r1)⟩
  | scr ns =>
   cases q
   rw[Is] at i'
   obtain⟨a,rfl,h1⟩:=i'
   exact⟨a,rfl,⟨_,w'.fh.seq h1⟩,k e' _ x' w' (yL h1 (IsL.ints ns))⟩
  | _=>cases q
theorem Td{K:PySem.W.Frag}{H H':Hp}{a:Addr}{xs:List V}(e:bK H H')(h:SqT K H a xs):SqT K H' a xs:=by
 rcases h with (h |⟨o,h⟩) |h
 ·exact .inl (.inl (e _ _ h))
 ·exact .inl (.inr ⟨o,e _ _ h⟩)
 ·exact .inr h
def upD(lo:Int)(n:Nat):List D:=(List.range n).map fun(k:Nat)=>D.int (lo+(k:Int))
theorem vV{K:PySem.W.Frag}{e:E4}{lo:Int}{n:Nat}:Walk K e (Itr lo n) (upD lo n):=by
 refine Walk.still ?_
 intro i e2 _ _ _
 refine⟨fun z=>Nat.le_of_eq (by rw[z];simp[upD]),fun d hd=>?_⟩
 have hi:i<n:=by
  have:=(List.getElem?_eq_some_iff.mp hd).1
  simpa [upD] using this
 refine⟨hi,fun x H' ⟨z1,z2⟩=>⟨z1,?_⟩⟩
 have:d=D.int (lo+(i:Int)):=by
  simp[upD,hi] at hd
  exact hd.symm
 subst this z2
 rw[Is]
def jP:List D->Option (List D)
 | [.int j]=>grd (-(2 ^ 62)<=j/\j<2 ^ 62) (some (upD 0 j.toNat))
 | _=>none
def Ao:List D->Option (List D)
 | [.int i,.int j]=>grd (-(2 ^ 62)<=i/\i<2 ^ 62 /\ -(2 ^ 62)<=j/\j<2 ^ 62) (some (upD i (j-i).toNat))
 | _=>none
def gh(r:List D->Option (List D))(g:bB):bB:=fun Y U=>match g Y U with
 | some (ds,U')=>match r ds with
  | some es=>some (es,U')
  | none=>none
 | none=>none
theorem mZ{a:Expr}(hg:Gl X "range")(hm:X.mg "range" = none)(ha:PDA X C [a] ga)(hs:starEach [a] X.env=[(false,eval a X.env)]:=by rfl):PDI X C tg (.Call (.Name "range" p) [a] [] pos) (gh jP ga) :=
 vU (Gx hg hm ha hs) fun Z H R hw'=>by
  obtain⟨e,U,Y,ds,U',eH,w,rl,q,k⟩:=hw'
  unfold gh at q
  cases q1:ga Y U with
  | none=>rw[q1] at q;cases q
  | some p1 =>
   obtain⟨es,U1⟩:=p1
   rw[q1] at q
   dsimp only at q
   refine⟨e,U,Y,es,U1,eH,w,rl,q1,fun v e' x' w' i'=>?_⟩
   match es,q,i' with
   | [.int j],q,i' =>
    obtain⟨v,rfl,iv⟩:=lX i'
    rw[Is] at iv
    subst iv
    have ez:jP [D.int j]=grd (-(2 ^ 62)<=j/\j<2 ^ 62) (some (upD 0 j.toNat)):=rfl
    rw[ez] at q
    by_cases hb:(-(2 ^ 62)<=j/\j<2 ^ 62)
    ·rw[gD hb] at q
     cases q
     exact⟨j,rfl,hb.1,hb.2,k e' _ x' w' vV⟩
    ·have en:grd (-(2 ^ 62)<=j/\j<2 ^ 62) (some (upD 0 j.toNat))=none:=if_neg hb
     rw[en] at q
     cases q
theorem Fq{a b:Expr}(hg:Gl X "range")(hm:X.mg "range" = none)(ha:PDA X C [a,b] ga)(hs:starEach [a,b] X.env=[(false,eval a X.env),(false,eval b X.env)]:=by rfl)(hs2:starEach [b] X.env=[(false,eval b X.env)]:=by rfl):PDI X C tg (.Call (.Name "range" p) [a,b] [] pos) (gh Ao ga) :=
 vU (Gy hg hm ha hs hs2) fun Z H R hw'=>by
  obtain⟨e,U,Y,ds,U',eH,w,rl,q,k⟩:=hw'
  unfold gh at q
  cases q1:ga Y U with
  | none=>rw[q1] at q;cases q
  | some p1 =>
   obtain⟨es,U1⟩:=p1
   rw[q1] at q
   dsimp only at q
   refine⟨e,U,Y,es,U1,eH,w,rl,q1,fun v e' x' w' i'=>?_⟩
   match es,q,i' with
   | [.int i,.int j],q,i' =>
    obtain⟨v,u,rfl,iv,iu⟩:=pW i'
    rw[Is] at iv iu
    subst iv iu
    have ez:Ao [D.int i,D.int j]=grd (-(2 ^ 62)<=i/\i<2 ^ 62 /\ -(2 ^ 62)<=j/\j<2 ^ 62) (some (upD i (j-i).toNat)):=rfl
    rw[ez] at q
    by_cases hb:(-(2 ^ 62)<=i/\i<2 ^ 62 /\ -(2 ^ 62)<=j/\j<2 ^ 62)
    ·rw[gD hb] at q
     cases q
     exact⟨i,j,rfl,hb,k e' _ x' w' vV⟩
    ·have en:grd (-(2 ^ 62)<=i/\i<2 ^ 62 /\ -(2 ^ 62)<=j/\j<2 ^ 62) (some (upD i (j-i).toNat))=none:=if_neg hb
     rw[en] at q
     cases q
end
def eF(β:cT)(s:aU):List D->aU
 | [],Y,U=>some (.nx Y U)
 | d::ds,Y,U=>match β d Y with
  | some Y1=>match s Y1 U with
   | some (.nx Y' U')=>eF β s ds Y' U'
   | some (.ct Y' U')=>eF β s ds Y' U'
   | some (.bk Y' U')=>some (.nx Y' U')
   | some (.rt z U')=>some (.rt z U')
   | none=>none
  | none=>none
def n_(γ:bB)(β:cT)(s:aU):aU:=fun Y U=>match γ Y U with
 | some (ds,U')=>eF β s ds Y U'
 | none=>none
section
variable {X:Cx} {C:Cl} {tg iter c:Expr} {γ:bB} {β:cT} {s:aU} {body:List Stmt} {pos:Pos} {p:cB}
theorem vW{sts:List Stmt}(h:PDB X C sts s):PSs X sts (fun Dn Z H=>∃e₁,tDS X.K C e₁ s Dn Z H):=fun pins sh Z H Dn I ⟨e₁,hw⟩=>h e₁ pins sh Z H Dn I hw
theorem pY(hp:PassesOwn (model X.prog X.w) X.A X.env X.xe)(hc:X.calm=true)(hi:PDI X C tg iter γ)(hg:PDG X C tg β)(hb:PDB X C body s)
  (hs:∀x,foldedSetIterable iter X.env x=pure x:=by intro _;rfl):PDS X C (.For tg iter body [] pos) (n_ γ β s):=by
 refine fun e₀=>cQ (z_ hp hc hi hg (vW hb) hs) fun Dn Z H hw'=>?_
 obtain⟨e,U,Y,o,eH,r,q,k⟩:=hw'
 unfold n_ at q
 cases q1:γ Y U with
 | none=>rw[q1] at q;cases q
 | some p1 =>
  obtain⟨ds,U'⟩:=p1
  rw[q1] at q
  dsimp only at q
  refine⟨e,U,Y,ds,U',eH,r.wf,r.rel,q1,fun e' J x' w' wk=>?_⟩
  refine⟨fun i m Z H=>m=ds.length-i/\i<=ds.length/\∃e2 U2 Y2,e2.H=H/\RelS X.K C e₀ e2 U2 Z Y2/\bK e'.F e2.F/\(∃more,e2.α=e'.α++more)/\eF β s (ds.drop i) Y2 U2=some o,⟨ds.length,by simp,Nat.zero_le _,e',U',Y,rfl,r.to x' w',bK.refl _,⟨[],by simp⟩,by simpa using q⟩,?_⟩
  rintro i m Z2 H2 ⟨rfl,hil,e2,U2,Y2,rfl,r2,ff,al,q2⟩
  obtain⟨stop,go⟩:=wk i e2 ff al r2.wf.fh
  by_cases hlt:i<ds.length
  ·have hd:ds[i]? = some ds[i]:=List.getElem?_eq_getElem hlt
   obtain⟨g1,y1⟩:=go _ hd
   have edrop:ds.drop i=ds[i]::ds.drop (i+1):=List.drop_eq_getElem_cons hlt
   rw[edrop] at q2
   refine .inr ⟨g1,fun Z' H'=>∃e3 U3 Y3,e3.H=H'/\RelS X.K C e₀ e3 U3 Z' Y3/\bK e'.F e3.F/\(∃more,e3.α=e'.α++more)/\eF β s (ds.drop (i+1)) Y3 U3=some o,fun Z' H' hN=>⟨ds.length-(i+1),by omega,rfl,hlt,hN⟩,fun x H' hy=>?_⟩
   obtain⟨e2',rfl,ix,up⟩:=y1 x H' hy
   obtain⟨x2',w2'⟩:=up C U2 r2.wf
   replace r2:=r2.to x2' w2'
   replace ff:=ff.trans x2'.ff
   replace al:∃more,e2'.α=e'.α++more:=by
    obtain⟨m1,z1⟩:=al
    obtain⟨m2,z2⟩:=x2'.al
    exact⟨m1++m2,by rw[z2,z1,List.append_assoc]⟩
   clear y1 g1 stop go
   revert r2 ff al ix
   generalize e2'=e2
   intro ix r2 ff al
   unfold eF at q2
   cases q3:β ds[i] Y2 with
   | none=>rw[q3] at q2;cases q2
   | some Y3 =>
    rw[q3] at q2
    dsimp only at q2
    refine⟨e2,U2,Y2,_,Y3,rfl,r2.wf,r2.rel,ix,q3,fun Z3 r3 o3=>?_⟩
    have r3':=r2.by r3 o3
    obtain⟨e₁,hF,hα,r4,toE,toN,_⟩:=r3'.mark
    cases q4:s Y3 U2 with
    | none=>rw[q4] at q2;cases q2
    | some o4 =>
     rw[q4] at q2
     refine⟨e₁,e2,U2,Y3,o4,rfl,r4,q4,?_⟩
     have back:∀{e5:E4} {U5:List OS} {Z5:St} {Y5:List Sl},RelS X.K C e₁ e5 U5 Z5 Y5->RelS X.K C e₀ e5 U5 Z5 Y5/\bK e'.F e5.F/\∃more,e5.α=e'.α++more:=fun {e5 U5 Z5 Y5} r5=>by
      refine⟨⟨r5.wf,r5.rel,toE _ r5.ext,fun i ds a h1 h2=>toN _ (r5.fresh i ds a h1 h2)⟩,ff.trans (hF ▸ r5.ext.ff),?_⟩
      obtain⟨m1,z1⟩:=al
      obtain⟨m2,z2⟩:=r5.ext.al
      exact⟨m1++m2,by rw[z2,hα,z1,List.append_assoc]⟩
     cases o4 with
     | nx Y5 U5=>exact fun e5 Z5 r5=>⟨e5,U5,Y5,rfl,(back r5).1,(back r5).2.1,(back r5).2.2,q2⟩
     | ct Y5 U5=>exact fun e5 Z5 r5=>⟨e5,U5,Y5,rfl,(back r5).1,(back r5).2.1,(back r5).2.2,q2⟩
     | bk Y5 U5=>cases q2;exact fun e5 Z5 r5=>k e5 Z5 (back r5).1
     | rt z U5=>cases q2;exact fun e5 v5 x5 w5 i5=>k e5 v5 (toE _ x5) w5 i5
  ·have ei:i=ds.length:=by omega
   subst ei
   rw[List.drop_length] at q2
   cases q2
   exact .inl ⟨stop rfl,k e2 Z2 r2⟩
def jr(p:cB)(s:aU):Nat->aU
 | 0,_,_=>none
 | n+1,Y,U=>match p Y U with
  | some (true,U1)=>match s Y U1 with
   | some (.nx Y' U')=>jr p s n Y' U'
   | some (.ct Y' U')=>jr p s n Y' U'
   | some (.bk Y' U')=>some (.nx Y' U')
   | some (.rt z U')=>some (.rt z U')
   | none=>none
  | some (false,U1)=>some (.nx Y U1)
  | none=>none
theorem Hi(fuel:Nat)(hp:PassesOwn (model X.prog X.w) X.A X.env X.xe)(hc:PDT X C c p)(hb:PDB X C body s):PDS X C (.While c body [] pos) (jr p s fuel):=by
 refine fun e₀=>cQ (Jb hp hc (vW hb)) fun Dn Z H hw'=>?_
 obtain⟨e,U,Y,o,eH,r,q,k⟩:=hw'
 refine⟨fun m Z H=>∃e2 U2 Y2,e2.H=H/\RelS X.K C e₀ e2 U2 Z Y2/\jr p s m Y2 U2=some o,⟨fuel,e,U,Y,eH,r,q⟩,?_⟩
 rintro m Z2 H2 ⟨e2,U2,Y2,rfl,r2,q2⟩
 cases m with
 | zero=>cases q2
 | succ m =>
  unfold jr at q2
  cases q3:p Y2 U2 with
  | none=>rw[q3] at q2;cases q2
  | some p3 =>
   obtain⟨b,U3⟩:=p3
   rw[q3] at q2
   refine⟨e2,U2,Y2,b,U3,rfl,r2.wf,r2.rel,q3,fun e3 x3 w3=>?_⟩
   have r3:=r2.to x3 w3
   cases b with
   | false =>
    refine Jy ?_
    cases q2
    exact k e3 Z2 r3
   | true =>
    refine Jz ?_
    dsimp only at q2
    refine⟨fun Z' H'=>∃e5 U5 Y5,e5.H=H'/\RelS X.K C e₀ e5 U5 Z' Y5/\jr p s m Y5 U5=some o,fun Z' H' hN=>⟨m,Nat.lt_succ_self m,hN⟩,e₀,?_⟩
    cases q4:s Y2 U3 with
    | none=>rw[q4] at q2;cases q2
    | some o4 =>
     rw[q4] at q2
     refine⟨e3,U3,Y2,o4,rfl,r3,q4,?_⟩
     cases o4 with
     | nx Y5 U5=>exact fun e5 Z5 r5=>⟨e5,U5,Y5,rfl,r5,q2⟩
     | ct Y5 U5=>exact fun e5 Z5 r5=>⟨e5,U5,Y5,rfl,r5,q2⟩
     | bk Y5 U5=>cases q2;exact fun e5 Z5 r5=>k e5 Z5 r5
     | rt z U5=>cases q2;exact k
end
end DL
namespace DL
open PySem PySem.Spec PyProof.Rows L2
abbrev bw:=List D->List OS->Option (D×List OS)
def spD(K:PySem.W.Frag)(C:Cl)(f:bw):Sp:=fun vs H Q _=>∃e U ds d U',e.H=H/\Wf K C e U/\IsL K e.α e.F ds vs/\f ds U=some (d,U')/\∀v e',Ext e e'->Wf K C e' U'->Is K e'.α e'.F d v->Q v e'.H
def bQ(n m:Nat)(s:aU):bw:=fun ds U=>if ds.length=n then match s (ds.map Sl.dat++List.replicate (m-n) Sl.und) U with
  | some (.rt d U')=>some (d,U')
  | some (.nx _ U')=>some (.non,U')
  | _=>none
 else none
theorem o_{K:PySem.W.Frag}{C:Cl}{e:E4}{U:List OS}{N:List Str}{ds:List D}{vs:List V}(w:Wf K C e U)(i:IsL K e.α e.F ds vs):RelS K C e e U (L2.start N vs) (ds.map Sl.dat++List.replicate (N.length-ds.length) Sl.und):=by
 have noown:∀(j:Nat) (es:List D),(ds.map Sl.dat++List.replicate (N.length-ds.length) Sl.und)[j]? ≠ some (.own es):=fun j es h=>by
  by_cases hj:j<ds.length
  ·rw[List.getElem?_append_left (by simpa using hj),List.getElem?_map] at h
   cases q:ds[j]? with
   | none=>rw[q] at h;cases h
   | some d=>rw[q] at h;cases h
  ·rw[List.getElem?_append_right (by simpa using hj),List.getElem?_replicate] at h
   split at h<;>cases h
 refine⟨w,⟨?_,fun j d h=>?_,fun j es h=>absurd h (noown j es),fun j k es fs a h=>absurd h (noown j es)⟩,Ext.refl e,fun j es a h=>absurd h (noown j es)⟩
 ·unfold L2.start
  simp[i.length]
 ·by_cases hj:j<ds.length
  ·rw[List.getElem?_append_left (by simpa using hj),List.getElem?_map] at h
   cases q:ds[j]? with
   | none=>rw[q] at h;cases h
   | some d' =>
    rw[q] at h
    cases h
    obtain⟨v,hv,iv⟩:=i.get q
    refine⟨v,?_,iv⟩
    unfold L2.start
    rw[List.getElem?_append_left (by simpa [<-i.length] using hj),List.getElem?_map,hv]
    rfl
  ·rw[List.getElem?_append_right (by simpa using hj),List.getElem?_replicate] at h
   split at h<;>cases h
theorem Rf{P:Program}{w:World}{K:PySem.W.Frag}{mg:Str->Option Value}{base:Heap}{C:Cl}{x qual:Str}{st:Stmt}{f:Addr}{fd:FuncData}{N ps:List Str}{k n m:Nat}{s:aU}(F:Fun K x qual st f fd)(S:FnScope N ps (au st))(hn:ps.length=n)(hm:N.length=m)
  (hbody:∀(cdv:Value) (A:Around) (outer:List Env) (sh:Shared) (H:Hp) (E:XK),Room k (A.deeper (envOfC qual (au st) sh.heap.objs.size f cdv)) ->
   PDB (bG CX0 P w K mg base N qual (au st) f cdv A outer sh H E).nox C (aW st) s):FnOk P w K mg base CX0 (k+1) f fd ps (spD K C (bQ n m s)):=by
 refine F.ok S (fun vs H Q E h=>?_) (fun cdv A outer sh H vs Q E hr h=>?_)
 ·obtain⟨e,U,ds,d,U',_,_,i,q,_⟩:=h
  unfold bQ at q
  by_cases hl:ds.length=n
  ·rw[<-i.length,hl,hn]
  ·rw[if_neg hl] at q;cases q
 ·obtain⟨e,U,ds,d,U',eH,wf,i,q,kk⟩:=h
  unfold bQ at q
  by_cases hl:ds.length=n
  ·rw[if_pos hl] at q
   cases q1:s (ds.map Sl.dat++List.replicate (m-n) Sl.und) U with
   | none=>rw[q1] at q;cases q
   | some o =>
    rw[q1] at q
    refine⟨_,hbody cdv A outer sh H E hr e,e,U,_,o,eH,o_ wf i,by rw[hl,hm];exact q1,?_⟩
    cases o with
    | rt d' U2=>cases q;exact fun e' v x' w' i'=>kk v e' x' w' i'
    | nx Y' U2=>cases q;exact fun e' Z' r'=>kk .non e' r'.ext r'.wf (by rw[Is])
    | bk Y' U2=>cases q
    | ct Y' U2=>cases q
  ·rw[if_neg hl] at q;cases q
def aJ(f:bw)(g:bB):Den:=fun Y U=>match g Y U with
 | some (ds,U1)=>f ds U1
 | none=>none
section
variable {X:Cx} {C:Cl} {k:Nat} {f:Addr} {fd:FuncData} {ps:List Str} {F:bw} {n:Str} {p pos:Pos} {x:Expr} {es:List Expr} {ga:bB}
theorem Hj{K:PySem.W.Frag}{Z:St}{H:Hp}{Q:VK}{E:XK}(hw:tD K C (aJ F ga) Z H Q):Fe (spD K C F) [] E (tDA K C ga) Z H Q:=by
 obtain⟨e,U,Y,d,U',eH,w,rl,q,kk⟩:=hw
 unfold aJ at q
 cases q1:ga Y U with
 | none=>rw[q1] at q;cases q
 | some p1 =>
  obtain⟨ds,U1⟩:=p1
  rw[q1] at q
  refine⟨e,U,Y,ds,U1,eH,w,rl,q1,fun vs e' x' w' i'=>?_⟩
  show spD K C F (vs++[]) e'.H Q E
  rw[List.append_nil]
  exact⟨e',U1,ds,d,U',rfl,w',i',q,fun v e'' x'' w'' i''=>kk v e'' (x'.trans x'') w'' i''⟩
theorem Nq(G:FnOk X.prog X.w X.K X.mg X.base CX0 k f fd ps (spD X.K C F))(hr:Room k X.A)(hg:Gl X n)(hm:X.mg n=some (.ref f))(hk:PySem.W.keepIn X.K (.ref f)=true)(hb:Binds X.K fd ps [])
  (ha:PDA X C (x::es) ga) (hdb:(n==("__debug__":Str))=false:=by decide) (he:starEach (x::es) X.env=(false,eval x X.env)::starEach es X.env:=by rfl) (hpl:(backTo pos (starEach es X.env)).any (·.1)=false:=by rfl) :
  PD X C (.Call (.Name n p) (x::es) [] pos) (aJ F ga) :=
 bx (Mw G hr hg hm hk hb .nil vK ha hdb he hpl) fun _ _ _ hw=>Hj hw
end
def xP(X:Cx)(C:Cl)(ifs:List Expr)(p:cB):Prop:=PTs X ifs (tDT X.K C p)
def cN:cB:=fun _ U=>some (true,U)
theorem gW{X:Cx}{C:Cl}:xP X C [] cN:=fun pins s Z H Q I hw'=>by
 obtain⟨e,U,Y,b,U',eH,w,rl,q,k⟩:=hw'
 subst eH
 cases q
 exact Nf pins s Z _ Q I (k e (Ext.refl e) w)
def gw(β:cT)(p:cB)(g:Den):List D->List Sl->List OS->Option (List D×List OS)
 | [],_,U=>some ([],U)
 | d::ds,Y,U=>match β d Y with
  | some Y1=>match p Y1 U with
   | some (true,U1)=>match g Y1 U1 with
    | some (y,U2)=>match gw β p g ds Y1 U2 with
     | some (ys,U3)=>some (y::ys,U3)
     | none=>none
    | none=>none
   | some (false,U1)=>gw β p g ds Y1 U1
   | none=>none
  | none=>none
def cU(μ:List (Option Nat))(Y:List Sl):List Sl:=μ.map fun o=>match o with
 | none=>Sl.und
 | some j=>match Y[j]? with
  | some (.dat d)=>.dat d
  | _=>.und
def dF(μ:List (Option Nat))(γ:bB)(β:cT)(p:cB)(g:Den):Den:=fun Y U=>match γ Y U with
 | some (ds,U1)=>if ds.length<=big then match gw β p g ds (cU μ Y) U1 with
   | some (ys,U2)=>some (.lst ys,U2)
   | none=>none
  else none
 | none=>none
section
variable {K:PySem.W.Frag} {C:Cl} {e:E4} {Z:St} {Y:List Sl} {μ:List (Option Nat)}
theorem Hk{j:Nat}{d:D}(h:(cU μ Y)[j]? = some (.dat d)):∃i,μ[j]? = some (some i)/\Y[i]? = some (.dat d):=by
 unfold cU at h
 rw[List.getElem?_map] at h
 cases q:μ[j]? with
 | none=>rw[q] at h;cases h
 | some o =>
  rw[q] at h
  cases o with
  | none=>cases h
  | some i =>
   cases q2:Y[i]? with
   | none=>simp[q2] at h
   | some sl =>
    cases sl with
    | dat d'=>simp[q2] at h;subst h;exact⟨i,rfl,q2⟩
    | und=>simp[q2] at h
    | own _=>simp[q2] at h
theorem kj{j:Nat}{ds:List D}:(cU μ Y)[j]? ≠ some (.own ds):=fun h=>by
 unfold cU at h
 rw[List.getElem?_map] at h
 cases q:μ[j]? with
 | none=>rw[q] at h;cases h
 | some o =>
  rw[q] at h
  cases o with
  | none=>cases h
  | some i =>
   cases q2:Y[i]? with
   | none=>simp[q2] at h
   | some sl=>cases sl<;>simp[q2] at h
theorem yM(r:RelE K e Z Y):RelE K e (inner μ Z) (cU μ Y):=by
 refine⟨by simp[inner,cU],fun j d h=>?_,fun j ds h=>absurd h kj,fun j k ds es a h=>absurd h kj⟩
 obtain⟨i,h1,h2⟩:=Hk h
 obtain⟨v,e1,iv⟩:=r.dat i d h2
 refine⟨v,?_,iv⟩
 unfold inner
 rw[List.getElem?_map,h1]
 show some ((Z[i]?).join)=_
 rw[e1]
 rfl
end
section
variable {K:PySem.W.Frag} {C:Cl} {γ:bB} {β:cT} {p:cB} {g:Den} {μ:List (Option Nat)}
structure CI(K:PySem.W.Frag)(C:Cl)(β:cT)(p:cB)(g:Den)(ds:List D)(a:Addr)(ysAll:List D)(Uf:List OS)(e':E4)(i:Nat)(Z':St)(e2:E4)(U2:List OS)(Y2:List Sl)(vs:List V)(ys0 ys1:List D):Prop where
 w:Wf K C e2 U2
 r:RelE K e2 Z' Y2
 no:∀(j:Nat) (es:List D),Y2[j]? ≠ some (.own es)
 ha:e2.H a=some (.lst vs)
 hF:e2.F a=none
 hA:¬e2.A a
 iy:IsL K e2.α e2.F ys0 vs
 x:Ext e' e2
 q:gw β p g (ds.drop i) Y2 U2=some (ys1,Uf)
 ey:ys0++ys1=ysAll
 hy:ys0.length<=i
def Rg(K:PySem.W.Frag)(C:Cl)(β:cT)(p:cB)(g:Den)(ds:List D)(a:Addr)(ysAll:List D)(Uf:List OS)(e':E4)(i:Nat)(Z':St)(H':Hp):Prop :=
 ∃e2 U2 Y2 vs ys0 ys1,e2.H=H'/\CI K C β p g ds a ysAll Uf e' i Z' e2 U2 Y2 vs ys0 ys1
theorem JH{Z:St}{H:Hp}{Q:VK}{e:E4}{U U1 Uf:List OS}{Y:List Sl}{ds ysAll:List D}(eH:e.H=H)(w:Wf K C e U)(rl:RelE K e Z Y)(q1:γ Y U=some (ds,U1))(hbig:ds.length<=big)(q2:gw β p g ds (cU μ Y) U1=some (ysAll,Uf))
  (fin:∀a vs e2,Ext e e2->Wf K C e2 Uf->e2.H a=some (.lst vs)->e2.F a=none->¬e2.A a->e.H a=none->IsL K e2.α e2.F ysAll vs->Q (.ref a) e2.H):vO μ (tDI K C γ) (tDG K C β) (tDT K C p) (tD K C g) Z H Q:=by
 refine⟨e,U,Y,ds,U1,eH,w,rl,q1,fun e' J x' w' wk a ha=>?_⟩
 refine⟨fun i m Z' H'=>m=ds.length-i/\i<=ds.length/\Rg K C β p g ds a ysAll Uf e' i Z' H',⟨ds.length,by simp,Nat.zero_le _,⟨e'.α,e'.F,e'.A,upd e'.H a (.lst [])⟩,U1,cU μ Y,[],[],ysAll,rfl,⟨?_,?_,fun j es=>kj,aM,w'.nF ha,fun z=>(w'.ah a z).1 ha,.nil,?_,by simpa using q2,rfl,Nat.zero_le _⟩⟩,?_⟩
 ·refine⟨fun b u hb=>?_,w'.fa,fun b hb=>?_,w'.ol,w'.nd,fun n b u h1 h2=>⟨(w'.ob n b u h1 h2).1,(w'.ob n b u h1 h2).2.keep (fun z hz=>?_) (bK.refl _) ⟨[],by simp⟩⟩⟩
  ·show upd e'.H a _ b=some u
   rw[aD (aP (w'.fh b u hb) ha)];exact w'.fh b u hb
  ·show upd e'.H a _ b≠none/\∀xs,upd e'.H a _ b≠some (.tup xs)
   rw[aD (fun z=>(w'.ah b hb).1 (by rw[z];exact ha))];exact w'.ah b hb
  ·show upd e'.H a _ b=some z
   rw[aD (aP hz ha)];exact hz
 ·have r1:=yM (μ:=μ) (rl.ext x')
  exact⟨r1.len,r1.dat,fun j es h=>absurd h kj,r1.sep⟩
 ·refine⟨fun b o' u hb=>by show upd e'.H a _ b=some (.frz o' u);rw[aD (aP hb ha)];exact hb,fun b u hb _=>?_,fun b u hb=>⟨u,?_⟩,bK.refl _,fun b u hb=>.inl hb,fun b hb=>.inl hb,fun b hb=>hb,[],by simp⟩
  ·show upd e'.H a _ b=some u
   rw[aD (aP hb ha)];exact hb
  ·show upd e'.H a _ b=some u
   rw[aD (aP hb ha)];exact hb
 ·rintro i m Z2 H2 ⟨rfl,hil,e2,U2,Y2,vs,ys0,ys1,rfl,⟨w2,r2,no2,ha2,hF2,hA2,iy,x2,q3,ey,hy⟩⟩
  obtain⟨stop,go⟩:=wk i e2 x2.ff x2.al w2.fh
  by_cases hlt:i<ds.length
  ·have hd:ds[i]? = some ds[i]:=List.getElem?_eq_getElem hlt
   obtain⟨g1,y1⟩:=go _ hd
   have edrop:ds.drop i=ds[i]::ds.drop (i+1):=List.drop_eq_getElem_cons hlt
   rw[edrop] at q3
   refine .inr ⟨g1,fun Z' H'=>i+1<=ds.length/\Rg K C β p g ds a ysAll Uf e' (i+1) Z' H',fun Z' H' hN=>⟨ds.length-(i+1),by omega,rfl,hN⟩,fun x H' hyl=>?_⟩
   obtain⟨e2',rfl,ix,up⟩:=y1 x H' hyl
   obtain⟨xx,ww⟩:=up C U2 w2
   obtain⟨hh',hf',ha'⟩:=xx.keepOwn ha2 hF2 hA2
   replace r2:=r2.ext xx
   replace iy:=iy.ext xx
   replace x2:=x2.trans xx
   clear y1 g1 stop go w2 ha2 hF2 hA2
   revert r2 iy x2 ww hh' hf' ha' ix
   generalize e2'=e2
   intro ix w2 ha2 hF2 hA2 r2 iy x2
   unfold gw at q3
   cases q4:β ds[i] Y2 with
   | none=>rw[q4] at q3;cases q3
   | some Y3 =>
    rw[q4] at q3
    dsimp only at q3
    refine⟨e2,U2,Y2,_,Y3,rfl,w2,r2,ix,q4,fun Z3 r3 o3=>?_⟩
    have no3:∀(j:Nat) (es:List D),Y3[j]? ≠ some (.own es):=fun j es h=>no2 j es (o3 j es h).1
    cases q5:p Y3 U2 with
    | none=>rw[q5] at q3;cases q3
    | some p5 =>
     obtain⟨b,U3⟩:=p5
     rw[q5] at q3
     refine⟨e2,U2,Y3,b,U3,rfl,w2,r3,q5,fun e3 x3 w3=>?_⟩
     cases b with
     | false =>
      refine Jy ?_
      obtain⟨z1,z2,z3⟩:=x3.keepOwn ha2 hF2 hA2
      exact⟨hlt,e3,U3,Y3,vs,ys0,ys1,rfl,⟨w3,r3.ext x3,no3,z1,z2,z3,iy.ext x3,x2.trans x3,q3,ey,Nat.le_succ_of_le hy⟩⟩
     | true =>
      refine Jz ?_
      dsimp only at q3
      cases q6:g Y3 U3 with
      | none=>rw[q6] at q3;cases q3
      | some p6 =>
       obtain⟨y,U4⟩:=p6
       rw[q6] at q3
       dsimp only at q3
       cases q7:gw β p g (ds.drop (i+1)) Y3 U4 with
       | none=>rw[q7] at q3;cases q3
       | some p7 =>
        obtain⟨ys2,U5⟩:=p7
        rw[q7] at q3
        cases q3
        refine⟨e3,U3,Y3,y,U4,rfl,w3,r3.ext x3,q6,fun v e4 x4 w4 i4=>?_⟩
        obtain⟨z1,z2,z3⟩:=(x3.trans x4).keepOwn ha2 hF2 hA2
        have x24:=x3.trans x4
        refine⟨vs,z1,by rw[<-iy.length];exact pQ (by omega),hlt,⟨e4.α,e4.F,e4.A,upd e4.H a (.lst (vs++[v]))⟩,U4,Y3,_,ys0++[y],ys2,rfl,⟨⟨fun b u hb=>?_,w4.fa,fun b hb=>?_,w4.ol,w4.nd,fun n b u h1 h2=>⟨(w4.ob n b u h1 h2).1,(w4.ob n b u h1 h2).2.keep (fun z hz=>?_) (bK.refl _) ⟨[],by simp⟩⟩⟩,
         ⟨((r3.ext x3).ext x4).len,((r3.ext x3).ext x4).dat,fun j es h=>absurd h (no3 j es),((r3.ext x3).ext x4).sep⟩,no3,aM,z2,z3,(iy.ext x24).append (.cons i4 .nil),⟨fun b o' u hb=>by show upd e4.H a _ b=some (.frz o' u);rw[aD (aP hb ha)];exact(x2.trans x24).fz b o' u hb,fun b u hb hn=>?_,fun b u hb=>?_,(x2.trans x24).ff,(x2.trans x24).fn,(x2.trans x24).an,(x2.trans x24).aa,(x2.trans x24).al⟩,q7,by rw[<-ey];simp,by simp;omega⟩⟩
        ·show upd e4.H a _ b=some u
         rw[aD (fun z=>by subst z;rw[z2] at hb;cases hb)];exact w4.fh b u hb
        ·show upd e4.H a _ b≠none/\∀xs,upd e4.H a _ b≠some (.tup xs)
         rw[aD (fun z=>z3 (by rw[<-z];exact hb))];exact w4.ah b hb
        ·show upd e4.H a _ b=some z
         rw[aD (fun y=>z3 (by rw[<-y];exact(w4.ob n b u h1 h2).1))];exact hz
        ·show upd e4.H a _ b=some u
         rw[aD (aP hb ha)];exact(x2.trans x24).hk b u hb hn
        ·obtain⟨u',z⟩:=(x2.trans x24).dm b u hb
         exact⟨u',by show upd e4.H a _ b=some u';rw[aD (aP hb ha)];exact z⟩
  ·have ei:i=ds.length:=by omega
   subst ei
   rw[List.drop_length] at q3
   cases q3
   rw[List.append_nil] at ey
   subst ey
   refine .inl ⟨stop rfl,?_⟩
   exact fin a vs e2 (x'.trans x2) w2 ha2 hF2 hA2 (x'.back ha) iy
theorem yN{Z:St}{H:Hp}{Q:VK}(hw:tD K C (dF μ γ β p g) Z H Q):vO μ (tDI K C γ) (tDG K C β) (tDT K C p) (tD K C g) Z H Q:=by
 obtain⟨e,U,Y,d,Uf,eH,w,rl,q,kk⟩:=hw
 unfold dF at q
 cases q1:γ Y U with
 | none=>rw[q1] at q;cases q
 | some p1 =>
  obtain⟨ds,U1⟩:=p1
  rw[q1] at q
  dsimp only at q
  split at q
  ·rename_i hbig
   cases q2:gw β p g ds (cU μ Y) U1 with
   | none=>rw[q2] at q;cases q
   | some p2 =>
    obtain⟨ysAll,U2⟩:=p2
    rw[q2] at q
    cases q
    refine JH eH w rl q1 hbig q2 fun a vs e2 x2 w2 ha2 hF2 hA2 ha iy=>?_
    have ff:bK e2.F (upd e2.F a (.lst vs)):=fun b o hb=>by rw[aD (aP hb hF2)];exact hb
    refine kk (.ref a) ⟨e2.α,upd e2.F a (.lst vs),e2.A,e2.H⟩ ⟨x2.fz,x2.hk,x2.dm,x2.ff.trans ff,fun b u hb=>?_,x2.an,x2.aa,x2.al⟩ ⟨fun b u hb=>?_,fun b hb=>?_,w2.ah,w2.ol,w2.nd,fun n b u h1 h2=>⟨(w2.ob n b u h1 h2).1,(w2.ob n b u h1 h2).2.keep (fun z hz=>hz) ff ⟨[],by simp⟩⟩⟩ ?_
    ·have hb:upd e2.F a (.lst vs) b=some u:=hb
     by_cases hba:b=a
     ·subst hba;exact .inr (.inl ha)
     ·rw[aD hba] at hb;exact x2.fn b u hb
    ·have hb:upd e2.F a (.lst vs) b=some u:=hb
     by_cases hba:b=a
     ·subst hba;rw[aM] at hb;cases hb;exact ha2
     ·rw[aD hba] at hb;exact w2.fh b u hb
    ·show upd e2.F a _ b=none
     rw[aD (fun z=>hA2 (by rw[<-z];exact hb))];exact w2.fa b hb
    ·rw[Is]
     exact⟨a,vs,rfl,aM,IsL.mono ff ⟨[],by simp⟩ _ iy⟩
  ·cases q
end
section
variable {X:Cx} {C:Cl} {tg iter elt:Expr} {ifs:List Expr} {scope:Scope} {pos:Pos} {N:List Str} {μ:List (Option Nat)} {γ:bB} {β:cT} {p:cB} {g:Den}
theorem Nr(hc:X.calm=true)(hcell:∀y∈scope.names,y.2 ≠ .cell)(hkind:scope.kind=.function)(hnames:∀y∈scope.names,y.2=.local->scope.names.lookup y.1=some .local)
  (hfree:∀y∈scope.names,y.2=.free->X.env.kindOf y.1=some .cell\/X.env.kindOf y.1=some .free)
  (hhas:∀x,((relabel scope X.env).names.lookup x=some .cell\/(relabel scope X.env).names.lookup x=some .free)->(x,NameKind.free)∈scope.names)
  (hμ:mR X.N X.env.scope N (relabel scope X.env) μ=true) (hi:PDI X C tg iter γ)
  (hg:∀fp A s H,PDG (bO X N scope (clos X.env.cells scope.names []) A fp s H) C tg β) (ht:∀fp A s H,xP (bO X N scope (clos X.env.cells scope.names []) A fp s H) C ifs p) (he:∀fp A s H,PD (bO X N scope (clos X.env.cells scope.names []) A fp s H) C elt g)
  (hs:∀x,foldedSetIterable iter X.env x=pure x:=by intro _;rfl):PD X C (.ListComp elt [⟨tg,iter,ifs,0⟩] scope pos) (dF μ γ β p g) :=
 bx (Ds (g:=tDG X.K C β) (tt:=tDT X.K C p) (te:=tD X.K C g) hc hcell hkind hnames hfree hhas hμ hi hg ht he hs) fun _ _ _ hw=>yN hw
theorem JL{i:Nat}{y:Str}{py spos:Pos}(hN:X.N.Nodup)(hiN:X.N[i]? = some y)(hx:Loc X.env.scope y)(hc:X.calm=true)(hcell:∀y∈scope.names,y.2 ≠ .cell)(hkind:scope.kind=.function)(hnames:∀y∈scope.names,y.2=.local->scope.names.lookup y.1=some .local)
  (hfree:∀y∈scope.names,y.2=.free->X.env.kindOf y.1=some .cell\/X.env.kindOf y.1=some .free)
  (hhas:∀x,((relabel scope X.env).names.lookup x=some .cell\/(relabel scope X.env).names.lookup x=some .free)->(x,NameKind.free)∈scope.names)
  (hμ:mR X.N X.env.scope N (relabel scope X.env) μ=true) (hi:PDI X C tg iter γ)
  (hg:∀fp A s H,PDG (bO X N scope (clos X.env.cells scope.names []) A fp s H) C tg β) (ht:∀fp A s H,xP (bO X N scope (clos X.env.cells scope.names []) A fp s H) C ifs p) (he:∀fp A s H,PD (bO X N scope (clos X.env.cells scope.names []) A fp s H) C elt g)
  (hsw:swapsWith (.ListComp elt [⟨tg,iter,ifs,0⟩] scope pos) (some (.Name y py)) spos.line X.env=pure true:=by rfl)
  (hf:X.fn y=true\/X.env.scope.names.lookup y=some .local:=by first |exact .inl rfl |exact .inr rfl |assumption)
  (hs:∀x,foldedSetIterable iter X.env x=pure x:=by intro _;rfl):PDS X C (.Assign [.Name y py] (.ListComp elt [⟨tg,iter,ifs,0⟩] scope pos) spos) (bD i (dF μ γ β p g)):=fun e₀ =>
 cQ (Ng (g:=tDG X.K C β) (tt:=tDT X.K C p) (te:=tD X.K C g) hN hiN hx hc hcell hkind hnames hfree hhas hμ hi hg ht he hsw hf hs) fun Dn Z H hw=>by
  obtain⟨e,U,Y,o,eH,r,q,k⟩:=hw
  have h2:zX (tD X.K C (dF μ γ β p g)) (vD i) Dn Z H:=Am ⟨e,U,Y,o,eH,r,q,k⟩
  exact yN h2
end
end DL
namespace DL
open PySem PySem.Spec PyProof.Rows L2
structure Fn(P:Program)(w:World)(K:PySem.W.Frag)(mg:Str->Option Value)(base:Heap)(C:Cl)(k:Nat)(n:Str)(F:bw):Prop where
 ex:∃f fd ps,mg n=some (.ref f)/\PySem.W.keepIn K (.ref f)=true/\Binds K fd ps []/\FnOk P w K mg base CX0 k f fd ps (spD K C F)
structure TF(K:PySem.W.Frag)(mg:Str->Option Value)(n:Str)(st:Stmt):Prop where
 ex:∃f fd,mg n=some (.ref f)/\Fun K n n st f fd
theorem fP{P:Program}{w:World}{K:PySem.W.Frag}{mg:Str->Option Value}{base:Heap}{C:Cl}{x:Str}{st:Stmt}{N ps:List Str}{k n m:Nat}{s:aU}(T:TF K mg x st)(S:FnScope N ps (au st))(hn:ps.length=n)(hm:N.length=m)
  (hb:∀(kV doc pm:Value) (an:Option Addr) (cdv ct:Value) (us:List Value),us.length=ps.length->bindArgs (PySem.W.fnOf x x (aY st) (aW st) (au st) .none kV doc pm an cdv ct) ⟨us,[]⟩=pure (ps.zip us))
  (hbody:∀(f:Addr) (cdv:Value) (A:Around) (outer:List Env) (sh:Shared) (H:Hp) (E:XK),Room k (A.deeper (envOfC x (au st) sh.heap.objs.size f cdv)) ->
   PDB (bG CX0 P w K mg base N x (au st) f cdv A outer sh H E).nox C (aW st) s):Fn P w K mg base C (k+1) x (bQ n m s):=by
 obtain⟨f,fd,hm',F⟩:=T.ex
 exact⟨f,fd,ps,hm',F.kp,F.binds hb,Rf F S hn hm (hbody f)⟩
section
variable {X:Cx} {C:Cl} {k:Nat} {F:bw} {n:Str} {p pos:Pos} {x:Expr} {es:List Expr} {ga:bB}
theorem aO(G:Fn X.prog X.w X.K X.mg X.base C k n F)(hr:Room k X.A)(hg:Gl X n)
  (ha:PDA X C (x::es) ga) (hdb:(n==("__debug__":Str))=false:=by decide) (he:starEach (x::es) X.env=(false,eval x X.env)::starEach es X.env:=by rfl) (hpl:(backTo pos (starEach es X.env)).any (·.1)=false:=by rfl) :
  PD X C (.Call (.Name n p) (x::es) [] pos) (aJ F ga):=by
 obtain⟨f,fd,ps,hm,hk,hb,ok⟩:=G.ex
 exact Nq ok hr hg hm hk hb ha hdb he hpl
end
def oh(scope osc:Scope):Scope :=
 { scope with names:=scope.names.map fun(n,k)=>if(k == .free && osc.kind == .function && osc.names.lookup n==some .cell) then(n,.cell) else(n,k) }
def Hm(oN:List Str)(osc:Scope)(N:List Str)(scope:Scope)(μ:List (Option Nat)):Bool :=
 scope.names.all (fun y=>decide (y.2 ≠ .cell)) && decide (scope.kind=.function) && scope.names.all (fun y=>!decide (y.2=.local) || decide (scope.names.lookup y.1=some .local)) &&
  scope.names.all (fun y=>!decide (y.2=.free) || decide (osc.names.lookup y.1=some .cell)) &&
  (oh scope osc).names.all (fun y=>!(decide (y.2=.cell) || decide (y.2=.free)) || decide ((y.1,NameKind.free)∈scope.names)) && mR oN osc N (oh scope osc) μ
structure CompOk(X:Cx)(N:List Str)(scope:Scope)(μ:List (Option Nat)):Prop where
 cell:∀y∈scope.names,y.2 ≠ .cell
 kind:scope.kind=.function
 names:∀y∈scope.names,y.2=.local->scope.names.lookup y.1=some .local
 free:∀y∈scope.names,y.2=.free->X.env.kindOf y.1=some .cell\/X.env.kindOf y.1=some .free
 has:∀x,((relabel scope X.env).names.lookup x=some .cell\/(relabel scope X.env).names.lookup x=some .free)->(x,NameKind.free)∈scope.names
 mu:mR X.N X.env.scope N (relabel scope X.env) μ=true
theorem fU{X:Cx}{oN:List Str}{osc:Scope}{N:List Str}{scope:Scope}{μ:List (Option Nat)}(hN:X.N=oN)(hs:X.env.scope=osc)(h:Hm oN osc N scope μ=true):CompOk X N scope μ:=by
 subst hN hs
 unfold Hm at h
 simp only[Bool.and_eq_true] at h
 obtain⟨⟨⟨⟨⟨h1,h2⟩,h3⟩,h4⟩,h5⟩,h6⟩:=h
 refine⟨fun y hy=>of_decide_eq_true (List.all_eq_true.mp h1 y hy),of_decide_eq_true h2,fun y hy e=>?_,fun y hy e=>.inl ?_,fun x hx=>?_,h6⟩
 ·have:=List.all_eq_true.mp h3 y hy
  simp only[Bool.or_eq_true,Bool.not_eq_true',decide_eq_false_iff_not,decide_eq_true_eq] at this
  exact this.resolve_left fun z=>z e
 ·have:=List.all_eq_true.mp h4 y hy
  simp only[Bool.or_eq_true,Bool.not_eq_true',decide_eq_false_iff_not,decide_eq_true_eq] at this
  exact this.resolve_left fun z=>z e
 ·have hx:(oh scope X.env.scope).names.lookup x=some .cell\/(oh scope X.env.scope).names.lookup x=some .free:=hx
  have q:∀k:NameKind,(k=.cell\/k=.free)->(oh scope X.env.scope).names.lookup x=some k->(x,NameKind.free)∈scope.names:=fun k hk hl=>by
   have:=List.all_eq_true.mp h5 (x,k) (PySem.mem_of_lookup hl)
   simp only[Bool.or_eq_true,Bool.not_eq_true',Bool.or_eq_false_iff,decide_eq_false_iff_not,decide_eq_true_eq] at this
   rcases this with⟨a,b⟩ |c
   ·exact(hk.elim a b).elim
   ·exact c
  rcases hx with hx |hx
  ·exact q _ (.inl rfl) hx
  ·exact q _ (.inr rfl) hx
section
variable {X:Cx} {C:Cl} {tg iter elt:Expr} {ifs:List Expr} {scope:Scope} {pos:Pos} {N:List Str} {μ:List (Option Nat)} {γ:bB} {β:cT} {p:cB} {g:Den}
theorem jZ(hc:X.calm=true)(ok:CompOk X N scope μ)(hi:PDI X C tg iter γ)
  (hg:∀fp A s H,PDG (bO X N scope (clos X.env.cells scope.names []) A fp s H) C tg β) (ht:∀fp A s H,xP (bO X N scope (clos X.env.cells scope.names []) A fp s H) C ifs p) (he:∀fp A s H,PD (bO X N scope (clos X.env.cells scope.names []) A fp s H) C elt g)
  (hs:∀x,foldedSetIterable iter X.env x=pure x:=by intro _;rfl):PD X C (.ListComp elt [⟨tg,iter,ifs,0⟩] scope pos) (dF μ γ β p g) :=
 Nr hc ok.cell ok.kind ok.names ok.free ok.has ok.mu hi hg ht he hs
theorem yO{i:Nat}{y:Str}{py spos:Pos}(hN:X.N.Nodup)(hiN:X.N[i]? = some y)(hx:Loc X.env.scope y)(hc:X.calm=true)(ok:CompOk X N scope μ)(hi:PDI X C tg iter γ)
  (hg:∀fp A s H,PDG (bO X N scope (clos X.env.cells scope.names []) A fp s H) C tg β) (ht:∀fp A s H,xP (bO X N scope (clos X.env.cells scope.names []) A fp s H) C ifs p) (he:∀fp A s H,PD (bO X N scope (clos X.env.cells scope.names []) A fp s H) C elt g)
  (hsw:swapsWith (.ListComp elt [⟨tg,iter,ifs,0⟩] scope pos) (some (.Name y py)) spos.line X.env=pure true:=by rfl)
  (hf:X.fn y=true\/X.env.scope.names.lookup y=some .local:=by first |exact .inl rfl |exact .inr rfl |assumption)
  (hs:∀x,foldedSetIterable iter X.env x=pure x:=by intro _;rfl):PDS X C (.Assign [.Name y py] (.ListComp elt [⟨tg,iter,ifs,0⟩] scope pos) spos) (bD i (dF μ γ β p g)) :=
 JL hN hiN hx hc ok.cell ok.kind ok.names ok.free ok.has ok.mu hi hg ht he hsw hf hs
end
section
variable {X:Cx} {C:Cl} {x b:Expr} {g:Den} {pos:Pos}
theorem tX{i:Nat}{n:Str}{p ap cp:Pos}(hv:PE X (.Name n p) (xu i))(he:PD X C x g)
  (hbase:attributeBase (.Name n p) "append" X.env (eval (.Name n p) X.env)=eval (.Name n p) X.env:=by rfl)
  (hline:(ap.endLine==cp.line)=true:=by rfl) (hs1:starEach [x] X.env=(false,eval x X.env)::starEach [] X.env:=by rfl)
  (hfew:((backTo cp (starEach [x] X.env)).all (fun x=>!x.1) && (backToKw cp (keywordEach [] X.env)).all (fun x=>x.1.isSome)
   && decide ([x].length+([]:List Keyword).length+(if([]:List Keyword).isEmpty then 0 else 1)<30))=true:=by rfl)
  (hpl:(backTo cp (starEach [] X.env)).any (·.1)=false:=by rfl)
  (hs:swapsWith (.Call (.Attribute (.Name n p) "append" ap) [x] [] cp) none pos.line X.env=pure false:=by rfl) :
  PDS X C (.Expr (.Call (.Attribute (.Name n p) "append" ap) [x] [] cp) pos) (mU i g):=fun e₀ =>
 cQ (tH (Lp PySem.F.plainAttrs_list PySem.F.slot_list_append PySem.F.type_list_append rN hv (bR he dH hs1) hbase hfew hline hs1 hpl) hs) fun Dn Z H hw=>JG hw
def jl(g:Den):Den:=fun Y U=>match g Y U with
 | some (.int i,U')=>some (.int (-i),U')
 | _=>none
theorem mJ(h:PD X C x g):PD X C (.UnaryOp .USub x pos) (jl g):=bx (Sy Qy h) fun Z H Q hw'=>by
 obtain⟨e,U,Y,d,U',eH,w,rl,q,kk⟩:=hw'
 unfold jl at q
 cases q1:g Y U with
 | none=>rw[q1] at q;cases q
 | some p1 =>
  obtain⟨d1,U1⟩:=p1
  rw[q1] at q
  refine⟨e,U,Y,d1,U1,eH,w,rl,q1,fun v e' x' w' i'=>?_⟩
  cases d1 with
  | int i =>
   rw[Is] at i'
   cases q
   exact⟨i,i',kk _ e' x' w' (by rw[Is])⟩
  | _=>cases q
end
abbrev C0:Cl:=fun _=>none
end DL
namespace DL
open PySem
section
variable (Y:List Sl) (U:List OS)
@[simp] theorem oA(i:Nat):aj i Y U=match Y[i]? with |some (.dat d)=>some (d,U) |_=>none:=(rfl)
@[simp] theorem Up(d:D):gC d Y U=some (d,U):=(rfl)
@[simp] theorem Lz(r:D->D->Option D)(f g:Den):gOp r f g Y U=match f Y U with
 | some (x,U₁)=>(match g Y U₁ with
  | some (y,U₂)=>(match r x y with
   | some z=>some (z,U₂)
   | none=>none)
  | none=>none)
 | none=>none:=(rfl)
@[simp] theorem Wz(g:Den):gT g Y U=match g Y U with |some (.bl b,U')=>some (b,U') |_=>none:=(rfl)
@[simp] theorem Ve(p q:cB):jn p q Y U=match p Y U with |some (true,U')=>q Y U' |some (false,U')=>some (false,U') |none=>none:=(rfl)
@[simp] theorem Vy(p q:cB):pG p q Y U=match p Y U with |some (true,U')=>some (true,U') |some (false,U')=>q Y U' |none=>none:=(rfl)
@[simp] theorem Vf(p:cB):my p Y U=match p Y U with |some (k,U')=>some (!k,U') |none=>none:=(rfl)
@[simp] theorem DK(f g:Den):jW f g Y U=match f Y U with |some (.bl true,U')=>g Y U' |some (.bl false,U')=>some (.bl false,U') |_=>none:=(rfl)
@[simp] theorem Vz(f g:Den):xN f g Y U=match f Y U with |some (.bl true,U')=>some (.bl true,U') |some (.bl false,U')=>g Y U' |_=>none:=(rfl)
@[simp] theorem Vg(f:Den):zL f Y U=match f Y U with |some (.bl k,U')=>some (.bl (!k),U') |_=>none:=(rfl)
@[simp] theorem mK:aA Y U=some ([],U):=(rfl)
@[simp] theorem eN(f:Den)(g:bB):ao f g Y U=match f Y U with
 | some (d,U1)=>(match g Y U1 with |some (ds,U2)=>some (d::ds,U2) |none=>none)
 | none=>none:=(rfl)
@[simp] theorem VB(g:bB):cV g Y U=match g Y U with |some (ds,U')=>(if ds.length<=100000 then some (.tup ds,U') else none) |none=>none:=(rfl)
@[simp] theorem vY(g:bB):ji g Y U=match g Y U with |some (ds,U')=>(if ds.length<=100000 then some (.lst ds,U') else none) |none=>none:=(rfl)
@[simp] theorem zM(r:List D->Option D)(g:bB):gCB r g Y U=match g Y U with |some (ds,U1)=>(match r ds with |some z=>some (z,U1) |none=>none) |none=>none:=(rfl)
@[simp] theorem Wb(r:D->Option D)(g:Den):gUn r g Y U=match g Y U with |some (d,U1)=>(match r d with |some z=>some (z,U1) |none=>none) |none=>none:=(rfl)
@[simp] theorem VD(g:Den):jl g Y U=match g Y U with |some (.int i,U')=>some (.int (-i),U') |_=>none:=(rfl)
@[simp] theorem pZ(f:bw)(g:bB):aJ f g Y U=match g Y U with |some (ds,U1)=>f ds U1 |none=>none:=(rfl)
@[simp] theorem Ho(g:Den):jk g Y U=match g Y U with |some (d,U')=>(match Fp d with |some ds=>some (ds,U') |none=>none) |none=>none:=(rfl)
@[simp] theorem Hq(r:List D->Option (List D))(g:bB):gh r g Y U=match g Y U with |some (ds,U')=>(match r ds with |some es=>some (es,U') |none=>none) |none=>none:=(rfl)
@[simp] theorem nJ(μ:List (Option Nat))(γ:bB)(β:cT)(p:cB)(g:Den):dF μ γ β p g Y U=match γ Y U with
 | some (ds,U1)=>(if ds.length<=100000 then(match gw β p g ds (cU μ Y) U1 with |some (ys,U2)=>some (.lst ys,U2) |none=>none) else none)
 | none=>none:=(rfl)
@[simp] theorem Nt:cN Y U=some (true,U):=(rfl)
@[simp] theorem Vh:aX Y U=some (.nx Y U):=(rfl)
@[simp] theorem tY(s t:aU):aK s t Y U=match s Y U with |some (.nx Y' U')=>t Y' U' |r=>r:=(rfl)
@[simp] theorem Uq(γ:List Sl->Option (List Sl))(s:aU):pX γ s Y U=match γ Y with |some Y'=>s Y' U |none=>none:=(rfl)
@[simp] theorem Rh(i:Nat)(g:Den):bD i g Y U=match g Y U with |some (d,U')=>some (.nx (Y.set i (.dat d)) U') |none=>none:=(rfl)
@[simp] theorem jR(g:Den):a_ g Y U=match g Y U with |some (d,U')=>some (.rt d U') |none=>none:=(rfl)
@[simp] theorem mL(p:cB)(s t:aU):sIf p s t Y U=match p Y U with |some (true,U')=>s Y U' |some (false,U')=>t Y U' |none=>none:=(rfl)
@[simp] theorem VF(i:Nat)(g:bB):uL i g Y U=match g Y U with |some (ds,U')=>(if ds.length<=100000 then some (.nx (Y.set i (.own ds)) U') else none) |none=>none:=(rfl)
@[simp] theorem VG(i:Nat)(g:Den):mU i g Y U=match g Y U with
 | some (d,U')=>(match Y[i]? with |some (.own ds)=>(if ds.length<100000 then some (.nx (Y.set i (.own (ds++[d]))) U') else none) |_=>none)
 | none=>none:=(rfl)
@[simp] theorem VH(β:cT)(g:Den):An β g Y U=match g Y U with |some (d,U')=>(match β d Y with |some Y'=>some (.nx Y' U') |none=>none) |none=>none:=(rfl)
@[simp] theorem rW(γ:bB)(β:cT)(s:aU):n_ γ β s Y U=match γ Y U with |some (ds,U')=>eF β s ds Y U' |none=>none:=(rfl)
@[simp] theorem JM(i:Nat)(d:D):bF i d Y=some (Y.set i (.dat d)):=(rfl)
@[simp] theorem Vi(is:List Nat)(ds:List D):jj is (.tup ds) Y=nZ is ds Y:=(rfl)
@[simp] theorem Vj(β:cT)(s:aU):eF β s [] Y U=some (.nx Y U):=(rfl)
theorem i_(β:cT)(s:aU)(d:D)(ds:List D):eF β s (d::ds) Y U=match β d Y with
  | some Y1=>(match s Y1 U with
   | some (.nx Y' U')=>eF β s ds Y' U'
   | some (.ct Y' U')=>eF β s ds Y' U'
   | some (.bk Y' U')=>some (.nx Y' U')
   | some (.rt z U')=>some (.rt z U')
   | none=>none)
  | none=>none:=(rfl)
@[simp] theorem JN(β:cT)(p:cB)(g:Den):gw β p g [] Y U=some ([],U):=(rfl)
theorem mO(β:cT)(p:cB)(g:Den)(d:D)(ds:List D):gw β p g (d::ds) Y U=match β d Y with
  | some Y1=>(match p Y1 U with
   | some (true,U1)=>(match g Y1 U1 with
    | some (y,U2)=>(match gw β p g ds Y1 U2 with
     | some (ys,U3)=>some (y::ys,U3)
     | none=>none)
    | none=>none)
   | some (false,U1)=>gw β p g ds Y1 U1
   | none=>none)
  | none=>none:=(rfl)
theorem rY(n m:Nat)(s:aU)(ds:List D):bQ n m s ds U=if ds.length=n then(match s (ds.map Sl.dat++List.replicate (m-n) Sl.und) U with
  | some (.rt d U')=>some (d,U')
  | some (.nx _ U')=>some (.non,U')
  | _=>none)
 else none:=(rfl)
@[simp] theorem Wc(c:Int->Int->Bool)(f:Int->Int->Int)(i j:Int):dI c f (.int i) (.int j)=if c i j=true then some (.int (f i j)) else none:=(rfl)
@[simp] theorem Wd(f:Int->Int->Bool)(i j:Int):dB f (.int i) (.int j)=some (.bl (f i j)):=(rfl)
@[simp] theorem add_int(i j:Int):bY (.int i) (.int j)=some (.int (i+j)):=(rfl)
@[simp] theorem Vk(xs ys:List D):bY (.lst xs) (.lst ys)=if xs.length+ys.length<=100000 then some (.lst (xs++ys)) else none:=(rfl)
@[simp] theorem VJ(xs:List D)(i:Int):ixD (.lst xs) (.int i)=L2.atI xs i:=(rfl)
@[simp] theorem GX(xs:List D)(i:Int):ixD (.tup xs) (.int i)=L2.atI xs i:=(rfl)
@[simp] theorem Vl(xs:List D):lu [.lst xs]=some (.int xs.length):=(rfl)
@[simp] theorem Vm(xs:List D):lu [.tup xs]=some (.int xs.length):=(rfl)
@[simp] theorem We(i j:Int):vP [.int i,.int j]=some (.int (if j>i then j else i)):=(rfl)
@[simp] theorem Wg(i j:Int):tQ [.int i,.int j]=some (.int (if j<i then j else i)):=(rfl)
@[simp] theorem Nu(xs:List D):Fp (.lst xs)=some xs:=(rfl)
@[simp] theorem Nv(ns:List Int):Fp (.scr ns)=some (ns.map D.int):=(rfl)
theorem zN{j:Int}(h0:-1000000<=j)(h:j<=1000000):jP [.int j]=some (upD 0 j.toNat):=gD (by omega)
theorem Te{i j:Int}(h0:-1000000<=i)(h:i<=1000000)(h1:-1000000<=j)(h2:j<=1000000):Ao [.int i,.int j]=some (upD i (j-i).toNat):=gD (by omega)
theorem ph{i j:Int}(h:(-1000000000000000000<i/\i<1000000000000000000)\/(-1000000000000000000<j/\j<1000000000000000000)):cR (.int i) (.int j)=some (.int (i*j)):=gD (by omega)
theorem Tf{xs:List D}{k:Int}(h0:-1000000<=k)(h:k<=1000000)(hl:xs.length*k.toNat<=100000):cR (.lst xs) (.int k)=some (.lst (List.replicate k.toNat xs).flatten):=gD ⟨by omega,by omega,hl⟩
end
theorem bh{n m:Nat}{s:aU}{ds:List D}{U U':List OS}{d:D}(hl:ds.length=n)(h:s (ds.map Sl.dat++List.replicate (m-n) Sl.und) U=some (.rt d U')):bQ n m s ds U=some (d,U'):=by
 rw[rY,if_pos hl,h]
theorem aN{s t:aU}{Y Y':List Sl}{U U':List OS}(h:s Y U=some (.nx Y' U')):aK s t Y U=t Y' U':=by rw[tY,h]
theorem eG{s t:aU}{Y:List Sl}{U U':List OS}{d:D}(h:s Y U=some (.rt d U')):aK s t Y U=some (.rt d U'):=by rw[tY,h]
theorem vZ{i:Nat}{g:Den}{Y:List Sl}{U U':List OS}{d:D}(h:g Y U=some (d,U')):bD i g Y U=some (.nx (Y.set i (.dat d)) U'):=by rw[Rh,h]
@[simp] theorem Tg(lo:Int)(n:Nat):(upD lo n).length=n:=by simp[upD]
theorem gj{β:Type}(xs:List β)(i:Nat)(h:i<xs.length):L2.atI xs (i:Int)=some xs[i]:=L2.MF (List.getElem?_eq_getElem h)
theorem Ri{β:Type}{xs:List β}{i:Int}(h0:0<=i)(h:i.toNat<xs.length):L2.atI xs i=some xs[i.toNat]:=by
 have e:i=(i.toNat:Int):=by omega
 have q:=gj xs i.toNat h
 rw[<-e] at q
 exact q
theorem tZ{β γ:Type}(f:β->γ)(xs:List β)(i:Int):L2.atI (xs.map f) i=(L2.atI xs i).map f:=by
 unfold L2.atI
 rw[List.length_map]
 cases L2.ixN xs.length i with
 | none=>rfl
 | some j=>simp
theorem Aq{β:Type}(f:β->D)(g:β->PyData)(h:∀x,toP (f x)=g x):∀xs:List β,e_ (xs.map f)=xs.map g
 | []=>by rw[List.map_nil,List.map_nil,e_]
 | x::xs=>by rw[List.map_cons,List.map_cons,e_,h,Aq f g h xs]
theorem uM(ns:List Int):toP (.lst (ns.map D.int))=.list (ns.map PyData.int):=by
 rw[toP,Aq D.int PyData.int (fun _=>by rw[toP])]
theorem v_(i:Int):SeqAt.shaped (toP (.int i))=true:=by rw[toP];rfl
theorem yP(b:Bool):SeqAt.shaped (toP (.bl b))=true:=by rw[toP];rfl
theorem shaped_ints(ns:List Int):SeqAt.shaped (toP (.lst (ns.map D.int)))=true:=by rw[uM];exact PySem.W.ke_shaped_ints ns
@[simp] theorem Th(neg:Bool)(i j:Int):eqD neg (.int i) (.int j)=some (.bl (if neg then !decide (i=j) else decide (i=j))):=by
 unfold eqD
 rw[v_,v_]
 have e:PyData.eqv (toP (.int i)) (toP (.int j))=decide (i=j):=by
  rw[toP,toP,PyData.eqv]
  by_cases h:i=j<;>simp[h]
 rw[e]
 rfl
@[simp] theorem Ur(neg:Bool)(i j:Bool):eqD neg (.bl i) (.bl j)=some (.bl (if neg then !decide (i=j) else decide (i=j))):=by
 unfold eqD
 rw[yP,yP]
 have e:PyData.eqv (toP (.bl i)) (toP (.bl j))=decide (i=j):=by
  rw[toP,toP]
  cases i<;>cases j<;>rfl
 rw[e]
 rfl
theorem Nx(neg:Bool)(ns ms:List Int):eqD neg (.lst (ns.map D.int)) (.lst (ms.map D.int))=some (.bl (if neg then !decide (ns=ms) else decide (ns=ms))):=by
 unfold eqD
 rw[shaped_ints,shaped_ints]
 have e:PyData.eqv (toP (.lst (ns.map D.int))) (toP (.lst (ms.map D.int)))=decide (ns=ms):=by
  rw[uM,uM,PyData.eqv,PySem.W.ked_eqvAll]
 rw[e]
 rfl
end DL
namespace DL
open PySem PySem.Spec PyProof.Rows L2
theorem yQ(p:cB)(s:aU)(n:Nat)(Y:List Sl)(U:List OS):jr p s (n+1) Y U=match p Y U with
  | some (true,U1)=>(match s Y U1 with
   | some (.nx Y' U')=>jr p s n Y' U'
   | some (.ct Y' U')=>jr p s n Y' U'
   | some (.bk Y' U')=>some (.nx Y' U')
   | some (.rt z U')=>some (.rt z U')
   | none=>none)
  | some (false,U1)=>some (.nx Y U1)
  | none=>none:=(rfl)
end DL
namespace DL
open PySem PySem.Spec PyProof.Rows L2
def OIs(K:PySem.W.Frag)(α:List Addr)(F:Hp):Option D->Option V->Prop
 | none,none=>True
 | some d,some v=>Is K α F d v
 | _,_=>False
section
variable {κ:Type} [DecidableEq κ]
def cW(kvs:List (κ×D))(k:κ):Option D:=(kvs.find? fun kv=>decide (kv.1=k)).map (·.2)
def putD(kvs:List (κ×D))(k:κ)(v:D):List (κ×D) :=
 if(kvs.any fun kv=>decide (kv.1=k))=true then kvs.map (fun kv=>if kv.1=k then(kv.1,v) else kv) else kvs++[(k,v)]
def jo(kvs:List (κ×D))(k:κ):List (κ×D):=kvs.filter fun kv=>decide (kv.1≠k)
variable {K:PySem.W.Frag} {α:List Addr} {F:Hp}
theorem cz.len:∀{ps:List (κ×D)} {vs:List (κ×V)},cz K α F ps vs->ps.length=vs.length
 | [],_,h=>by rw[show _=[] from h];rfl
 | p::r,_,⟨v,t,e,_,q⟩=>by rw[e,List.length_cons,List.length_cons,q.len]
theorem cz.keys:∀{ps:List (κ×D)} {vs:List (κ×V)},cz K α F ps vs->ps.map (·.1)=vs.map (·.1)
 | [],_,h=>by rw[show _=[] from h];rfl
 | p::r,_,⟨v,t,e,_,q⟩=>by rw[e,List.map_cons,List.map_cons,q.keys]
theorem cz.val(k:κ):∀{ps:List (κ×D)} {vs:List (κ×V)},cz K α F ps vs->OIs K α F (cW ps k) (iW vs k)
 | [],_,h=>by rw[show _=[] from h];exact trivial
 | p::r,_,⟨v,t,e,i,q⟩=>by
  subst e
  by_cases h:p.1=k
  ·have e1:cW (p::r) k=some p.2:=by simp[cW,List.find?_cons,h]
   rw[e1,qC h];exact i
  ·have e1:cW (p::r) k=cW r k:=by simp[cW,List.find?_cons,h]
   rw[e1,qD h];exact q.val k
theorem cz.repl(k:κ){d:D}{y:V}(iy:Is K α F d y):∀{ps:List (κ×D)} {vs:List (κ×V)},cz K α F ps vs->cz K α F (ps.map fun kv=>if kv.1=k then(kv.1,d) else kv) (vs.map fun kv=>if kv.1=k then(kv.1,y) else kv)
 | [],_,h=>by rw[show _=[] from h];exact rfl
 | p::r,_,⟨v,t,e,i,q⟩=>by
  subst e
  rw[List.map_cons,List.map_cons]
  by_cases h:p.1=k
  ·rw[if_pos h,if_pos h];exact⟨y,_,rfl,iy,q.repl k iy⟩
  ·rw[if_neg h,if_neg h];exact⟨v,_,rfl,i,q.repl k iy⟩
theorem cz.snoc(k:κ){d:D}{y:V}(iy:Is K α F d y):∀{ps:List (κ×D)} {vs:List (κ×V)},cz K α F ps vs->cz K α F (ps++[(k,d)]) (vs++[(k,y)])
 | [],_,h=>by rw[show _=[] from h];exact⟨y,[],rfl,iy,rfl⟩
 | p::r,_,⟨v,t,e,i,q⟩=>by
  subst e
  exact⟨v,_,rfl,i,q.snoc k iy⟩
theorem cz.any(k:κ):∀{ps:List (κ×D)} {vs:List (κ×V)},cz K α F ps vs->(ps.any fun kv=>decide (kv.1=k))=vs.any fun kv=>decide (kv.1=k)
 | [],_,h=>by rw[show _=[] from h];rfl
 | p::r,_,⟨v,t,e,i,q⟩=>by
  subst e
  rw[List.any_cons,List.any_cons,q.any k]
theorem cz.put{ps:List (κ×D)}{vs:List (κ×V)}(h:cz K α F ps vs)(k:κ){d:D}{y:V}(iy:Is K α F d y):cz K α F (putD ps k d) (putK vs k y):=by
 unfold putD putK
 rw[h.any k]
 split
 ·exact h.repl k iy
 ·exact h.snoc k iy
theorem cz.drop(k:κ):∀{ps:List (κ×D)} {vs:List (κ×V)},cz K α F ps vs->cz K α F (jo ps k) (ig vs k)
 | [],_,h=>by rw[show _=[] from h];exact rfl
 | p::r,_,⟨v,t,e,i,q⟩=>by
  subst e
  unfold jo ig
  by_cases h:p.1=k
  ·rw[List.filter_cons_of_neg (by simp[h]),List.filter_cons_of_neg (by simp[h])];exact q.drop k
  ·rw[List.filter_cons_of_pos (by simp[h]),List.filter_cons_of_pos (by simp[h])];exact⟨v,_,rfl,i,q.drop k⟩
end
section
variable {K:PySem.W.Frag} {α:List Addr} {F:Hp}
theorem cz.look(f:Str):∀{ps:List (Str×D)} {vs:List (Str×V)},cz K α F ps vs->OIs K α F (ps.lookup f) (vs.lookup f)
 | [],_,h=>by rw[show _=[] from h];exact trivial
 | (g,d)::r,_,⟨v,t,e,i,q⟩=>by
  subst e
  by_cases h:(f==g)=true
  ·rw[List.lookup_cons,List.lookup_cons,h];exact i
  ·have h':(f==g)=false:=by cases z:(f==g) with |true=>exact absurd z h |false=>rfl
   rw[List.lookup_cons,List.lookup_cons,h'];exact q.look f
def jq(f:Str)(v:D):List (Str×D)->List (Str×D)
 | []=>[(f,v)]
 | (g,x)::r=>if g=f then(g,v)::r else(g,x)::jq f v r
theorem cz.gB(f:Str){d:D}{y:V}(iy:Is K α F d y):∀{ps:List (Str×D)} {vs:List (Str×V)},cz K α F ps vs->cz K α F (jq f d ps) (L2.gB f y vs)
 | [],_,h=>by rw[show _=[] from h];exact⟨y,[],rfl,iy,rfl⟩
 | (g,x)::r,_,⟨v,t,e,i,q⟩=>by
  subst e
  unfold jq L2.gB
  by_cases h:g=f
  ·rw[if_pos h,if_pos h];exact⟨y,t,rfl,iy,q⟩
  ·rw[if_neg h,if_neg h];exact⟨v,_,rfl,i,q.gB f iy⟩
end
def E4.obj(e:E4)(p:Addr)(H':Hp):E4:=⟨e.α++[p],e.F,fun b=>e.A b\/b=p,H'⟩
def E4.at(e:E4)(a:Addr)(o:HO):E4:=⟨e.α,e.F,e.A,upd e.H a o⟩
section
variable {K:PySem.W.Frag} {C:Cl} {e:E4} {U:List OS}
theorem Wf.objA(w:Wf K C e U){n:Nat}{a:Addr}(h:e.α[n]? = some a):e.A a/\∃o,U[n]? = some o:=by
 have hl:n<U.length:=by rw[<-w.ol];exact(List.getElem?_eq_some_iff.mp h).1
 exact⟨(w.ob n a _ h (List.getElem?_eq_getElem hl)).1,_,List.getElem?_eq_getElem hl⟩
theorem Wf.obj(w:Wf K C e U){p:Addr}{H':Hp}{o:OS}(hp:e.H p=none)(hk:∀b u,e.H b=some u->H' b=some u)(hn:H' p≠none/\∀xs,H' p≠some (.tup xs))(ho:uK K C (e.obj p H') p o) :
  Wf K C (e.obj p H') (U++[o])/\Ext e (e.obj p H'):=by
 have nA:¬e.A p:=fun z=>(w.ah p z).1 hp
 have npα:p∉e.α:=fun z=>by
  obtain⟨n,h⟩:=List.getElem?_of_mem z
  exact nA (w.objA h).1
 refine⟨⟨fun b u h=>hk b u (w.fh b u h),fun b h=>?_,fun b h=>?_,?_,?_,fun n b u h1 h2=>?_⟩,⟨fun b o' u h=>hk b _ h,fun b u h _=>hk b u h,fun b u h=>⟨u,hk b u h⟩,bK.refl _,fun b u h=>.inl h,fun b h=>?_,fun b h=>.inl h,[p],rfl⟩⟩
 ·rcases h with h |rfl
  ·exact w.fa b h
  ·exact w.nF hp
 ·rcases h with h |rfl
  ·obtain⟨h1,h2⟩:=w.ah b h
   cases q:e.H b with
   | none=>exact absurd q h1
   | some u =>
    show H' b≠none/\∀xs,H' b≠some (.tup xs)
    rw[hk b u q,<-q]
    exact⟨h1,h2⟩
  ·exact hn
 ·show(e.α++[p]).length=(U++[o]).length
  rw[List.length_append,List.length_append,w.ol];rfl
 ·show(e.α++[p]).Nodup
  rw[List.nodup_append]
  refine⟨w.nd,by simp,fun x hx y hy=>?_⟩
  simp only[List.mem_singleton] at hy
  subst hy
  exact fun z=>npα (z ▸ hx)
 ·have h1:(e.α++[p])[n]? = some b:=h1
  by_cases hl:n<e.α.length
  ·rw[List.getElem?_append_left hl] at h1
   rw[List.getElem?_append_left (by rw[<-w.ol];exact hl)] at h2
   exact⟨.inl (w.ob n b u h1 h2).1,(w.ob n b u h1 h2).2.keep (fun v hv=>hk b v hv) (bK.refl _) ⟨[p],rfl⟩⟩
  ·have en:n=e.α.length:=by
    have:=(List.getElem?_eq_some_iff.mp h1).1
    rw[List.length_append] at this
    simp at this
    omega
   subst en
   rw[List.getElem?_append_right (Nat.le_refl _),Nat.sub_self] at h1
   rw[w.ol,List.getElem?_append_right (Nat.le_refl _),Nat.sub_self] at h2
   cases h1
   cases h2
   exact⟨.inr rfl,ho⟩
 ·rcases h with h |rfl
  ·exact .inl h
  ·exact .inr hp
theorem Wf.atW(w:Wf K C e U){n:Nat}{a:Addr}{o':OS}{ho:HO}(hα:e.α[n]? = some a)(hn:∀xs,ho ≠ .tup xs)(h':uK K C (e.at a ho) a o'):Wf K C (e.at a ho) (U.set n o'):=by
 have hA:=(w.objA hα).1
 have hF:=w.fa a hA
 have neF:∀b u,e.F b=some u->b≠a:=fun b u h z=>by subst z;rw[hF] at h;cases h
 refine⟨fun b u h=>?_,w.fa,fun b h=>?_,by simp[E4.at,w.ol],w.nd,fun m b u h1 h2=>?_⟩
 ·show upd e.H a ho b=some u
  rw[aD (neF b u h)];exact w.fh b u h
 ·show upd e.H a ho b≠none/\∀xs,upd e.H a ho b≠some (.tup xs)
  by_cases z:b=a
  ·subst z;rw[aM];exact⟨by simp,fun xs q=>hn xs (Option.some.inj q)⟩
  ·rw[aD z];exact w.ah b h
 ·by_cases z:m=n
  ·subst z
   have h1:e.α[m]? = some b:=h1
   rw[hα] at h1
   cases h1
   have hl:m<U.length:=by rw[<-w.ol];exact(List.getElem?_eq_some_iff.mp hα).1
   rw[List.getElem?_set_self hl] at h2
   cases h2
   exact⟨hA,h'⟩
  ·rw[List.getElem?_set_ne (fun q=>z q.symm)] at h2
   have nb:b≠a:=fun q=>by
    subst q
    exact z ((List.getElem?_inj (List.getElem?_eq_some_iff.mp h1).1 w.nd).mp (h1.trans hα.symm))
   refine⟨(w.ob m b u h1 h2).1,(w.ob m b u h1 h2).2.keep (fun v hv=>?_) (bK.refl _) ⟨[],by simp[E4.at]⟩⟩
   show upd e.H a ho b=some v
   rw[aD nb];exact hv
theorem Wf.at(w:Wf K C e U){n:Nat}{a:Addr}{o':OS}{ho:HO}(hα:e.α[n]? = some a)(hn:∀xs,ho ≠ .tup xs)(h':uK K C (e.at a ho) a o')(hz:∀o u,e.H a≠some (.frz o u)) :
  Wf K C (e.at a ho) (U.set n o')/\Ext e (e.at a ho):=by
 have hA:=(w.objA hα).1
 refine⟨w.atW hα hn h',⟨fun b o' u h=>?_,fun b u h hn=>?_,fun b u h=>?_,bK.refl _,fun b u h=>.inl h,fun b h=>.inl h,fun b h=>h,[],by simp[E4.at]⟩⟩
 ·show upd e.H a ho b=some (.frz o' u)
  rw[aD (fun z=>hz o' u (by rw[<-z];exact h))];exact h
 ·show upd e.H a ho b=some u
  rw[aD (fun z=>hn (by rw[z];exact hA))];exact h
 ·by_cases z:b=a
  ·subst z;exact⟨ho,aM⟩
  ·exact⟨u,by show upd e.H a ho b=some u;rw[aD z];exact h⟩
end
def oE:D->Option Key
 | .int i=>some (.inl i)
 | .str x=>some (.inr x)
 | _=>none
def m_:List D->Option (List Key)
 | []=>some []
 | d::ds=>match oE d with
  | some k=>(match m_ ds with |some ks=>some (k::ks) |none=>none)
  | none=>none
def nj:D->Option (List Key)
 | .tup xs=>m_ xs
 | _=>none
def ofK:Key->D
 | .inl i=>.int i
 | .inr x=>.str x
section
variable {K:PySem.W.Frag} {α:List Addr} {F:Hp}
theorem rZ{d:D}{k:Key}{v:V}(h:oE d=some k)(i:Is K α F d v):v=kV k:=by
 cases d<;>first |cases h |skip
 ·rw[Is] at i;exact i
 ·rw[Is] at i;exact i
theorem DN:∀{ds:List D} {ks:List Key} {vs:List V},m_ ds=some ks->IsL K α F ds vs->vs=ks.map kV
 | [],ks,vs,h,i=>by cases h;rw[i.of_nil];rfl
 | d::ds,ks,vs,h,i=>by
  obtain⟨v,r,rfl,i1,i2⟩:=i.of_cons
  unfold m_ at h
  cases q:oE d with
  | none=>rw[q] at h;cases h
  | some k =>
   rw[q] at h
   dsimp only at h
   cases q2:m_ ds with
   | none=>rw[q2] at h;cases h
   | some ks' =>
    rw[q2] at h
    cases h
    rw[List.map_cons,rZ q i1,DN q2 i2]
theorem t_{d:D}{ks:List Key}{v:V}(h:nj d=some ks)(i:Is K α F d v):∃b,v=.ref b/\F b=some (.tup (ks.map kV)):=by
 cases d<;>first |cases h |skip
 rw[Is] at i
 obtain⟨a,vs,rfl,e,q⟩:=i
 rw[DN h q] at e
 exact⟨a,rfl,e⟩
theorem Ar(k:Key):Is K α F (ofK k) (kV k):=by
 cases k with
 | inl i=>show Is K α F (.int i) (.int i);rw[Is]
 | inr x=>show Is K α F (.str x) (.str x);rw[Is]
theorem DP:∀ks:List Key,IsL K α F (ks.map ofK) (ks.map kV)
 | []=>.nil
 | k::ks=>.cons (Ar k) (DP ks)
end
def gA:OS->D->Option (Option D)
 | .fzK kvs,d=>(match oE d with |some k=>some (cW kvs k) |none=>none)
 | .dK kvs,d=>(match oE d with |some k=>some (cW kvs k) |none=>none)
 | .dT kvs,d=>(match nj d with |some k=>some (cW kvs k) |none=>none)
 | .fzT kvs,d=>(match nj d with |some k=>some (cW kvs k) |none=>none)
 | _,_=>none
def sr:OS->D->D->Option OS
 | .dK kvs,d,v=>(match oE d with |some k=>if kvs.length<100000 then some (.dK (putD kvs k v)) else none |none=>none)
 | .dT kvs,d,v=>(match nj d with |some k=>if kvs.length<100000 then some (.dT (putD kvs k v)) else none |none=>none)
 | _,_,_=>none
def jH:OS->Bool
 | .fzK _=>true
 | .dK _=>true
 | .dT _=>true
 | .fzT _=>true
 | _=>false
section
variable {K:PySem.W.Frag} {C:Cl} {e:E4} {U:List OS}
theorem uc(w:Wf K C e U){n:Nat}{a:Addr}{o:OS}{d:D}{r:Option D}{y:V}(hα:e.α[n]? = some a)(hUq:U[n]? = some o)(hl:gA o d=some r)(i:Is K e.α e.F d y) :
  ∃r',iY e.H a y r'/\OIs K e.α e.F r r':=by
 have ob:=(w.ob n a o hα hUq).2
 unfold gA at hl
 cases o with
 | fzK kvs =>
  obtain⟨vs,ob',h1,h2⟩:=ob
  dsimp only at hl
  cases q:oE d with
  | none=>rw[q] at hl;cases hl
  | some k =>
   rw[q] at hl
   cases hl
   rw[rZ q i]
   exact⟨_,.inl ⟨vs,k,.inr ⟨_,h1⟩,rfl,rfl⟩,h2.val k⟩
 | dK kvs =>
  obtain⟨vs,h1,h2⟩:=ob
  dsimp only at hl
  cases q:oE d with
  | none=>rw[q] at hl;cases hl
  | some k =>
   rw[q] at hl
   cases hl
   rw[rZ q i]
   exact⟨_,iY.k h1,h2.val k⟩
 | dT kvs =>
  obtain⟨vs,h1,h2⟩:=ob
  dsimp only at hl
  cases q:nj d with
  | none=>rw[q] at hl;cases hl
  | some k =>
   rw[q] at hl
   cases hl
   obtain⟨b,rfl,hb⟩:=t_ q i
   exact⟨_,iY.t h1 (w.fh _ _ hb),h2.val k⟩
 | fzT kvs =>
  obtain⟨vs,ob',h1,h2⟩:=ob
  dsimp only at hl
  cases q:nj d with
  | none=>rw[q] at hl;cases hl
  | some k =>
   rw[q] at hl
   cases hl
   obtain⟨b,rfl,hb⟩:=t_ q i
   exact⟨_,.inr ⟨vs,k,b,.inr ⟨_,h1⟩,rfl,w.fh _ _ hb,rfl⟩,h2.val k⟩
 | _=>cases hl
theorem Av(w:Wf K C e U){n:Nat}{a:Addr}{o:OS}(hα:e.α[n]? = some a)(hUq:U[n]? = some o)(h:jH o=true):IsD e.H a:=by
 have ob:=(w.ob n a o hα hUq).2
 cases o with
 | fzK kvs=>obtain⟨vs,ob',h1,_⟩:=ob;exact .inl ⟨vs,.inr ⟨_,h1⟩⟩
 | dK kvs=>obtain⟨vs,h1,_⟩:=ob;exact .inl ⟨vs,.inl h1⟩
 | dT kvs=>obtain⟨vs,h1,_⟩:=ob;exact .inr ⟨vs,.inl h1⟩
 | fzT kvs=>obtain⟨vs,ob',h1,_⟩:=ob;exact .inr ⟨vs,.inr ⟨_,h1⟩⟩
 | _=>cases h
theorem Ny(w:Wf K C e U){n:Nat}{a:Addr}{o o':OS}{d x:D}{y v:V}(hα:e.α[n]? = some a)(hUq:U[n]? = some o)(hp:sr o d x=some o')(i:Is K e.α e.F d y)(ix:Is K e.α e.F x v) :
  ∃H',qF e.H a y v H'/\∃e',e'.H=H'/\Wf K C e' (U.set n o')/\Ext e e':=by
 have ob:=(w.ob n a o hα hUq).2
 unfold sr at hp
 cases o with
 | dK kvs =>
  obtain⟨vs,h1,h2⟩:=ob
  dsimp only at hp
  cases q:oE d with
  | none=>rw[q] at hp;cases hp
  | some k =>
   rw[q] at hp
   dsimp only at hp
   split at hp
   ·rename_i hl
    cases hp
    rw[rZ q i]
    refine⟨_,qF.k h1 (by rw[<-h2.len];exact pQ hl),e.at a _,rfl,w.at hα (fun xs z=>nomatch z) ⟨_,aM,h2.put k ix⟩ fun o u z=>by rw[h1] at z;cases z⟩
   ·cases hp
 | dT kvs =>
  obtain⟨vs,h1,h2⟩:=ob
  dsimp only at hp
  cases q:nj d with
  | none=>rw[q] at hp;cases hp
  | some k =>
   rw[q] at hp
   dsimp only at hp
   split at hp
   ·rename_i hl
    cases hp
    obtain⟨b,rfl,hb⟩:=t_ q i
    refine⟨_,qF.t h1 (w.fh _ _ hb) (by rw[<-h2.len];exact pQ hl),e.at a _,rfl,w.at hα (fun xs z=>nomatch z) ⟨_,aM,h2.put k ix⟩ fun o u z=>by rw[h1] at z;cases z⟩
   ·cases hp
 | _=>cases hp
end
def jJ:Den:=fun _ U=>some (.obj U.length,U++[.dK []])
def zO:Den:=fun _ U=>some (.obj U.length,U++[.dT []])
def bu(go gi:Den):Den:=fun Y U=>match go Y U with
 | some (.obj n,U1)=>(match gi Y U1 with
  | some (k,U2)=>(match U2[n]? with
   | some o=>(match gA o k with |some (some d)=>some (d,U2) |_=>none)
   | none=>none)
  | none=>none)
 | _=>none
def jm(neg:Bool)(gk go:Den):Den:=fun Y U=>match gk Y U with
 | some (k,U1)=>(match go Y U1 with
  | some (.obj n,U2)=>(match U2[n]? with
   | some o=>(match gA o k with |some r=>some (.bl (if neg then !r.isSome else r.isSome),U2) |none=>none)
   | none=>none)
  | _=>none)
 | none=>none
def jt(go gk:Den):Den:=fun Y U=>match go Y U with
 | some (.obj n,U1)=>(match U1[n]? with
  | some o=>if jH o=true then(match gk Y U1 with
   | some (k,U2)=>(match U2[n]? with
    | some o2=>(match gA o2 k with |some r=>some (r.getD .non,U2) |none=>none)
    | none=>none)
   | none=>none) else none
  | none=>none)
 | _=>none
def wg(go gk gx:Den):Den:=fun Y U=>match go Y U with
 | some (.obj n,U1)=>(match U1[n]? with
  | some o=>if jH o=true then(match gk Y U1 with
   | some (k,U2)=>(match gx Y U2 with
    | some (x,U3)=>(match U3[n]? with
     | some o2=>(match gA o2 k with |some r=>some (r.getD x,U3) |none=>none)
     | none=>none)
    | none=>none)
   | none=>none) else none
  | none=>none)
 | _=>none
def ir(go gi gv:Den):aU:=fun Y U=>match gv Y U with
 | some (v,U1)=>(match go Y U1 with
  | some (.obj n,U2)=>(match gi Y U2 with
   | some (k,U3)=>(match U3[n]? with
    | some o=>(match sr o k v with |some o'=>some (.nx Y (U3.set n o')) |none=>none)
    | none=>none)
   | none=>none)
  | _=>none)
 | none=>none
section
variable {X:Cx} {C:Cl} {a b c x y:Expr} {f g h:Den} {pos pos' ap cp:Pos}
theorem nO:PD X C (.Dict [] [] pos) jJ:=bx Js fun Z H Q hw'=>by
 obtain⟨e,U,Y,d,U',eH,w,rl,q,kk⟩:=hw'
 subst eH
 cases q
 intro p hp
 obtain⟨w',x'⟩:=w.obj (H':=upd e.H p (.dK [])) (o:=.dK []) hp (fun b u hb=>by rw[aD (aP hb hp)];exact hb) (by rw[aM];exact⟨by simp,fun xs z=>nomatch z⟩) ⟨[],aM,rfl⟩
 refine kk _ (e.obj p _) x' w' ?_
 rw[Is]
 exact⟨p,by show(e.α++[p])[U.length]? = some p;rw[<-w.ol];simp,rfl⟩
theorem Nz:PD X C (.Dict [] [] pos) zO:=bx Jt fun Z H Q hw'=>by
 obtain⟨e,U,Y,d,U',eH,w,rl,q,kk⟩:=hw'
 subst eH
 cases q
 intro p hp
 obtain⟨w',x'⟩:=w.obj (H':=upd e.H p (.dT [])) (o:=.dT []) hp (fun b u hb=>by rw[aD (aP hb hp)];exact hb) (by rw[aM];exact⟨by simp,fun xs z=>nomatch z⟩) ⟨[],aM,rfl⟩
 refine kk _ (e.obj p _) x' w' ?_
 rw[Is]
 exact⟨p,by show(e.α++[p])[U.length]? = some p;rw[<-w.ol];simp,rfl⟩
theorem OIs.some_of{K:PySem.W.Frag}{α:List Addr}{F:Hp}{d:D}{r:Option V}(h:OIs K α F (some d) r):∃v,r=some v/\Is K α F d v:=by
 cases r with
 | none=>exact h.elim
 | some v=>exact⟨v,rfl,h⟩
theorem OIs.isSome{K:PySem.W.Frag}{α:List Addr}{F:Hp}{d:Option D}{r:Option V}(h:OIs K α F d r):r.isSome=d.isSome:=by
 cases r<;>cases d<;>first |rfl |exact h.elim
theorem OIs.getD{K:PySem.W.Frag}{α:List Addr}{F:Hp}{d:Option D}{r:Option V}{x:D}{v:V}(h:OIs K α F d r)(i:Is K α F x v):Is K α F (d.getD x) (r.getD v):=by
 cases r<;>cases d<;>first |exact h.elim |exact i |exact h
theorem bH(hu:X.A.units+1<cLine)(ho:PD X C a f)(hi:PD X C b g)(hs:Jq b):PD X C (.Subscript a b pos) (bu f g):=bx (MP hu ho hi hs) fun Z H Q hw'=>by
 obtain⟨e,U,Y,d,U',eH,w,rl,q,kk⟩:=hw'
 unfold bu at q
 cases q1:f Y U with
 | none=>rw[q1] at q;cases q
 | some p1 =>
  obtain⟨d1,U1⟩:=p1
  rw[q1] at q
  cases d1 with
  | obj n =>
   dsimp only at q
   cases q2:g Y U1 with
   | none=>rw[q2] at q;cases q
   | some p2 =>
    obtain⟨k,U2⟩:=p2
    rw[q2] at q
    dsimp only at q
    cases q3:U2[n]? with
    | none=>rw[q3] at q;cases q
    | some o =>
     rw[q3] at q
     dsimp only at q
     cases q4:gA o k with
     | none=>rw[q4] at q;cases q
     | some r =>
      rw[q4] at q
      cases r with
      | none=>cases q
      | some d' =>
       cases q
       refine⟨e,U,Y,_,U1,eH,w,rl,q1,fun v e1 x1 w1 i1=>?_⟩
       refine⟨e1,U1,Y,k,_,rfl,w1,rl.ext x1,q2,fun u e2 x2 w2 i2=>?_⟩
       have i3:=i1.ext x2
       rw[Is] at i3
       obtain⟨p,hα,rfl⟩:=i3
       obtain⟨r',g1,o1⟩:=uc w2 hα q3 q4 i2
       obtain⟨v',rfl,iv⟩:=o1.some_of
       exact⟨p,v',rfl,g1,kk v' e2 (x1.trans x2) w2 iv⟩
  | _=>cases q
theorem Aw{K:PySem.W.Frag}{neg:Bool}{Z:St}{H:Hp}{Q:VK}(h:tD K C (jm neg f g) Z H Q) :
  tD K C f Z H fun y H1=>tD K C g Z H1 fun x H2=>∃a o,x=.ref a/\iY H2 a y o/\Q (.bl (if neg then !o.isSome else o.isSome)) H2:=by
 obtain⟨e,U,Y,d,U',eH,w,rl,q,kk⟩:=h
 unfold jm at q
 cases q1:f Y U with
 | none=>rw[q1] at q;cases q
 | some p1 =>
  obtain⟨k,U1⟩:=p1
  rw[q1] at q
  dsimp only at q
  cases q2:g Y U1 with
  | none=>rw[q2] at q;cases q
  | some p2 =>
   obtain⟨d2,U2⟩:=p2
   rw[q2] at q
   cases d2 with
   | obj n =>
    dsimp only at q
    cases q3:U2[n]? with
    | none=>rw[q3] at q;cases q
    | some o =>
     rw[q3] at q
     dsimp only at q
     cases q4:gA o k with
     | none=>rw[q4] at q;cases q
     | some r =>
      rw[q4] at q
      cases q
      refine⟨e,U,Y,k,U1,eH,w,rl,q1,fun v e1 x1 w1 i1=>?_⟩
      refine⟨e1,U1,Y,_,_,rfl,w1,rl.ext x1,q2,fun u e2 x2 w2 i2=>?_⟩
      rw[Is] at i2
      obtain⟨p,hα,rfl⟩:=i2
      obtain⟨r',g1,o1⟩:=uc w2 hα q3 q4 (i1.ext x2)
      refine⟨p,r',rfl,g1,?_⟩
      rw[o1.isSome]
      exact kk _ e2 (x1.trans x2) w2 (by rw[Is])
   | _=>cases q
theorem nP(hu:X.A.units+1<cLine)(hk:PD X C a f)(ho:PD X C b g)(h1:behindInMarks .In b=false:=by rfl):PDT X C (.Compare a [.In] [b] pos) (gT (jm false f g)) :=
 pN (Gu (QR hu hk ho) h1) fun Z H Q h=>Aw (pP h)
theorem nq(hu:X.A.units+1<cLine)(hk:PD X C a f)(ho:PD X C b g)(h1:behindInMarks .NotIn b=false:=by rfl):PDT X C (.Compare a [.NotIn] [b] pos) (gT (jm true f g)) :=
 pN (Gu (Ha hu hk ho) h1) fun Z H Q h=>Aw (pP h)
theorem oF(hu:X.A.units+1<cLine)(ho:PD X C a f)(hi:PD X C b g)(m:M1 X a "get" ap b cp):PD X C (.Call (.Attribute a "get" ap) [b] [] cp) (jt f g):=bx (Jv hu ho hi m) fun Z H Q hw'=>by
 obtain⟨e,U,Y,d,U',eH,w,rl,q,kk⟩:=hw'
 unfold jt at q
 cases q1:f Y U with
 | none=>rw[q1] at q;cases q
 | some p1 =>
  obtain⟨d1,U1⟩:=p1
  rw[q1] at q
  cases d1 with
  | obj n =>
   dsimp only at q
   cases q0:U1[n]? with
   | none=>rw[q0] at q;cases q
   | some o0 =>
    rw[q0] at q
    dsimp only at q
    by_cases hd:jH o0=true
    ·rw[if_pos hd] at q
     cases q2:g Y U1 with
     | none=>rw[q2] at q;cases q
     | some p2 =>
      obtain⟨k,U2⟩:=p2
      rw[q2] at q
      dsimp only at q
      cases q3:U2[n]? with
      | none=>rw[q3] at q;cases q
      | some o =>
       rw[q3] at q
       dsimp only at q
       cases q4:gA o k with
       | none=>rw[q4] at q;cases q
       | some r =>
        rw[q4] at q
        cases q
        refine⟨e,U,Y,_,U1,eH,w,rl,q1,fun v e1 x1 w1 i1=>?_⟩
        rw[Is] at i1
        obtain⟨p,hα,rfl⟩:=i1
        refine⟨p,rfl,Av w1 hα q0 hd,?_⟩
        refine⟨e1,U1,Y,k,_,rfl,w1,rl.ext x1,q2,fun u e2 x2 w2 i2=>?_⟩
        have hα2:e2.α[n]? = some p:=by
         have i3:Is X.K e2.α e2.F (.obj n) (.ref p):=Is.ext x2 (by rw[Is];exact⟨p,hα,rfl⟩)
         rw[Is] at i3
         obtain⟨p',z,zz⟩:=i3
         cases zz
         exact z
        obtain⟨r',g1,o1⟩:=uc w2 hα2 q3 q4 i2
        exact⟨r',g1,kk _ e2 (x1.trans x2) w2 (o1.getD (by rw[Is]))⟩
    ·rw[if_neg hd] at q;cases q
  | _=>cases q
theorem JP(hu:X.A.units+1<cLine)(ho:PD X C a f)(hi:PD X C b g)(hx:PD X C c h)(m:M2 X a "get" ap b c cp):PD X C (.Call (.Attribute a "get" ap) [b,c] [] cp) (wg f g h):=bx (Jw hu ho hi hx m) fun Z H Q hw'=>by
 obtain⟨e,U,Y,d,U',eH,w,rl,q,kk⟩:=hw'
 unfold wg at q
 cases q1:f Y U with
 | none=>rw[q1] at q;cases q
 | some p1 =>
  obtain⟨d1,U1⟩:=p1
  rw[q1] at q
  cases d1 with
  | obj n =>
   dsimp only at q
   cases q0:U1[n]? with
   | none=>rw[q0] at q;cases q
   | some o0 =>
    rw[q0] at q
    dsimp only at q
    by_cases hd:jH o0=true
    ·rw[if_pos hd] at q
     cases q2:g Y U1 with
     | none=>rw[q2] at q;cases q
     | some p2 =>
      obtain⟨k,U2⟩:=p2
      rw[q2] at q
      dsimp only at q
      cases q5:h Y U2 with
      | none=>rw[q5] at q;cases q
      | some p5 =>
       obtain⟨xd,U3⟩:=p5
       rw[q5] at q
       dsimp only at q
       cases q3:U3[n]? with
       | none=>rw[q3] at q;cases q
       | some o =>
        rw[q3] at q
        dsimp only at q
        cases q4:gA o k with
        | none=>rw[q4] at q;cases q
        | some r =>
         rw[q4] at q
         cases q
         refine⟨e,U,Y,_,U1,eH,w,rl,q1,fun v e1 x1 w1 i1=>?_⟩
         rw[Is] at i1
         obtain⟨p,hα,rfl⟩:=i1
         refine⟨p,rfl,Av w1 hα q0 hd,?_⟩
         refine⟨e1,U1,Y,k,_,rfl,w1,rl.ext x1,q2,fun u e2 x2 w2 i2=>?_⟩
         refine⟨e2,U2,Y,xd,_,rfl,w2,(rl.ext x1).ext x2,q5,fun u3 e3 x3 w3 i3'=>?_⟩
         have hα2:e3.α[n]? = some p:=by
          have i3:Is X.K e3.α e3.F (.obj n) (.ref p):=Is.ext (x2.trans x3) (by rw[Is];exact⟨p,hα,rfl⟩)
          rw[Is] at i3
          obtain⟨p',z,zz⟩:=i3
          cases zz
          exact z
         obtain⟨r',g1,o1⟩:=uc w3 hα2 q3 q4 (i2.ext x3)
         exact⟨r',g1,kk _ e3 ((x1.trans x2).trans x3) w3 (o1.getD i3')⟩
    ·rw[if_neg hd] at q;cases q
  | _=>cases q
theorem ju(hu:X.A.units+1<cLine)(ho:PD X C a f)(hi:PD X C b g)(hv:PD X C x h)(hs:swapsWith x (some (.Subscript a b pos')) pos.line X.env=pure false:=by rfl) :
  PDS X C (.Assign [.Subscript a b pos'] x pos) (ir f g h):=fun e₀=>cQ (MT hu ho hi hv hs) fun Dn Z H hw'=>by
 obtain⟨e,U,Y,o,eH,r,q,k⟩:=hw'
 unfold ir at q
 cases q1:h Y U with
 | none=>rw[q1] at q;cases q
 | some p1 =>
  obtain⟨v,U1⟩:=p1
  rw[q1] at q
  dsimp only at q
  cases q2:f Y U1 with
  | none=>rw[q2] at q;cases q
  | some p2 =>
   obtain⟨d2,U2⟩:=p2
   rw[q2] at q
   cases d2 with
   | obj n =>
    dsimp only at q
    cases q3:g Y U2 with
    | none=>rw[q3] at q;cases q
    | some p3 =>
     obtain⟨kd,U3⟩:=p3
     rw[q3] at q
     dsimp only at q
     cases q4:U3[n]? with
     | none=>rw[q4] at q;cases q
     | some ob =>
      rw[q4] at q
      dsimp only at q
      cases q5:sr ob kd v with
      | none=>rw[q5] at q;cases q
      | some ob' =>
       rw[q5] at q
       cases q
       refine⟨e,U,Y,v,U1,eH,r.wf,r.rel,q1,fun uv e1 x1 w1 i1=>?_⟩
       refine⟨e1,U1,Y,_,U2,rfl,w1,r.rel.ext x1,q2,fun uo e2 x2 w2 i2=>?_⟩
       refine⟨e2,U2,Y,kd,U3,rfl,w2,(r.rel.ext x1).ext x2,q3,fun uk e3 x3 w3 i3=>?_⟩
       have i2':=i2.ext x3
       rw[Is] at i2'
       obtain⟨p,hα,rfl⟩:=i2'
       obtain⟨H',hp,e4,rfl,w4,x4⟩:=Ny w3 hα q4 q5 i3 (i1.ext (x2.trans x3))
       exact⟨p,e4.H,rfl,hp,k e4 Z (r.to (((x1.trans x2).trans x3).trans x4) w4)⟩
   | _=>cases q
end
end DL
namespace DR
open PySem PyProof.Rows
open Sem (wp)
def lA(h:Heap)(a:Addr)(es:Array DictEntry)(ep:Nat):Prop:=∃o,h.get? a=some o/\o.ExactDict/\o.data=.dict es ep
theorem lA.ty{s:Shared}{a:Addr}{es:Array DictEntry}{ep:Nat}(r:lA s.heap a es ep):s.TypeIs (.ref a) "dict":=let⟨o,h1,h2,_⟩:=r;⟨o,h1,h2.1⟩
theorem lA.to{h h':Heap}{a:Addr}{es:Array DictEntry}{ep:Nat}(r:lA h a es ep)(k:∀o,h.get? a=some o->h'.get? a=some o):lA h' a es ep:=let⟨o,h1,h2⟩:=r;⟨o,k o h1,h2⟩
theorem lA.lt{h:Heap}{a:Addr}{es:Array DictEntry}{ep:Nat}(r:lA h a es ep):a<h.objs.size:=let⟨_,h1,_⟩:=r;Heap.lt_size h1
section
variable {prog:Program} {w:World} {A:Around} {E:Value->Shared->Prop} {s:Shared} {d it:Addr} {es:Array DictEntry} {ep i:Nat}
theorem Ax{Q:Value->Shared->Prop}(hd:(d==sysModules)=false)(hm:lA s.heap d es ep)
  (hq:Q (.ref s.heap.objs.size) { s with heap:=s.heap.push { cls:=.type "dict_keyiterator",data:=.fields #[.ref d,.int 0 0,.int es.size 0,.int ep 0] } }):wpAny (model prog w) A (pyIter (.ref d)) Q E s:=by
 obtain⟨o,ho,hc,hx⟩:=id hm
 have ty:=hm.ty
 refine wpAny_pyIter_slot ty F.slot_dict_iter (wpAny_call_entry F.slot_dict_iter ty F.entry_dict_iter ?_ (F.args_dict_iter_1 _))
 unfold Builtin.«dict.__iter__»;refine wpAny_bind ?_
 unfold Builtin.Dict.dictSlotNone;refine wpAny_bind (wpAny_notOrdered_dict ty ?_)
 show wpAny _ _ (pure (Value.ref d)) _ _ s;refine wpAny_pure ?_
 show wpAny _ _ (Builtin.Dict.showsAll d>>=_) _ _ s;unfold Builtin.Dict.showsAll
 rw[if_neg (by rw[hd];exact Bool.false_ne_true)];refine wpAny_bind (wpAny_pure ?_)
 refine wpAny_bind (wpAny_dictEntries ho hx ?_);refine wpAny_bind (wpAny_dictEpoch ho hx ?_)
 refine wpAny_bind (wpAny_newObj_type (wpAny_pure ⟨_,rfl,"dict_keyiterator",_,⟨_,Heap.get?_push_size _ rfl,rfl⟩,F.slot_dict_keyiterator_next.lookup,?_⟩));simpa [rawInt] using hq
theorem Ay{Q:Option Value->Shared->Prop}(hit:s.heap.IsKeyIter it d i es.size ep)(hm:lA s.heap d es ep)(hl:i<es.size)
  (hq:∀h',h'.IsKeyIter it d (i+1) es.size ep->Heap.SameBut it s.heap h'->Q (some es[i].key) { s with heap:=h' }):wpAny (model prog w) A (pyNext (.ref it)) Q E s:=by
 obtain⟨o,ho,hc,hd⟩:=id hit
 obtain⟨od,hod,hcd,hdd⟩:=id hm
 unfold pyNext
 refine wpAny_bind (wpAny_attempt (wpAny_callSpecial?_slot (name:=Str.ofString "__next__") hit.typeIs F.slot_dict_keyiterator_next (wpAny_call_entry F.slot_dict_keyiterator_next hit.typeIs F.entry_dict_keyiterator_next ?_ (F.args_dict_keyiterator_next_1 _))))
 refine wpAny_bind (wpAny_pure ?_);refine wpAny_bind ?_;refine wpAny_bind ?_
 first |exact(wpAny_bind (wpAny_typeNameOfWhole_keyiter hit.typeIs (wpAny_pure (by fail)))) |(first |refine wpAny_bind (wpAny_typeNameOfWhole_keyiter hit.typeIs (wpAny_pure ?_)) |refine wpAny_bind (wpAny_typeNameOf_keyiter hit.typeIs (wpAny_pure ?_)))
 refine wpAny_bind (wpAny_fieldsOf ho hd ?_);have own0:Builtin.Dict_items.ownsTuple "dict_keyiterator" = false:=by decide
 simp only[own0,Bool.false_eq_true,if_false];show wpAny _ _ (if(Value.ref d==Value.none)=true then _ else _) _ _ s
 rw[if_neg (show ¬((Value.ref d==Value.none)=true) from Bool.false_ne_true)];refine wpAny_bind (wpAny_pure ?_)
 refine wpAny_bind (wpAny_dictEntries hod hdd ?_);rw[if_neg (by simp)]
 refine wpAny_bind (wpAny_pure ?_);refine wpAny_bind (wpAny_dictEpoch hod hdd ?_)
 rw[if_neg (by simp)];refine wpAny_pure ?_
 simp only[show ¬((i:Int)<0) from by omega,if_false,Int.toNat_natCast,Array.getElem?_eq_getElem hl];refine wpAny_bind ?_
 first |refine wpAny_bind (wpAny_typeNameOfWhole_keyiter hit.typeIs (wpAny_pure ?_)) |skip
 first |refine wpAny_bind (wpAny_typeNameOf_keyiter hit.typeIs (wpAny_pure ?_)) |skip
 refine wpAny_bind (wpAny_isOneOf_keyiter hit.typeIs ?_);show wpAny _ _ (setField (.ref it) 1 (rawInt ((i:Int)+1))>>=_) _ _ s
 refine wpAny_bind (wpAny_setField ho hd (by simp) ?_)
 have it2:(s.heap.update it (Obj.mapFields (·.setIfInBounds 1 (rawInt ((i:Int)+1))))).IsKeyIter it d (i+1) es.size ep :=
  ⟨_,Heap.get?_update_self _ ho (Obj.isFreed_of_fields (Obj.data_mapFields hd _)),(Obj.cls_mapFields ..).trans hc,by rw[Obj.data_mapFields hd];simp[rawInt]⟩
 refine wpAny_bind (wpAny_holding ?_);refine wpAny_bind (wpAny_isOneOf_keyiter (s:={ s with heap:=s.heap.update it (Obj.mapFields (·.setIfInBounds 1 (rawInt ((i:Int)+1)))) }) it2.typeIs ?_)
 show wpAny _ _ (pure es[i].key) _ _ _;exact wpAny_pure (wpAny_pure ⟨_,rfl,wpAny_pure (hq _ it2 (Heap.SameBut.update ..))⟩)
theorem DQ{Q:Option Value->Shared->Prop}(hh:A.handled=none)(hit:s.heap.IsKeyIter it d i es.size ep)(hm:lA s.heap d es ep)(hl:es.size<=i)
  (hq:∀h',Heap.ExtBut it s.heap h'->Q none { s with heap:=h' }):wpAny (model prog w) A (pyNext (.ref it)) Q E s:=by
 obtain⟨o,ho,hc,hd⟩:=id hit
 obtain⟨od,hod,hcd,hdd⟩:=id hm
 unfold pyNext
 refine wpAny_bind (wpAny_attempt (wpAny_callSpecial?_slot (name:=Str.ofString "__next__") hit.typeIs F.slot_dict_keyiterator_next (wpAny_call_entry F.slot_dict_keyiterator_next hit.typeIs F.entry_dict_keyiterator_next ?_ (F.args_dict_keyiterator_next_1 _))))
 refine wpAny_bind (wpAny_pure ?_);refine wpAny_bind ?_;refine wpAny_bind ?_
 first |exact(wpAny_bind (wpAny_typeNameOfWhole_keyiter hit.typeIs (wpAny_pure (by fail)))) |(first |refine wpAny_bind (wpAny_typeNameOfWhole_keyiter hit.typeIs (wpAny_pure ?_)) |refine wpAny_bind (wpAny_typeNameOf_keyiter hit.typeIs (wpAny_pure ?_)))
 refine wpAny_bind (wpAny_fieldsOf ho hd ?_);have own0:Builtin.Dict_items.ownsTuple "dict_keyiterator" = false:=by decide
 simp only[own0,Bool.false_eq_true,if_false];show wpAny _ _ (if(Value.ref d==Value.none)=true then _ else _) _ _ s
 rw[if_neg (show ¬((Value.ref d==Value.none)=true) from Bool.false_ne_true)];refine wpAny_bind (wpAny_pure ?_)
 refine wpAny_bind (wpAny_dictEntries hod hdd ?_);rw[if_neg (by simp)]
 refine wpAny_bind (wpAny_pure ?_);refine wpAny_bind (wpAny_dictEpoch hod hdd ?_)
 rw[if_neg (by simp)];refine wpAny_pure ?_
 simp only[show ¬((i:Int)<0) from by omega,if_false,Int.toNat_natCast,Array.getElem?_eq_none hl];refine wpAny_bind ?_
 first |refine wpAny_bind (wpAny_typeNameOfWhole_keyiter hit.typeIs (wpAny_pure ?_)) |skip
 first |refine wpAny_bind (wpAny_typeNameOf_keyiter hit.typeIs (wpAny_pure ?_)) |skip
 show wpAny _ _ (setField (.ref it) 0 .none>>=_) _ _ s;refine wpAny_bind (wpAny_setField ho hd (by simp) ?_)
 show wpAny _ _ (newExc (.type "StopIteration") []>>=_) _ _ _;refine wpAny_bind ?_
 simp only[newExc,newTuple];refine wpAny_bind (wpAny_newObj_type ?_ (by size_fits))
 refine wpAny_bind (m:=firstArgMember _ _) (wpAny_of_eq (a:=Value.none) (by first |rfl |(simp only[firstArgMember];rfl)) ?_);refine wpAny_newObj_type ?_ (by size_fits)
 simp only[raiseNew];refine wpAny_bind (wpAny_handled ?_)
 rw[show A.in1.handled=none from hh];refine wpAny_bind (wpAny_pure (wpAny_throw ?_))
 refine wpAny_bind (wpAny_isInstance (T:="StopIteration") (b:=true) ⟨_,Heap.get?_push_size _ rfl,rfl⟩ isSubtype_stop ?_);exact wpAny_pure (hq _ (((Heap.SameBut.update ..).extBut.push _).push _))
theorem JQ(hh:A.handled=none)(I:Addr)(hne:d≠I):Walks prog w A I [I,d] [I] es.size (fun i v=>(es[i]?).map (·.key)=some v) (fun i h=>h.IsKeyIter I d i es.size ep/\lA h d es ep) where
 sub:=fun b hb=>by simp at hb;simp[hb]
 frame:=fun _ _ _ st hk=>⟨st.1.at (hk I (by simp)),st.2.to (hk d (by simp))⟩
 item:=fun i s Q E hi st hQ=>Ay st.1 st.2 hi fun h' it' hs'=>hQ _ h' s.toks (by simp[hi]) ⟨it',st.2.to fun o e=>hs'.extBut d o hne e⟩ fun b o hb e=>hs'.extBut b o (fun z=>hb (by simp[z])) e
 done:=fun s Q E st hQ=>DQ hh st.1 st.2 (Nat.le_refl _) fun h' he'=>hQ h' s.toks fun b o hb e=>he' b o (fun z=>hb (by simp[z])) e
 self:=fun _ _ _ _ st hQ=>wpAny_pyIter_keyiter st.1 hQ
theorem DW(lo:(d==sysModules)=false):PySem.W.KdlSrc prog w "dict" d d es.size (fun i v=>(es[i]?).map (·.key)=some v) (fun h=>lA h d es ep) where
 type:=fun s hm=>lA.ty hm
 there:=fun _ hm=>⟨hm.lt,hm.lt⟩
 keep:=fun _ _ hm hk=>hm.to fun o e=>hk d (.inl rfl) o e
 notList:=by decide
 notTuple:=by decide
 hint:=fun _ _ s _ hm hq=>PySem.W.kdl_hint_dict (lA.ty hm) hq
 iter:=fun _ s hh hm=>⟨_,_,(fun _ _ hq=>Ax lo hm hq),JQ hh _ (Nat.ne_of_lt hm.lt),⟨⟨_,Heap.get?_push_size _ rfl,rfl,rfl⟩,hm.to fun o e=>Heap.get?_push_of_some _ e⟩⟩
end
section
variable {κ:Type} [DecidableEq κ]
def su(xs:List (κ×Addr×Value))(k:κ):List (κ×Addr×Value):=xs.filter fun x=>decide (x.1≠k)
theorem NB:∀{xs:List (κ×Addr×Value)} {k:κ},k∉xs.map (·.1)->su xs k=xs:=fun {xs k} h=>by
 unfold su
 rw[List.filter_eq_self]
 intro x hx
 exact decide_eq_true fun e=>h (List.mem_map.mpr ⟨x,hx,e⟩)
theorem wj:∀{xs:List (κ×Addr×Value)} {k:κ} {j:Nat} {p:Addr×Value},(xs.map (·.1)).Nodup->xs[j]? = some (k,p)->su xs k=xs.eraseIdx j
 | [],_,_,_,_,h=>by simp at h
 | x::r,k,0,p,hn,h=>by
  rw[List.getElem?_cons_zero] at h
  cases h
  rw[List.map_cons,List.nodup_cons] at hn
  rw[List.eraseIdx_cons_zero]
  show List.filter _ _=_
  rw[List.filter_cons_of_neg (by simp)]
  exact NB hn.1
 | x::r,k,j+1,p,hn,h=>by
  rw[List.getElem?_cons_succ] at h
  rw[List.map_cons,List.nodup_cons] at hn
  have ne:¬x.1=k:=fun e=>hn.1 (e ▸ List.mem_map.mpr ⟨(k,p),List.mem_of_getElem? h,rfl⟩)
  rw[List.eraseIdx_cons_succ,<-wj hn.2 h]
  show List.filter _ _=_
  rw[List.filter_cons_of_pos (by simp[ne])]
  rfl
theorem yR{α β:Type}(f:α->β):∀(l:List α) (j:Nat),(l.eraseIdx j).map f=(l.map f).eraseIdx j
 | [],_=>rfl
 | _::_,0=>rfl
 | x::l,j+1=>by rw[List.eraseIdx_cons_succ,List.map_cons,List.map_cons,List.eraseIdx_cons_succ,yR f l j]
variable {prog:Program} {w:World} {knd:HeapKind prog w κ} {A:Around} {E:Value->Shared->Prop} {s:Shared}
theorem JR{d a:Addr}{xs:List (κ×Addr×Value)}{k:κ}{p:Addr×Value}{Q:Option DictEntry->Shared->Prop}(hu:knd.room A)(hkey:knd.is s.heap k a)(hm:s.heap.DictOfH knd d xs)(hp:atKey xs k=some p)
  (hsome:∀e h',e.val=p.2->h'.DictOfH knd d (su xs k)->Heap.SameBut d s.heap h'->Q (some e) { s with heap:=h',toks:=s.toks+knd.draws k }) (hsz:xs.length<=sizeLine) :
  wpAny (model prog w) A (Builtin.Dict.takeOut d (.ref a)) Q E s:=by
 obtain⟨o,es,ep,ho,hc,hd,he,his,hn⟩:=hm
 unfold Builtin.Dict.takeOut
 try with_reducible refine wpAny_holding ?_
 refine wpAny_bind (knd.pyHash hu hkey (wpAny_bind (wpAny_dictFind_heap (s:={ s with toks:=s.toks+knd.draws k }) hu hkey ho hd he his hn (fun hno=>?_) (fun j p' hj=>?_))))
 ·rw[atKey_none_of_get hno] at hp;cases hp
 ·rw[atKey_of_get hn hj] at hp
  cases hp
  refine wpAny_bind (wpAny_dictEntries (s:={ s with toks:=s.toks+knd.draws k }) ho hd ?_)
  rw[entry_at he j,hj]
  refine wpAny_bind (wpAny_updateDictKeys (hz:=by have e:=size_of_entries he;omega) (s:={ s with toks:=s.toks+knd.draws k }) ho hd (wpAny_pure (hsome _ _ rfl ⟨_,_,ep+1,Heap.get?_update_self _ ho (Obj.isFreed_of_dict (Obj.data_mapDictKeys hd _)),hc.mapDictKeys _,Obj.data_mapDictKeys hd _,?_,?_,?_⟩ (Heap.SameBut.update ..))))
  ·rw[wj hn hj,yR,<-he]
   obtain⟨l⟩:=es
   simp
  ·intro x hx
   exact knd.keeps (his x (List.mem_filter.mp hx).1) ho hd (Heap.SameBut.update ..)
  ·exact hn.sublist (List.filter_sublist.map _)
theorem JS{d a:Addr}{xs:List (κ×Addr×Value)}{k:κ}{p:Addr×Value}{R:Result->Shared->Prop}(hu:knd.room A.in1)(hkey:knd.is s.heap k a)(hm:s.heap.DictOfH knd d xs)(hp:atKey xs k=some p)(hsz:xs.length<=sizeLine)
  (h:∀h',h'.DictOfH knd d (su xs k)->Heap.SameBut d s.heap h'->R (.ok (.ret p.2)) { s with heap:=h',toks:=s.toks+knd.draws k }) :
  wpAny (model prog w) A.in1 (Builtin.«dict.pop» ⟨[.ref d,.ref a],[]⟩) (fun fin s'=>match fin with |.done f=>R (.ok f) s' |.again c'=>c'.quiet=true/\codeAny (model prog w) A c' R s') (fun e s'=>R (.error e) s') s:=by
 obtain⟨o,es,ep,ho,hc,hd,he,his,hn⟩:=id hm
 have ne:es.isEmpty=false:=by
  rw[Array.isEmpty_eq_false_iff]
  intro z
  rw[z] at he
  have e2:xs=[]:=by
   cases xs with
   | nil=>rfl
   | cons x r=>simp at he
  rw[e2] at hp
  cases hp
 unfold Builtin.«dict.pop»;refine wpAny_bind ?_
 unfold Builtin.Dict.keyAndDefault;refine wpAny_bind (wpAny_notOrdered_dict hm.typeIs ?_)
 show wpAny _ _ (pure (d,Value.ref a,none)) _ _ s;refine wpAny_pure ?_
 dsimp only;rw[if_neg (show ¬((keyPart (Value.ref a)).isSome=true) from by simp[keyPart])]
 refine wpAny_bind (wpAny_dictEntries ho hd ?_);refine wpAny_bind (wpAny_pure ?_)
 rw[ne];simp only[Bool.false_eq_true,if_false]
 refine wpAny_bind (JR hu hkey hm hp (fun e h' hv hm' hs'=>?_) hsz)
 simp only[Option.isNone_some,Bool.false_eq_true,if_false];refine wpAny_bind (wpAny_letGo (wpAny_pure ?_))
 show R (.ok (.ret e.val)) _
 rw[hv];exact h h' hm' hs'
theorem Ut(d a:Addr):MeetsIn prog w (Builtin.«dict.pop» ⟨[.ref d,.ref a],[]⟩) (fun A R s=>knd.room A.in1/\∃k xs p,knd.is s.heap k a/\s.heap.DictOfH knd d xs/\atKey xs k=some p/\xs.length<=sizeLine /\
  ∀h',h'.DictOfH knd d (su xs k)->Heap.SameBut d s.heap h'->R (.ok (.ret p.2)) { s with heap:=h',toks:=s.toks+knd.draws k }) :=
 fun A R s hw'=>by obtain⟨hu,k,xs,p,h1,h2,h3,h4,h⟩:=hw';exact JS hu h1 h2 h3 h4 h
end
end DR
namespace L2
open PySem PySem.Spec PyProof.Rows
theorem KT.out{H:Hp}{kvs:List (List Key×V)}{xs:List (List Key×Addr×Value)}(r:KT H kvs xs)(k:List Key):KT H (ig kvs k) (DR.su xs k):=by
 induction r with
 | nil=>exact .nil
 | @cons p q ps qs h t ih =>
  unfold ig DR.su
  by_cases e:p.1=k
  ·rw[List.filter_cons_of_neg (by simp[e]),List.filter_cons_of_neg (by simp[<-h.1,e])];exact ih
  ·rw[List.filter_cons_of_pos (by simp[e]),List.filter_cons_of_pos (by simp[<-h.1,e])];exact .cons h ih
section
variable {X:Cx} {pins:List (Addr×Obj)} {Z:St} {H:Hp} {s:Shared} {a b:Addr} {A:Around} {E:Value->Shared->Prop}
theorem Rj{kvs:List (List Key×V)}{k:List Key}{v:V}{Q:Value->Shared->Prop}(hu:A.units+1<cLine)(I:Inv X pins Z H s)(e:H a=some (.dT kvs))(eb:H b=some (.tup (k.map kV)))(l:iW kvs k=some v)
  (h:∀w' s',Inv X pins Z (upd H a (.dT (ig kvs k))) s'->RelV v w'->Q w' s'):wpAny (model X.prog X.w) A (call (.builtin "dict.pop") [.ref a,.ref b]) Q E s:=by
 obtain⟨z,hd,xs,rel,dd⟩:=Lr I.hok e
 obtain⟨w',hw,rw'⟩:=iw.some_of (v:=v) (o:=(atKey xs k).map (·.2)) (by rw[<-l];exact rel.val k)
 obtain⟨p,hp,hp2⟩:=Option.map_eq_some_iff.mp hw
 have hz:xs.length<=sizeLine:=by rw[<-Paired.length rel];exact z
 have hl:(ig kvs k).length<=sizeLine:=Nat.le_trans (Ae kvs k) z
 refine call_meetsIn PySem.F.slot_dict_pop dd.typeIs PySem.F.entry_dict_pop (PySem.F.args_dict_pop_2 _ _) (DR.Ut (knd:=tupleKind (cg X.prog X.w)) a b) ⟨tupleKind_room_in1 hu,k,xs,p,mG I.hok eb,dd,hp,hz,fun h' dd' hs=>?_⟩
 obtain⟨q,es,ep,hq,h2,h3,h4,_,h5⟩:=dd'
 show Q p.2 _
 rw[hp2]
 refine h w' _ (pM I (by rw[e];exact True.intro) hs ⟨q,hq⟩ ⟨hl,hd,_,(rel.out k).keeps fun c ys ec=>?_,q,es,ep,hq,h2,h3,h4,h5⟩) rw'
 rw[aD (Lh ec e (fun z=>nomatch z))]
 exact ec
theorem NK{kvs:List (List Key×V)}{Q:Value->Shared->Prop}(hh:A.handled=none)(I:Inv X pins Z H s)(e:H a=some (.dT kvs))
  (h:∀(bs:List Addr) (p:Addr) s',H p=none->Paired (fun(x:List Key×V) (b:Addr)=>H b=some (.tup (x.1.map kV))) kvs bs->Inv X pins Z (upd H p (.lst (bs.map V.ref))) s'->Q (.ref p) s') :
  wpAny (model X.prog X.w) A (call (.type "list") [.ref a]) Q E s:=by
 obtain⟨z,hd,xs,rel,o,es,ep,h1,h2,h3,h4,h5⟩:=(show bV X.prog X.w H s.heap a (.dT kvs) from I.hok a _ e)
 have en:es.size=kvs.length:=by rw[<-Array.length_toList,h4,List.length_map,Paired.length rel]
 refine PySem.W.kdl_call (DR.DW (es:=es) (ep:=ep) hd) hh ⟨o,h1,h2,h3⟩ (by rw[en];exact z) fun h' tk acc' c' hk hS hacc=>?_
 have ea:acc'.toList=(xs.map fun x=>Value.ref x.2.1):=by
  apply List.ext_getElem?
  intro i
  rw[List.getElem?_map,Array.getElem?_toList]
  by_cases hi:i<acc'.size
  ·have q:(es[i]?).map (·.key)=some acc'[i]:=hacc.2 i acc'[i] (Array.getElem?_eq_getElem hi)
   rw[entry_at h4 i] at q
   rw[Array.getElem?_eq_getElem hi,<-q]
   cases xs[i]? <;> rfl
  ·have hx:xs.length<=i:=by rw[<-Paired.length rel,<-en,<-hacc.1];omega
   rw[Array.getElem?_eq_none (by omega),List.getElem?_eq_none hx];rfl
 have pr:∀{l:List (List Key×V)} {m:List (List Key×Addr×Value)},KT H l m->Paired (fun(x:List Key×V) (b:Addr)=>H b=some (.tup (x.1.map kV))) l (m.map (·.2.1)):=by
  intro l m q
  induction q with
  | nil=>exact .nil
  | cons h t ih=>exact .cons h.2.1 ih
 have vr:∀l:List (List Key×Addr×Value),Vals ((l.map (·.2.1)).map V.ref) (l.map fun x=>Value.ref x.2.1):=by
  intro l
  induction l with
  | nil=>exact .nil
  | cons x r ih=>exact .cons rfl ih
 refine h (xs.map (·.2.1)) s.heap.objs.size _ (I.hok.fresh (Nat.le_refl _)) (pr rel) (I.laid hk (Nat.le_refl _) ⟨?_,(xs.map fun x=>Value.ref x.2.1),c',vr xs,?_⟩)
 ·rw[List.length_map,List.length_map,<-Paired.length rel];exact z
 ·rw[hS,<-ea]
theorem NP{kvs:List (Key×V)}{Q:Value->Shared->Prop}(hh:A.handled=none)(I:Inv X pins Z H s)(e:H a=some (.dK kvs))
  (h:∀(p:Addr) s',H p=none->Inv X pins Z (upd H p (.lst (kvs.map fun x=>kV x.1))) s'->Q (.ref p) s') :
  wpAny (model X.prog X.w) A (call (.type "list") [.ref a]) Q E s:=by
 obtain⟨z,hd,vs,rel,dd⟩:=tL I.hok e
 obtain⟨ep,da⟩:=dd.dictAt
 refine PySem.W.kdl_call (PySem.W.kdl_dict (knd:=cg X.prog X.w) (kvs:=vs) (ep:=ep) hd) hh da (by rw[<-rel.length];exact z) fun h' tk acc' c' hk hS hacc=>?_
 have va:∀(l:List (Key×V)) (us:List Value),us.length=l.length->(∀(i:Nat) (u:Value),us[i]? = some u->∃(k:Key) (x:Unit),(l[i]?).map (fun(y:Key×V)=>y.1)=some k/\(cg X.prog X.w).is k u=true/\x=())->Vals (l.map fun x=>kV x.1) us:=by
  intro l
  induction l with
  | nil=>intro us hl _;cases us with
   | nil=>exact .nil
   | cons u r=>simp at hl
  | cons p r ih =>
   intro us hl hx
   cases us with
   | nil=>simp at hl
   | cons u t =>
    obtain⟨k,_,h1,h2,_⟩:=hx 0 u rfl
    simp at h1
    subst h1
    refine .cons ?_ (ih t (by simpa using hl) fun i u hi=>?_)
    ·rcases cZ h2 with⟨i,t,e1,e2⟩ |⟨x,t,e1,e2⟩
     ·show RelV (kV p.1) u;rw[e1];exact⟨t,e2⟩
     ·show RelV (kV p.1) u;rw[e1];exact⟨t,e2⟩
    ·obtain⟨k,x,z1,z2⟩:=hx (i+1) u (by simpa using hi)
     exact⟨k,x,by simpa using z1,z2⟩
 have hk2:=rel.keys
 refine h s.heap.objs.size _ (I.hok.fresh (Nat.le_refl _)) (I.laid hk (Nat.le_refl _) ⟨by rw[List.length_map];exact z,acc'.toList,c',va kvs _ ?_ fun i u hi=>?_,?_⟩)
 ·rw[Array.length_toList,hacc.1,rel.length]
 ·rw[Array.getElem?_toList] at hi
  obtain⟨k,x,z1,z2⟩:=hacc.2 i u hi
  refine⟨k,(),?_,z2,rfl⟩
  have q:(kvs.map (·.1))[i]? = (vs.map (·.1))[i]?:=by rw[hk2]
  rw[List.getElem?_map,List.getElem?_map,z1] at q
  exact q
 ·rw[hS]
end
def Uu(td ty:TE):TE:=fun Z H Q=>td Z H fun x H1=>∃a,x=.ref a/\IsD H1 a/\ty Z H1 fun y H2=>(∃kvs k v,H2 a=some (.dK kvs)/\y=kV k/\iW kvs k=some v/\Q v (upd H2 a (.dK (ig kvs k)))) \/
 ∃kvs k b v,H2 a=some (.dT kvs)/\y=.ref b/\H2 b=some (.tup (k.map kV))/\iW kvs k=some v/\Q v (upd H2 a (.dT (ig kvs k)))
section
variable {X:Cx} {o e:Expr} {apos cpos:Pos} {td ty:TE}
theorem Rk(hu:X.A.units+1<cLine)(ho:PE X o td)(he:PE X e ty)(m:M1 X o "pop" apos e cpos):PE X (.Call (.Attribute o "pop" apos) [e] [] cpos) (Uu td ty):=by
 intro pins s Z H Q I h
 refine wpAny_Call_method m.base m.few m.line PySem.F.plainAttrs_dict PySem.F.slot_dict_pop PySem.F.type_dict_pop (thn (ho pins s Z H _ I h) fun u s1 hw'=>?_)
 obtain⟨x,H1,I1,rx,a,ex,d,q1⟩:=hw'
 subst ex;obtain rfl:u=Value.ref a:=rx
 obtain⟨t1,t2,_⟩:=Ah I1 d
 refine⟨t1,t2,?_⟩;rw[m.trees]
 refine Calls.callWith_builtin rfl (Calls.evalArgs_plain (Calls.spliced_cons (thn (he pins s1 Z H1 _ I1 q1) fun iv s2 ⟨y,H2,I2,ry,q2⟩=>Calls.spliced_nil ?_)))
 rcases q2 with⟨kvs,k,v,ea,ey,l,q2⟩ |⟨kvs,k,b,v,ea,ey,eb,l,q2⟩
 ·subst ey;exact SQ I2 ea ry l (.inl rfl) fun w' s3 I3 rw'=>⟨v,_,I3,rw',q2⟩
 ·subst ey;obtain rfl:iv=Value.ref b:=ry;exact Rj hu I2 ea eb l fun w' s3 I3 rw'=>⟨v,_,I3,rw',q2⟩
theorem Ft(hh:X.A.handled=none):gG X (.type "list") (fun xs H Q=>∃a,xs=[V.ref a]/\((∃kvs,H a=some (.dK kvs)/\∀p,H p=none->Q (.ref p) (upd H p (.lst (kvs.map fun x=>kV x.1)))) \/
  ∃kvs,H a=some (.dT kvs)/\∀(bs:List Addr) p,H p=none->Paired (fun(x:List Key×V) (b:Addr)=>H b=some (.tup (x.1.map kV))) kvs bs->Q (.ref p) (upd H p (.lst (bs.map V.ref))))):=by
 intro pins s Z H xs us Q I r h
 obtain⟨a,rfl,h⟩:=h
 obtain⟨u,rfl,ru⟩:=vals1 r
 cases ru
 rcases h with⟨kvs,ha,q⟩ |⟨kvs,ha,q⟩
 ·exact NP hh I ha fun p s' hp I'=>⟨.ref p,_,I',rfl,q p hp⟩
 ·exact NK hh I ha fun bs p s' hp pr I'=>⟨.ref p,_,I',rfl,q bs p hp pr⟩
end
end L2
namespace DL
open PySem PySem.Spec PyProof.Rows L2
def qI:OS->D->Option (D×OS)
 | .dK kvs,d=>(match oE d with |some k=>(match cW kvs k with |some v=>some (v,.dK (jo kvs k)) |none=>none) |none=>none)
 | .dT kvs,d=>(match nj d with |some k=>(match cW kvs k with |some v=>some (v,.dT (jo kvs k)) |none=>none) |none=>none)
 | _,_=>none
def pq(go gk:Den):Den:=fun Y U=>match go Y U with
 | some (.obj n,U1)=>(match U1[n]? with
  | some o=>if jH o=true then(match gk Y U1 with
   | some (k,U2)=>(match U2[n]? with
    | some o2=>(match qI o2 k with |some (v,o3)=>some (v,U2.set n o3) |none=>none)
    | none=>none)
   | none=>none) else none
  | none=>none)
 | _=>none
def Fv:OS->Option (List D)
 | .dK kvs=>some (kvs.map fun x=>ofK x.1)
 | .dT kvs=>some (kvs.map fun x=>.tup (x.1.map ofK))
 | _=>none
def sy(go:Den):Den:=fun Y U=>match go Y U with
 | some (.obj n,U1)=>(match U1[n]? with
  | some o=>(match Fv o with |some ks=>some (.lst ks,U1) |none=>none)
  | none=>none)
 | _=>none
section
variable {K:PySem.W.Frag} {C:Cl} {e:E4} {U:List OS}
theorem Wf.tups(w:Wf K C e U):∃e1:E4,e1.H=e.H/\e1.α=e.α/\Ext e e1/\Wf K C e1 U/\∀b xs,e.H b=some (.tup xs)->e1.F b=some (.tup xs):=by
 let F':Hp:=fun b=>match e.H b with
  | some (.tup xs)=>some (.tup xs)
  | _=>e.F b
 have ft:∀b xs,e.H b=some (.tup xs)->F' b=some (.tup xs):=fun b xs h=>by show(match e.H b with |some (.tup xs)=>some (HO.tup xs) |_=>e.F b)=_;rw[h]
 have fo:∀b,(∀xs,e.H b≠some (.tup xs))->F' b=e.F b:=fun b h=>by
  show(match e.H b with |some (.tup xs)=>some (HO.tup xs) |_=>e.F b)=_
  cases q:e.H b with
  | none=>rfl
  | some o=>cases o<;>first |rfl |exact absurd q (h _)
 have ff:bK e.F F':=fun b o h=>by
  by_cases q:∃xs,e.H b=some (.tup xs)
  ·obtain⟨xs,q⟩:=q
   rw[ft b xs q,<-q];exact w.fh b o h
  ·rw[fo b fun xs z=>q ⟨xs,z⟩];exact h
 have fh:bK F' e.H:=fun b o h=>by
  by_cases q:∃xs,e.H b=some (.tup xs)
  ·obtain⟨xs,q⟩:=q
   rw[ft b xs q] at h;rw[q];exact h
  ·rw[fo b fun xs z=>q ⟨xs,z⟩] at h;exact w.fh b o h
 refine⟨⟨e.α,F',e.A,e.H⟩,rfl,rfl,⟨fun _ _ _ h=>h,fun _ _ h _=>h,fun _ o h=>⟨o,h⟩,ff,fun b o h=>?_,fun _ h=>.inl h,fun _ h=>h,[],by simp⟩,⟨fh,fun b h=>?_,w.ah,w.ol,w.nd,fun n a o h1 h2=>⟨(w.ob n a o h1 h2).1,(w.ob n a o h1 h2).2.keep (fun _ z=>z) ff ⟨[],by simp⟩⟩⟩,ft⟩
 ·have h:F' b=some o:=h
  by_cases q:∃xs,e.H b=some (.tup xs)
  ·obtain⟨xs,q⟩:=q
   rw[ft b xs q] at h
   cases h
   exact .inr (.inr ⟨⟨xs,rfl⟩,q,fun z=>(w.ah b z).2 xs q⟩)
  ·rw[fo b fun xs z=>q ⟨xs,z⟩] at h;exact .inl h
 ·show F' b=none
  rw[fo b (w.ah b h).2];exact w.fa b h
theorem NQ(w:Wf K C e U){n:Nat}{a:Addr}{o o':OS}{d x:D}{y:V}{Q:VK}(hα:e.α[n]? = some a)(hUq:U[n]? = some o)(hp:qI o d=some (x,o'))(i:Is K e.α e.F d y)
  (k:∀v e',Ext e e'->Wf K C e' (U.set n o')->Is K e'.α e'.F x v->Q v e'.H) :
  (∃kvs k v,e.H a=some (.dK kvs)/\y=kV k/\iW kvs k=some v/\Q v (upd e.H a (.dK (ig kvs k)))) \/
  ∃kvs k b v,e.H a=some (.dT kvs)/\y=.ref b/\e.H b=some (.tup (k.map kV))/\iW kvs k=some v/\Q v (upd e.H a (.dT (ig kvs k))):=by
 have ob:=(w.ob n a o hα hUq).2
 unfold qI at hp
 cases o with
 | dK kvs =>
  obtain⟨vs,h1,h2⟩:=ob
  dsimp only at hp
  cases q:oE d with
  | none=>rw[q] at hp;cases hp
  | some kk =>
   rw[q] at hp
   dsimp only at hp
   cases q2:cW kvs kk with
   | none=>rw[q2] at hp;cases hp
   | some v0 =>
    rw[q2] at hp
    cases hp
    have ov:=h2.val kk
    rw[q2] at ov
    obtain⟨v,e1,iv⟩:=ov.some_of
    obtain⟨w',x'⟩:=w.at (o':=.dK (jo kvs kk)) (ho:=.dK (ig vs kk)) hα (fun xs z=>nomatch z) ⟨_,aM,h2.drop kk⟩ fun o u z=>by rw[h1] at z;cases z
    exact .inl ⟨vs,kk,v,h1,rZ q i,e1,k v (e.at a _) x' w' iv⟩
 | dT kvs =>
  obtain⟨vs,h1,h2⟩:=ob
  dsimp only at hp
  cases q:nj d with
  | none=>rw[q] at hp;cases hp
  | some kk =>
   rw[q] at hp
   dsimp only at hp
   cases q2:cW kvs kk with
   | none=>rw[q2] at hp;cases hp
   | some v0 =>
    rw[q2] at hp
    cases hp
    have ov:=h2.val kk
    rw[q2] at ov
    obtain⟨v,e1,iv⟩:=ov.some_of
    obtain⟨b,rfl,hb⟩:=t_ q i
    obtain⟨w',x'⟩:=w.at (o':=.dT (jo kvs kk)) (ho:=.dT (ig vs kk)) hα (fun xs z=>nomatch z) ⟨_,aM,h2.drop kk⟩ fun o u z=>by rw[h1] at z;cases z
    exact .inr ⟨vs,kk,b,v,h1,rfl,w.fh _ _ hb,e1,k v (e.at a _) x' w' iv⟩
 | _=>cases hp
end
theorem p_{K:PySem.W.Frag}{e e':E4}{n:Nat}{p:Addr}(x:Ext e e')(h:e.α[n]? = some p):e'.α[n]? = some p:=by
 obtain⟨more,z⟩:=x.al
 rw[z,List.getElem?_append_left (List.getElem?_eq_some_iff.mp h).1];exact h
section
variable {X:Cx} {C:Cl} {a b x:Expr} {f g h:Den} {ga:bB} {pos pos' ap cp:Pos}
theorem ud(hu:X.A.units+1<cLine)(ho:PD X C a f)(hi:PD X C b g)(m:M1 X a "pop" ap b cp):PD X C (.Call (.Attribute a "pop" ap) [b] [] cp) (pq f g):=bx (Rk hu ho hi m) fun Z H Q hw'=>by
 obtain⟨e,U,Y,d,U',eH,w,rl,q,kk⟩:=hw'
 unfold pq at q
 cases q1:f Y U with
 | none=>rw[q1] at q;cases q
 | some p1 =>
  obtain⟨d1,U1⟩:=p1
  rw[q1] at q
  cases d1 with
  | obj n =>
   dsimp only at q
   cases q0:U1[n]? with
   | none=>rw[q0] at q;cases q
   | some o0 =>
    rw[q0] at q
    dsimp only at q
    by_cases hd:jH o0=true
    ·rw[if_pos hd] at q
     cases q2:g Y U1 with
     | none=>rw[q2] at q;cases q
     | some p2 =>
      obtain⟨k,U2⟩:=p2
      rw[q2] at q
      dsimp only at q
      cases q3:U2[n]? with
      | none=>rw[q3] at q;cases q
      | some o =>
       rw[q3] at q
       dsimp only at q
       cases q4:qI o k with
       | none=>rw[q4] at q;cases q
       | some r =>
        obtain⟨v0,o3⟩:=r
        rw[q4] at q
        cases q
        refine⟨e,U,Y,_,U1,eH,w,rl,q1,fun v e1 x1 w1 i1=>?_⟩
        rw[Is] at i1
        obtain⟨p,hα,rfl⟩:=i1
        refine⟨p,rfl,Av w1 hα q0 hd,?_⟩
        refine⟨e1,U1,Y,k,_,rfl,w1,rl.ext x1,q2,fun u e2 x2 w2 i2=>?_⟩
        exact NQ w2 (p_ (K:=X.K) x2 hα) q3 q4 i2 fun v e' x' w' iv=>kk v e' ((x1.trans x2).trans x') w' iv
    ·rw[if_neg hd] at q;cases q
  | _=>cases q
theorem Az{K:PySem.W.Frag}{α:List Addr}{F H:Hp}(hF:∀b xs,H b=some (.tup xs)->F b=some (.tup xs)):∀{kvs:List (List Key×D)} {vs:List (List Key×V)} {bs:List Addr},kvs.map (·.1)=vs.map (·.1) ->
  Paired (fun(x:List Key×V) (b:Addr)=>H b=some (.tup (x.1.map kV))) vs bs->IsL K α F (kvs.map fun x=>.tup (x.1.map ofK)) (bs.map V.ref)
 | [],vs,bs,e,h=>by
  cases h with
  | nil=>exact .nil
  | cons h q=>simp at e
 | p::r,vs,bs,e,h=>by
  cases h with
  | nil=>simp at e
  | cons h q =>
   rw[List.map_cons,List.map_cons] at e
   injection e with e1 e2
   refine .cons ?_ (Az hF e2 q)
   rw[Is,e1]
   exact⟨_,_,rfl,hF _ _ h,DP _⟩
theorem A_{K:PySem.W.Frag}{α:List Addr}{F:Hp}:∀{kvs:List (Key×D)} {vs:List (Key×V)},kvs.map (·.1)=vs.map (·.1)->IsL K α F (kvs.map fun x=>ofK x.1) (vs.map fun x=>kV x.1)
 | [],vs,e=>by
  cases vs with
  | nil=>exact .nil
  | cons v t=>simp at e
 | p::r,vs,e=>by
  cases vs with
  | nil=>simp at e
  | cons v t =>
   rw[List.map_cons,List.map_cons] at e
   injection e with e1 e2
   refine .cons ?_ (A_ e2)
   show Is K α F (ofK p.1) (kV v.1)
   rw[e1];exact Ar v.1
theorem JT{n:Str}{p:Pos}(hh:X.A.handled=none)(hg:Gl X n)(hm:X.mg n=none)(hv:bootBuiltins n=some (.type "list"))(ho:PD X C a f)(hn:n ≠ "__name__":=by decide)(hdb:(n==("__debug__":Str))=false:=by decide)
  (he:starEach [a] X.env=(false,eval a X.env)::starEach [] X.env:=by rfl) (hpl:(backTo pos (starEach [] X.env)).any (·.1)=false:=by rfl):PD X C (.Call (.Name n p) [a] [] pos) (sy f) :=
 bx (GR (Ft hh) hg hm hv (bR ho dH he) hn hdb he hpl) fun Z H Q hw'=>by
  obtain⟨e,U,Y,d,U',eH,w,rl,q,kk⟩:=hw'
  unfold sy at q
  cases q1:f Y U with
  | none=>rw[q1] at q;cases q
  | some p1 =>
   obtain⟨d1,U1⟩:=p1
   rw[q1] at q
   cases d1 with
   | obj n =>
    dsimp only at q
    cases q0:U1[n]? with
    | none=>rw[q0] at q;cases q
    | some o0 =>
     rw[q0] at q
     refine⟨e,U,Y,_,U1,eH,w,rl,q1,fun v e1 x1 w1 i1=>?_⟩
     rw[Is] at i1
     obtain⟨p,hα,rfl⟩:=i1
     have ob:=(w1.ob n p _ hα q0).2
     cases o0 with
     | dK kvs =>
      cases q
      obtain⟨vs,h1,h2⟩:=ob
      refine⟨p,rfl,.inl ⟨vs,h1,fun p' hp=>kk _ (e1.new p' _) (x1.trans (w1.new_ext hp)) (w1.new hp) ?_⟩⟩
      rw[Is]
      exact⟨p',_,rfl,aM,A_ h2.keys⟩
     | dT kvs =>
      cases q
      obtain⟨vs,h1,h2⟩:=ob
      refine⟨p,rfl,.inr ⟨vs,h1,fun bs p' hp pr=>?_⟩⟩
      obtain⟨e2,eH2,eα2,x2,w2,ft⟩:=w1.tups
      have hp2:e2.H p'=none:=by rw[eH2];exact hp
      have z:=kk (.ref p') (e2.new p' (.lst (bs.map V.ref))) ((x1.trans x2).trans (w2.new_ext hp2)) (w2.new hp2) (by
       rw[Is]
       refine⟨p',_,rfl,aM,Az (H:=e1.H) (fun b xs hb=>?_) h2.keys pr⟩
       show upd e2.F p' _ b=_
       rw[aD (fun z=>by subst z;rw[hp] at hb;cases hb)]
       exact ft b xs hb)
      have eq:(e2.new p' (.lst (bs.map V.ref))).H=upd e1.H p' (.lst (bs.map V.ref)):=by show upd e2.H p' _=_;rw[eH2]
      rw[<-eq];exact z
     | _=>cases q
   | _=>cases q
structure ClD(K:PySem.W.Frag)(C:Cl)(c:Str):Prop where
 ex:∃Ca,C c=some Ca/\Cls K Ca
def NoA(K:PySem.W.Frag)(C:Cl)(c f:Str):Prop:=∀Ca,C c=some Ca->mF K Ca f
def fJ(c fl:Str)(g:Den):Den:=fun Y U=>match g Y U with
 | some (.obj n,U1)=>(match U1[n]? with
  | some (.ins c' fs)=>if c'=c then(match fs.lookup fl with |some d=>some (d,U1) |none=>none) else none
  | _=>none)
 | _=>none
def nC(c fl:Str)(go gv:Den):aU:=fun Y U=>match gv Y U with
 | some (v,U1)=>(match go Y U1 with
  | some (.obj n,U2)=>(match U2[n]? with
   | some (.ins c' fs)=>if c'=c/\fs.length<1000 then some (.nx Y (U2.set n (.ins c (jq fl v fs)))) else none
   | _=>none)
  | _=>none)
 | none=>none
theorem fj{c fl:Str}(T:ClD X.K C c)(hn:NoA X.K C c fl)(h:PD X C a f)(hb:attributeBase a fl X.env (eval a X.env)=eval a X.env:=by rfl):PD X C (.Attribute a fl pos) (fJ c fl f):=bx (QB h hb) fun Z H Q hw'=>by
 obtain⟨e,U,Y,d,U',eH,w,rl,q,kk⟩:=hw'
 obtain⟨Ca,hC,cl⟩:=T.ex
 unfold fJ at q
 cases q1:f Y U with
 | none=>rw[q1] at q;cases q
 | some p1 =>
  obtain⟨d1,U1⟩:=p1
  rw[q1] at q
  cases d1 with
  | obj n =>
   dsimp only at q
   cases q0:U1[n]? with
   | none=>rw[q0] at q;cases q
   | some o0 =>
    rw[q0] at q
    refine⟨e,U,Y,_,U1,eH,w,rl,q1,fun v e1 x1 w1 i1=>?_⟩
    rw[Is] at i1
    obtain⟨p,hα,rfl⟩:=i1
    have ob:=(w1.ob n p _ hα q0).2
    cases o0 with
    | ins c' fs =>
     dsimp only at q
     by_cases ec:c'=c
     ·rw[if_pos ec] at q
      subst ec
      cases q2:fs.lookup fl with
      | none=>rw[q2] at q;cases q
      | some v0 =>
       rw[q2] at q
       cases q
       obtain⟨Cb,dx,fvs,h1,h2,h3⟩:=ob
       rw[hC] at h1
       cases h1
       have ov:=h3.look fl
       rw[q2] at ov
       obtain⟨v',e2,iv⟩:=ov.some_of
       exact⟨p,Ca,dx,fvs,v',rfl,h2,cl,hn Ca hC,e2,kk _ e1 x1 w1 iv⟩
     ·rw[if_neg ec] at q;cases q
    | _=>cases q
  | _=>cases q
theorem xQ{c fl:Str}(T:ClD X.K C c)(hn:NoA X.K C c fl)(ho:PD X C a f)(hv:PD X C x g)(hs:swapsWith x (some (.Attribute a fl pos')) pos.line X.env=pure false:=by rfl) :
  PDS X C (.Assign [.Attribute a fl pos'] x pos) (nC c fl f g):=fun e₀=>cQ (QC ho hv hs) fun Dn Z H hw'=>by
 obtain⟨e,U,Y,o,eH,r,q,k⟩:=hw'
 obtain⟨Ca,hC,cl⟩:=T.ex
 unfold nC at q
 cases q1:g Y U with
 | none=>rw[q1] at q;cases q
 | some p1 =>
  obtain⟨v,U1⟩:=p1
  rw[q1] at q
  dsimp only at q
  cases q2:f Y U1 with
  | none=>rw[q2] at q;cases q
  | some p2 =>
   obtain⟨d2,U2⟩:=p2
   rw[q2] at q
   cases d2 with
   | obj n =>
    dsimp only at q
    cases q0:U2[n]? with
    | none=>rw[q0] at q;cases q
    | some o0 =>
     rw[q0] at q
     refine⟨e,U,Y,v,U1,eH,r.wf,r.rel,q1,fun uv e1 x1 w1 i1=>?_⟩
     refine⟨e1,U1,Y,_,U2,rfl,w1,r.rel.ext x1,q2,fun uo e2 x2 w2 i2=>?_⟩
     rw[Is] at i2
     obtain⟨p,hα,rfl⟩:=i2
     have ob:=(w2.ob n p _ hα q0).2
     cases o0 with
     | ins c' fs =>
      dsimp only at q
      by_cases ec:c'=c/\fs.length<1000
      ·rw[if_pos ec] at q
       obtain⟨rfl,hl⟩:=ec
       cases q
       obtain⟨Cb,dx,fvs,h1,h2,h3⟩:=ob
       rw[hC] at h1
       cases h1
       obtain⟨w',x'⟩:=w2.at (o':=.ins c' (jq fl v fs)) (ho:=.ins Ca dx (gB fl uv fvs)) hα (fun xs z=>nomatch z) ⟨Ca,dx,_,hC,aM,h3.gB fl (i1.ext x2)⟩ fun o u z=>by rw[h2] at z;cases z
       exact⟨p,Ca,dx,fvs,rfl,h2,cl,hn Ca hC,by rw[<-h3.len];exact hl,k (e2.at p _) Z (r.to ((x1.trans x2).trans x') w')⟩
      ·rw[if_neg ec] at q;cases q
     | _=>cases q
   | _=>cases q
structure Mt(P:Program)(w:World)(K:PySem.W.Frag)(mg:Str->Option Value)(base:Heap)(C:Cl)(k:Nat)(c m:Str)(F:bw)(dfl:List D):Prop where
 ex:∃Ca f fd ps ds dvs,C c=some Ca/\Cls K Ca/\Meth K Ca m f/\Binds K fd ps ds/\Vals dvs ds/\(∀α H,IsL K α H dfl dvs)/\FnOk P w K mg base CX0 k f fd ps (spD K C F)
def cP(c m:Str)(F:bw)(dfl:List D)(go:Den)(ga:bB):Den:=fun Y U=>match go Y U with
 | some (.obj n,U1)=>(match U1[n]? with
  | some (.ins c' fs)=>if c'=c then(match fs.lookup m with
   | none=>(match ga Y U1 with |some (ds,U2)=>F (.obj n::(ds++dfl)) U2 |none=>none)
   | some _=>none) else none
  | _=>none)
 | _=>none
theorem sE{K:PySem.W.Frag}{c m:Str}{F:bw}{dfl:List D}{dvs:List V}{Ca:Addr}(hC:C c=some Ca)(hd:∀α H,IsL K α H dfl dvs){Z:St}{H:Hp}{Q:VK}{E:XK}(hw:tD K C (cP c m F dfl f ga) Z H Q) :
  Ff Ca m (spD K C F) dvs E (tD K C f) (tDA K C ga) Z H Q:=by
 obtain⟨e,U,Y,d,U',eH,w,rl,q,kk⟩:=hw
 unfold cP at q
 cases q1:f Y U with
 | none=>rw[q1] at q;cases q
 | some p1 =>
  obtain⟨d1,U1⟩:=p1
  rw[q1] at q
  cases d1 with
  | obj n =>
   dsimp only at q
   cases q0:U1[n]? with
   | none=>rw[q0] at q;cases q
   | some o0 =>
    rw[q0] at q
    refine⟨e,U,Y,_,U1,eH,w,rl,q1,fun v e1 x1 w1 i1=>?_⟩
    rw[Is] at i1
    obtain⟨p,hα,rfl⟩:=i1
    have ob:=(w1.ob n p _ hα q0).2
    cases o0 with
    | ins c' fs =>
     dsimp only at q
     by_cases ec:c'=c
     ·rw[if_pos ec] at q
      subst ec
      cases q2:fs.lookup m with
      | some v0=>rw[q2] at q;cases q
      | none =>
       rw[q2] at q
       dsimp only at q
       cases q3:ga Y U1 with
       | none=>rw[q3] at q;cases q
       | some p3 =>
        obtain⟨ds,U2⟩:=p3
        rw[q3] at q
        obtain⟨Cb,dx,fvs,h1,h2,h3⟩:=ob
        rw[hC] at h1
        cases h1
        have ov:=h3.look m
        rw[q2] at ov
        have e2:fvs.lookup m=none:=by
         cases z:fvs.lookup m with
         | none=>rfl
         | some v=>rw[z] at ov;exact ov.elim
        refine⟨p,dx,fvs,rfl,h2,e2,e1,U1,Y,ds,U2,rfl,w1,rl.ext x1,q3,fun vs e3 x3 w3 i3=>?_⟩
        exact⟨e3,U2,_,d,U',rfl,w3,.cons (by rw[Is];exact⟨p,p_ (K:=K) x3 hα,rfl⟩) (i3.append (hd _ _)),q,fun v' e4 x4 w4 i4=>kk v' e4 ((x1.trans x3).trans x4) w4 i4⟩
     ·rw[if_neg ec] at q;cases q
    | _=>cases q
  | _=>cases q
theorem qg{k:Nat}{c m:Str}{F:bw}{dfl:List D}{es:List Expr}{pl:Sem Bool}(G:Mt X.prog X.w X.K X.mg X.base C k c m F dfl)(hr:Room k X.A)(ho:PD X C a f)(ha:PDA X C (x::es) ga)
  (hst:starEach (x::es) X.env=(false,eval x X.env)::starEach es X.env:=by rfl) (hpl:(backTo cp (starEach es X.env)).any (·.1)=false:=by rfl)
  (ht:eval (.Call (.Attribute a m ap) (x::es) [] cp) X.env=(do
   let ov <-eval a X.env
   standAt ap.atName
   let (f,first) <-holding [ov] (getMethod ov m pl)
   callWith cp f first (backTo cp (starEach (x::es) X.env)) (backToKw cp (keywordEach [] X.env))):=by rfl) :
  PD X C (.Call (.Attribute a m ap) (x::es) [] cp) (cP c m F dfl f ga):=by
 obtain⟨Ca,fa,fd,ps,ds,dvs,hC,cl,me,hb,hd,hdd,ok⟩:=G.ex
 exact bx (Mx ho cl me ok hr hb hd vK ha hst hpl ht) fun _ _ _ hw=>sE hC hdd hw
theorem Ba{k:Nat}{c m:Str}{F:bw}{dfl:List D}{pl:Sem Bool}(G:Mt X.prog X.w X.K X.mg X.base C k c m F dfl)(hr:Room k X.A)(ho:PD X C a f)
  (ht:eval (.Call (.Attribute a m ap) [] [] cp) X.env=(do
   let ov <-eval a X.env
   standAt ap.atName
   let (f,first) <-holding [ov] (getMethod ov m pl)
   callWith cp f first (backTo cp (starEach [] X.env)) (backToKw cp (keywordEach [] X.env))):=by rfl) :
  PD X C (.Call (.Attribute a m ap) [] [] cp) (cP c m F dfl f aA):=by
 obtain⟨Ca,fa,fd,ps,ds,dvs,hC,cl,me,hb,hd,hdd,ok⟩:=G.ex
 exact bx (Ji ho cl me ok hr hb hd vK ht) fun Z H Q hw=>by
  have z:=sE (ga:=aA) (E:=E0) hC hdd hw
  obtain⟨e,U,Y,d,U',eH,w,rl,q,kk⟩:=z
  refine⟨e,U,Y,d,U',eH,w,rl,q,fun v e1 x1 w1 i1=>?_⟩
  obtain⟨a',dx,fs,e2,e3,e4,z⟩:=kk v e1 x1 w1 i1
  refine⟨a',dx,fs,e2,e3,e4,?_⟩
  obtain⟨e5,U5,Y5,ds5,U6,eH5,w5,rl5,q5,kk5⟩:=z
  cases q5
  have:=kk5 [] e5 (Ext.refl _) w5 .nil
  rw[eH5] at this
  exact this
structure MkD(P:Program)(w:World)(K:PySem.W.Frag)(mg:Str->Option Value)(base:Heap)(C:Cl)(k:Nat)(c:Str)(F:bw)(dfl:List D):Prop where
 ex:∃Ca f fd ps ds dvs,C c=some Ca/\mg c=some (.ref Ca)/\Mk K Ca f/\Binds K fd ps ds/\Vals dvs ds/\(∀α H,IsL K α H dfl dvs)/\FnOk P w K mg base CX0 k f fd ps (spD K C F)
def qJ(c:Str)(F:bw)(dfl:List D)(ga:bB):Den:=fun Y U=>match ga Y U with
 | some (ds,U1)=>(match F (.obj U1.length::(ds++dfl)) (U1++[.ins c []]) with
  | some (.non,U2)=>some (.obj U1.length,U2)
  | _=>none)
 | none=>none
theorem Hr{K:PySem.W.Frag}{c:Str}{F:bw}{dfl:List D}{dvs:List V}{Ca:Addr}(hC:C c=some Ca)(hd:∀α H,IsL K α H dfl dvs){Z:St}{H:Hp}{Q:VK}{E:XK}(hw:tD K C (qJ c F dfl ga) Z H Q) :
  Lk Ca (spD K C F) dvs E (tDA K C ga) Z H Q:=by
 obtain⟨e,U,Y,d,U',eH,w,rl,q,kk⟩:=hw
 unfold qJ at q
 cases q1:ga Y U with
 | none=>rw[q1] at q;cases q
 | some p1 =>
  obtain⟨ds,U1⟩:=p1
  rw[q1] at q
  dsimp only at q
  cases q2:F (.obj U1.length::(ds++dfl)) (U1++[.ins c []]) with
  | none=>rw[q2] at q;cases q
  | some p2 =>
   obtain⟨d2,U2⟩:=p2
   rw[q2] at q
   cases d2 with
   | non =>
    cases q
    refine⟨e,U,Y,ds,U1,eH,w,rl,q1,fun vs e1 x1 w1 i1 p dx hp hdx hne=>?_⟩
    obtain⟨w2,x2⟩:=w1.obj (H':=upd (upd e1.H dx (.own p)) p (.ins Ca dx [])) (o:=.ins c []) hp (fun b u hb=>by rw[aD (aP hb hp),aD (aP hb hdx)];exact hb)
     (by rw[aM];exact⟨by simp,fun xs z=>nomatch z⟩) ⟨Ca,dx,[],hC,aM,rfl⟩
    have ip:(e1.obj p (upd (upd e1.H dx (.own p)) p (.ins Ca dx []))).α[U1.length]? = some p:=by show(e1.α++[p])[U1.length]? = some p;rw[<-w1.ol];simp
    refine⟨e1.obj p (upd (upd e1.H dx (.own p)) p (.ins Ca dx [])),U1++[.ins c []],_,.non,_,rfl,w2,.cons (by rw[Is];exact⟨p,ip,rfl⟩) ((i1.ext x2).append (hd _ _)),q2,fun v' e4 x4 w4 i4=>?_⟩
    rw[Is] at i4
    exact⟨i4,kk _ e4 ((x1.trans x2).trans x4) w4 (by rw[Is];exact⟨p,p_ (K:=K) x4 ip,rfl⟩)⟩
   | _=>cases q
theorem Bb{k:Nat}{c:Str}{F:bw}{dfl:List D}{p:Pos}(G:MkD X.prog X.w X.K X.mg X.base C k c F dfl)(hr:Room (k+1) X.A)(hg:Gl X c)
  (hdb:(c==("__debug__":Str))=false:=by decide):PD X C (.Call (.Name c p) [] [] cp) (qJ c F dfl aA):=by
 obtain⟨Ca,fa,fd,ps,ds,dvs,hC,hm,mk,hb,hd,hdd,ok⟩:=G.ex
 exact bx (Jk mk ok hr hg hm hb hd vK hdb) fun Z H Q hw=>by
  have z:=Hr (ga:=aA) (E:=E0) hC hdd hw
  obtain⟨e,U,Y,ds5,U',eH,w,rl,q,kk⟩:=z
  cases q
  have:=kk [] e (Ext.refl _) w .nil
  rw[eH] at this
  exact this
end
theorem NT{K:PySem.W.Frag}{C:Cl}{F:bw}{H:Hp}{a:Addr}{ns:List Int}{E:XK}(hS:SqL K H a (ns.map V.int))(h:∃U,F [.scr ns] []=some (.bl true,U)):spD K C F [.ref a] H (fun v _=>v=.bl true) E:=by
 obtain⟨U,h⟩:=h
 refine⟨⟨[],H,fun _=>False,H⟩,[],[.scr ns],.bl true,U,rfl,⟨bK.refl _,fun _ h=>h.elim,fun _ h=>h.elim,rfl,List.nodup_nil,fun n a o h=>by simp at h⟩,?_,h,fun v e' _ _ i=>?_⟩
 ·exact .cons (by rw[Is];exact⟨a,rfl,hS⟩) .nil
 ·rw[Is] at i;exact i
end DL
namespace DL
open PySem PySem.Spec PyProof.Rows L2
structure FunV(K:PySem.W.Frag)(x qual:Str)(st:Stmt)(dV:Value)(f:Addr)(fd:FuncData):Prop where
 ex:∃(oc:Value) (od:Option Addr) (kV doc pm:Value) (an:Option Addr) (cdv ct:Value) (osl:Array (Option Value)),
  fd=PySem.W.fnOf x qual (aY st) (aW st) (au st) dV kV doc pm an cdv ct/\K.lookup f=some ⟨oc,od,.func fd,osl⟩/\PySem.W.codeIn K cdv qual=true
theorem jg{K:PySem.W.Frag}{x qual:Str}{st:Stmt}{dV:Value}{f:Addr}{oc:Value}{od an:Option Addr}{osl:Array (Option Value)}{kV doc pm cdv ct:Value}
  (l:K.lookup f=some ⟨oc,od,.func (PySem.W.fnOf x qual (aY st) (aW st) (au st) dV kV doc pm an cdv ct),osl⟩) (c:PySem.W.codeIn K cdv qual=true) :
  FunV K x qual st dV f (PySem.W.fnOf x qual (aY st) (aW st) (au st) dV kV doc pm an cdv ct):=⟨oc,od,kV,doc,pm,an,cdv,ct,osl,rfl,l,c⟩
theorem wu{P:Program}{w:World}{K:PySem.W.Frag}{mg:Str->Option Value}{base:Heap}{C:Cl}{x qual:Str}{st:Stmt}{dV:Value}{f:Addr}{fd:FuncData}{N ps:List Str}{k n m:Nat}{s:aU}(F:FunV K x qual st dV f fd)(S:FnScope N ps (au st))(hn:ps.length=n)(hm:N.length=m)
  (hbody:∀(cdv:Value) (A:Around) (outer:List Env) (sh:Shared) (H:Hp) (E:XK),Room k (A.deeper (envOfC qual (au st) sh.heap.objs.size f cdv)) ->
   PDB (bG CX0 P w K mg base N qual (au st) f cdv A outer sh H E).nox C (aW st) s):FnOk P w K mg base CX0 (k+1) f fd ps (spD K C (bQ n m s)):=by
 obtain⟨oc,od,kV,doc,pm,an,cdv,ct,osl,rfl,lk,hcd⟩:=F.ex
 refine Fg lk hcd S (fun vs H Q E h=>?_) fun A outer sh H vs Q E hr h=>?_
 ·obtain⟨e,U,ds,d,U',_,_,i,q,_⟩:=h
  unfold bQ at q
  by_cases hl:ds.length=n
  ·rw[<-i.length,hl,hn]
  ·rw[if_neg hl] at q;cases q
 ·obtain⟨e,U,ds,d,U',eH,wf,i,q,kk⟩:=h
  unfold bQ at q
  by_cases hl:ds.length=n
  ·rw[if_pos hl] at q
   cases q1:s (ds.map Sl.dat++List.replicate (m-n) Sl.und) U with
   | none=>rw[q1] at q;cases q
   | some o =>
    rw[q1] at q
    refine⟨_,(hbody cdv A outer sh H E hr e).nox,e,U,_,o,eH,o_ wf i,by rw[hl,hm];exact q1,?_⟩
    cases o with
    | rt d' U2=>cases q;exact fun e' v x' w' i'=>kk v e' x' w' i'
    | nx Y' U2=>cases q;exact fun e' Z' r'=>kk .non e' r'.ext r'.wf (by rw[Is])
    | bk Y' U2=>cases q
    | ct Y' U2=>cases q
  ·rw[if_neg hl] at q;cases q
theorem jT{K:PySem.W.Frag}{fd:FuncData}{ps:List Str}(h:∀us:List Value,us.length=ps.length->bindArgs fd ⟨us,[]⟩=pure (ps.zip us)):Binds K fd ps []:=.all h
def spC(K:PySem.W.Frag)(F:bw):Sp:=fun vs H Q E=>∀C:Cl,spD K C F vs H Q E
theorem NZ{K:PySem.W.Frag}{F:bw}{H:Hp}{a:Addr}{ns:List Int}{E:XK}(hS:SqL K H a (ns.map V.int))(h:∃U,F [.scr ns] []=some (.bl true,U)):spC K F [.ref a] H (fun v _=>v=.bl true) E:=fun C=>NT hS h
def aC(C:Cl)(c:Str)(a:Addr):Cl:=fun x=>if x=c then some a else C x
theorem qK{C:Cl}{c:Str}{a:Addr}:aC C c a c=some a:=if_pos rfl
theorem Bc{K:PySem.W.Frag}{C:Cl}{c f:Str}{a:Addr}(h:C c=some a)(n:mF K a f):NoA K C c f:=fun Ca e=>by rw[h] at e;cases e;exact n
section
variable (Y:List Sl) (U:List OS)
@[simp] theorem xR:jJ Y U=some (.obj U.length,U++[.dK []]):=(rfl)
@[simp] theorem N_:zO Y U=some (.obj U.length,U++[.dT []]):=(rfl)
@[simp] theorem Vn(go gi:Den):bu go gi Y U=match go Y U with
 | some (.obj n,U1)=>(match gi Y U1 with
  | some (k,U2)=>(match U2[n]? with
   | some o=>(match gA o k with |some (some d)=>some (d,U2) |_=>none)
   | none=>none)
  | none=>none)
 | _=>none:=(rfl)
@[simp] theorem VL(neg:Bool)(gk go:Den):jm neg gk go Y U=match gk Y U with
 | some (k,U1)=>(match go Y U1 with
  | some (.obj n,U2)=>(match U2[n]? with
   | some o=>(match gA o k with |some r=>some (.bl (if neg then !r.isSome else r.isSome),U2) |none=>none)
   | none=>none)
  | _=>none)
 | none=>none:=(rfl)
@[simp] theorem Uv(go gk:Den):jt go gk Y U=match go Y U with
 | some (.obj n,U1)=>(match U1[n]? with
  | some o=>(if jH o=true then(match gk Y U1 with
   | some (k,U2)=>(match U2[n]? with
    | some o2=>(match gA o2 k with |some r=>some (r.getD .non,U2) |none=>none)
    | none=>none)
   | none=>none) else none)
  | none=>none)
 | _=>none:=(rfl)
@[simp] theorem Uw(go gk gx:Den):wg go gk gx Y U=match go Y U with
 | some (.obj n,U1)=>(match U1[n]? with
  | some o=>(if jH o=true then(match gk Y U1 with
   | some (k,U2)=>(match gx Y U2 with
    | some (x,U3)=>(match U3[n]? with
     | some o2=>(match gA o2 k with |some r=>some (r.getD x,U3) |none=>none)
     | none=>none)
    | none=>none)
   | none=>none) else none)
  | none=>none)
 | _=>none:=(rfl)
@[simp] theorem Oa(go gi gv:Den):ir go gi gv Y U=match gv Y U with
 | some (v,U1)=>(match go Y U1 with
  | some (.obj n,U2)=>(match gi Y U2 with
   | some (k,U3)=>(match U3[n]? with
    | some o=>(match sr o k v with |some o'=>some (.nx Y (U3.set n o')) |none=>none)
    | none=>none)
   | none=>none)
  | _=>none)
 | none=>none:=(rfl)
@[simp] theorem Vo(go gk:Den):pq go gk Y U=match go Y U with
 | some (.obj n,U1)=>(match U1[n]? with
  | some o=>(if jH o=true then(match gk Y U1 with
   | some (k,U2)=>(match U2[n]? with
    | some o2=>(match qI o2 k with |some (v,o3)=>some (v,U2.set n o3) |none=>none)
    | none=>none)
   | none=>none) else none)
  | none=>none)
 | _=>none:=(rfl)
@[simp] theorem Ux(go:Den):sy go Y U=match go Y U with
 | some (.obj n,U1)=>(match U1[n]? with
  | some o=>(match Fv o with |some ks=>some (.lst ks,U1) |none=>none)
  | none=>none)
 | _=>none:=(rfl)
@[simp] theorem VM(c fl:Str)(g:Den):fJ c fl g Y U=match g Y U with
 | some (.obj n,U1)=>(match U1[n]? with
  | some (.ins c' fs)=>(if c'=c then(match fs.lookup fl with |some d=>some (d,U1) |none=>none) else none)
  | _=>none)
 | _=>none:=(rfl)
@[simp] theorem Ob(c fl:Str)(go gv:Den):nC c fl go gv Y U=match gv Y U with
 | some (v,U1)=>(match go Y U1 with
  | some (.obj n,U2)=>(match U2[n]? with
   | some (.ins c' fs)=>(if c'=c/\fs.length<1000 then some (.nx Y (U2.set n (.ins c (jq fl v fs)))) else none)
   | _=>none)
  | _=>none)
 | none=>none:=(rfl)
@[simp] theorem Vp(c m:Str)(F:bw)(dfl:List D)(go:Den)(ga:bB):cP c m F dfl go ga Y U=match go Y U with
 | some (.obj n,U1)=>(match U1[n]? with
  | some (.ins c' fs)=>(if c'=c then(match fs.lookup m with
   | none=>(match ga Y U1 with |some (ds,U2)=>F (.obj n::(ds++dfl)) U2 |none=>none)
   | some _=>none) else none)
  | _=>none)
 | _=>none:=(rfl)
@[simp] theorem Vq(c:Str)(F:bw)(dfl:List D)(ga:bB):qJ c F dfl ga Y U=match ga Y U with
 | some (ds,U1)=>(match F (.obj U1.length::(ds++dfl)) (U1++[.ins c []]) with
  | some (.non,U2)=>some (.obj U1.length,U2)
  | _=>none)
 | none=>none:=(rfl)
@[simp] theorem Vr(kvs:List (List Key×D))(xs:List D):gA (.dT kvs) (.tup xs)=(match m_ xs with |some k=>some (cW kvs k) |none=>none):=(rfl)
@[simp] theorem VN(kvs:List (List Key×D))(xs:List D)(v:D):sr (.dT kvs) (.tup xs) v=(match m_ xs with |some k=>(if kvs.length<100000 then some (.dT (putD kvs k v)) else none) |none=>none):=(rfl)
@[simp] theorem Vs(kvs:List (List Key×D))(xs:List D):qI (.dT kvs) (.tup xs)=(match m_ xs with |some k=>(match cW kvs k with |some v=>some (v,.dT (jo kvs k)) |none=>none) |none=>none):=(rfl)
@[simp] theorem VP(i j:Int):m_ [.int i,.int j]=some [.inl i,.inl j]:=(rfl)
@[simp] theorem Uy(kvs:List (List Key×D)):Fv (.dT kvs)=some (kvs.map fun x=>.tup (x.1.map ofK)):=(rfl)
@[simp] theorem Uz(kvs:List (List Key×D)):jH (.dT kvs)=true:=(rfl)
@[simp] theorem Vt(g:Den):eV g Y U=match g Y U with |some (_,U')=>some (.nx Y U') |none=>none:=(rfl)
end
end DL
namespace KS
open PySem PySem.W PySem.Calls PyProof.Rows
section
variable {prog:Program} {w:World} {A:Around} {E:Value->Shared->Prop} {s:Shared} {a kS:Addr} {vs ks:List Value} {κ:SortKind}
def Kept(s:Shared)(h':Heap)(bs:List Addr):Prop:=∀b o,b∉bs->s.heap.get? b=some o->h'.get? b=some o
end
end KS
namespace L2
open PySem PySem.Spec PyProof.Rows KS PySem.W
theorem getD_get{β:Type}{l:List β}{i:Nat}{d:β}(h:i<l.length):l.getD i d=l[i]:=by rw[List.getD_eq_getElem?_getD,List.getElem?_eq_getElem h];rfl
theorem LC{X:Cx}{pins:List (Addr×Obj)}{H H':Hp}{b:Addr}(f:eZ X pins H b)(h:H' b=none):eZ X pins H' b:=⟨h,f.2⟩
theorem Inv.adopt{X:Cx}{pins:List (Addr×Obj)}{Z:St}{H:Hp}{s:Shared}{h':Heap}{kS D:Addr}{its:List Value}{xs:List V}{c:Nat}(I:Inv X pins Z H s)(fk:eZ X pins H kS)(fd:eZ X pins H D)(k:Kept s h' [kS,D])
  (hD:h'.get? D=some (seqObj "list" (List.toArray its) c)) (hv:Vals xs its) (hz:xs.length<=sizeLine):Inv X pins Z (upd H D (.lst xs)) { s with heap:=h' }:=by
 obtain⟨k0,k1,k2,k3,k4,k5⟩:=fk
 obtain⟨d0,d1,d2,d3,d4,d5⟩:=fd
 have nk:∀b u,H b=some u->b≠kS:=fun b u e z=>by rw[z,k0] at e;cases e
 have nD:∀b u,H b=some u->b≠D:=fun b u e z=>by rw[z,d0] at e;cases e
 have kp:∀b o,b∉[kS,D]->s.heap.get? b=some o->h'.get? b=some o:=k
 refine I.step (g':=s.gens) (d':=s.drawn) (t':=s.toks) (ch:=[kS,D]) (fun b hb=>?_) (fun b o _ _ hc e _=>kp b o hc e) (fun b o _ _ hc e _=>⟨o.slots,kp b o hc e⟩) (fun b o hc e n=>?_) (fun b o hc e=>⟨o,kp b o hc e⟩)
  (fun b ys e=>by rw[aD (nD b _ e)];exact e) (fun b o u e=>by rw[aD (nD b _ e)];exact e) (fun b ps e=>⟨#[],by rw[aD (nD b _ e),e];simp⟩) (fun m hm=>?_) (fun b u e=>?_) I.bare
 ·rw[List.mem_cons,List.mem_singleton] at hb
  rcases hb with rfl |rfl
  ·exact⟨k3,k1,k4,k5⟩
  ·exact⟨d3,d1,d4,d5⟩
 ·rw[aD (fun z=>hc (by simp[z]))];exact n
 ·obtain⟨o,es,ep,ho,r⟩:=hm
  exact⟨o,es,ep,kp _ o (by simp[Ne.symm k1,Ne.symm d1]) ho,r⟩
 ·by_cases z:b=D
  ·subst z
   rw[aM] at e
   cases e
   exact⟨hz,its,c,hv,hD⟩
  ·rw[aD z] at e
   refine(I.hok b u e).stay (fun c v hc q=>kp c v ?_ q) (fun c q=>by rw[aD (nD c _ q)];exact q) fun c ys q=>by rw[aD (nD c _ q)];exact q
   rw[List.mem_cons,List.mem_singleton,not_or]
   rcases hc with z |z
   ·rw[z];exact⟨nk b u e,nD b u e⟩
   ·exact⟨nk c _ z,nD c _ z⟩
def KeysAre(H:Hp)(vks:List V)(nss:List (List Int)):Prop:=Paired (fun(v:V) (ns:List Int)=>∃b,v=.ref b/\H b=some (.tup (ns.map V.int))/\ns≠[]) vks nss
section
variable {X:Cx} {k:Nat} {f:Addr} {fd:FuncData} {ps:List Str} {sp:Sp} {pins:List (Addr×Obj)} {Z:St} {H:Hp} {s:Shared}
theorem Paired.get{α β:Type}{R:α->β->Prop}:∀{xs:List α} {ys:List β} {i:Nat} {x:α},Paired R xs ys->xs[i]? = some x->∃y,ys[i]? = some y/\R x y
 | _,_,0,_,.cons r _,e=>by cases e;exact⟨_,rfl,r⟩
 | _,_,i+1,x,.cons _ t,e=>by
  obtain⟨y,h1,h2⟩:=Paired.get (i:=i) (x:=x) t e
  exact⟨y,h1,h2⟩
 | _,_,_,_,.nil,e=>by simp at e
theorem oG:∀a,HT.lexLt a a=false
 | []=>rfl
 | x::a=>by rw[HT.eO,if_pos rfl];exact oG a
theorem uz:∀a b c,HT.lexLt a b=true->HT.lexLt b c=true->HT.lexLt a c=true
 | [],[],_,h,_=>by cases h
 | [],_::_,[],_,h=>by cases h
 | [],_::_,_::_,_,_=>rfl
 | _::_,[],_,h,_=>by cases h
 | x::a,y::b,[],_,h=>by cases h
 | x::a,y::b,z::c,h1,h2=>by
  rw[HT.eO] at h1 h2 ⊢
  split at h1
  ·rename_i e
   subst e
   split at h2
   ·rename_i e
    subst e
    rw[if_pos rfl];exact uz a b c h1 h2
   ·rename_i ne
    rw[if_neg ne];exact h2
  ·rename_i ne
   split at h2
   ·rename_i e
    subst e
    rw[if_neg ne];exact h1
   ·have h1:=of_decide_eq_true h1
    have h2:=of_decide_eq_true h2
    rw[if_neg (by omega)];exact decide_eq_true (by omega)
end
end L2
namespace DL
open PySem
mutual
def pl:D->Bool
 | .non=>true
 | .int _=>true
 | .str x=>(PyData.str x).canLay0
 | .tup xs=>plL xs
 | .lst xs=>plL xs
 | _=>false
def plL:List D->Bool
 | []=>true
 | d::ds=>pl d && plL ds
end
mutual
def dep:D->Nat
 | .tup xs=>oH xs+1
 | .lst xs=>oH xs+1
 | _=>0
def oH:List D->Nat
 | []=>0
 | d::ds=>max (dep d) (oH ds)
end
mutual
theorem Hs:∀d:D,pl d=true->(toP d).canLay0=true
 | .non,_=>by rw[toP];rfl
 | .int _,_=>by rw[toP];rfl
 | .str x,h=>by rw[pl] at h;rw[toP];exact h
 | .tup xs,h=>by rw[pl] at h;rw[toP,PyData.canLay0];exact xT xs h
 | .lst xs,h=>by rw[pl] at h;rw[toP,PyData.canLay0];exact xT xs h
 | .bl _,h=>by simp[pl] at h
 | .scr _,h=>by simp[pl] at h
 | .obj _,h=>by simp[pl] at h
theorem xT:∀ds:List D,plL ds=true->PyData.canLayAll0 (e_ ds)=true
 | [],_=>by rw[e_];rfl
 | d::ds,h=>by
  rw[plL,Bool.and_eq_true] at h
  rw[e_,PyData.canLayAll0,Bool.and_eq_true]
  exact⟨Hs d h.1,xT ds h.2⟩
end
mutual
theorem Ht:∀d:D,pl d=true->(toP d).depth=dep d
 | .non,_=>by rw[toP,dep];rfl;all_goals (intro _ z;cases z)
 | .int _,_=>by rw[toP,dep];rfl;all_goals (intro _ z;cases z)
 | .str x,h=>by rw[toP,dep];rfl;all_goals (intro _ z;cases z)
 | .tup xs,h=>by rw[pl] at h;rw[toP,dep,PyData.depth,xU xs h]
 | .lst xs,h=>by rw[pl] at h;rw[toP,dep,PyData.depth,xU xs h]
 | .bl _,h=>by simp[pl] at h
 | .scr _,h=>by simp[pl] at h
 | .obj _,h=>by simp[pl] at h
theorem xU:∀ds:List D,plL ds=true->PyData.depthAll (e_ ds)=oH ds
 | [],_=>by rw[e_,oH];rfl
 | d::ds,h=>by
  rw[plL,Bool.and_eq_true] at h
  rw[e_,oH,PyData.depthAll,Ht d h.1,xU ds h.2]
end
theorem sG{d:D}(h:pl d=true)(hd:dep d<=64):SeqAt.shaped (toP d)=true:=by
 unfold SeqAt.shaped
 rw[Hs d h,Ht d h]
 simp[hd]
mutual
theorem Bd:∀(p q:D),pl p=true->pl q=true->(PyData.eqv (toP p) (toP q)=true↔p=q)
 | .non,q,_,hq=>by cases q<;>simp[toP,PyData.eqv,pl] at hq ⊢
 | .int i,q,_,hq=>by cases q<;>simp[toP,PyData.eqv,pl] at hq ⊢
 | .str x,q,_,hq=>by cases q<;>simp[toP,PyData.eqv,pl] at hq ⊢
 | .tup xs,q,hp,hq=>by
  cases q with
  | tup ys =>
   rw[pl] at hp hq
   rw[toP,toP,PyData.eqv,xV xs ys hp hq]
   exact⟨fun h=>by rw[h],fun h=>by injection h⟩
  | _=>simp[toP,PyData.eqv,pl] at hq ⊢
 | .lst xs,q,hp,hq=>by
  cases q with
  | lst ys =>
   rw[pl] at hp hq
   rw[toP,toP,PyData.eqv,xV xs ys hp hq]
   exact⟨fun h=>by rw[h],fun h=>by injection h⟩
  | _=>simp[toP,PyData.eqv,pl] at hq ⊢
 | .bl _,_,h,_=>by simp[pl] at h
 | .scr _,_,h,_=>by simp[pl] at h
 | .obj _,_,h,_=>by simp[pl] at h
theorem xV:∀(ps qs:List D),plL ps=true->plL qs=true->(PyData.eqvAll (e_ ps) (e_ qs)=true↔ps=qs)
 | [],[],_,_=>by simp[e_,PyData.eqvAll]
 | [],_::_,_,_=>by simp[e_,PyData.eqvAll]
 | _::_,[],_,_=>by simp[e_,PyData.eqvAll]
 | p::ps,q::qs,hp,hq=>by
  rw[plL,Bool.and_eq_true] at hp hq
  rw[e_,e_,PyData.eqvAll,Bool.and_eq_true,Bd p q hp.1 hq.1,xV ps qs hp.2 hq.2]
  exact⟨fun h=>by rw[h.1,h.2],fun h=>by injection h with a b;exact⟨a,b⟩⟩
end
theorem qL(neg:Bool){p:D}(h:pl p=true)(hd:dep p<=64):eqD neg p p=some (.bl (!neg)):=by
 unfold eqD
 rw[sG h hd,(Bd p p h h).mpr rfl]
 cases neg<;>rfl
theorem Be(neg:Bool){p q:D}(hp:pl p=true)(hq:pl q=true)(dp:dep p<=64)(dq:dep q<=64)(n:p≠q):eqD neg p q=some (.bl neg):=by
 unfold eqD
 have e:PyData.eqv (toP p) (toP q)=false:=by
  cases z:PyData.eqv (toP p) (toP q) with
  | false=>rfl
  | true=>exact absurd ((Bd p q hp hq).mp z) n
 rw[sG hp dp,sG hq dq,e]
 cases neg<;>rfl
end DL
namespace DL
open PySem PySem.Spec PyProof.Rows L2
section
variable {X:Cx} {C:Cl} {n:Str} {p pos kpos npos:Pos} {a:Expr} {g:Den} {k:Nat}
def wy:List D->Option (List Int)
 | []=>some []
 | .int i::r=>match wy r with
  | some ns=>some (i::ns)
  | none=>none
 | _=>none
def lY:D->Option (List Int)
 | .tup ds=>match wy ds with
  | some (n::ns)=>some (n::ns)
  | _=>none
 | _=>none
def cO(F:bw):List D->List OS->Option (List (List Int)×List OS)
 | [],U=>some ([],U)
 | d::ds,U=>match F [d] U with
  | some (k,U1)=>match lY k with
   | some ns=>match cO F ds U1 with
    | some (nss,U2)=>some (ns::nss,U2)
    | none=>none
   | none=>none
  | none=>none
theorem yS:∀{ds:List D} {ns:List Int},wy ds=some ns->ds=ns.map D.int
 | [],ns,h=>by cases h;rfl
 | .int i::r,ns,h=>by
  unfold wy at h
  cases q:wy r with
  | none=>rw[q] at h;cases h
  | some ms=>rw[q] at h;cases h;rw[yS q];rfl
 | .non::_,_,h=>nomatch h
 | .bl _::_,_,h=>nomatch h
 | .str _::_,_,h=>nomatch h
 | .tup _::_,_,h=>nomatch h
 | .lst _::_,_,h=>nomatch h
 | .scr _::_,_,h=>nomatch h
 | .obj _::_,_,h=>nomatch h
theorem xW{d:D}{ns:List Int}(h:lY d=some ns):d=.tup (ns.map D.int)/\ns≠[]:=by
 unfold lY at h
 split at h
 ·split at h
  ·rename_i e
   cases h
   exact⟨by rw[yS e],by simp⟩
  ·cases h
 ·cases h
theorem Bf{K:PySem.W.Frag}{α:List Addr}{F:Hp}:∀{ns:List Int} {vs:List V},IsL K α F (ns.map D.int) vs->vs=ns.map V.int
 | [],_,h=>h.of_nil
 | n::ns,_,h=>by
  obtain⟨v,r,rfl,h1,t⟩:=h.of_cons
  rw[Is] at h1
  rw[Bf t,h1];rfl
theorem yU{F:bw}:∀{ds:List D} {U U':List OS} {nss:List (List Int)} {i:Nat},cO F ds U=some (nss,U')->i<=ds.length->∃ms Uqi,cO F (ds.take i) U=some (ms,Uqi)/\ms=nss.take i/\cO F (ds.drop i) Uqi=some (nss.drop i,U')
 | ds,U,U',nss,0,h,_=>⟨[],U,rfl,rfl,h⟩
 | [],U,U',nss,i+1,h,hi=>by simp at hi
 | d::ds,U,U',nss,i+1,h,hi=>by
  unfold cO at h
  cases q1:F [d] U with
  | none=>rw[q1] at h;cases h
  | some p1 =>
   obtain⟨kd,U1⟩:=p1
   rw[q1] at h
   dsimp only at h
   cases q2:lY kd with
   | none=>rw[q2] at h;cases h
   | some ns =>
    rw[q2] at h
    dsimp only at h
    cases q3:cO F ds U1 with
    | none=>rw[q3] at h;cases h
    | some p3 =>
     obtain⟨ms,U2⟩:=p3
     rw[q3] at h
     cases h
     obtain⟨ms',Uqi,h1,h2,h3⟩:=yU (i:=i) q3 (by simpa using hi)
     refine⟨ns::ms',Uqi,?_,by rw[h2];rfl,h3⟩
     show cO F (d::ds.take i) U=_
     unfold cO
     rw[q1]
     dsimp only
     rw[q2]
     dsimp only
     rw[h1]
theorem yV{F:bw}:∀{ds:List D} {U U':List OS} {nss:List (List Int)},cO F ds U=some (nss,U')->nss.length=ds.length
 | [],_,_,_,h=>by cases h;rfl
 | d::ds,U,U',nss,h=>by
  unfold cO at h
  cases q1:F [d] U with
  | none=>rw[q1] at h;cases h
  | some p1 =>
   obtain⟨kd,U1⟩:=p1
   rw[q1] at h
   dsimp only at h
   cases q2:lY kd with
   | none=>rw[q2] at h;cases h
   | some ns =>
    rw[q2] at h
    dsimp only at h
    cases q3:cO F ds U1 with
    | none=>rw[q3] at h;cases h
    | some p3 =>
     obtain⟨ms,U2⟩:=p3
     rw[q3] at h
     cases h
     simp[yV q3]
theorem xX{K:PySem.W.Frag}{α:List Addr}{F H:Hp}(ff:bK F H):∀{nss:List (List Int)} {vs:List V},(∀ns∈nss,ns≠[])->IsL K α F (nss.map fun ns=>D.tup (ns.map D.int)) vs->KeysAre H vs nss
 | [],vs,_,h=>by rw[h.of_nil];exact .nil
 | ns::nss,vs,hn,h=>by
  obtain⟨v,r,rfl,h1,t⟩:=h.of_cons
  refine .cons ?_ (xX ff (fun m hm=>hn m (List.mem_cons_of_mem _ hm)) t)
  rw[Is] at h1
  obtain⟨b,us,rfl,hb,ib⟩:=h1
  rw[Bf ib] at hb
  exact⟨b,rfl,ff _ _ hb,hn ns List.mem_cons_self⟩
theorem Bg{F:bw}:∀{ds:List D} {U U':List OS} {nss:List (List Int)},cO F ds U=some (nss,U')->∀ns∈nss,ns≠[]
 | [],_,_,_,h,ns,hn=>by cases h;cases hn
 | d::ds,U,U',nss,h,ns,hn=>by
  unfold cO at h
  cases q1:F [d] U with
  | none=>rw[q1] at h;cases h
  | some p1 =>
   obtain⟨kd,U1⟩:=p1
   rw[q1] at h
   dsimp only at h
   cases q2:lY kd with
   | none=>rw[q2] at h;cases h
   | some ms =>
    rw[q2] at h
    dsimp only at h
    cases q3:cO F ds U1 with
    | none=>rw[q3] at h;cases h
    | some p3 =>
     obtain⟨mss,U2⟩:=p3
     rw[q3] at h
     cases h
     rcases List.mem_cons.mp hn with rfl |hn
     ·exact(xW q2).2
     ·exact Bg q3 ns hn
theorem wz{F:bw}:∀{ds:List D} {d:D} {U Uqi Uqj Uqk:List OS} {ms ms':List (List Int)} {kd:D},cO F ds U=some (ms,Uqi)->F [d] Uqi=some (kd,Uqj)->cO F (ds++[d]) U=some (ms',Uqk)->Uqj=Uqk
 | [],d,U,Uqi,Uqj,Uqk,ms,ms',kd,h1,h2,h3=>by
  cases h1
  rw[List.nil_append] at h3
  unfold cO at h3
  rw[h2] at h3
  dsimp only at h3
  cases q:lY kd with
  | none=>rw[q] at h3;cases h3
  | some ns=>rw[q] at h3;cases h3;rfl
 | c::ds,d,U,Uqi,Uqj,Uqk,ms,ms',kd,h1,h2,h3=>by
  rw[List.cons_append] at h3
  unfold cO at h1 h3
  cases q1:F [c] U with
  | none=>rw[q1] at h1;cases h1
  | some p1 =>
   obtain⟨cd,U1⟩:=p1
   rw[q1] at h1 h3
   dsimp only at h1 h3
   cases q2:lY cd with
   | none=>rw[q2] at h1;cases h1
   | some ns =>
    rw[q2] at h1 h3
    dsimp only at h1 h3
    cases q3:cO F ds U1 with
    | none=>rw[q3] at h1;cases h1
    | some p3 =>
     obtain⟨mss,U2⟩:=p3
     rw[q3] at h1
     cases h1
     cases q4:cO F (ds++[d]) U1 with
     | none=>rw[q4] at h3;cases h3
     | some p4 =>
      obtain⟨nss,U3⟩:=p4
      rw[q4] at h3
      cases h3
      exact wz q3 h2 q4
end
end DL
namespace DL
open PySem PySem.Spec PyProof.Rows L2
def tDL(K:PySem.W.Frag)(C:Cl)(g:bB):TE:=fun Z H Q=>∃e U Y ds U',e.H=H/\Wf K C e U/\RelE K e Z Y/\g Y U=some (ds,U') /\
 ∀a vs e',Ext e e'->Wf K C e' U'->(∀e'' U'',Ext e' e''->Wf K C e'' U''->e''.H a=some (.lst vs))->IsL K e'.α e'.F ds vs->Q (.ref a) e'.H
def PDL(X:Cx)(C:Cl)(x:Expr)(g:bB):Prop:=PE X x (tDL X.K C g)
def gO(i:Nat):bB:=fun Y U=>match Y[i]? with
 | some (.own ds)=>some (ds,U)
 | _=>none
def gLs(g:Den):bB:=fun Y U=>match g Y U with
 | some (.lst ds,U')=>some (ds,U')
 | _=>none
def wA(gl:bB):Den:=fun Y U=>match gl Y U with
 | some (ds,U1)=>some (.int ds.length,U1)
 | none=>none
section
variable {X:Cx} {C:Cl} {x a b:Expr} {f g:Den} {gl:bB} {n:Str} {p pos:Pos}
theorem Oc{i:Nat}(hv:PE X (.Name n p) (xu i)):PDL X C (.Name n p) (gO i):=bx hv fun Z H Q hw'=>by
 obtain⟨e,U,Y,ds,U',eH,w,rl,q,kk⟩:=hw'
 unfold gO at q
 split at q
 ·rename_i h
  cases q
  obtain⟨a,vs,e1,e2,il,n1,n2⟩:=rl.own _ _ h
  exact⟨.ref a,e1,by rw[<-eH];exact kk a vs e (Ext.refl e) w (fun e'' _ x' _=>x'.hk a _ e2 n2) il⟩
 ·cases q
theorem Rm(hg:Gl X n)(hm:X.mg n=none)(hv:bootBuiltins n=some (.builtin "len"))(ho:PDL X C a gl)(hn:n ≠ "__name__":=by decide)(hdb:(n==("__debug__":Str))=false:=by decide)
  (he:starEach [a] X.env=(false,eval a X.env)::starEach [] X.env:=by rfl) (hpl:(backTo pos (starEach [] X.env)).any (·.1)=false:=by rfl):PD X C (.Call (.Name n p) [a] [] pos) (wA gl) :=
 bx (gb Je hg hm hv (bR ho dH he) hn hdb he hpl) fun Z H Q hw'=>by
  obtain⟨e,U,Y,d,U',eH,w,rl,q,kk⟩:=hw'
  unfold wA at q
  cases q1:gl Y U with
  | none=>rw[q1] at q;cases q
  | some p1 =>
   obtain⟨ds,U1⟩:=p1
   rw[q1] at q
   cases q
   refine⟨e,U,Y,ds,_,eH,w,rl,q1,fun l vs e1 x1 w1 st il=>⟨.ref l,vs.length,rfl,.inl ⟨vs,SqL.of (st e1 _ (Ext.refl e1) w1),rfl⟩,?_⟩⟩
   exact kk _ e1 x1 w1 (by rw[Is,il.length])
end
end DL
namespace DL
open PySem PySem.Spec PyProof.Rows L2
def tDN(K:PySem.W.Frag)(C:Cl)(g:bB):TE:=fun Z H Q=>∃e U Y ds U',e.H=H/\Wf K C e U/\RelE K e Z Y/\g Y U=some (ds,U') /\
 ∀a vs e',Ext e e'->Wf K C e' U'->IsL K e'.α e'.F ds vs->e'.H a=none->Q (.ref a) (upd e'.H a (.lst vs))
def PDN(X:Cx)(C:Cl)(x:Expr)(g:bB):Prop:=PE X x (tDN X.K C g)
end DL
namespace L2
open PySem PySem.Spec PyProof.Rows
section
variable {X:Cx}
theorem Hu(hh:X.A.handled=none):gG X (.builtin "all") (fun xs H Q=>∃(p:Addr) (bs:List Bool),xs=[V.ref p]/\SqL X.K H p (bs.map V.bl)/\Q (.bl (bs.all id)) H):=by
 intro pins s Z H xs us Q I r h
 obtain⟨p,bs,rfl,hp,q⟩:=h
 obtain⟨u,rfl,ru⟩:=vals1 r
 cases ru
 obtain⟨its,rv,pl,_⟩:=I.list hp
 have hlt:p<s.heap.objs.size:=by obtain⟨_,_,e,_⟩:=pl;exact Heap.lt_size e
 have hl:=rv.length
 rw[List.length_map] at hl
 refine call_all_walk (wpAny_pyIter_list pl.isList ?_)
 refine⟨s.heap.objs.size,[s.heap.objs.size,p],[s.heap.objs.size],its.toArray.size,_,_,fun i=>(bs[i]?).getD true,rfl,Walks.list (A:=X.A.in1) hh _ p (Nat.ne_of_lt hlt) its.toArray,⟨⟨_,Heap.get?_push_size _ rfl,rfl,rfl⟩,pl.isList.push _⟩,fun i v s' Q' E' hP hQ=>?_,fun h' tk hk=>?_⟩
 ·have hi:i<its.length:=by
   have:its.toArray[i]? = some v:=hP
   have:=(Array.getElem?_eq_some_iff.mp this).1
   simpa using this
  have hb:i<bs.length:=by omega
  obtain⟨u,e1,e2⟩:=rv.get (i:=i) (x:=V.bl bs[i]) (by rw[List.getElem?_map,List.getElem?_eq_getElem hb];rfl)
  have e3:its.toArray[i]? = some v:=hP
  rw[show its.toArray[i]? = its[i]? by simp,e1] at e3
  cases e3
  cases (show v=Value.bool bs[i] from e2)
  dsimp only at hQ
  rw[List.getElem?_eq_getElem hb,Option.getD_some] at hQ
  exact wpAny_truthy_bool hQ
 ·have e:((List.range its.toArray.size).all fun i=>(bs[i]?).getD true)=bs.all id:=by
   rw[List.size_toArray,<-hl]
   have:∀l:List Bool,((List.range l.length).all fun i=>(l[i]?).getD true)=l.all id:=by
    intro l
    induction l with
    | nil=>rfl
    | cons b l ih =>
     rw[List.length_cons,List.range_succ_eq_map,List.all_cons,List.all_map,List.all_cons,<-ih]
     rfl
   exact this bs
  rw[e]
  refine⟨.bl _,H,I.kept (t':=tk) fun b o q=>?_,rfl,q⟩
  exact hk b o (fun hm=>by rw[List.mem_singleton.mp hm] at q;exact Nat.lt_irrefl _ (Heap.lt_size q)) (Heap.get?_push_of_some _ q)
end
end L2
namespace DL
open PySem PySem.Spec PyProof.Rows L2
def qM:List D->Option (List Bool)
 | []=>some []
 | .bl b::r=>match qM r with
  | some bs=>some (b::bs)
  | none=>none
 | _=>none
def j_:List D->Option D
 | [.lst ds]=>match qM ds with
  | some bs=>some (.bl (bs.all id))
  | none=>none
 | _=>none
theorem DX{K:PySem.W.Frag}{α:List Addr}{F:Hp}:∀{ds:List D} {bs:List Bool} {vs:List V},qM ds=some bs->IsL K α F ds vs->vs=bs.map V.bl
 | [],zs,vs,h,i=>by cases h;exact i.of_nil
 | .bl z::r,zs,vs,h,i=>by
  obtain⟨v,t,rfl,i1,i2⟩:=i.of_cons
  unfold qM at h
  cases q:qM r with
  | none=>rw[q] at h;cases h
  | some ys =>
   rw[q] at h
   cases h
   rw[Is] at i1
   rw[i1,DX q i2]
   rfl
 | .non::_,_,_,h,_=>nomatch h
 | .str _::_,_,_,h,_=>nomatch h
 | .int _::_,_,_,h,_=>nomatch h
 | .tup _::_,_,_,h,_=>nomatch h
 | .lst _::_,_,_,h,_=>nomatch h
 | .scr _::_,_,_,h,_=>nomatch h
 | .obj _::_,_,_,h,_=>nomatch h
section
variable {X:Cx} {C:Cl} {x a b tg:Expr} {f g:Den} {n:Str} {p pos ap cp:Pos}
theorem km(hh:X.A.handled=none):CallD X C (.builtin "all") j_:=by
 rintro pins s Z H xs us Q I r ⟨e,U,ds,z,eH,w,i,q,kk⟩
 subst eH
 match ds,q with
 | [.lst es],q =>
  obtain⟨v,rfl,iv⟩:=lX i
  rw[Is] at iv
  obtain⟨l,vs,rfl,hF,il⟩:=iv
  unfold j_ at q
  dsimp only at q
  cases q1:qM es with
  | none=>rw[q1] at q;cases q
  | some bs =>
   rw[q1] at q
   cases q
   rw[DX q1 il] at hF
   exact Hu hh pins s Z _ _ us Q I r ⟨l,bs,rfl,SqL.of (w.fh _ _ hF),kk _ e (Ext.refl e) w (by rw[Is])⟩
end
end DL
namespace L2
open PySem PySem.Spec PyProof.Rows
section
variable {X:Cx} {x:Str} {C:Addr} {bmB:List Value} {B newId initId:String} {np cpos pos:Pos} {e:Expr} {te:TE}
def oJ(X:Cx)(C:Addr)(Z:St)(H:Hp):Prop:=∀(pins:List (Addr×Obj)) (s:Shared) (h':Heap) (ea:Addr) (args:List Value),Inv X pins Z H s->Heap.MadeExcOf s.heap h' ea (.ref C) args->X.xe (.ref ea) { s with heap:=h' }
theorem JV(O:OwnCls x C bmB newId X.mg X.base)(FB:ExcBaseFacts B newId initId bmB)(hh:X.A.handled=none)(hg:Gl X x)(ha:PE X e te)(akP:∀{Z:St} {H:Hp},te Z H (fun _ H1=>oJ X C Z H1)->te Z H (fun v H1=>[v].length=1/\oJ X C Z H1))(he:starEach [e] X.env=(false,eval e X.env)::starEach [] X.env:=by rfl)(hpl:(backTo cpos (starEach [e] X.env)).any (·.1)=false:=by rfl)
  (hd:(x==("__debug__":Str))=false:=by decide):PS X (.Raise (some (.Call (.Name x np) [e] [] cpos)) none pos) (fun _ Z H=>te Z H fun _ H1=>oJ X C Z H1):=by
 intro pins s Z H D I h
 obtain⟨tl,N,nm,q,bs,hdct,sn,sub,ab,col,dd,k0,k1,k2,k3,k5,mN,hC,hN,hni,T⟩:=O.obj
 refine wpAny_Raise_call_subT (C:=C) (nm:=nm) (q:=q) (N:=N) (bs:=bs) (bm:=tl) (hdct:=hdct) (sn:=sn) (sub:=sub) (ab:=ab) (col:=col) (dd:=dd) (k0:=k0) (k1:=k1) (k2:=k2) (k3:=k3) (k5:=k5) FB (mN:=mN) (T.hasType FB.hasBase) hh hpl hni (lR I hg O.bound ⟨rfl,?_⟩ hd)
 have sp:=(bR ha dH he) cpos pins s Z H (fun vs H1=>vs.length=1/\oJ X C Z H1) I (show te Z H (fun v H1=>[v].length=1/\oJ X C Z H1) from(akP h))
 rw[he] at sp ⊢
 refine Calls.evalArgs_plain (thn sp fun us s2 hw'=>?_)
 obtain⟨vs,H1,I1,r1,l1,q1⟩:=hw'
 have k:=I1.bk
 exact⟨rfl,by show us.length<=sizeLine;rw[<-r1.length,l1];decide,k _ _ hC,hN.keeps k,T.keeps k,fun h' ea hm=>q1 pins s2 h' ea us I1 hm⟩
end
theorem Bh{P:Program}{w:World}{H:Hp}{h:Heap}{a:Addr}{o:HO}(x:bV P w H h a o):∃ob,h.get? a=some ob:=by
 cases o with
 | lst xs=>obtain⟨_,_,_,_,e⟩:=x;exact⟨_,e⟩
 | tup xs=>obtain⟨_,_,_,ob,e,_⟩:=x;exact⟨ob,e⟩
 | dK kvs=>obtain⟨_,_,_,_,o,_,_,e,_⟩:=x;exact⟨_,e⟩
 | dT kvs=>obtain⟨_,_,_,_,o,_,_,e,_⟩:=x;exact⟨_,e⟩
 | set S n=>obtain⟨o,_,_,_,e,_⟩:=x;exact⟨_,e⟩
 | ins C dx fs=>obtain⟨_,_,_,e,_⟩:=x;exact⟨_,e⟩
 | own y=>exact x
 | xd fs=>obtain⟨_,⟨_,_,_,e,_⟩,_⟩:=x;exact⟨_,e⟩
 | rng lo hi=>obtain⟨_,_,_,e⟩:=x;exact⟨_,e⟩
 | frz ob u=>exact⟨_,x.1⟩
 | tbl ps=>exact⟨_,x⟩
 | met f y=>exact⟨_,x⟩
 | ext φ=>exact x.2.1
def CXr(P:Program)(w:World):CXT:=fun outer H s E e s'=>∃(ea C t:Addr) (H':Hp) (B:Heap),e=.ref ea/\E (.ref C) none H'/\s'.os=s.os/\AllBare s'.gens/\Un (frs outer) [] H H' s.heap s'.heap/\HOk P w H' s'.heap /\
 Heap.FlyingW B outer ea (.ref C) (.ref t) s'.heap/\(∀b o,H' b=some o->∃ob,B.get? b=some ob)/\H' ea=none/\∀b o,s.heap.get? b=some o->H b=none->b∉frs outer->B.get? b=some o
theorem zG{P:Program}{w:World}{K:PySem.W.Frag}{mg:Str->Option Value}{base:Heap}{N:List Str}{qual:Str}{scope:Scope}{f C:Addr}{cd:Value}{A:Around}{outer:List Env}{s₀:Shared}{H₀ H:Hp}{E:XK}{Z:St}
  (hE:E (.ref C) none H):oJ (bG (CXr P w) P w K mg base N qual scope f cd A outer s₀ H₀ E) C Z H:=by
 intro pins s h' ea args I hm
 have hst:(bG (CXr P w) P w K mg base N qual scope f cd A outer s₀ H₀ E).stack=envOfC qual scope s₀.heap.objs.size f cd::outer:=rfl
 have hB:∀b o,s.heap.get? b=some o->b∉frs (envOfC qual scope s₀.heap.objs.size f cd::outer)->(PySem.W.hideAll s.heap (frs (envOfC qual scope s₀.heap.objs.size f cd::outer))).get? b=some o:=fun b o e n=>PySem.W.hideAll_get _ e n
 have sub:∀b∈frs (envOfC qual scope s₀.heap.objs.size f cd::outer),b=s₀.heap.objs.size\/b∈frs outer:=fun b hb=>List.mem_cons.mp (I.stkSub b hb)
 have old:∀b o,s₀.heap.get? b=some o->b∉frs outer->b∉frs (envOfC qual scope s₀.heap.objs.size f cd::outer):=fun b o e n hb=>by
  rcases sub b hb with z |z
  ·exact absurd (Heap.lt_size e) (by rw[z];exact Nat.lt_irrefl _)
  ·exact n z
 have trk:∀b o,H b=some o->b∉frs (envOfC qual scope s₀.heap.objs.size f cd::outer):=fun b o e hb=>by
  have:=I.stkFree b hb
  rw[this] at e;cases e
 refine wpAny_leaves_madeW (base:=PySem.W.hideAll s.heap (frs (envOfC qual scope s₀.heap.objs.size f cd::outer))) (env:=envOfC qual scope s₀.heap.objs.size f cd) (outer:=outer) (L:=s₀.heap.objs.size) (h:=s.heap) I.ok.frames rfl (fun b o q=>PySem.W.of_hideAll _ q)
  (PySem.W.funFrames_hide I.stack fun env he b hb=>List.mem_filterMap.mpr ⟨env,he,hb⟩) hm fun h'' t x1 x2 x3 x4=>?_
 have k1:=x1.1
 have un:Un (frs outer) [] H₀ H s₀.heap h'':=by
  refine⟨fun b o e n nf _=>k1 b o (hB b o (I.base.keep b o e n nf (by intro z;cases z)) (old b o e nf)),fun b o e n hf _=>?_,fun b o e n _=>I.base.free b o e n (by intro z;cases z),fun b o e _=>?_,I.base.tups,I.base.frzs,I.base.tbls⟩
  ·obtain⟨sl,q⟩:=I.base.slot b o e n hf (by intro z;cases z)
   obtain⟨_,o',ho',hd⟩:=I.ok.funs.mem hf
   have ho'':s₀.heap.get? b=some o':=ho'
   rw[e] at ho''
   cases ho''
   obtain⟨sl',q'⟩:=x4 b { o with slots:=sl } (hm.keeps b _ q) hd
   exact⟨sl',q'⟩
  ·by_cases hf:b∈frs outer
   ·obtain⟨_,o',ho',hd⟩:=I.ok.funs.mem hf
    have ho'':s₀.heap.get? b=some o':=ho'
    rw[e] at ho''
    cases ho''
    obtain⟨sl,q⟩:=I.base.slot b o e (I.ok.frf b hf) hf (by intro z;cases z)
    obtain⟨sl',q'⟩:=x4 b { o with slots:=sl } (hm.keeps b _ q) hd
    exact⟨_,q'⟩
   ·obtain⟨o',q⟩:=I.base.there b o e (by intro z;cases z)
    exact⟨o',k1 b o' (hB b o' q (old b o e hf))⟩
 have hok:HOk P w H h'':=fun b o e=>(I.hok b o e).stay (fun c u hc q=>by
  refine k1 c u (hB c u q ?_)
  rcases hc with z |z
  ·rw[z];exact trk b o e
  ·exact trk c _ z) (fun _ q=>q) (fun _ _ q=>q)
 refine⟨ea,C,t,H,PySem.W.hideAll s.heap (frs (envOfC qual scope s₀.heap.objs.size f cd::outer)),rfl,hE,I.os,I.bare,un,hok,x1,fun b o e=>?_,?_,fun b o e n nf=>?_⟩
 ·obtain⟨ob,q⟩:=Bh (I.hok b o e)
  exact⟨ob,hB b ob q (trk b o e)⟩
 ·cases q:H ea with
  | none=>rfl
  | some o =>
   obtain⟨ob,z⟩:=Bh (I.hok ea o q)
   rw[hm.new] at z;cases z
 ·exact hB b o (I.base.keep b o e n nf (by intro z;cases z)) (old b o e nf)
end L2
namespace L2
open PySem PySem.Spec PyProof.Rows
structure Flown(X:Cx)(pins:List (Addr×Obj))(Z:St)(ea C t:Addr)(H:Hp)(B:Heap)(s:Shared):Prop where
 fl:Heap.FlyingW B X.stack ea (.ref C) (.ref t) s.heap
 nea:H ea=none
 inv:∀h',B.StaysIn h'->s.heap.UpToSlots h'->Inv X pins Z H { s with heap:=h' }
 new:∀b o,X.s₀.heap.get? b=some o->X.H₀ b=none->b∉X.ex->b≠ea
 pne:∀p∈X.pn++pins,p.1≠ea
theorem flown{X:Cx}{pins:List (Addr×Obj)}{Z:St}{H:Hp}{s s':Shared}{E:XK}{e:Value}(I:Inv X pins Z H s)(h:CXr X.prog X.w X.stack H s E e s')(hdm:∀C H',E C none H'->∀b o,H b=some o->∃o',H' b=some o') :
  ∃ea C t H' B,e=.ref ea/\E (.ref C) none H'/\Flown X pins Z ea C t H' B s':=by
 obtain⟨ea,C,t,H',B,e1,hE,os,bare,un,hok,fl,trk,nea,old⟩:=h
 have gen:∀b o,s.heap.get? b=some o->H b=none->b≠ea:=fun b o e n z=>by
  subst z
  by_cases hf:b∈frs X.stack
  ·obtain⟨_,o',ho',hd⟩:=I.stack.mem hf
   rw[e] at ho'
   cases ho'
   obtain⟨sl,q⟩:=un.slot b o e n hf (by intro z;cases z)
   obtain⟨oe,ws,hoe,_,hoed,_⟩:=fl.first
   rw[q] at hoe
   cases hoe
   exact hd _ hoed
  ·have z:=old b o e n hf
   rw[fl.2.1] at z
   cases z
 refine⟨ea,C,t,H',B,e1,hE,fl,nea,fun h'' kB up=>?_,fun b o e n nx=>?_,fun p hp=>gen _ _ (I.pin p hp).1 (I.pin p hp).2.1⟩
 rotate_left
 ·obtain⟨o',q⟩:=I.base.there b o e nx
  exact gen b o' q (I.base.free b o e n nx)
 have dm:=hdm _ _ hE
 have slot:∀b o,s.heap.get? b=some o->H b=none->b∈frs X.stack->∃sl,h''.get? b=some { o with slots:=sl }:=fun b o e n hf=>by
  obtain⟨sl,q⟩:=un.slot b o e n hf (by intro z;cases z)
  obtain⟨_,o',ho',hd⟩:=I.stack.mem hf
  rw[e] at ho'
  cases ho'
  obtain⟨sl',q'⟩:=up b { o with slots:=sl } q hd
  exact⟨sl',q'⟩
 have un':Un (frs X.stack) [] H H' s.heap h'':=by
  refine⟨fun b o e n nf _=>kB b o (old b o e n nf),fun b o e n hf _=>slot b o e n hf,un.free,fun b o e _=>?_,un.tups,un.frzs,un.tbls⟩
  cases q:H b with
  | none =>
   by_cases hf:b∈frs X.stack
   ·obtain⟨sl,z⟩:=slot b o e q hf
    exact⟨_,z⟩
   ·exact⟨o,kB b o (old b o e q hf)⟩
  | some u =>
   obtain⟨u',q'⟩:=dm b u q
   obtain⟨ob,z⟩:=trk b u' q'
   exact⟨ob,kB b ob z⟩
 have hok':HOk X.prog X.w H' h'':=fun b o e=>(hok b o e).stay (fun c u hc q=>by
  obtain⟨ob,z⟩:∃ob,B.get? c=some ob:=by
   rcases hc with y |y
   ·rw[y];exact trk b o e
   ·exact trk c _ y
  have z':=fl.1 c ob z
  rw[q] at z'
  cases z'
  exact kB c _ z) (fun _ q=>q) (fun _ _ q=>q)
 exact I.call' (s':={ s' with heap:=h'' }) os un' hok' bare (fun b z=>absurd z (by simp))
abbrev Cx.mark(X:Cx)(v:Value):Cx:={ X with A:=X.A.mark (some v),calm:=false }
theorem Inv.mark{X:Cx}{pins:List (Addr×Obj)}{Z:St}{H:Hp}{s:Shared}(I:Inv X pins Z H s)(v:Value):Inv (X.mark v) pins Z H s :=
 ⟨⟨I.ok.mod,I.ok.kind,I.ok.glob,I.ok.blt,I.ok.above,I.ok.inj,I.ok.has,I.ok.cab,(fun z=>absurd z Bool.false_ne_true),I.ok.frames,I.ok.stk,I.ok.exf,I.ok.bs,I.ok.bsz,I.ok.noex,I.ok.exfs,I.ok.funs,I.ok.frf⟩,I.os,I.bare,I.base,I.loc,I.cell,I.free,I.freeC,I.pin,I.hok,I.len⟩
theorem Inv.unmark{X:Cx}{v:Value}{pins:List (Addr×Obj)}{Z:St}{H:Hp}{s:Shared}(ok:X.Ok)(I:Inv (X.mark v) pins Z H s):Inv X pins Z H s :=
 ⟨ok,I.os,I.bare,I.base,I.loc,I.cell,I.free,I.freeC,I.pin,I.hok,I.len⟩
theorem Inv.track{X:Cx}{pins:List (Addr×Obj)}{Z:St}{H:Hp}{s:Shared}{ea:Addr}{oe:Obj}(I:Inv X pins Z H s)(ho:s.heap.get? ea=some oe)(nea:H ea=none)(neL:ea≠X.env.locals)(neC:∀y c,X.env.cells.lookup y=some c->c≠ea)
  (new:∀b o,X.s₀.heap.get? b=some o->X.H₀ b=none->b∉X.ex->b≠ea) (pne:∀p∈X.pn++pins,p.1≠ea):Inv X pins Z (upd H ea (.frz oe (.own 0))) s:=by
 have up:∀b u,H b=some u->upd H ea (.frz oe (.own 0)) b=some u:=fun b u e=>by rw[aD (aP e nea)];exact e
 refine⟨I.ok,I.os,I.bare,⟨I.base.keep,I.base.slot,fun b o e n nx=>?_,I.base.there,fun b xs e=>up _ _ (I.base.tups b xs e),fun b o u e=>up _ _ (I.base.frzs b o u e),fun b ps e=>?_⟩,I.loc,I.cell,?_,fun y c hc=>?_,fun p hp=>?_,fun b o e=>?_,I.len⟩
 ·rw[aD (new b o e n nx)];exact I.base.free b o e n nx
 ·obtain⟨m,z⟩:=I.base.tbls b ps e
  exact⟨m,up _ _ z⟩
 ·rw[aD (Ne.symm neL)];exact I.free
 ·rw[aD (neC y c hc)];exact I.freeC y c hc
 ·have z:=I.pin p hp
  refine⟨z.1,?_,z.2.2⟩
  rw[aD (pne p hp)];exact z.2.1
 ·by_cases hb:b=ea
  ·subst hb
   rw[aM] at e
   cases e
   exact⟨ho,oe,ho⟩
  ·rw[aD hb] at e
   exact(I.hok b o e).stay (fun c u _ q=>q) (fun c q=>up _ _ q) (fun c xs q=>up _ _ q)
section
variable {X:Cx} {pins:List (Addr×Obj)} {Z:St} {ea C t:Addr} {H:Hp} {B:Heap} {s:Shared} {x n:Str} {np hpos:Pos} {cv:Value} {i:Nat} {b₀:Stmt} {suite:List Stmt} {rest:List ExceptHandler} {Q:Flow->Shared->Prop} {E:Value->Shared->Prop} {b:Bool}
theorem Bj{M:Model}{h:Heap}{ob:Obj}{cls:Value}(ho:h.get? ea=some ob)(hc:ob.cls=cls):PySem.W.Looks M h (typeOf (.ref ea)) cls:=by
 rw[<-hc];exact(show PySem.W.Looks M h (typeOf (.ref ea)) ob.cls from(PySem.W.Looks.ld ho).andThen .now)
theorem Hv(F:Flown X pins Z ea C t H B s)(hs:X.stack=X.env::X.outer)(hfr:X.env.frame=some X.env.locals)(hg:Gl X x)(hm:X.mg x=some cv)(hx:PySem.W.exmOne X.K (.ref C) cv=some true)(hN:X.N.Nodup)(hi:X.N[i]? = some n)(hl:X.env.scope.names.lookup n=some .local)(hd:(x==("__debug__":Str))=false)
  (k:∀s7 oe,Inv (X.mark (.ref ea)) pins (Z.set i (some (.ref ea))) (upd H ea (.frz oe (.own 0))) s7->oe.cls=.ref C ->
   wpAny (model X.prog X.w) (X.A.mark (some (.ref ea))) (execs (b₀::suite) X.env) (fun f s3=>wpAny (model X.prog X.w) X.A (do bindName X.env n .none;unbindBehindTheSuite X.env n hpos) (fun _ s5=>Q f s5) E s3) (fun _ _=>False) s7) :
  wpAny (model X.prog X.w) X.A (noteFrame (.ref ea) X.env) (fun _ s2=>wpAny (model X.prog X.w) X.A (setFlight (.ref ea) none) (fun _ s3=>wpAny (model X.prog X.w) X.A (handleBy (.ref ea) X.env (.ExceptHandler (some (.Name x np)) (some n) (b₀::suite) hpos::rest)) Q E s3) E s2) E s:=by
 have I0:=F.inv s.heap F.fl.1 (Heap.UpToSlots.refl _)
 have fl:=F.fl
 rw[hs] at fl
 have fr:X.A.frames=some (X.env::X.outer):=by rw[<-hs];exact I0.ok.frames
 refine wpAny_looks_onW fr hfr fl fun h4 held4 up4=>?_
 refine wpAny_landsW held4 fun h5 fl5 up5=>?_
 have up45:=up4.trans up5
 have I5:=(F.inv h5 fl5.1 up45).mark (.ref ea)
 obtain⟨ob,hob,hobc⟩:=fl5.there
 refine wpAny_handleBy_cons (codeAny_handlers_test (lR I5 hg hm ?_ hd)) (by intro q;cases q)
 refine(PySem.W.exm_one I5.kIn (Bj hob hobc) hx).here ?_
 refine codeAny_handlers_suite_as (lands_againW fl5 fun h6 fl6 up6=>?_)
 have I6:=(F.inv h6 fl6.1 (up45.trans up6)).mark (.ref ea)
 obtain⟨oe,ws,hoe,hoec,hoed,_⟩:=fl6.first
 refine rH (X:=X.mark (.ref ea)) (i:=i) (v:=.ref ea) I6 hN hi (.inl hl) rfl (fun s7 I7 ⟨a,sb,ha⟩=>?_) (.inr hl)
 have neL:ea≠X.env.locals:=fun z=>by
  obtain⟨m,⟨o',es,ep,ho',hd',_⟩,_⟩:=I6.loc
  have ho'':h6.get? X.env.locals=some o':=ho'
  rw[<-z,hoe] at ho''
  cases ho''
  rw[hoed] at hd'
  cases hd'
 have neC:∀y c,X.env.cells.lookup y=some c->c≠ea:=fun y c hc z=>by
  obtain⟨v,o',ho',hd'⟩:=I6.cell y c hc
  have ho'':h6.get? c=some o':=ho'
  rw[z,hoe] at ho''
  cases ho''
  rw[hoed] at hd'
  cases hd'
 have nefs:ea∉X.fs:=fun z=>by
  obtain⟨_,o',ho',hd'⟩:=I6.funs.mem z
  have ho'':h6.get? ea=some o':=ho'
  rw[hoe] at ho''
  cases ho''
  exact hd' _ hoed
 have h7:s7.heap.get? ea=some oe:=by
  rw[sb.2 ea (by
   rcases ha with z |z
   ·rw[z];exact neL
   ·exact fun q=>neC n a z q.symm)]
  exact hoe
 exact wpAny_mono (k s7 oe (I7.track h7 F.nea neL neC F.new F.pne) hoec) (fun f s3 q=>q) fun _ _ z=>z.elim
end
end L2
namespace L2
open PySem PySem.Spec PyProof.Rows
section
variable {X:Cx} {k:Nat} {f C:Addr} {fd:FuncData} {ps:List Str} {sp:Sp} {dvs:List V} {ds:List Value} {x m:Str} {p pos apos:Pos} {e o:Expr} {es:List Expr} {ta:TE} {t:TA}
def wB(X:Cx)(Z:St)(H:Hp)(E:XK):Prop:=∀(pins:List (Addr×Obj)) (s:Shared) (e:Value) (s':Shared),Inv X pins Z H s->CXr X.prog X.w X.stack H s E e s'->X.xe e s'
theorem Od{pins:List (Addr×Obj)}{Z:St}{H:Hp}{s:Shared}{Q:VK}{E:XK}{us:List Value}{vs:List V}(F:FnOk X.prog X.w X.K X.mg X.base (CXr X.prog X.w) k f fd ps sp)(hr:Room k X.A)(hb:Binds X.K fd ps ds)(hd:Vals dvs ds)
  (I:Inv X pins Z H s) (r:Vals vs us) (h:sp (vs++dvs) H Q E) (hx:wB X Z H E):wpAny (model X.prog X.w) X.A (call (.ref f) us) (EP X pins Z Q) X.xe s:=by
 have r2:Vals (vs++dvs) (us++ds):=r.append hd
 have hl:(us++ds).length=ps.length:=by rw[<-r2.length];exact F.len _ _ _ _ h
 refine wpAny_call (codeAny_mono (F.run X.A X.stack s H ⟨us,[]⟩ (us++ds) (vs++dvs) Q E hr I.env0 (hb s us I.kIn hl) r2 h) fun r s' hq=>?_)
 cases r with
 | error e=>exact hx pins s e s' I hq
 | ok fl=>cases fl with
  | ret u=>exact I.after hq
  | _=>exact False.elim hq
def Hx(X:Cx)(C:Addr)(m:Str)(sp:Sp)(dvs:List V)(ta:TE)(t:TA):TE:=fun Z H Q=>ta Z H fun x H1=>∃a dx fs,x=.ref a/\H1 a=some (.ins C dx fs)/\fs.lookup m=none/\t Z H1 fun vs H2=>∃E,sp (x::(vs++dvs)) H2 Q E/\wB X Z H2 E
theorem Bk{pl:Sem Bool}(he:PE X o ta)(c:Cls X.K C)(hm:Meth X.K C m f)(F:FnOk X.prog X.w X.K X.mg X.base (CXr X.prog X.w) k f fd ps sp)(hr:Room k X.A)(hb:Binds X.K fd ps ds)(hd:Vals dvs ds)(ha:PA X (e::es) t)
  (hst:starEach (e::es) X.env=(false,eval e X.env)::starEach es X.env:=by rfl) (hpl:(backTo pos (starEach es X.env)).any (·.1)=false:=by rfl)
  (ht:eval (.Call (.Attribute o m apos) (e::es) [] pos) X.env=(do
   let ov <-eval o X.env;standAt apos.atName
   let (f,first) <-holding [ov] (getMethod ov m pl);callWith pos f first (backTo pos (starEach (e::es) X.env)) (backToKw pos (keywordEach [] X.env))):=by rfl) :
  PE X (.Call (.Attribute o m apos) (e::es) [] pos) (Hx X C m sp dvs ta t):=by
 intro pins s Z H Q I h
 refine PySem.W.methodCall_KW (pl:=pl) (thn (he pins s Z H _ I h) fun u s1 hw'=>?_) ht
 obtain⟨x,H1,I1,rx,a,dx,fs,ex,ea,l,q⟩:=hw'
 subst ex;obtain rfl:u=Value.ref a:=rx
 refine qy I1 ea c hm l ?_
 exact PySem.W.callWith_K (first:=[.ref a]) (h₀:=X.base) I.ok.mod.kin hm.kp (thn (ha pos pins s1 Z H1 _ I1 q) fun us s2 ⟨vs,H2,I2,r,E,q2,hx⟩=>⟨I2.kIn,Od (us:=.ref a::us) (vs:=.ref a::vs) F hr hb hd I2 (.cons rfl r) q2 hx⟩) hst hpl
end
abbrev Cx.hold(X:Cx)(pn:List (Addr×Obj))(E:Value->Shared->Prop):Cx:={ X with pn:=pn,xe:=E }
theorem Inv.hold{X:Cx}{pins:List (Addr×Obj)}{Z:St}{H:Hp}{s:Shared}(I:Inv X pins Z H s)(E:Value->Shared->Prop):Inv (X.hold (X.pn++pins) E) [] Z H s :=
 ⟨⟨I.ok.mod,I.ok.kind,I.ok.glob,I.ok.blt,I.ok.above,I.ok.inj,I.ok.has,I.ok.cab,I.ok.hd,I.ok.frames,I.ok.stk,I.ok.exf,I.ok.bs,I.ok.bsz,I.ok.noex,I.ok.exfs,I.ok.funs,I.ok.frf⟩,I.os,I.bare,I.base,I.loc,I.cell,I.free,I.freeC,fun p hp=>I.pin p (by simpa using hp),I.hok,I.len⟩
theorem Inv.unhold{X:Cx}{pins pins':List (Addr×Obj)}{Z:St}{H:Hp}{s:Shared}{E:Value->Shared->Prop}(ok:X.Ok)(I:Inv (X.hold (X.pn++pins) E) pins' Z H s):Inv X pins Z H s :=
 ⟨ok,I.os,I.bare,I.base,I.loc,I.cell,I.free,I.freeC,fun p hp=>I.pin p (List.mem_append_left _ hp),I.hok,I.len⟩
def Ends.only(r:VK):Ends:={ nx:=fun _ _=>False,rt:=r,bk:=fun _ _=>False,ct:=fun _ _=>False }
def sH(X:Cx)(pins:List (Addr×Obj))(Hw:St->Addr->Hp->Prop):Value->Shared->Prop:=fun e s'=>∃Z ea C t H' B,e=.ref ea/\Flown X pins Z ea C t H' B s'/\Hw Z C H'
end L2
namespace PySem.W
open PySem PySem.Spec PySem.Calls PyProof.Rows PySem.Builtin.ObjectAttr PySem PySem.Calls PyProof.Rows Builtin Builtin.ObjectAttr Builtin.Getset_descriptor
def uN(h:Heap)(x D:Addr):Prop:=∃ox,h.get? x=some ox/\ox.cls=.ref D
theorem uN.type{M:Model}{h:Heap}{x D:Addr}(I:uN h x D):Looks M h (typeOf (.ref x)) (.ref D):=by
 obtain⟨ox,h1,h2⟩:=I
 exact h2 ▸ (Looks.ld h1).andThen .now
section
variable {prog:Program} {w:World} {A:Around} {E:Value->Shared->Prop} {s:Shared} {K:Frag} {x D:Addr}
theorem Fw{M:Model}{Q:Unit->Shared->Prop}{tk:Tok}{y:Str}(X:K.In s.heap)(I:uN s.heap x D)(hsub:subIn K (.ref D) (.type "BaseException")=some true)(h:Q () s) :
  wpAny M A (checkBuiltinCall "BaseException.__getattribute__" ⟨[.ref x,.str y tk],[]⟩) Q E s:=by
 have hsplit:splitId "BaseException.__getattribute__" = some ("BaseException","__getattribute__"):=by decide +kernel
 have hk:builtinKind "BaseException.__getattribute__" = some .slot:=by decide +kernel
 have LI:Looks M s.heap (isInstance (.ref x) (.type "BaseException")) true:=I.type.andThen (looks_subIn X hsub)
 have ha:=F.args_bexc_ga (.ref x) (.str y tk)
 simp only[checkBuiltinCall,hk,hsplit]
 refine wpAny_bind (LI.at ?_)
 simp only[Bool.not_true,Bool.false_eq_true,if_false]
 cases hsig:Manifest.signature? "BaseException.__getattribute__" with
 | none=>exact wpAny_pure h
 | some sig =>
  simp only[argsOk,hsig] at ha
  have h2:Bind.checkArgs "BaseException.__getattribute__" sig ⟨[.ref x,.str y tk],[]⟩=pure ():=ha
  show wpAny M A (Bind.checkArgs _ sig _) Q E s
  rw[h2];exact wpAny_pure h
structure ExcLook(K:Frag)(D:Addr):Prop where
 cl:(clsIn K D).isSome=true
 ga:findIn K (.ref D) "__getattribute__" = some (some (.builtin "BaseException.__getattribute__"))
 hk:findIn K (.ref D) "__getattr__" = some none
 sub:subIn K (.ref D) (.type "BaseException")=some true
 ha:findIn K (.ref D) "__class__" = some (some (.builtin "object.__class__"))
 hn:specialIn K (.builtin "object.__class__") "__get__" = some (some (.builtin "getset_descriptor.__get__"))
 tk:takesIn K (.builtin "object.__class__")=some true
 hm:mroIn K D (.type "object")=some true
theorem ExcLook.find{M:Model}{h:Heap}(T:ExcLook K D)(X:K.In h):Looks M h (find (.ref x) (.ref D) "__class__") (.bind (.builtin "getset_descriptor.__get__") (.builtin "object.__class__")):=by
 have L1:=looks_findIn (M:=M) X T.ha
 have L2:Looks M h (getOf (some (.builtin "object.__class__"))) (some (.builtin "getset_descriptor.__get__")):=looks_specialIn X T.hn
 have L3:=looks_takesIn (M:=M) X T.tk
 unfold Builtin.ObjectAttr.find
 refine L1.andThen (L2.andThen ?_)
 have L4:Looks M h (dataDescriptor? (some (.builtin "object.__class__")) (some (.builtin "getset_descriptor.__get__"))) (some (.builtin "getset_descriptor.__get__",.builtin "object.__class__")):=L3.andThen .now
 exact L4.andThen (Looks.tag .now)
theorem Fx{R:Result->Shared->Prop}{tp:Value}(X:K.In s.heap)(I:uN s.heap x D)(hm:mroIn K D (.type "object")=some true)
  (h:R (.ok (.ret (.ref D))) s):codeAny (model prog w) A (.call (.builtin "getset_descriptor.__get__") ⟨[.builtin "object.__class__",.ref x,tp],[]⟩) R s:=by
 obtain⟨hh,g,dr,t,os⟩:=s
 have L0:=I.type (M:=model prog w)
 have L1:=looks_mroIn (M:=model prog w) X hm
 refine codeAny_call_builtin KF.slot_gs.plain KF.entry_gs (KF.slot_gs.check _ _ _ _ _ _ _ _ KF.type_class (KF.args_gs _ _ _) ?_)
 unfold Builtin.«getset_descriptor.__get__» descrGet
 rw[dga_obj]
 refine wpAny_bind (wpAny_pure ?_)
 unfold descrGetter descrCheckInstance descrNameAndClass isInstance
 simp only[KF.owner_class]
 repeat lk
 refine⟨Code.quiet_builtin _ (by decide +kernel),codeAny_builtin KF.entry_class ?_⟩
 unfold Builtin.«object.__class__» shownTypeOf
 repeat lk
 exact h
theorem Hy{tk:Tok}{Q:Fin->Shared->Prop}(T:ExcLook K D)(X:K.In s.heap)(I:uN s.heap x D)(h:Q (.done (.ret (.ref D))) s) :
  wpAny (model prog w) A (Builtin.«object.__getattribute__» ⟨[.ref x,.str "__class__" tk],[]⟩) Q E s:=by
 obtain⟨hh,gg,d,t,os⟩:=s
 have L0:=I.type (M:=model prog w)
 have L1:=T.find (M:=model prog w) (x:=x) X
 unfold Builtin.«object.__getattribute__»
 repeat (first |with_reducible refine wpAny_bind (L0.at ?_) |with_reducible refine wpAny_bind (L1.at ?_) |wp_step)
 exact Fx X I T.hm (wpAny_pure h)
theorem Hz{Q:Option Value->Shared->Prop}(T:ExcLook K D)(X:K.In s.heap)(I:uN s.heap x D)(h:Q (some (.ref D)) { s with toks:=s.toks+1 }):wpAny (model prog w) A (getAttr? (.ref x) "__class__") Q E s:=by
 obtain⟨hh,g,d,t,os⟩:=s
 have L0:=I.type (M:=model prog w)
 have L1:=looks_findIn (M:=model prog w) X T.ga
 have L2:=looks_findIn (M:=model prog w) X T.hk
 unfold getAttr? getAttrBy? getAttrBy
 refine wpAny_bind (wpAny_mkText (wpAny_bind (wpAny_attempt (wpAny_holding (wpAny_bind (L0.at (wpAny_bind (L1.at ?_))))))))
 show wpAny _ _ (getAttrByItsOwn _ _ _ _ _ _) _ _ _
 unfold getAttrByItsOwn hookBefore
 refine wpAny_bind (L2.at ?_)
 refine wpAny_bind (wpAny_attempt (wpAny_holding ?_))
 show wpAny _ _ (boundAndCalled _ _ _) _ _ _
 unfold boundAndCalled
 rw[F.excAttr_ValueError.ga.bind]
 refine wpAny_bind (wpAny_pure ?_)
 refine wpAny_call (codeAny_call_builtin F.excAttr_ValueError.ga.plain F.entry_bexc_ga (Fw (s:=⟨hh,g,d,t+1,os⟩) X I T.sub (Hy (s:=⟨hh,g,d,t+1,os⟩) T X I ?_)))
 dsimp only
 refine handed_on rfl ?_
 exact wpAny_pure h
theorem JW(T:ExcLook K D):KitX K (.ref x) (.ref D) (fun h=>uN h x D) where
 ty:=fun _ _ _ I=>I.type
 it:=fun _ _ X _=>by
  obtain⟨cdD,hcD⟩:=Option.isSome_iff_exists.mp T.cl
  unfold clsIn at hcD
  split at hcD
  ·rename_i c' d' cd' sl' ho
   intro A' Q' E' s' k q
   unfold isType loadHead
   exact wpAny_bind (wpAny_loadPart (k _ _ (X _ _ ho)) (wpAny_pure q))
  ·cases hcD
 ne:=fun h tp dd its n sl X htp=>by
  obtain⟨cdD,hcD⟩:=Option.isSome_iff_exists.mp T.cl
  refine Bool.eq_false_iff.mpr fun q=>?_
  have e:D=tp:=Value.ref.inj (beq_iff_eq.mp q)
  subst e
  unfold clsIn at hcD
  split at hcD
  ·rename_i c' d' cd' sl' ho
   have z:=(X _ _ ho).symm.trans htp
   cases z
  ·cases hcD
 ca:=fun X I k=>Hz T X I k
end
end PySem.W
namespace DL
open PySem PySem.Spec PyProof.Rows L2
def lB(t:Str->Option Bool)(g:Den):Den:=fun Y U=>match g Y U with
 | some (.obj n,U1)=>match U1[n]? with
  | some (.exc c)=>match t c with
   | some b=>some (.bl b,U1)
   | none=>none
  | _=>none
 | _=>none
section
variable {X:Cx} {C:Cl} {x y:Expr} {g:Den} {pos p:Pos} {n:Str} {t:Str->Option Bool}
theorem JX{K:PySem.W.Frag}{Z:St}{H:Hp}{Q:VK}{R:VK}(hw:tD K C (lB t g) Z H Q)
  (k:∀a Ca ob u e' U' (c:Str) b,Wf K C e' U'->e'.H a=some (.frz ob u)->ob.cls=.ref Ca->C c=some Ca->t c=some b->(∀e'',Ext e' e''->Wf K C e'' U'->Q (.bl b) e''.H)->R (.ref a) e'.H):tD K C g Z H R:=by
 obtain⟨e,U,Y,d,U',eH,w,rl,q,kk⟩:=hw
 unfold lB at q
 cases q1:g Y U with
 | none=>rw[q1] at q;cases q
 | some p1 =>
  obtain⟨d1,U1⟩:=p1
  rw[q1] at q
  cases d1 with
  | obj n =>
   dsimp only at q
   cases q2:U1[n]? with
   | none=>rw[q2] at q;cases q
   | some o =>
    rw[q2] at q
    cases o with
    | exc c =>
     dsimp only at q
     cases q3:t c with
     | none=>rw[q3] at q;cases q
     | some b =>
      rw[q3] at q
      cases q
      refine⟨e,U,Y,.obj n,_,eH,w,rl,q1,fun v e' x' w' i'=>?_⟩
      rw[Is] at i'
      obtain⟨a,ha,rfl⟩:=i'
      obtain⟨_,Ca,ob,u,h1,h2,h3⟩:=w'.ob n a (.exc c) ha q2
      exact k a Ca ob u e' _ c b w' h2 h3 h1 q3 fun e'' y w''=>kk _ e'' (x'.trans y) w'' (by rw[Is])
    | _=>cases q
  | _=>cases q
theorem lC{v:V}{cv:Value}(ha:PD X C x g)(hy:PE X y (tC v))(hv':∀u,RelV v u->u=cv)(hg:Gl X n)(hm:X.mg n=none)(hv:bootBuiltins n=some (.builtin "isinstance"))
  (hk:∀c Ca b,t c=some b->C c=some Ca->PySem.W.ExcLook X.K Ca/\PySem.W.kitOne X.K (.ref Ca) cv=some b)
  (hn:n ≠ "__name__":=by decide) (hdb:(n==("__debug__":Str))=false:=by decide)
  (he:starEach [x,y] X.env=(false,eval x X.env)::starEach [y] X.env:=by rfl) (he2:starEach [y] X.env=(false,eval y X.env)::starEach [] X.env:=by rfl) (hpl:(backTo pos (starEach [y] X.env)).any (·.1)=false:=by rfl) :
  PD X C (.Call (.Name n p) [x,y] [] pos) (lB t g):=by
 have hc:gG X (.builtin "isinstance") (fun xs H Q=>∃a Ca ob u k,xs=[.ref a,v]/\H a=some (.frz ob u)/\ob.cls=.ref Ca/\PySem.W.ExcLook X.K Ca/\PySem.W.kitOne X.K (.ref Ca) cv=some k/\Q (.bl k) H):=by
  intro pins s Z H xs us Q I r hw
  obtain⟨a,Ca,ob,u,k,rfl,h1,h2,T,e,q⟩:=hw
  obtain⟨u1,w',rfl,r1,r2⟩:=vals2 r
  obtain rfl:u1=Value.ref a:=r1
  obtain rfl:=hv' _ r2
  have ho:s.heap.get? a=some ob:=(show bV X.prog X.w H s.heap a (.frz ob u) from I.hok a _ h1).1
  exact PySem.W.kia_one (PySem.W.JW T) I.kIn ⟨ob,ho,h2⟩ e (fun z=>nomatch z) fun tk=>⟨.bl k,H,I.tok tk,rfl,q⟩
 refine bx (gb hc hg hm hv (bR ha (bR hy dH he2) he) hn hdb he hpl) fun Z H Q hw=>?_
 refine JX hw fun a Ca ob u e' U' c b w' h1 h2 h3 h4 q=>?_
 obtain⟨T,z⟩:=hk c Ca b h4 h3
 exact⟨a,Ca,ob,u,b,rfl,h1,h2,T,z,q e' (Ext.refl _) w'⟩
end
end DL
namespace DL
open PySem PySem.Spec PyProof.Rows L2
abbrev uO:=List Sl->List OS->Option (Str×List OS)
abbrev jK:=List D->List OS->Option (Str×List OS)
abbrev fC:=List Sl->List OS->Option (Str×List Sl×List OS)
abbrev XWt:=St->Addr->Hp->Prop
def tR(K:PySem.W.Frag)(C:Cl)(XW:XWt)(r:uO):TE:=fun Z H _=>∃e U Y c U' Ca,e.H=H/\Wf K C e U/\RelE K e Z Y/\r Y U=some (c,U')/\C c=some Ca/\∀e',Ext e e'->Wf K C e' U'->XW Z Ca e'.H
def RD(X:Cx)(C:Cl)(XW:XWt)(x:Expr)(r:uO):Prop:=PE X x (tR X.K C XW r)
def tRS(K:PySem.W.Frag)(C:Cl)(XW:XWt)(e₀:E4)(r:fC):TS:=fun _ Z H=>∃e U Y c Y' U' Ca,e.H=H/\RelS K C e₀ e U Z Y/\r Y U=some (c,Y',U')/\C c=some Ca/\∀e' Z',RelS K C e₀ e' U' Z' Y'->XW Z' Ca e'.H
def RDS(X:Cx)(C:Cl)(XW:XWt)(st:Stmt)(r:fC):Prop:=∀e₀,PS X st (tRS X.K C XW e₀ r)
def RDB(X:Cx)(C:Cl)(XW:XWt)(sts:List Stmt)(r:fC):Prop:=∀e₀,PSs X sts (tRS X.K C XW e₀ r)
def dmH(H H':Hp):Prop:=∀b o,H b=some o->∃o',H' b=some o'
def DY(X:Cx)(XW:XWt):Prop:=∀Ca Z H,XW Z Ca H->oJ X Ca Z H
def pA(X:Cx)(XW:XWt):Prop:=∀Z H,wB X Z H fun cv _ H'=>∃Ca,cv=.ref Ca/\XW Z Ca H'/\dmH H H'
section
variable {X:Cx} {C:Cl} {XW:XWt} {a b c x:Expr} {f g:Den} {p:cB} {st:Stmt} {rest sts sts':List Stmt} {s:aU} {r r1 r2:fC} {rx:uO} {pos:Pos}
theorem jL(h:RDS X C XW st r):RDB X C XW [st] r:=fun e₀=>Dg (h e₀)
theorem qN(h:RDS X C XW st r):RDB X C XW (st::rest) r:=fun e₀=>pO (zW (h e₀) (yw (sts:=rest))) fun Dn Z H hw'=>by obtain⟨e,U,Y,c,Y',U',Ca,eH,rl,q,hC,k⟩:=hw';exact⟨e,U,Y,c,Y',U',Ca,eH,rl,q,hC,k⟩
def wC:fC:=fun _ _=>none
theorem yW:RDB X C XW sts wC:=fun e₀=>pO yw fun Dn Z H hw'=>by obtain⟨e,U,Y,c,Y',U',Ca,eH,rl,q,hC,k⟩:=hw';cases q
def rIf(p:cB)(s t:fC):fC:=fun Y U=>match p Y U with
 | some (true,U')=>s Y U'
 | some (false,U')=>t Y U'
 | none=>none
theorem wD(hc:PDT X C c p)(ha:RDB X C XW sts r1)(hb:RDB X C XW sts' r2):RDS X C XW (.If c sts sts' pos) (rIf p r1 r2):=fun e₀=>cQ (Lj hc (ha e₀) (hb e₀)) fun Dn Z H hw'=>by
 obtain⟨e,U,Y,c,Y',U',Ca,eH,rl,q,hC,k⟩:=hw'
 unfold rIf at q
 cases q1:p Y U with
 | none=>rw[q1] at q;cases q
 | some p1 =>
  obtain⟨d,U1⟩:=p1
  rw[q1] at q
  refine⟨e,U,Y,d,U1,eH,rl.wf,rl.rel,q1,fun e' x' w'=>?_⟩
  cases d with
  | true=>rw[if_pos rfl];exact⟨e',U1,Y,c,Y',U',Ca,rfl,rl.to x' w',q,hC,k⟩
  | false=>rw[if_neg (by decide)];exact⟨e',U1,Y,c,Y',U',Ca,rfl,rl.to x' w',q,hC,k⟩
def rE(rx:uO):fC:=fun Y U=>match rx Y U with
 | some (c,U')=>some (c,Y,U')
 | none=>none
theorem D_{K:PySem.W.Frag}{e₀:E4}{Z:St}{H:Hp}{Dn:Ends}{Q:VK}(hw:tRS K C XW e₀ (rE rx) Dn Z H):tR K C XW rx Z H Q:=by
 obtain⟨e,U,Y,c,Y',U',Ca,eH,rl,q,hC,k⟩:=hw
 unfold rE at q
 cases q1:rx Y U with
 | none=>rw[q1] at q;cases q
 | some p1 =>
  obtain⟨c1,U1⟩:=p1
  rw[q1] at q
  cases q
  exact⟨e,U,Y,_,_,Ca,eH,rl.wf,rl.rel,q1,hC,fun e' x' w'=>k e' Z (rl.to x' w')⟩
theorem qO(h:RD X C XW x rx)(hs:swapsWith x none pos.line X.env=pure false:=by rfl):RDS X C XW (.Expr x pos) (rE rx):=fun e₀=>cQ (tH h hs) fun Dn Z H hw=>D_ hw
theorem xY{i:Nat}{n:Str}{pos':Pos}(hN:X.N.Nodup)(hi:X.N[i]? = some n)(hx:Loc X.env.scope n)(h:RD X C XW x rx)(hs:swapsWith x (some (.Name n pos')) pos.line X.env=pure false:=by rfl)(hf:X.fn n=true\/X.env.scope.names.lookup n=some .local:=by first |exact .inl rfl |exact .inr rfl |assumption) :
  RDS X C XW (.Assign [.Name n pos'] x pos) (rE rx):=fun e₀=>cQ (zY hN hi hx h hs hf) fun Dn Z H hw=>D_ hw
end
end DL
namespace DL
open PySem PySem.Spec PyProof.Rows L2
def spX(K:PySem.W.Frag)(C:Cl)(F:bw)(R:jK):Sp:=fun vs H Q E=>spD K C F vs H Q E\/∃e U ds c U' Ca,e.H=H/\Wf K C e U/\IsL K e.α e.F ds vs/\R ds U=some (c,U')/\C c=some Ca/\∀e',Ext e e'->Wf K C e' U'->E (.ref Ca) none e'.H
def pH(n m:Nat)(r:fC):jK:=fun ds U=>if ds.length=n then match r (ds.map Sl.dat++List.replicate (m-n) Sl.und) U with
 | some (c,_,U')=>some (c,U')
 | none=>none
 else none
theorem uA{P:Program}{w:World}{K:PySem.W.Frag}{mg:Str->Option Value}{base:Heap}{N:List Str}{qual:Str}{scope:Scope}{f:Addr}{cd:Value}{A:Around}{outer:List Env}{s₀:Shared}{H₀:Hp}{E:XK} :
  DY (bG (CXr P w) P w K mg base N qual scope f cd A outer s₀ H₀ E) fun _ Ca H'=>E (.ref Ca) none H':=fun Ca Z H h=>zG h
theorem wF{P:Program}{w:World}{K:PySem.W.Frag}{mg:Str->Option Value}{base:Heap}{C:Cl}{x qual:Str}{st:Stmt}{dV:Value}{f:Addr}{fd:FuncData}{N ps:List Str}{k n m:Nat}{s:aU}{r:fC}(F:FunV K x qual st dV f fd)(S:FnScope N ps (au st))(hn:ps.length=n)(hm:N.length=m)
  (hbody:∀(cdv:Value) (A:Around) (outer:List Env) (sh:Shared) (H:Hp) (E:XK),Room k (A.deeper (envOfC qual (au st) sh.heap.objs.size f cdv)) ->
   PDB (bG (CXr P w) P w K mg base N qual (au st) f cdv A outer sh H E).nox C (aW st) s)
  (hout:∀(cdv:Value) (A:Around) (outer:List Env) (sh:Shared) (H:Hp) (E:XK),Room k (A.deeper (envOfC qual (au st) sh.heap.objs.size f cdv)) ->
   RDB (bG (CXr P w) P w K mg base N qual (au st) f cdv A outer sh H E) C (fun _ Ca H'=>E (.ref Ca) none H') (aW st) r):FnOk P w K mg base (CXr P w) (k+1) f fd ps (spX K C (bQ n m s) (pH n m r)):=by
 obtain⟨oc,od,kV,doc,pm,an,cdv,ct,osl,rfl,lk,hcd⟩:=F
 refine Fg lk hcd S (fun vs H Q E h=>?_) fun A outer sh H vs Q E hr h=>?_
 ·rcases h with⟨e,U,ds,d,U',_,_,i,q,_⟩ |⟨e,U,ds,c,U',Ca,_,_,i,q,_⟩
  ·unfold bQ at q
   by_cases hl:ds.length=n
   ·rw[<-i.length,hl,hn]
   ·rw[if_neg hl] at q;cases q
  ·unfold pH at q
   by_cases hl:ds.length=n
   ·rw[<-i.length,hl,hn]
   ·rw[if_neg hl] at q;cases q
 ·rcases h with⟨e,U,ds,d,U',eH,wf,i,q,kk⟩ |⟨e,U,ds,c,U',Ca,eH,wf,i,q,hC,kk⟩
  ·unfold bQ at q
   by_cases hl:ds.length=n
   ·rw[if_pos hl] at q
    cases q1:s (ds.map Sl.dat++List.replicate (m-n) Sl.und) U with
    | none=>rw[q1] at q;cases q
    | some o =>
     rw[q1] at q
     refine⟨_,(hbody cdv A outer sh H E hr e).nox,e,U,_,o,eH,o_ wf i,by rw[hl,hm];exact q1,?_⟩
     cases o with
     | rt d' U2=>cases q;exact fun e' v x' w' i'=>kk v e' x' w' i'
     | nx Y' U2=>cases q;exact fun e' Z' r'=>kk .non e' r'.ext r'.wf (by rw[Is])
     | bk Y' U2=>cases q
     | ct Y' U2=>cases q
   ·rw[if_neg hl] at q;cases q
  ·unfold pH at q
   by_cases hl:ds.length=n
   ·rw[if_pos hl] at q
    cases q1:r (ds.map Sl.dat++List.replicate (m-n) Sl.und) U with
    | none=>rw[q1] at q;cases q
    | some p1 =>
     obtain⟨c1,Y1,U1⟩:=p1
     rw[q1] at q
     cases q
     exact⟨_,hout cdv A outer sh H E hr e,e,U,_,_,Y1,_,Ca,eH,o_ wf i,by rw[hl,hm];exact q1,hC,fun e' Z' r'=>kk e' r'.ext r'.wf⟩
   ·rw[if_neg hl] at q;cases q
structure MtX(P:Program)(w:World)(K:PySem.W.Frag)(mg:Str->Option Value)(base:Heap)(C:Cl)(k:Nat)(c m:Str)(F:bw)(R:jK)(dfl:List D):Prop where
 ex:∃Ca f fd ps ds dvs,C c=some Ca/\Cls K Ca/\Meth K Ca m f/\Binds K fd ps ds/\Vals dvs ds/\(∀α H,IsL K α H dfl dvs)/\FnOk P w K mg base (CXr P w) k f fd ps (spX K C F R)
theorem Oe{K:PySem.W.Frag}{C:Cl}{g:Den}{Z:St}{H:Hp}{Q Q':VK}(h:tD K C g Z H Q)(i:∀v H',Q v H'->Q' v H'):tD K C g Z H Q':=by
 obtain⟨e,U,Y,d,U',eH,w,rl,q,kk⟩:=h
 exact⟨e,U,Y,d,U',eH,w,rl,q,fun v e' x' w' i'=>i _ _ (kk v e' x' w' i')⟩
theorem JZ{K:PySem.W.Frag}{C:Cl}{g:bB}{Z:St}{H:Hp}{Q Q':List V->Hp->Prop}(h:tDA K C g Z H Q)(i:∀v H',Q v H'->Q' v H'):tDA K C g Z H Q':=by
 obtain⟨e,U,Y,d,U',eH,w,rl,q,kk⟩:=h
 exact⟨e,U,Y,d,U',eH,w,rl,q,fun v e' x' w' i'=>i _ _ (kk v e' x' w' i')⟩
theorem Fy{X:Cx}{Z:St}{H:Hp}:wB X Z H fun _ _ _=>False:=fun pins s e s' I hw'=>by obtain⟨ea,C,t,H',B,_,z,_⟩:=hw';exact z.elim
def jM(c m:Str)(R:jK)(dfl:List D)(go:Den)(ga:bB):uO:=fun Y U=>match go Y U with
 | some (.obj n,U1)=>(match U1[n]? with
  | some (.ins c' fs)=>if c'=c then(match fs.lookup m with
   | none=>(match ga Y U1 with |some (ds,U2)=>R (.obj n::(ds++dfl)) U2 |none=>none)
   | some _=>none) else none
  | _=>none)
 | _=>none
section
variable {X:Cx} {C:Cl} {XW:XWt} {a b x:Expr} {f g:Den} {ga:bB} {r:uO} {pos ap cp:Pos}
theorem Fz{K:PySem.W.Frag}{c m:Str}{F:bw}{R:jK}{dfl:List D}{dvs:List V}{Ca:Addr}(hX:pA X XW)(hC:C c=some Ca)(hd:∀α H,IsL K α H dfl dvs){Z:St}{H:Hp}{Q:VK}(hw:tR K C XW (jM c m R dfl f ga) Z H Q) :
  Hx X Ca m (spX K C F R) dvs (tD K C f) (tDA K C ga) Z H Q:=by
 obtain⟨e,U,Y,xc,U',Xa,eH,w,rl,q,hXa,kk⟩:=hw
 unfold jM at q
 cases q1:f Y U with
 | none=>rw[q1] at q;cases q
 | some p1 =>
  obtain⟨d1,U1⟩:=p1
  rw[q1] at q
  cases d1 with
  | obj n =>
   dsimp only at q
   cases q0:U1[n]? with
   | none=>rw[q0] at q;cases q
   | some o0 =>
    rw[q0] at q
    refine⟨e,U,Y,_,U1,eH,w,rl,q1,fun v e1 x1 w1 i1=>?_⟩
    rw[Is] at i1
    obtain⟨p,hα,rfl⟩:=i1
    have ob:=(w1.ob n p _ hα q0).2
    cases o0 with
    | ins c' fs =>
     dsimp only at q
     by_cases ec:c'=c
     ·rw[if_pos ec] at q
      subst ec
      cases q2:fs.lookup m with
      | some v0=>rw[q2] at q;cases q
      | none =>
       rw[q2] at q
       dsimp only at q
       cases q3:ga Y U1 with
       | none=>rw[q3] at q;cases q
       | some p3 =>
        obtain⟨ds,U2⟩:=p3
        rw[q3] at q
        obtain⟨Cb,dx,fvs,h1,h2,h3⟩:=ob
        rw[hC] at h1
        cases h1
        have ov:=h3.look m
        rw[q2] at ov
        have e2:fvs.lookup m=none:=by
         cases z:fvs.lookup m with
         | none=>rfl
         | some v=>rw[z] at ov;exact ov.elim
        refine⟨p,dx,fvs,rfl,h2,e2,e1,U1,Y,ds,U2,rfl,w1,rl.ext x1,q3,fun vs e3 x3 w3 i3=>?_⟩
        refine⟨_,.inr ⟨e3,U2,_,xc,U',Xa,rfl,w3,.cons (by rw[Is];exact⟨p,p_ (K:=K) x3 hα,rfl⟩) (i3.append (hd _ _)),q,hXa,fun e4 x4 w4=>?_⟩,hX Z e3.H⟩
        exact⟨Xa,rfl,kk e4 ((x1.trans x3).trans x4) w4,x4.dm⟩
     ·rw[if_neg ec] at q;cases q
    | _=>cases q
  | _=>cases q
theorem lZ{k:Nat}{c m:Str}{F:bw}{R:jK}{dfl:List D}{es:List Expr}{pl:Sem Bool}(hX:pA X XW)(G:MtX X.prog X.w X.K X.mg X.base C k c m F R dfl)(hr:Room k X.A)(ho:PD X C a f)(ha:PDA X C (x::es) ga)
  (hst:starEach (x::es) X.env=(false,eval x X.env)::starEach es X.env:=by rfl) (hpl:(backTo cp (starEach es X.env)).any (·.1)=false:=by rfl)
  (ht:eval (.Call (.Attribute a m ap) (x::es) [] cp) X.env=(do
   let ov <-eval a X.env
   standAt ap.atName
   let (f,first) <-holding [ov] (getMethod ov m pl)
   callWith cp f first (backTo cp (starEach (x::es) X.env)) (backToKw cp (keywordEach [] X.env))):=by rfl) :
  RD X C XW (.Call (.Attribute a m ap) (x::es) [] cp) (jM c m R dfl f ga):=by
 obtain⟨Ca,fa,fd,ps,ds,dvs,hC,cl,me,hb,hd,hdd,ok⟩:=G.ex
 exact bx (Bk ho cl me ok hr hb hd ha hst hpl ht) fun _ _ _ hw=>Fz hX hC hdd hw
theorem jw{k:Nat}{c m:Str}{F:bw}{R:jK}{dfl:List D}{es:List Expr}{pl:Sem Bool}(G:MtX X.prog X.w X.K X.mg X.base C k c m F R dfl)(hr:Room k X.A)(ho:PD X C a f)(ha:PDA X C (x::es) ga)
  (hst:starEach (x::es) X.env=(false,eval x X.env)::starEach es X.env:=by rfl) (hpl:(backTo cp (starEach es X.env)).any (·.1)=false:=by rfl)
  (ht:eval (.Call (.Attribute a m ap) (x::es) [] cp) X.env=(do
   let ov <-eval a X.env
   standAt ap.atName
   let (f,first) <-holding [ov] (getMethod ov m pl)
   callWith cp f first (backTo cp (starEach (x::es) X.env)) (backToKw cp (keywordEach [] X.env))):=by rfl) :
  PD X C (.Call (.Attribute a m ap) (x::es) [] cp) (cP c m F dfl f ga):=by
 obtain⟨Ca,fa,fd,ps,ds,dvs,hC,cl,me,hb,hd,hdd,ok⟩:=G.ex
 exact bx (Bk ho cl me ok hr hb hd ha hst hpl ht) fun _ _ _ hw=>Oe (sE (E:=fun _ _ _=>False) hC hdd hw) fun v H1 ⟨a,dx,fs,h1,h2,h3,z⟩=>⟨a,dx,fs,h1,h2,h3,JZ z fun vs H2 z2=>⟨_,.inl z2,Fy⟩⟩
end
end DL
namespace L2
open PySem PySem.Spec PyProof.Rows
theorem Cx.Ok.unhold{X:Cx}{pn:List (Addr×Obj)}{E:Value->Shared->Prop}(h:(X.hold pn E).Ok):X.Ok :=
 ⟨h.mod,h.kind,h.glob,h.blt,h.above,h.inj,h.has,h.cab,h.hd,h.frames,h.stk,h.exf,h.bs,h.bsz,h.noex,h.exfs,h.funs,h.frf⟩
end L2
namespace DL
open PySem PySem.Spec PyProof.Rows L2
theorem yX{X:Cx}{pins:List (Addr×Obj)}{Hw:XWt}:pA (X.hold (X.pn++pins) (sH X pins Hw)) Hw:=fun Z H pins' s e s' I h=>by
 have I':Inv X pins Z H s:=I.unhold I.ok.unhold
 obtain⟨ea,Cc,t,H',B,rfl,⟨Ca,hc,hw,_⟩,F⟩:=flown I' h fun Cv H' ⟨Ca,_,_,dm⟩=>dm
 cases hc
 exact⟨Z,ea,_,t,H',B,rfl,F,hw⟩
end DL
namespace DL
open PySem PySem.Spec PyProof.Rows L2
abbrev xZ:=List Sl->List OS->Option (List OS)
def tV(K:PySem.W.Frag)(C:Cl)(p:xZ):TE:=fun Z H Q=>∃e U Y U',e.H=H/\Wf K C e U/\RelE K e Z Y/\p Y U=some U'/\∀v e',Ext e e'->Wf K C e' U'->Q v e'.H
def PV(X:Cx)(C:Cl)(x:Expr)(p:xZ):Prop:=PE X x (tV X.K C p)
section
variable {X:Cx} {C:Cl} {XW:XWt} {a x:Expr} {f g:Den} {p:xZ} {pos p1 p2:Pos}
def qi(i:Int):Prop:=i.natAbs.log2<1920/\(Str.ofString (toString i)).length<=1000
instance (i:Int):Decidable (qi i):=by unfold qi;infer_instance
def qj(c:Str)(p:xZ):fC:=fun Y U=>match p Y U with
 | some U'=>some (c,Y,U')
 | none=>none
theorem wG{cn:Str}{Ca:Addr}{bmB:List Value}{B newId initId:String}{np cpos:Pos}(hX:DY X XW)(hC:C cn=some Ca)(O:OwnCls cn Ca bmB newId X.mg X.base)(FB:ExcBaseFacts B newId initId bmB)(hh:X.A.handled=none)(hg:Gl X cn)(ha:PV X C x p)
  (he:starEach [x] X.env=(false,eval x X.env)::starEach [] X.env:=by rfl) (hpl:(backTo cpos (starEach [x] X.env)).any (·.1)=false:=by rfl)
  (hd:(cn==("__debug__":Str))=false:=by decide):RDS X C XW (.Raise (some (.Call (.Name cn np) [x] [] cpos)) none pos) (qj cn p):=fun e₀ =>
 cQ (JV O FB hh hg ha (fun {Z H} hv=>by
   obtain⟨e,U,Y,U',eH,w,rl,q,k⟩:=hv
   exact⟨e,U,Y,U',eH,w,rl,q,fun v e' x' w'=>⟨rfl,k v e' x' w'⟩⟩) he hpl hd) fun Dn Z H hw'=>by
  obtain⟨e,U,Y,c,Y',U',Cb,eH,rl,q,hCb,k⟩:=hw'
  unfold qj at q
  cases q1:p Y U with
  | none=>rw[q1] at q;cases q
  | some U1 =>
   rw[q1] at q
   cases q
   rw[hC] at hCb
   cases hCb
   exact⟨e,U,Y,_,eH,rl.wf,rl.rel,q1,fun v e' x' w'=>hX Ca Z _ (k e' Z (rl.to x' w'))⟩
end
end DL
namespace L2
open PySem PySem.Spec PyProof.Rows
section
variable {K:PySem.W.Frag} {h:Heap} {bmB:List Value} {newId:String} {mg:Str->Option Value} {x:Str}
def qP(K:PySem.W.Frag)(N:Addr):Bool:=match K.lookup N with
 | some o=>(match o.data with
  | .dict es _=>es.all (fun e=>match e.key with |.str _ _=>true |_=>false) && (nsFind es "__init__").isNone
  | _=>false)
 | none=>false
theorem LK{N:Addr}(X:K.In h)(q:qP K N=true):∃mN,h.Ns N mN/\mN "__init__" = none:=by
 unfold qP at q
 split at q
 ·rename_i o ho
  split at q
  ·rename_i es ep hd
   rw[Bool.and_eq_true] at q
   refine⟨h.nsMap N,.of_isNs ?_,?_⟩
   ·unfold Heap.isNs;rw[X _ _ ho];simp only[hd];exact q.1
   ·unfold Heap.nsMap;rw[X _ _ ho];simp only[hd];exact Option.isNone_iff_eq_none.mp q.2
  ·cases q
 ·cases q
def tailIn(K:PySem.W.Frag)(bmB:List Value):List Value->Bool
 | []=>bmB==[]
 | v::tl=>(bmB==v::tl) || (match v with
  | .ref A=>(match K.lookup A with |some o=>(match o.data with |.cls cd=>qP K cd.ns && tailIn K bmB tl |_=>false) |none=>false)
  | _=>false)
theorem Ea(X:K.In h):∀{tl:List Value},tailIn K bmB tl=true->OwnTail h bmB tl
 | [],q=>by
  unfold tailIn at q
  rw[beq_iff_eq] at q
  rw[<-q];exact .base
 | v::tl,q=>by
  unfold tailIn at q
  rw[Bool.or_eq_true] at q
  rcases q with q |q
  ·rw[beq_iff_eq] at q
   rw[<-q];exact .base
  ·split at q
   ·split at q
    ·rename_i o ho
     obtain⟨oc,dd,data,sl⟩:=o
     dsimp only at q
     split at q
     ·rw[Bool.and_eq_true] at q
      obtain⟨mA,h1,h2⟩:=LK X q.1
      exact .own (X _ _ ho) h1 h2 (Ea X q.2)
     ·cases q
    ·cases q
   ·cases q
def FJ(l:List (Option Value)):Option Value:=if l.length=6 then(l.getD 4 none) else none
theorem J_{l:List (Option Value)}{v:Value}(h:FJ l=some v):∃k0 k1 k2 k3 k5,l=[k0,k1,k2,k3,some v,k5]:=by
 unfold FJ at h
 by_cases q:l.length=6
 ·rw[if_pos q] at h
  obtain _ |⟨a,l⟩:=l
  ·cases q
  obtain _ |⟨b,l⟩:=l
  ·cases q
  obtain _ |⟨c,l⟩:=l
  ·cases q
  obtain _ |⟨d,l⟩:=l
  ·cases q
  obtain _ |⟨e,l⟩:=l
  ·cases q
  obtain _ |⟨f,l⟩:=l
  ·cases q
  obtain _ |⟨g,l⟩:=l
  ·exact⟨a,b,c,d,f,congrArg (fun z=>[a,b,c,d,z,f]) h⟩
  ·cases q
 ·rw[if_neg q] at h;cases h
def ownIn(K:PySem.W.Frag)(C:Addr)(bmB:List Value)(newId:String):Bool:=match K.lookup C with
 | none=>false
 | some o=>(match o.data with
  | .cls cd=>(match cd.mro with
   | []=>false
   | v::bm=>o.cls == .type "type" && v == .ref C && FJ o.slots.toList==some (.builtin newId) && !cd.hasDel && qP K cd.ns && tailIn K bmB bm)
  | _=>false)
theorem HB{C:Addr}(X:K.In h)(q:ownIn K C bmB newId=true)(hm:mg x=some (.ref C)):OwnCls x C bmB newId mg h:=by
 unfold ownIn at q
 split at q
 ·cases q
 ·rename_i o ho
  obtain⟨oc,dd,data,sl⟩:=o
  dsimp only at q
  split at q
  ·rename_i cd
   obtain⟨nm,bs,mro,ns,qn,hd,sn,sub,ab,col,del⟩:=cd
   dsimp only at q
   cases mro with
   | nil=>cases q
   | cons v bm =>
    simp only[Bool.and_eq_true,beq_iff_eq,Bool.not_eq_true'] at q
    obtain⟨⟨⟨⟨⟨rfl,rfl⟩,hs⟩,hdel⟩,hn⟩,ht⟩:=q
    obtain⟨mN,h1,h2⟩:=LK X hn
    obtain⟨k0,k1,k2,k3,k5,hs⟩:=J_ hs
    subst hdel
    have hsl:sl = #[k0,k1,k2,k3,some (.builtin newId),k5]:=by
     obtain⟨l⟩:=sl
     simp only at hs
     rw[hs]
    subst hsl
    exact⟨hm,bm,ns,nm,qn,bs,hd,sn,sub,ab,col,dd,k0,k1,k2,k3,k5,mN,X _ _ ho,h1,h2,Ea X ht⟩
  ·cases q
end
end L2
namespace L2
open PySem PySem.Spec PyProof.Rows
theorem Og{X:Cx}{pins:List (Addr×Obj)}{Z:St}{H H':Hp}{s s':Shared}{ea C t:Addr}{B h'':Heap}(I:Inv X pins Z H s)(os:s'.os=s.os)(bare:AllBare s'.gens)(un:Un (frs X.stack) [] H H' s.heap s'.heap)(hok:HOk X.prog X.w H' s'.heap)
  (fl:Heap.FlyingW B X.stack ea (.ref C) (.ref t) s'.heap) (trk:∀b o,H' b=some o->∃ob,B.get? b=some ob) (old:∀b o,s.heap.get? b=some o->H b=none->b∉frs X.stack->B.get? b=some o) (dm:∀b o,H b=some o->∃o',H' b=some o')
  (kB:B.StaysIn h'') (up:s'.heap.UpToSlots h''):Inv X pins Z H' { s' with heap:=h'' }:=by
 have slot:∀b o,s.heap.get? b=some o->H b=none->b∈frs X.stack->∃sl,h''.get? b=some { o with slots:=sl }:=fun b o e n hf=>by
  obtain⟨sl,q⟩:=un.slot b o e n hf (by intro z;cases z)
  obtain⟨_,o',ho',hd⟩:=I.stack.mem hf
  rw[e] at ho'
  cases ho'
  obtain⟨sl',q'⟩:=up b { o with slots:=sl } q hd
  exact⟨sl',q'⟩
 have un':Un (frs X.stack) [] H H' s.heap h'':=by
  refine⟨fun b o e n nf _=>kB b o (old b o e n nf),fun b o e n hf _=>slot b o e n hf,un.free,fun b o e _=>?_,un.tups,un.frzs,un.tbls⟩
  cases q:H b with
  | none =>
   by_cases hf:b∈frs X.stack
   ·obtain⟨sl,z⟩:=slot b o e q hf
    exact⟨_,z⟩
   ·exact⟨o,kB b o (old b o e q hf)⟩
  | some u =>
   obtain⟨u',q'⟩:=dm b u q
   obtain⟨ob,z⟩:=trk b u' q'
   exact⟨ob,kB b ob z⟩
 have hok':HOk X.prog X.w H' h'':=fun b o e=>(hok b o e).stay (fun c u hc q=>by
  obtain⟨ob,z⟩:∃ob,B.get? c=some ob:=by
   rcases hc with y |y
   ·rw[y];exact trk b o e
   ·exact trk c _ y
  have z':=fl.1 c ob z
  rw[q] at z'
  cases z'
  exact kB c _ z) (fun _ q=>q) (fun _ _ q=>q)
 exact I.call' (s':={ s' with heap:=h'' }) os un' hok' bare (fun b z=>absurd z (by simp))
theorem Bl{P:Program}{w:World}{K:PySem.W.Frag}{mg:Str->Option Value}{base:Heap}{N:List Str}{qual:Str}{scope:Scope}{f:Addr}{cd:Value}{A:Around}{outer:List Env}{s₀:Shared}{H₀ H:Hp}{E E':XK}{Z:St}
  (hE:∀C H',E' (.ref C) none H'->E (.ref C) none H'/\∀b o,H b=some o->∃o',H' b=some o') (hE2:∀C H',E' C none H'->∃Ca,C=.ref Ca):wB (bG (CXr P w) P w K mg base N qual scope f cd A outer s₀ H₀ E) Z H E':=by
 intro pins s e s' I h
 have sub:∀b∈frs (envOfC qual scope s₀.heap.objs.size f cd::outer),b=s₀.heap.objs.size\/b∈frs outer:=fun b hb=>List.mem_cons.mp (I.stkSub b hb)
 have old0:∀b o,s₀.heap.get? b=some o->b∉frs outer->b∉frs (envOfC qual scope s₀.heap.objs.size f cd::outer):=fun b o e n hb=>by
  rcases sub b hb with z |z
  ·exact absurd (Heap.lt_size e) (by rw[z];exact Nat.lt_irrefl _)
  ·exact n z
 have hdm:∀C H',E' C none H'->∀b o,H b=some o->∃o',H' b=some o':=fun C H' z=>by
  obtain⟨Ca,rfl⟩:=hE2 C H' z
  exact(hE Ca H' z).2
 obtain⟨ea,C,t,H',B,e1,hE',os,bare,un,hok,fl,trk,nea,old⟩:=id h
 subst e1
 have dm:=hdm _ _ hE'
 refine wpAny_leaves_onW (base:=B) (env:=envOfC qual scope s₀.heap.objs.size f cd) (outer:=outer) (L:=s₀.heap.objs.size) I.ok.frames rfl fl fun h'' fl'' up=>?_
 have I'':Inv (bG (CXr P w) P w K mg base N qual scope f cd A outer s₀ H₀ E) pins Z H' { s' with heap:=h'' } :=
  Og I os bare un hok fl trk old dm fl''.1 up
 refine⟨ea,C,t,H',B,rfl,(hE C H' hE').1,I''.os,I''.bare,I''.base,I''.hok,fl'',trk,nea,fun b o e n nf=>?_⟩
 exact old b o (I.base.keep b o e n nf (by intro z;cases z)) (I.base.free b o e n (by intro z;cases z)) (old0 b o e nf)
end L2
namespace DL
open PySem PySem.Spec PyProof.Rows L2
theorem sI{P:Program}{w:World}{K:PySem.W.Frag}{mg:Str->Option Value}{base:Heap}{N:List Str}{qual:Str}{scope:Scope}{f:Addr}{cd:Value}{A:Around}{outer:List Env}{s₀:Shared}{H₀:Hp}{E:XK} :
  pA (bG (CXr P w) P w K mg base N qual scope f cd A outer s₀ H₀ E) fun _ Ca H'=>E (.ref Ca) none H':=fun Z H =>
 Bl (fun C H' ⟨Ca,e,q,dm⟩=>by cases e;exact⟨q,dm⟩) fun Cv H' ⟨Ca,e,_⟩=>⟨Ca,e⟩
end DL
namespace DL
open PySem PySem.Spec PyProof.Rows L2
theorem uP{C:Cl}{c x:Str}{a b:Addr}(h:(x==c)=false)(e:C x=some b):aC C c a x=some b:=by
 have h':x≠c:=fun z=>by rw[z] at h;simp at h
 show(if x=c then some a else C x)=some b
 rw[if_neg h',e]
@[elab_as_elim] theorem len0{p:List Value->Prop}(us:List Value)(hl:us.length=0)(h:p []):p us:=by
 cases us with
 | nil=>exact h
 | cons a us=>cases hl
@[elab_as_elim] theorem sJ{p:List Value->Prop}(us:List Value)(hl:us.length=1)(h:∀a,p [a]):p us:=by
 cases us with
 | nil=>cases hl
 | cons a us=>exact len0 (p:=fun us=>p (a::us)) us (Nat.succ.inj hl) (h a)
@[elab_as_elim] theorem jb{p:List Value->Prop}(us:List Value)(hl:us.length=2)(h:∀a b,p [a,b]):p us:=by
 cases us with
 | nil=>cases hl
 | cons a us=>exact sJ (p:=fun us=>p (a::us)) us (Nat.succ.inj hl) (fun b=>h a b)
@[elab_as_elim] theorem Bm{p:List Value->Prop}(us:List Value)(hl:us.length=3)(h:∀a b c,p [a,b,c]):p us:=by
 cases us with
 | nil=>cases hl
 | cons a us=>exact jb (p:=fun us=>p (a::us)) us (Nat.succ.inj hl) (fun b c=>h a b c)
@[elab_as_elim] theorem Rn{p:List Value->Prop}(us:List Value)(hl:us.length=4)(h:∀a b c d,p [a,b,c,d]):p us:=by
 cases us with
 | nil=>cases hl
 | cons a us=>exact Bm (p:=fun us=>p (a::us)) us (Nat.succ.inj hl) (fun b c d=>h a b c d)
@[elab_as_elim] theorem Ro{p:List Value->Prop}(us:List Value)(hl:us.length=5)(h:∀a b c d e,p [a,b,c,d,e]):p us:=by
 cases us with
 | nil=>cases hl
 | cons a us=>exact Rn (p:=fun us=>p (a::us)) us (Nat.succ.inj hl) (fun b c d e=>h a b c d e)
@[elab_as_elim] theorem Rp{p:List Value->Prop}(us:List Value)(hl:us.length=6)(h:∀a b c d e f,p [a,b,c,d,e,f]):p us:=by
 cases us with
 | nil=>cases hl
 | cons a us=>exact Ro (p:=fun us=>p (a::us)) us (Nat.succ.inj hl) (fun b c d e f=>h a b c d e f)
end DL
namespace L2
open PySem PySem.Spec PyProof.Rows
def sqN(b:Bool):String:=match b with |true => "tuple" |false => "list"
def itN(b:Bool):String:=match b with |true => "tuple_iterator" |false => "list_iterator"
def SqB(b:Bool)(h:Heap)(a:Addr)(xs:Array Value):Prop:=∃o,h.get? a=some o/\o.cls=.type (sqN b)/\∃n,o.data=.seq xs n
def ItB(b:Bool)(h:Heap)(a l:Addr)(i:Nat):Prop:=∃o,h.get? a=some o/\o.cls=.type (itN b)/\o.data=.fields #[.ref l,.int i 0]
section
variable {b:Bool} {h h':Heap} {a l c:Addr} {i:Nat} {xs:Array Value}
theorem SqB.go(x:SqB b h a xs)(e:∀o,h.get? a=some o->h'.get? a=some o):SqB b h' a xs:=let⟨o,ho,r⟩:=x;⟨o,e o ho,r⟩
theorem ItB.go(x:ItB b h a l i)(e:∀o,h.get? a=some o->h'.get? a=some o):ItB b h' a l i:=let⟨o,ho,r⟩:=x;⟨o,e o ho,r⟩
theorem SqB.eb(x:SqB b h a xs)(e:Heap.ExtBut c h h')(n:a≠c):SqB b h' a xs:=x.go fun o q=>e a o n q
theorem ItB.eb(x:ItB b h a l i)(e:Heap.ExtBut c h h')(n:a≠c):ItB b h' a l i:=x.go fun o q=>e a o n q
theorem SqB.lt(x:SqB b h a xs):a<h.objs.size:=let⟨_,ho,_⟩:=x;Heap.lt_size ho
theorem ItB.lt(x:ItB b h a l i):a<h.objs.size:=let⟨_,ho,_⟩:=x;Heap.lt_size ho
end
section
variable {prog:Program} {w:World} {A:Around} {E:Value->Shared->Prop} {s:Shared} {b:Bool}
theorem x_{it l:Addr}{i:Nat}{items:Array Value}{x:Value}{Q:Value->Shared->Prop}(hit:ItB b s.heap it l i)(hl:SqB b s.heap l items)(hx:items[i]? = some x)
  (hQ:∀g,ItB b g it l (i+1)->Heap.SameBut it s.heap g->Q x { s with heap:=g }):wpAny (model prog w) A (Builtin.SmallTypes.nextOf (.ref it)) Q E s:=by
 cases b with
 | false=>exact wpAny_nextOf_list_item hit hl hx hQ
 | true =>
  obtain⟨o,e1,e2,e3⟩:=id hit
  obtain⟨u,e4,_,n,e5⟩:=hl
  have hT:s.TypeIs (.ref it) "tuple_iterator":=⟨o,e1,e2⟩
  unfold Builtin.SmallTypes.nextOf
  refine wpAny_bind (wpAny_callSpecial?_slot (name:=Str.ofString "__next__") hT F.slot_tuple_iterator_next (wpAny_call_entry F.slot_tuple_iterator_next hT F.entry_tuple_iterator_next ?_ (F.args_tuple_iterator_next_1 _)))
  show wpAny _ _ (field (.ref it) 0>>=fun _=>_) _ _ s
  refine wpAny_bind (wpAny_field e1 e3 (x:=.ref l) rfl ?_)
  show wpAny _ _ (if(Value.ref l==Value.none)=true then(_:Sem _) else _) _ _ s
  refine(if_neg (show ¬((Value.ref l==Value.none)=true) from Bool.false_ne_true)) ▸ ?_
  show wpAny _ _ (field (.ref it) 1>>=fun _=>_) _ _ s
  refine wpAny_bind (wpAny_field e1 e3 (x:=.int i 0) rfl ?_)
  show wpAny _ _ (seqItems? (.ref l)>>=fun _=>_) _ _ s
  refine wpAny_bind (wpAny_seqItems e4 e5 ?_)
  simp only[hx,Int.toNat_natCast]
  refine wpAny_bind (wpAny_setField e1 e3 (by simp) (wpAny_pure ⟨x,rfl,wpAny_pure (hQ _ ⟨_,Heap.get?_update_self _ e1 (Obj.isFreed_of_fields (Obj.data_mapFields e3 _)),(Obj.cls_mapFields ..).trans e2,?_⟩ (Heap.SameBut.update ..))⟩))
  rw[Obj.data_mapFields e3];simp[rawInt]
theorem HD{it l:Addr}{i:Nat}{items:Array Value}{Q:Value->Shared->Prop}(hh:A.handled=none)(hit:ItB b s.heap it l i)(hl:SqB b s.heap l items)(hx:items[i]? = none)
  (hE:∀g e,Heap.ExtBut it s.heap g->(∃o,g.get? e=some o/\o.cls=.type "StopIteration")->E (.ref e) { s with heap:=g }):wpAny (model prog w) A (Builtin.SmallTypes.nextOf (.ref it)) Q E s:=by
 cases b with
 | false=>exact wpAny_nextOf_list_end hh hit hl hx hE
 | true =>
  obtain⟨o,e1,e2,e3⟩:=id hit
  obtain⟨u,e4,_,n,e5⟩:=hl
  have hT:s.TypeIs (.ref it) "tuple_iterator":=⟨o,e1,e2⟩
  unfold Builtin.SmallTypes.nextOf
  refine wpAny_bind (wpAny_callSpecial?_slot (name:=Str.ofString "__next__") hT F.slot_tuple_iterator_next (wpAny_call_entry F.slot_tuple_iterator_next hT F.entry_tuple_iterator_next ?_ (F.args_tuple_iterator_next_1 _)))
  show wpAny _ _ (field (.ref it) 0>>=fun _=>_) _ _ s
  refine wpAny_bind (wpAny_field e1 e3 (x:=.ref l) rfl ?_)
  show wpAny _ _ (if(Value.ref l==Value.none)=true then(_:Sem _) else _) _ _ s
  refine(if_neg (show ¬((Value.ref l==Value.none)=true) from Bool.false_ne_true)) ▸ ?_
  show wpAny _ _ (field (.ref it) 1>>=fun _=>_) _ _ s
  refine wpAny_bind (wpAny_field e1 e3 (x:=.int i 0) rfl ?_)
  show wpAny _ _ (seqItems? (.ref l)>>=fun _=>_) _ _ s
  refine wpAny_bind (wpAny_seqItems e4 e5 ?_)
  simp only[hx,Int.toNat_natCast]
  refine wpAny_bind (wpAny_rule (wpAny_bind (wpAny_setField e1 e3 (by simp) ?_)))
  show wpAny _ _ (newExc (.type "StopIteration") []>>=fun _=>_) _ _ _
  refine wpAny_bind ?_
  simp only[newTuple,newExc]
  refine wpAny_bind (wpAny_newObj_type ?_ (by size_fits));refine wpAny_bind (m:=firstArgMember _ _) (wpAny_of_eq (a:=Value.none) (by first |rfl |(simp only[firstArgMember];rfl)) ?_)
  refine wpAny_newObj_type ?_ (by size_fits);simp only[raiseNew];refine wpAny_bind (wpAny_handled ?_)
  first |rw[hh] |rw[show A.in1.handled=none from hh]
  refine wpAny_bind (wpAny_pure (wpAny_throw (hE _ _ (((Heap.SameBut.update ..).extBut.push _).push _) ⟨_,Heap.get?_push_size _ rfl,rfl⟩)))
end
end L2
namespace L2
open PySem PySem.Spec PyProof.Rows
section
variable {prog:Program} {w:World} {A:Around} {E:Value->Shared->Prop} {s:Shared} {b1 b2:Bool} {z TI TO i1 i2 l1 l2:Addr} {k:Nat} {xs ys:Array Value} {x y a b:Value}
theorem Oh{Q:Value->Shared->Prop}(D:ZipApart z TI TO i1 i2 l1 l2)(hz:IsZip s.heap z TI TO .none)(hTI:IsPair s.heap TI (.ref i1) (.ref i2))(hTO:IsPair s.heap TO a b)
  (p1:ItB b1 s.heap i1 l1 k) (p2:ItB b2 s.heap i2 l2 k) (q1:SqB b1 s.heap l1 xs) (q2:SqB b2 s.heap l2 ys) (hx:xs[k]? = some x) (hy:ys[k]? = some y)
  (hQ:∀g,IsZip g z TI TO (rawInt s.heap.objs.size)->IsPair g TO x y->ItB b1 g i1 l1 (k+1)->ItB b2 g i2 l2 (k+1)->IsPair g s.heap.objs.size x y->g.objs.size=s.heap.objs.size+1 ->
   (∀c o,c≠z->c≠TO->c≠i1->c≠i2->s.heap.get? c=some o->g.get? c=some o)->Q (.ref s.heap.objs.size) { s with heap:=g }) :
  wpAny (model prog w) A (Builtin.«zip.__next__» ⟨[.ref z],[]⟩) (fun fin s'=>∃v,fin=.done (.ret v)/\Q v s') E s:=by
 show wpAny _ _ (field (.ref z) 2>>=fun _=>_) _ _ _
 refine wpAny_bind (wpAny_field hz rfl (x:=.bool false) rfl (?_:wpAny _ _ (field (.ref z) 3>>=fun _=>_) _ _ _))
 refine wpAny_bind (wpAny_field hz rfl (x:=.ref TI) rfl (wpAny_bind (wpAny_seqItems hTI rfl ?_)))
 show wpAny _ _ (Builtin.SmallTypes.ownedTupleIsFree (.ref z)>>=fun _=>_) _ _ _
 refine wpAny_bind ?_
 unfold Builtin.SmallTypes.ownedTupleIsFree
 refine wpAny_bind (wpAny_field hz rfl (x:=Value.none) rfl (wpAny_pure ?_))
 simp only[if_true]
 refine wpAny_bind (wpAny_rule (wpAny_bind (wpAny_field hz rfl (x:=.ref TO) rfl (wpAny_bind (wpAny_setField_rec hz (by simp) fun g1 z1 m1=>?_)))))
 replace z1:IsZip g1 z TI TO .ellipsis:=z1
 refine wpAny_bind ?_
 simp only[List.forIn_cons,List.forIn_nil,List.zipIdx_cons,List.zipIdx_nil]
 refine wpAny_bind (wpAny_bind (wpAny_onRaise (?_:wpAny _ _ (Builtin.SmallTypes.nextOf (.ref i1)>>=fun _=>_) _ _ _)))
 refine wpAny_bind (x_ (p1.eb m1.extBut D.i1z) (q1.eb m1.extBut D.l1z) hx fun g2 r2 m2=>wpAny_pure ?_)
 have t2:IsPair g2 TO a b:=m2.extBut TO _ D.TOi1 (m1.extBut TO _ D.TOz hTO)
 refine wpAny_bind (wpAny_seqItems t2 rfl (wpAny_bind (wpAny_updateSeq_pair t2 fun g3 t3 m3=>wpAny_bind (wpAny_letGo (wpAny_pure ?_)))))
 replace t3:IsPair g3 TO x b:=t3
 refine wpAny_bind (wpAny_bind (wpAny_onRaise (?_:wpAny _ _ (Builtin.SmallTypes.nextOf (.ref i2)>>=fun _=>_) _ _ _)))
 refine wpAny_bind (x_ (((p2.eb m1.extBut D.i2z).eb m2.extBut D.i12.symm).eb m3.extBut D.TOi2.symm) (((q2.eb m1.extBut D.l2z).eb m2.extBut D.l2i1).eb m3.extBut D.l2TO) hy fun g4 r4 m4=>wpAny_pure ?_)
 have t4:IsPair g4 TO x b:=m4.extBut TO _ D.TOi2 t3
 refine wpAny_bind (wpAny_seqItems t4 rfl (wpAny_bind (wpAny_updateSeq_pair t4 fun g5 t5 m5=>wpAny_bind (wpAny_letGo (wpAny_pure (wpAny_pure ?_))))))
 replace t5:IsPair g5 TO x y:=t5
 refine wpAny_bind (wpAny_seqItems t5 rfl (wpAny_bind (wpAny_newTuple ?_)))
 have sz:g5.objs.size=s.heap.objs.size:=by rw[m5.1,m4.1,m3.1,m2.1,m1.1]
 have z5:IsZip g5 z TI TO .ellipsis:=m5.extBut z _ D.TOz.symm (m4.extBut z _ D.i2z.symm (m3.extBut z _ D.TOz.symm (m2.extBut z _ D.i1z.symm z1)))
 have all:∀c o,c≠z->c≠TO->c≠i1->c≠i2->s.heap.get? c=some o->g5.get? c=some o:=fun c o c1 c2 c3 c4 e=>m5.extBut c o c2 (m4.extBut c o c4 (m3.extBut c o c2 (m2.extBut c o c3 (m1.extBut c o c1 e))))
 have r1':ItB b1 g5 i1 l1 (k+1):=((r2.eb m3.extBut D.TOi1.symm).eb m4.extBut D.i12).eb m5.extBut D.TOi1.symm
 have r2':ItB b2 g5 i2 l2 (k+1):=r4.eb m5.extBut D.TOi2.symm
 have lz:z<g5.objs.size:=Heap.lt_size z5
 show wpAny _ _ (Builtin.SmallTypes.ownedTupleHandOut (.ref z) (.ref g5.objs.size)>>=fun _=>_) _ _ _
 refine wpAny_bind ?_
 unfold Builtin.SmallTypes.ownedTupleHandOut
 have z6:IsZip (g5.push { cls:=.type "tuple",data:=.seq #[x,y] }) z TI TO .ellipsis:=Heap.get?_push_of_some _ z5
 refine wpAny_bind (wpAny_setField_rec z6 (by simp) fun g7 z7 m7=>?_)
 replace z7:IsZip g7 z TI TO (rawInt g5.objs.size):=z7
 refine wpAny_setField_rec z7 (by simp) fun g8 z8 m8=>?_
 replace z8:IsZip g8 z TI TO (rawInt g5.objs.size):=z8
 have up:∀c o,c≠z->g5.get? c=some o->g8.get? c=some o:=fun c o c1 e=>m8.extBut c o c1 (m7.extBut c o c1 (Heap.get?_push_of_some _ e))
 have t8:IsPair g8 g5.objs.size x y:=m8.extBut _ _ (Nat.ne_of_gt lz) (m7.extBut _ _ (Nat.ne_of_gt lz) (Heap.get?_push_size _ rfl))
 have s8:g8.objs.size=g5.objs.size+1:=by rw[m8.1,m7.1,Heap.size_push]
 rw[sz] at z8 t8 s8
 refine wpAny_pure ⟨_,rfl,?_⟩
 show Q (.ref g5.objs.size) _
 rw[sz]
 exact hQ g8 z8 (up TO _ D.TOz t5) (r1'.go fun o e=>up _ o D.i1z e) (r2'.go fun o e=>up _ o D.i2z e) t8 s8 fun c o c1 c2 c3 c4 e=>up c o c1 (all c o c1 c2 c3 c4 e)
theorem Oi{Q:Fin->Shared->Prop}(hh:A.handled=none)(D:ZipApart z TI TO i1 i2 l1 l2)(hz:IsZip s.heap z TI TO .none)(hTI:IsPair s.heap TI (.ref i1) (.ref i2))(hTO:IsPair s.heap TO a b)
  (p1:ItB b1 s.heap i1 l1 k) (p2:ItB b2 s.heap i2 l2 k) (q1:SqB b1 s.heap l1 xs) (q2:SqB b2 s.heap l2 ys) (hend:xs[k]? = none\/ys[k]? = none)
  (hE:∀g e,(∀c o,c≠z->c≠TO->c≠i1->c≠i2->s.heap.get? c=some o->g.get? c=some o)->(∃o,g.get? e=some o/\o.cls=.type "StopIteration")->E (.ref e) { s with heap:=g }) :
  wpAny (model prog w) A (Builtin.«zip.__next__» ⟨[.ref z],[]⟩) Q E s:=by
 show wpAny _ _ (field (.ref z) 2>>=fun _=>_) _ _ _
 refine wpAny_bind (wpAny_field hz rfl (x:=.bool false) rfl (?_:wpAny _ _ (field (.ref z) 3>>=fun _=>_) _ _ _))
 refine wpAny_bind (wpAny_field hz rfl (x:=.ref TI) rfl (wpAny_bind (wpAny_seqItems hTI rfl ?_)))
 show wpAny _ _ (Builtin.SmallTypes.ownedTupleIsFree (.ref z)>>=fun _=>_) _ _ _
 refine wpAny_bind ?_
 unfold Builtin.SmallTypes.ownedTupleIsFree
 refine wpAny_bind (wpAny_field hz rfl (x:=Value.none) rfl (wpAny_pure ?_))
 simp only[if_true]
 refine wpAny_bind (wpAny_rule (wpAny_bind (wpAny_field hz rfl (x:=.ref TO) rfl (wpAny_bind (wpAny_setField_rec hz (by simp) fun g1 z1 m1=>?_)))))
 replace z1:IsZip g1 z TI TO .ellipsis:=z1
 refine wpAny_bind ?_
 simp only[List.forIn_cons,List.forIn_nil,List.zipIdx_cons,List.zipIdx_nil]
 refine wpAny_bind (wpAny_bind (wpAny_onRaise (?_:wpAny _ _ (Builtin.SmallTypes.nextOf (.ref i1)>>=fun _=>_) _ _ _)))
 cases hx:xs[k]? with
 | none =>
  refine wpAny_bind (HD hh (p1.eb m1.extBut D.i1z) (q1.eb m1.extBut D.l1z) hx fun g2 e m2 he=>?_)
  obtain⟨oe,e1,e2⟩:=he
  have z2:IsZip g2 z TI TO .ellipsis:=m2 z _ D.i1z.symm z1
  have ne:e≠z:=fun q=>by subst q;rw[z2] at e1;cases e1;simp at e2
  exact wpAny_setField_rec z2 (by simp) fun g3 _ m3=>hE g3 e (fun c o c1 _ c3 _ q=>m3.extBut c o c1 (m2 c o c3 (m1.extBut c o c1 q))) ⟨oe,m3.extBut e oe ne e1,e2⟩
 | some x =>
  have hy:ys[k]? = none:=by rcases hend with q |q;(rw[hx] at q;cases q);exact q
  refine wpAny_bind (x_ (p1.eb m1.extBut D.i1z) (q1.eb m1.extBut D.l1z) hx fun g2 r2 m2=>wpAny_pure ?_)
  have t2:IsPair g2 TO a b:=m2.extBut TO _ D.TOi1 (m1.extBut TO _ D.TOz hTO)
  refine wpAny_bind (wpAny_seqItems t2 rfl (wpAny_bind (wpAny_updateSeq_pair t2 fun g3 t3 m3=>wpAny_bind (wpAny_letGo (wpAny_pure ?_)))))
  refine wpAny_bind (wpAny_bind (wpAny_onRaise (?_:wpAny _ _ (Builtin.SmallTypes.nextOf (.ref i2)>>=fun _=>_) _ _ _)))
  refine wpAny_bind (HD hh (((p2.eb m1.extBut D.i2z).eb m2.extBut D.i12.symm).eb m3.extBut D.TOi2.symm) (((q2.eb m1.extBut D.l2z).eb m2.extBut D.l2i1).eb m3.extBut D.l2TO) hy fun g4 e m4 he=>?_)
  obtain⟨oe,e1,e2⟩:=he
  have z4:IsZip g4 z TI TO .ellipsis:=m4 z _ D.i2z.symm (m3.extBut z _ D.TOz.symm (m2.extBut z _ D.i1z.symm z1))
  have ne:e≠z:=fun q=>by subst q;rw[z4] at e1;cases e1;simp at e2
  exact wpAny_setField_rec z4 (by simp) fun g5 _ m5=>hE g5 e (fun c o c1 c2 c3 c4 q=>m5.extBut c o c1 (m4 c o c4 (m3.extBut c o c2 (m2.extBut c o c3 (m1.extBut c o c1 q))))) ⟨oe,m5.extBut e oe ne e1,e2⟩
theorem HF{Q:Option Value->Shared->Prop}(D:ZipApart z TI TO i1 i2 l1 l2)(hz:IsZip s.heap z TI TO .none)(hTI:IsPair s.heap TI (.ref i1) (.ref i2))(hTO:IsPair s.heap TO a b)
  (p1:ItB b1 s.heap i1 l1 k) (p2:ItB b2 s.heap i2 l2 k) (q1:SqB b1 s.heap l1 xs) (q2:SqB b2 s.heap l2 ys) (hx:xs[k]? = some x) (hy:ys[k]? = some y)
  (hQ:∀g,IsZip g z TI TO (rawInt s.heap.objs.size)->IsPair g TO x y->ItB b1 g i1 l1 (k+1)->ItB b2 g i2 l2 (k+1)->IsPair g s.heap.objs.size x y->g.objs.size=s.heap.objs.size+1 ->
   (∀c o,c≠z->c≠TO->c≠i1->c≠i2->s.heap.get? c=some o->g.get? c=some o)->Q (some (.ref s.heap.objs.size)) { s with heap:=g }) :
  wpAny (model prog w) A (pyNext (.ref z)) Q E s:=by
 have hT:s.TypeIs (.ref z) "zip":=⟨_,hz,rfl⟩
 unfold pyNext
 exact wpAny_bind (wpAny_attempt (wpAny_callSpecial?_slot (name:=Str.ofString "__next__") hT F.slot_zip_next (wpAny_call_entry F.slot_zip_next hT F.entry_zip_next
  (Oh D hz hTI hTO p1 p2 q1 q2 hx hy fun g a1 a2 a3 a4 a5 a6 a7=>wpAny_pure (hQ g a1 a2 a3 a4 a5 a6 a7)) (F.args_zip_next_1 _))))
theorem HH{Q:Option Value->Shared->Prop}(hh:A.handled=none)(D:ZipApart z TI TO i1 i2 l1 l2)(hz:IsZip s.heap z TI TO .none)(hTI:IsPair s.heap TI (.ref i1) (.ref i2))(hTO:IsPair s.heap TO a b)
  (p1:ItB b1 s.heap i1 l1 k) (p2:ItB b2 s.heap i2 l2 k) (q1:SqB b1 s.heap l1 xs) (q2:SqB b2 s.heap l2 ys) (hend:xs[k]? = none\/ys[k]? = none)
  (hQ:∀g,(∀c o,c≠z->c≠TO->c≠i1->c≠i2->s.heap.get? c=some o->g.get? c=some o)->Q none { s with heap:=g }):wpAny (model prog w) A (pyNext (.ref z)) Q E s:=by
 have hT:s.TypeIs (.ref z) "zip":=⟨_,hz,rfl⟩
 unfold pyNext
 refine wpAny_bind (wpAny_attempt (wpAny_callSpecial?_slot (name:=Str.ofString "__next__") hT F.slot_zip_next (wpAny_call_entry F.slot_zip_next hT F.entry_zip_next
  (Oi hh D hz hTI hTO p1 p2 q1 q2 hend fun g e hk he=>?_) (F.args_zip_next_1 _))))
 obtain⟨o,e1,e2⟩:=he
 exact wpAny_bind (wpAny_isInstance (T:="StopIteration") (b:=true) ⟨o,e1,e2⟩ isSubtype_stop (wpAny_pure (hQ _ hk)))
end
def itO(b:Bool)(l:Addr):Obj:={ cls:=.type (itN b),data:=.fields #[.ref l,.int 0 0] }
abbrev zb1(h:Heap)(b1:Bool)(l1:Addr):Heap:=h.push (itO b1 l1)
abbrev zb2(h:Heap)(b1 b2:Bool)(l1 l2:Addr):Heap:=(zb1 h b1 l1).push (itO b2 l2)
abbrev zb3(h:Heap)(b1 b2:Bool)(l1 l2:Addr):Heap:=(zb2 h b1 b2 l1 l2).push { cls:=.type "tuple",data:=.seq #[.ref h.objs.size,.ref (zb1 h b1 l1).objs.size] }
abbrev zb4(h:Heap)(b1 b2:Bool)(l1 l2:Addr):Heap:=(zb3 h b1 b2 l1 l2).push { cls:=.type "tuple",data:=.seq #[.none,.none] }
abbrev zb5(h:Heap)(b1 b2:Bool)(l1 l2:Addr):Heap:=(zb4 h b1 b2 l1 l2).push { cls:=.type "zip",data:=.fields #[.none,.bool false,.bool false,.ref (zb2 h b1 b2 l1 l2).objs.size,.ref (zb3 h b1 b2 l1 l2).objs.size] }
theorem Eb{prog:Program}{w:World}{A:Around}{E:Value->Shared->Prop}{s:Shared}{b:Bool}{l:Addr}{xs:Array Value}{Q:Value->Shared->Prop}(hl:SqB b s.heap l xs)
  (h:Q (.ref s.heap.objs.size) { s with heap:=s.heap.push (itO b l) }):wpAny (model prog w) A (pyIter (.ref l)) Q E s:=by
 cases b with
 | false=>exact wpAny_pyIter_list hl h
 | true=>exact wpAny_pyIter_tuple hl h
theorem Ka(b1 b2:Bool)(l1 l2:Addr)(xs ys:Array Value):Meets (Builtin.«zip.__new__» ⟨[.type "zip",.ref l1,.ref l2],[]⟩) (fun _ R s=>SqB b1 s.heap l1 xs/\SqB b2 s.heap l2 ys /\
   R (.ok (.ret (.ref (zb4 s.heap b1 b2 l1 l2).objs.size))) { s with heap:=zb5 s.heap b1 b2 l1 l2 }) :=
 .of_wp fun prog w A R s h=>by
  obtain⟨hp,g,d,tk,os⟩:=s;obtain⟨e1,e2,h⟩:=h
  have hsub:=sub_zip
  have L1:SqB b1 (Shared.heap ⟨hp,g,d,tk,os⟩) l1 xs:=e1
  have L2:SqB b2 (Shared.heap ⟨hp.push (itO b1 l1),g,d,tk,os⟩) l2 ys:=e2.go fun o q=>Heap.get?_push_of_some _ q
  wp_walk using Eb L1,Eb L2
  exact⟨_,rfl,h⟩
theorem Oj{prog:Program}{w:World}{A:Around}{E:Value->Shared->Prop}{s:Shared}{b1 b2:Bool}{l1 l2:Addr}{xs ys:Array Value}{Q:Value->Shared->Prop}(e1:SqB b1 s.heap l1 xs)(e2:SqB b2 s.heap l2 ys)
  (h:∀g,IsZip g (s.heap.objs.size+4) (s.heap.objs.size+2) (s.heap.objs.size+3) .none->IsPair g (s.heap.objs.size+2) (.ref s.heap.objs.size) (.ref (s.heap.objs.size+1)) ->
   IsPair g (s.heap.objs.size+3) .none .none->ItB b1 g s.heap.objs.size l1 0->ItB b2 g (s.heap.objs.size+1) l2 0->g.objs.size=s.heap.objs.size+5 ->
   (∀c o,s.heap.get? c=some o->g.get? c=some o)->Q (.ref (s.heap.objs.size+4)) { s with heap:=g }):wpAny (model prog w) A (call (.type "zip") [.ref l1,.ref l2]) Q E s:=by
 refine callType_new F.called_zip (by decide) (F.typeCall_zip_2 _ _) (F.newCall_zip_2 _ _) (fun obj=>F.args_object_init_3 obj _ _) F.entry_zip_new (Ka b1 b2 l1 l2 xs ys) ⟨e1,e2,?_⟩
 have n1:(zb1 s.heap b1 l1).objs.size=s.heap.objs.size+1:=Heap.size_push ..
 have n2:(zb2 s.heap b1 b2 l1 l2).objs.size=s.heap.objs.size+2:=by rw[Heap.size_push,n1]
 have n3:(zb3 s.heap b1 b2 l1 l2).objs.size=s.heap.objs.size+3:=by rw[Heap.size_push,n2]
 have n4:(zb4 s.heap b1 b2 l1 l2).objs.size=s.heap.objs.size+4:=by rw[Heap.size_push,n3]
 have n5:(zb5 s.heap b1 b2 l1 l2).objs.size=s.heap.objs.size+5:=by rw[Heap.size_push,n4]
 have up:∀(h:Heap) (o u:Obj) c,h.get? c=some o->(h.push u).get? c=some o:=fun h o u c q=>Heap.get?_push_of_some _ q
 have g5:(zb5 s.heap b1 b2 l1 l2).get? (zb4 s.heap b1 b2 l1 l2).objs.size=some _:=Heap.get?_push_size _ rfl
 have g4:(zb5 s.heap b1 b2 l1 l2).get? (zb3 s.heap b1 b2 l1 l2).objs.size=some _:=up _ _ _ _ (Heap.get?_push_size _ rfl)
 have g3:(zb5 s.heap b1 b2 l1 l2).get? (zb2 s.heap b1 b2 l1 l2).objs.size=some _:=up _ _ _ _ (up _ _ _ _ (Heap.get?_push_size _ rfl))
 have g2:(zb5 s.heap b1 b2 l1 l2).get? (zb1 s.heap b1 l1).objs.size=some (itO b2 l2):=up _ _ _ _ (up _ _ _ _ (up _ _ _ _ (Heap.get?_push_size _ rfl)))
 have g1:(zb5 s.heap b1 b2 l1 l2).get? s.heap.objs.size=some (itO b1 l1):=up _ _ _ _ (up _ _ _ _ (up _ _ _ _ (up _ _ _ _ (Heap.get?_push_size _ rfl))))
 show _/\_
 rw[n2,n3,n4] at g5
 rw[n1,n2] at g3
 rw[n3] at g4
 rw[n1] at g2
 rw[n4]
 exact⟨⟨_,g5,rfl⟩,h _ g5 g3 g4 ⟨_,g1,rfl,rfl⟩ ⟨_,g2,rfl,rfl⟩ n5 fun c o q=>up _ _ _ _ (up _ _ _ _ (up _ _ _ _ (up _ _ _ _ (up _ _ _ _ q))))⟩
end L2
namespace L2
open PySem PySem.Spec PyProof.Rows
section
variable {X:Cx} {pins:List (Addr×Obj)} {Z:St} {H:Hp} {s:Shared} {h':Heap}
theorem Inv.turnL{t':Nat}{ch:List Addr}(I:Inv X pins Z H s)(k:∀b o,b∉ch->s.heap.get? b=some o->h'.get? b=some o)(hf:∀b∈ch,eZ X pins H b):Inv X pins Z H { s with heap:=h',toks:=t' }:=by
 have nit:∀b u,H b=some u->b∉ch:=fun b u e z=>by rw[(hf b z).1] at e;cases e
 have nl:X.env.locals∉ch:=fun z=>(hf _ z).2.1 rfl
 refine I.step (g':=s.gens) (d':=s.drawn) (ch:=ch) (fun b hb=>?_) (fun b o _ _ hc e _=>k b o hc e) (fun b o _ _ hc e _=>⟨o.slots,k b o hc e⟩) (fun _ _ _ _ n=>n) (fun b o hc e=>⟨o,k b o hc e⟩) (fun _ _ e=>e) (fun _ _ _ e=>e) (fun b ps e=>⟨#[],by rw[e];simp⟩) (fun m hm=>?_) (fun b u e=>?_) I.bare
 ·obtain⟨f0,f1,f2,f3,f4,f5⟩:=hf b hb
  exact⟨f3,f1,f4,f5⟩
 ·obtain⟨o,es,ep,ho,r⟩:=hm
  exact⟨o,es,ep,k _ o nl ho,r⟩
 ·refine(I.hok b u e).stay (fun c v hc q=>k c v ?_ q) (fun _ q=>q) fun _ _ q=>q
  rcases hc with z |z
  ·rw[z];exact nit b u e
  ·exact nit c _ z
theorem Inv.turnT{t':Nat}{ch:List Addr}{p:Addr}{xs:List V}{us:List Value}(I:Inv X pins Z H s)(k:∀b o,b∉ch->s.heap.get? b=some o->h'.get? b=some o)(hf:∀b∈ch,eZ X pins H b)
  (hp:s.heap.objs.size<=p) (hz:xs.length<=sizeLine) (r:Vals xs us) (ht:IsTup h' p us.toArray):Inv X pins Z (upd H p (.tup xs)) { s with heap:=h',toks:=t' }:=by
 have hn:H p=none:=I.hok.fresh hp
 have ne:∀b o,s.heap.get? b=some o->b≠p:=fun b o e z=>absurd (Heap.lt_size e) (by rw[z];exact Nat.not_lt.mpr hp)
 have neH:∀b u,H b=some u->b≠p:=fun b u e z=>by rw[z,hn] at e;cases e
 have nit:∀b u,H b=some u->b∉ch:=fun b u e z=>by rw[(hf b z).1] at e;cases e
 have nl:X.env.locals∉ch:=fun z=>(hf _ z).2.1 rfl
 refine I.step (g':=s.gens) (d':=s.drawn) (ch:=ch) (fun b hb=>?_) (fun b o _ _ hc e _=>k b o hc e) (fun b o _ _ hc e _=>⟨o.slots,k b o hc e⟩) (fun b o _ e n=>by rw[aD (ne b o e)];exact n) (fun b o hc e=>⟨o,k b o hc e⟩)
  (fun b xs e=>by rw[aD (neH b _ e)];exact e) (fun b o u e=>by rw[aD (neH b _ e)];exact e) (fun b ps e=>⟨#[],by rw[aD (neH b _ e),e];simp⟩) (fun m hm=>?_) (fun b u e=>?_) I.bare
 ·obtain⟨f0,f1,f2,f3,f4,f5⟩:=hf b hb
  exact⟨f3,f1,f4,f5⟩
 ·obtain⟨o,es,ep,ho,r⟩:=hm
  exact⟨o,es,ep,k _ o nl ho,r⟩
 ·by_cases z:b=p
  ·subst z
   rw[aM] at e
   cases e
   exact⟨hz,us,r,ht⟩
  ·rw[aD z] at e
   refine(I.hok b u e).stay (fun c v hc q=>k c v ?_ q) (fun c q=>by rw[aD (neH c _ q)];exact q) fun c xs q=>by rw[aD (neH c _ q)];exact q
   rcases hc with z |z
   ·rw[z];exact nit b u e
   ·exact nit c _ z
end
def SqD(K:PySem.W.Frag)(b:Bool)(H:Hp)(a:Addr)(xs:List V):Prop:=match b with |true=>SqT K H a xs |false=>SqL K H a xs
theorem ql{X:Cx}{pins:List (Addr×Obj)}{Z:St}{H:Hp}{s:Shared}{b:Bool}{a:Addr}{xs:List V}(I:Inv X pins Z H s)(h:SqD X.K b H a xs):∃its:List Value,Vals xs its/\SqB b s.heap a its.toArray:=by
 cases b with
 | false =>
  obtain⟨its,r,p,_⟩:=I.list h
  exact⟨its,r,p.isList⟩
 | true =>
  obtain⟨its,r,p,_⟩:=I.tuple h
  exact⟨its,r,p⟩
theorem Ec{X:Cx}{pins:List (Addr×Obj)}{Z:St}{H:Hp}{s:Shared}{b:Bool}{a:Addr}{xs ys:List V}(I:Inv X pins Z H s)(h:SqD X.K b H a xs)(h':SqD X.K b H a ys):xs=ys:=by
 cases b with
 | false=>exact I.list_inj h h'
 | true=>exact I.tuple_inj h h'
def Itz(K:PySem.W.Frag)(b1 b2:Bool)(l1 l2:Addr):It :=
 ⟨fun i H=>∃xs ys x y,SqD K b1 H l1 xs/\SqD K b2 H l2 ys/\xs[i]? = some x/\ys[i]? = some y,
  fun i H v H'=>∃p x y,v=.ref p/\H p=none/\H'=upd H p (.tup [x,y])/\(∀xs,SqD K b1 H l1 xs->xs[i]? = some x)/\∀ys,SqD K b2 H l2 ys->ys[i]? = some y,
  fun i H=>∃xs ys,SqD K b1 H l1 xs/\SqD K b2 H l2 ys/\(xs.length<=i\/ys.length<=i)⟩
def Ti(b1 b2:Bool)(z TI TO i1 i2 l1 l2:Addr)(i:Nat)(h:Heap):Prop:=IsZip h z TI TO .none/\IsPair h TI (.ref i1) (.ref i2)/\(∃a b,IsPair h TO a b)/\ItB b1 h i1 l1 i/\ItB b2 h i2 l2 i
theorem Kc{P:Program}{w:World}{K:PySem.W.Frag}{es:List Expr}{kk:Nat}{pt:Pos}{b1 b2:Bool}{z TI TO i1 i2 l1 l2:Addr}(D:ZipApart z TI TO i1 i2 l1 l2) :
  Turn P w K (.Tuple es kk pt) (Itz K b1 b2 l1 l2) [z,TI,TO,i1,i2] z (Ti b1 b2 z TI TO i1 i2 l1 l2) where
 mem:=by simp
 obj:=fun i h st b hb=>by
  obtain⟨hz,hTI,⟨a,c,hTO⟩,⟨o1,e1,_,d1⟩,⟨o2,e2,_,d2⟩⟩:=st
  simp only[List.mem_cons,List.not_mem_nil,or_false] at hb
  rcases hb with rfl |rfl |rfl |rfl |rfl
  ·exact⟨_,hz,fun v q=>nomatch q⟩
  ·exact⟨_,hTI,fun v q=>nomatch q⟩
  ·exact⟨_,hTO,fun v q=>nomatch q⟩
  ·exact⟨_,e1,fun v q=>by rw[d1] at q;cases q⟩
  ·exact⟨_,e2,fun v q=>by rw[d2] at q;cases q⟩
 keep:=fun i h h' st k=>by
  obtain⟨hz,hTI,⟨a,c,hTO⟩,p1,p2⟩:=st
  exact⟨k z (by simp) _ hz,k TI (by simp) _ hTI,⟨a,c,k TO (by simp) _ hTO⟩,p1.go fun o e=>k i1 (by simp) o e,p2.go fun o e=>k i2 (by simp) o e⟩
 item:=by
  intro X hP hw hK hc i pins s Z H E I hf st hg
  subst hP hw hK
  obtain⟨hz,hTI,⟨a,b,hTO⟩,p1,p2⟩:=st
  obtain⟨xs,ys,x,y,s1,s2,hx,hy⟩:=hg
  obtain⟨its1,rv1,q1⟩:=ql I s1
  obtain⟨its2,rv2,q2⟩:=ql I s2
  obtain⟨u,hu,ru⟩:=rv1.get hx
  obtain⟨v,hv,rv⟩:=rv2.get hy
  refine HF D hz hTI hTO p1 p2 q1 q2 (x:=u) (y:=v) (by simpa using hu) (by simpa using hv) fun g a1 a2 a3 a4 a5 a6 a7=>⟨_,rfl,wpAny_letOwnedTupleGo_zip a1 fun g' z' m'=>?_⟩
  have lz:z<s.heap.objs.size:=Heap.lt_size hz
  have k':∀c o,c∉[z,TI,TO,i1,i2]->s.heap.get? c=some o->g'.get? c=some o:=fun c o hc e=>by
   simp only[List.mem_cons,List.not_mem_nil,or_false,not_or] at hc
   exact m'.extBut c o hc.1 (a7 c o hc.1 hc.2.2.1 hc.2.2.2.1 hc.2.2.2.2 e)
  have t':IsTup g' s.heap.objs.size [u,v].toArray:=⟨_,m'.extBut _ _ (Nat.ne_of_gt lz) a5,rfl,_,rfl⟩
  have J:=I.turnT (t':=s.toks) (xs:=[x,y]) (us:=[u,v]) (p:=s.heap.objs.size) k' hf (Nat.le_refl _) (by show 2<=sizeLine;rw[sizeLine_eq];decide) (.cons ru (.cons rv .nil)) t'
  have hn:H s.heap.objs.size=none:=I.hok.fresh (Nat.le_refl _)
  refine⟨.ref s.heap.objs.size,_,J,rfl,⟨_,x,y,rfl,hn,rfl,fun us hu=>by rw[Ec I hu s1];exact hx,fun us hu=>by rw[Ec I hu s2];exact hy⟩,⟨z',m'.extBut _ _ D.TIz (a7 _ _ D.TIz D.TITO D.TIi1 D.TIi2 hTI),⟨_,_,m'.extBut _ _ D.TOz a2⟩,a3.eb m'.extBut D.i1z,a4.eb m'.extBut D.i2z⟩,fun b hb=>?_⟩
  have lb:b<s.heap.objs.size:=by
   simp only[List.mem_cons,List.not_mem_nil,or_false] at hb
   rcases hb with rfl |rfl |rfl |rfl |rfl
   ·exact lz
   ·exact Heap.lt_size hTI
   ·exact Heap.lt_size hTO
   ·exact p1.lt
   ·exact p2.lt
  rw[aD (Nat.ne_of_lt lb)]
  exact(hf b hb).1
 done:=by
  intro X hP hw hK hc i pins s Z H E I hf st hg
  subst hP hw hK
  obtain⟨hz,hTI,⟨a,b,hTO⟩,p1,p2⟩:=st
  obtain⟨xs,ys,s1,s2,he⟩:=hg
  obtain⟨its1,rv1,q1⟩:=ql I s1
  obtain⟨its2,rv2,q2⟩:=ql I s2
  have n1:=rv1.length
  have n2:=rv2.length
  refine HH (I.ok.hd hc) D hz hTI hTO p1 p2 q1 q2 (he.imp (fun q=>by simp;omega) fun q=>by simp;omega) fun g hk=>⟨rfl,I.turnL (t':=s.toks) (ch:=[z,TI,TO,i1,i2]) (fun c o hc e=>?_) hf⟩
  simp only[List.mem_cons,List.not_mem_nil,or_false,not_or] at hc
  exact hk c o hc.1 hc.2.2.1 hc.2.2.2.1 hc.2.2.2.2 e
 self:=fun _ _ _ _ _ st h=>wpAny_pyIter_zip st.1 h
theorem HJ(I l1 l2:Nat)(h1:l1<I)(h2:l2<I):ZipApart (I+4) (I+2) (I+3) I (I+1) l1 l2:=zipApart_new h1 h2
theorem boot_zip:bootBuiltins "zip" = some (.type "zip"):=by decide +kernel
def Rq(K:PySem.W.Frag)(ta:TA):TI:=fun Z H R=>ta Z H fun vs H1=>∃b1 b2 l1 l2 xs ys,vs=[.ref l1,.ref l2]/\SqD K b1 H1 l1 xs/\SqD K b2 H1 l2 ys/\R (Itz K b1 b2 l1 l2) H1
theorem HN{X:Cx}{es:List Expr}{kk:Nat}{pt:Pos}{a b:Expr}{ta:TA}{p pos:Pos}(hg:Gl X "zip")(hm:X.mg "zip" = none)(ha:PA X [a,b] ta)(hs:starEach [a,b] X.env=[(false,eval a X.env),(false,eval b X.env)]:=by rfl)(hs2:starEach [b] X.env=[(false,eval b X.env)]:=by rfl) :
  PI X (.Tuple es kk pt) (.Call (.Name "zip" p) [a,b] [] pos) (Rq X.K ta):=by
 intro pins s Z H R I h
 refine Call_ (nW I hg hm boot_zip (PyProof.Rows.callWith_type1 (thn (ha pos pins s Z H _ I h) fun us s1 ⟨vs,H1,I1,r1,q1⟩=>?_) (by rw[hs,hs2]) (by rw[hs2];rfl)))
 obtain⟨b1,b2,l1,l2,xs,ys,e,s1',s2',q⟩:=q1
 subst e
 cases r1 with
 | cons r rr =>
  cases rr with
  | cons r' rr =>
   cases rr
   cases r
   cases r'
   obtain⟨its1,rv1,c1⟩:=ql I1 s1'
   obtain⟨its2,rv2,c2⟩:=ql I1 s2'
   refine Oj c1 c2 fun g hz hTI hTO p1 p2 sz kk'=>wpAny_pyIter_zip hz ⟨_,_,_,_,H1,rfl,I1.kept (t':=s1.toks) kk',Kc (HJ _ _ _ c1.lt c2.lt),⟨hz,hTI,⟨_,_,hTO⟩,p1,p2⟩,fun b hb=>?_,q⟩
   have lb:s1.heap.objs.size<=b:=by
    simp only[List.mem_cons,List.not_mem_nil,or_false] at hb
    rcases hb with rfl |rfl |rfl |rfl |rfl
    ·exact Nat.le_add_right _ _
    ·exact Nat.le_add_right _ _
    ·exact Nat.le_add_right _ _
    ·exact Nat.le_refl _
    ·exact Nat.le_add_right _ _
   exact I1.fpOk lb (I1.hok.fresh lb)
end L2
namespace DL
open PySem PySem.Spec PyProof.Rows L2
def mz:D->Option (List D)
 | .lst xs=>some xs
 | .scr ns=>some (ns.map D.int)
 | .tup xs=>some xs
 | _=>none
def pairD(x y:D):D:=.tup [x,y]
def sO:List D->Option (List D)
 | [a,b]=>match mz a,mz b with
  | some xs,some ys=>some (List.zipWith pairD xs ys)
  | _,_=>none
 | _=>none
theorem gn{K:PySem.W.Frag}{H H':Hp}{b:Bool}{a:Addr}{xs:List V}(e:bK H H')(h:SqD K b H a xs):SqD K b H' a xs:=by
 cases b with
 | false=>exact e.seq h
 | true=>exact Td e h
theorem yc{K:PySem.W.Frag}{α:List Addr}{F:Hp}{d:D}{xs:List D}{v:V}(h:mz d=some xs)(i:Is K α F d v):∃b a vs,v=.ref a/\SqD K b F a vs/\IsL K α F xs vs:=by
 cases d with
 | lst ys =>
  cases h
  rw[Is] at i
  obtain⟨a,vs,rfl,h1,r1⟩:=i
  exact⟨false,a,vs,rfl,SqL.of h1,r1⟩
 | scr ns =>
  cases h
  rw[Is] at i
  obtain⟨a,rfl,h1⟩:=i
  exact⟨false,a,_,rfl,h1,IsL.ints ns⟩
 | tup ys =>
  cases h
  rw[Is] at i
  obtain⟨a,vs,rfl,h1,r1⟩:=i
  exact⟨true,a,vs,rfl,SqT.of h1,r1⟩
 | _=>cases h
theorem Kd{K:PySem.W.Frag}{e:E4}{b1 b2:Bool}{l1 l2:Addr}{vs1 vs2:List V}{ds1 ds2:List D}(s1:SqD K b1 e.F l1 vs1)(s2:SqD K b2 e.F l2 vs2)(r1:IsL K e.α e.F ds1 vs1)(r2:IsL K e.α e.F ds2 vs2):Walk K e (Itz K b1 b2 l1 l2) (List.zipWith pairD ds1 ds2):=by
 intro i e2 ff al fh
 have t1:=gn fh (gn ff s1)
 have t2:=gn fh (gn ff s2)
 have n1:=r1.length
 have n2:=r2.length
 refine⟨fun z=>⟨vs1,vs2,t1,t2,?_⟩,fun d hd=>?_⟩
 ·rw[List.length_zipWith] at z
  omega
 ·rw[List.getElem?_zipWith] at hd
  cases q1:ds1[i]? with
  | none=>rw[q1] at hd;cases hd
  | some x =>
   cases q2:ds2[i]? with
   | none=>rw[q1,q2] at hd;cases hd
   | some y =>
    rw[q1,q2] at hd
    cases hd
    obtain⟨vx,hvx,ivx⟩:=(IsL.mono ff al ds1 r1).get q1
    obtain⟨vy,hvy,ivy⟩:=(IsL.mono ff al ds2 r2).get q2
    refine⟨⟨vs1,vs2,vx,vy,t1,t2,hvx,hvy⟩,fun v H' ⟨p,x',y',e1,e2',e3,u1,u2⟩=>?_⟩
    subst e1 e3
    have u1':=u1 vs1 t1
    have u2':=u2 vs2 t2
    rw[hvx] at u1'
    rw[hvy] at u2'
    cases u1'
    cases u2'
    have nF:e2.F p=none:=by
     cases q:e2.F p with
     | none=>rfl
     | some o=>rw[fh p o q] at e2';cases e2'
    have sm:bK e2.F (e2.new p (.tup [vx,vy])).F:=fun b o hb=>by
     show upd e2.F p _ b=some o
     rw[aD (fun z=>by rw[z,nF] at hb;cases hb)]
     exact hb
    refine⟨e2.new p (.tup [vx,vy]),rfl,?_,fun C U w=>⟨w.new_ext e2',w.new e2'⟩⟩
    unfold pairD
    rw[Is]
    exact⟨p,[vx,vy],rfl,aM,.cons (Is.mono sm ⟨[],by simp[E4.new]⟩ _ ivx) (.cons (Is.mono sm ⟨[],by simp[E4.new]⟩ _ ivy) .nil)⟩
end DL
namespace DL
open PySem PySem.Spec PyProof.Rows L2
section
variable {X:Cx} {C:Cl} {ga:bB} {pos p pt:Pos} {es:List Expr} {kk:Nat} {a b:Expr}
theorem Ed(hg:Gl X "zip")(hm:X.mg "zip" = none)(ha:PDA X C [a,b] ga)(hs:starEach [a,b] X.env=[(false,eval a X.env),(false,eval b X.env)]:=by rfl)(hs2:starEach [b] X.env=[(false,eval b X.env)]:=by rfl) :
  PDI X C (.Tuple es kk pt) (.Call (.Name "zip" p) [a,b] [] pos) (gh sO ga) :=
 vU (HN hg hm ha hs hs2) fun Z H R hw'=>by
  obtain⟨e,U,Y,ds,U',eH,w,rl,q,k⟩:=hw'
  unfold gh at q
  cases q1:ga Y U with
  | none=>rw[q1] at q;cases q
  | some p1 =>
   obtain⟨fs,U1⟩:=p1
   rw[q1] at q
   dsimp only at q
   refine⟨e,U,Y,fs,U1,eH,w,rl,q1,fun v e' x' w' i'=>?_⟩
   match fs,q,i' with
   | [d1,d2],q,i' =>
    obtain⟨v1,v2,rfl,iv1,iv2⟩:=pW i'
    have ez:sO [d1,d2]=match mz d1,mz d2 with |some xs,some ys=>some (List.zipWith pairD xs ys) |_,_=>none:=rfl
    rw[ez] at q
    cases z1:mz d1 with
    | none=>rw[z1] at q;cases q
    | some xs =>
     cases z2:mz d2 with
     | none=>rw[z1,z2] at q;cases q
     | some ys =>
      rw[z1,z2] at q
      cases q
      obtain⟨b1,l1,vs1,rfl,t1,r1⟩:=yc z1 iv1
      obtain⟨b2,l2,vs2,rfl,t2,r2⟩:=yc z2 iv2
      exact⟨b1,b2,l1,l2,vs1,vs2,rfl,gn w'.fh t1,gn w'.fh t2,k e' _ x' w' (Kd t1 t2 r1 r2)⟩
end
end DL
namespace DL
open PySem PySem.Spec PyProof.Rows L2
def jx(Ts:List String)(d:D):Option D:=match tyD d with
 | some t=>some (.bl (Ts.any fun T=>decide (t=T) || (decide (t = "bool") && decide (T = "int"))))
 | none=>none
theorem Bo:∀{Ts:List String} {us:List Value},Vals (Ts.map V.ty) us->us=Ts.map Value.type
 | [],_,.nil=>rfl
 | T::Ts,_,.cons r t=>by rw[Bo t];cases (show _=Value.type T from r);rfl
section
variable {X:Cx} {C:Cl} {x:Expr} {g:Den} {pos p:Pos} {n:Str}
theorem FN{pins:List (Addr×Obj)}{Z:St}{H:Hp}{s:Shared}{A:Around}{E:Value->Shared->Prop}{Q:Value->Shared->Prop}{K':PySem.W.Frag}{α:List Addr}{F:Hp}{d:D}{v:V}{u:Value}{t:String}{b:Bool}{tp:Addr}{its:List Value}{oc:Option Addr}{m:Nat}{sl:Array (Option Value)}
  (I:Inv X pins Z H s) (rx:RelV v u) (ff:bK F H) (i:Is K' α F d v) (ty:tyD d=some t) (htp:s.heap.get? tp=some ⟨.type "tuple",oc,.seq its.toArray m,sl⟩) (e:PySem.W.kitAny X.K (.type t) its=some b) (h:∀tk,Q (.bool b) { s with toks:=tk }) :
  wpAny (model X.prog X.w) A (call (.builtin "isinstance") [u,.ref tp]) Q E s:=by
 cases d<;>rw[Is] at i<;>(try cases ty)
 ·subst i;cases (show u=Value.none from rx);exact PySem.W.kia_tup PySem.W.kitx_none I.kIn True.intro htp e (fun z=>nomatch z) h
 ·subst i;cases (show u=Value.bool _ from rx);exact PySem.W.kia_tup PySem.W.kitx_bool I.kIn True.intro htp e (fun z=>nomatch z) h
 ·subst i;obtain⟨t,q⟩:=(show ∃t,u=Value.int _ t from rx);cases q;exact PySem.W.kia_tup PySem.W.kitx_int I.kIn True.intro htp e (fun z=>nomatch z) h
 ·subst i;obtain⟨t,q⟩:=(show ∃t,u=Value.str _ t from rx);cases q;exact PySem.W.kia_tup PySem.W.kitx_str I.kIn True.intro htp e (fun z=>nomatch z) h
 ·obtain⟨a,vs,rfl,e1,_⟩:=i
  cases (show u=Value.ref a from rx)
  obtain⟨_,_,_,⟨o,g1,g2,_⟩⟩:=(show bV X.prog X.w H s.heap a (.tup vs) from I.hok a _ (ff _ _ e1))
  exact PySem.W.kia_tup PySem.W.kitx_tuple I.kIn ⟨o,g1,g2⟩ htp e (fun z=>nomatch z) h
 ·obtain⟨a,vs,rfl,e1,_⟩:=i
  cases (show u=Value.ref a from rx)
  obtain⟨_,_,n,_,h1⟩:=(show bV X.prog X.w H s.heap a (.lst vs) from I.hok a _ (ff _ _ e1))
  exact PySem.W.kia_tup PySem.W.kitx_list I.kIn ⟨_,h1,rfl⟩ htp e (fun z=>nomatch z) h
theorem Ol{d:D}{t:String}(h:tyD d=some t):t∈["NoneType","bool","int","str","tuple","list"]:=by
 cases d<;>first |(injection h with h;subst h;decide) |cases h
theorem qQ{ys:List Expr}{tt:TA}{Ts:List String}{x1}{ypos:Pos}(ha:PD X C x g)(hy:PA X ys tt)(htt:∀Z H Q,Q (Ts.map V.ty) H->tt Z H Q)(hlen:Ts.length<=sizeLine)(hg:Gl X n)(hm:X.mg n=none)(hv:bootBuiltins n=some (.builtin "isinstance"))
  (hk:∀t∈["NoneType","bool","int","str","tuple","list"],PySem.W.kitAny X.K (.type t) (Ts.map Value.type)=some (Ts.any fun T=>decide (t=T) || (decide (t = "bool") && decide (T = "int"))))
  (hn:n ≠ "__name__":=by decide) (hdb:(n==("__debug__":Str))=false:=by decide)
  (he:starEach [x,.Tuple ys x1 ypos] X.env=(false,eval x X.env)::starEach [.Tuple ys x1 ypos] X.env:=by rfl) (he2:starEach [.Tuple ys x1 ypos] X.env=(false,eval (.Tuple ys x1 ypos) X.env)::starEach [] X.env:=by rfl) (hpl:(backTo pos (starEach [.Tuple ys x1 ypos] X.env)).any (·.1)=false:=by rfl) :
  PD X C (.Call (.Name n p) [x,.Tuple ys x1 ypos] [] pos) (gUn (jx Ts) g):=by
 have hc:gG X (.builtin "isinstance") (fun xs H Q=>∃v tp t k α F d,xs=[v,.ref tp]/\H tp=some (.tup (Ts.map V.ty))/\bK F H/\Is X.K α F d v/\tyD d=some t/\PySem.W.kitAny X.K (.type t) (Ts.map Value.type)=some k/\Q (.bl k) H):=by
  intro pins s Z H xs us Q I r hw
  obtain⟨v,tp,t,k,α,F,d,rfl,h0,ff,i,ty,e,q⟩:=hw
  obtain⟨u1,w',rfl,r1,r2⟩:=vals2 r
  obtain rfl:w'=Value.ref tp:=r2
  obtain⟨_,its,ri,⟨oc,od,odt,osl⟩,g1,g2,m,g3⟩:=(show bV X.prog X.w H s.heap tp (.tup (Ts.map V.ty)) from I.hok tp _ h0)
  obtain rfl:=Bo ri
  dsimp only at g2 g3
  subst g2 g3
  exact FN I r1 ff i ty g1 e fun tk=>⟨.bl k,H,I.tok tk,rfl,q⟩
 refine bx (gb hc hg hm hv (bR ha (bR (GP hy) dH he2) he) hn hdb he hpl) fun Z H Q hw'=>?_
 obtain⟨e,U,Y,d,U',eH,w,rl,e1,kk⟩:=hw'
 unfold gUn at e1
 cases q1:g Y U with
 | none=>rw[q1] at e1;cases e1
 | some p1 =>
  obtain⟨d1,U1⟩:=p1
  rw[q1] at e1
  dsimp only at e1
  unfold jx at e1
  cases q2:tyD d1 with
  | none=>rw[q2] at e1;cases e1
  | some t =>
   rw[q2] at e1
   cases e1
   refine⟨e,U,Y,d1,_,eH,w,rl,q1,fun v e' x' w' i'=>?_⟩
   refine htt _ _ _ ⟨by rw[List.length_map];exact hlen,fun tp hp=>?_⟩
   have wn:=w'.new (o:=.tup (Ts.map V.ty)) hp
   have xn:=w'.new_ext (o:=.tup (Ts.map V.ty)) hp
   refine⟨v,tp,t,_,_,_,d1,rfl,aM,wn.fh,i'.ext xn,q2,hk t ?_,kk _ _ (x'.trans xn) wn (by rw[Is])⟩
   exact Ol q2
def gNo:Den:=fun _ _=>none
theorem Tj{y:Expr}:PD X C y gNo:=fun pins s Z H Q I ⟨e,U,Y,d,U',eH,w,rl,q,k⟩=>nomatch q
end
end DL
namespace L2
open PySem PySem.Spec PyProof.Rows
section
variable {X:Cx} {a:Expr} {ta:TE} {z:Str} {kk:Nat} {p1 p2 pos:Pos}
def tFI(ta:TE):TE:=fun Z H Q=>ta Z H fun x H1=>∃i:Int,x=.int i/\i.natAbs.log2<1920/\(Str.ofString (toString i)).length<=1000/\∀t,Q (.str t) H1
theorem Tn(ha:PE X a ta)(hz:z.length<=1000:=by decide)(hs:evalEach [.FormattedValue a (-1) none p1,.Constant (.str z) kk p2] X.env=[eval (.FormattedValue a (-1) none p1) X.env,eval (.Constant (.str z) kk p2) X.env]:=by rfl) :
  PE X (.JoinedStr [.FormattedValue a (-1) none p1,.Constant (.str z) kk p2] pos) (tFI ta):=by
 intro pins s Z H Q I h
 have len:∀p q:Str,(p++q).length=p.length+q.length:=fun p q=>strLen_append p q
 have sl:(100000:Nat)<=sizeLine:=by rw[sizeLine_eq];decide
 refine PySem.wpAny_JoinedStr ?_
 rw[hs]
 refine PySem.wpAny_FormattedValue_plain (thn (ha pins s Z H _ I h) fun u s1 hw'=>?_)
 obtain⟨x,H1,I1,r1,i,ex,hi,li,q1⟩:=hw'
 subst ex
 obtain⟨t,rfl⟩:=r1
 refine wpAny_formatField_int hi ⟨_,_,rfl,?_,?_⟩
 ·rw[PySem.W.KT.empty_app];exact Nat.le_trans li (by omega)
 rw[PySem.W.KT.empty_app]
 refine wpAny_mono (zV (X:=X) (x:=z) (j:=kk) (pos:=p2) pins _ Z H1 (fun v H'=>v=.str z/\H'=H1) (I1.tok _) ⟨rfl,rfl⟩) (fun u s2 ⟨y,H2,I2,r2,e2,e3⟩=>?_) fun _ _ e=>e
 subst e2 e3
 obtain⟨t2,rfl⟩:=r2
 refine⟨z,t2,rfl,?_,?_,?_⟩
 ·rw[len];omega
 ·rw[len];omega
 ·exact⟨.str _,_,I2.tok _,⟨_,rfl⟩,q1 _⟩
end
section
variable {X:Cx} {body:List Stmt} {x n:Str} {np hpos pos:Pos} {cv:Value} {i:Nat} {b₀:Stmt} {suite:List Stmt} {tb:List (Addr×Obj)->(Value->Shared->Prop)->TS} {th:TS}
theorem Om(hb:∀pn E,PSs (X.hold pn E) body (tb pn E))(hh:∀(v:Value) (pn:List (Addr×Obj)),PSs ((X.mark v).hold pn fun _ _=>False) (b₀::suite) th)
  (hs:X.stack=X.env::X.outer) (hfr:X.env.frame=some X.env.locals) (hg:Gl X x) (hm:X.mg x=some cv) (hN:X.N.Nodup) (hi:X.N[i]? = some n) (hl:X.env.scope.names.lookup n=some .local) (hkn:X.env.kindOf n=some .local) (hd:(x==("__debug__":Str))=false:=by decide) :
  PS X (.Try body [.ExceptHandler (some (.Name x np)) (some n) (b₀::suite) hpos] [] [] pos) (fun D Z H=>∀pins,tb (X.pn++pins) (sH X pins fun Z' C H'=>PySem.W.exmOne X.K (.ref C) cv=some true/\∀ea oe,H' ea=none->oe.cls=.ref C->th (Ends.only D.rt) (Z'.set i (some (.ref ea))) (upd H' ea (.frz oe (.own 0)))) D Z H):=by
 intro pins s Z H D I h
 have ok:=I.ok
 have sp:=hb (X.pn++pins) (sH X pins fun Z' C H'=>PySem.W.exmOne X.K (.ref C) cv=some true/\∀ea oe,H' ea=none->oe.cls=.ref C->th (Ends.only D.rt) (Z'.set i (some (.ref ea))) (upd H' ea (.frz oe (.own 0)))) [] s Z H D (I.hold _) (h pins)
 refine wpAny_Try_except (wpAny_mono sp (fun fl s1 q=>?_) fun e s1 q=>?_)
 ·cases fl with
  | ret u=>obtain⟨v,Z',H',I',r,q⟩:=q;exact⟨v,Z',H',I'.unhold ok,r,q⟩
  | next=>obtain⟨Z',H',I',q⟩:=q;exact wpAny_execs_nil ⟨Z',H',I'.unhold ok,q⟩
  | brk=>obtain⟨Z',H',I',q⟩:=q;exact⟨Z',H',I'.unhold ok,q⟩
  | cont=>obtain⟨Z',H',I',q⟩:=q;exact⟨Z',H',I'.unhold ok,q⟩
 ·obtain⟨Z1,ea,C,t,H',B,rfl,F,hx,q⟩:=q
  have I1:=F.inv s1.heap F.fl.1 (Heap.UpToSlots.refl _)
  have hiZ:i<Z1.length:=by rw[I1.len];exact(List.getElem?_eq_some_iff.mp hi).1
  refine Hv (i:=i) F hs hfr hg hm hx hN hi hl hd fun s7 oe I7 hoe=>?_
  refine wpAny_mono (hh (.ref ea) (X.pn++pins) [] s7 _ _ _ (I7.hold _) (q ea oe F.nea hoe)) (fun fl s3 q3=>?_) fun _ _ z=>z
  cases fl with
  | ret u =>
   obtain⟨v,Z3,H3,I3,r3,q3⟩:=q3
   obtain⟨m,hn,_⟩:=I3.loc
   refine wpAny_nameGoes hkn hn (by rw[ok.kind];rfl) fun h5 m5 hn5 sb=>?_
   have ne:∀b o,X.s₀.heap.get? b=some o->b≠X.env.locals:=fun b o e z=>by
    have:=Heap.lt_size e
    have a:=ok.above
    rw[z] at this
    exact Nat.lt_irrefl _ (Nat.lt_of_lt_of_le this a)
   have cne:=I3.cne
   have kp:∀b o,b≠X.env.locals->s3.heap.get? b=some o->h5.get? b=some o:=fun b o z e=>(sb.2 b z).trans e
   refine⟨v,List.replicate X.N.length none,H3,⟨ok,I3.os,I3.bare,⟨fun b o e n nf nx=>kp b o (ne b o e) (I3.base.keep b o e n nf nx),fun b o e n hf nx=>?_,I3.base.free,fun b o e nx=>?_,I3.base.tups,I3.base.frzs,I3.base.tbls⟩,⟨m5,hn5,fun j y w _ z=>?_⟩,fun y c hc=>?_,I3.free,I3.freeC,fun p hp=>?_,fun b o e=>?_,by simp⟩,r3,q3⟩
   ·obtain⟨sl,z⟩:=I3.base.slot b o e n hf nx
    exact⟨sl,kp b _ (ne b o e) z⟩
   ·obtain⟨o',z⟩:=I3.base.there b o e nx
    exact⟨o',kp b o' (ne b o e) z⟩
   ·rw[List.getElem?_replicate] at z
    split at z<;>cases z
   ·obtain⟨w,o,ho,hd⟩:=I3.cell y c hc
    exact⟨w,o,kp c o (cne y c hc) ho,hd⟩
   ·have z:=I3.pin p (List.mem_append_left _ hp)
    exact⟨kp _ _ z.2.2.1 z.1,z.2⟩
   ·refine(I3.hok b o e).stay (fun c u hc q=>kp c u (fun z=>?_) q) (fun _ q=>q) (fun _ _ q=>q)
    have f:=I3.free
    rcases hc with y |y
    ·rw[<-y,z] at e
     have f':H3 X.env.locals=none:=f
     rw[f'] at e;cases e
    ·rw[z] at y
     have f':H3 X.env.locals=none:=f
     rw[f'] at y;cases y
  | next=>obtain⟨_,_,_,q⟩:=q3;exact q.elim
  | brk=>obtain⟨_,_,_,q⟩:=q3;exact q.elim
  | cont=>obtain⟨_,_,_,q⟩:=q3;exact q.elim
end
end L2
namespace DL
open PySem PySem.Spec PyProof.Rows L2
section
variable {X:Cx} {C:Cl} {a:Expr} {f:Den} {pos p1 p2:Pos}
def pFi(f:Den):xZ:=fun Y U=>match f Y U with
 | some (.int i,U')=>if qi i then some U' else none
 | _=>none
theorem LQ{z:Str}{kk:Nat}(ha:PD X C a f)(hz:z.length<=1000:=by decide)(hs:evalEach [.FormattedValue a (-1) none p1,.Constant (.str z) kk p2] X.env=[eval (.FormattedValue a (-1) none p1) X.env,eval (.Constant (.str z) kk p2) X.env]:=by rfl) :
  PV X C (.JoinedStr [.FormattedValue a (-1) none p1,.Constant (.str z) kk p2] pos) (pFi f):=bx (Tn ha hz hs) fun Z H Q hw'=>by
 obtain⟨e,U,Y,U',eH,w,rl,q,k⟩:=hw'
 unfold pFi at q
 split at q
 ·rename_i i U1 q1
  split at q
  ·rename_i hi
   cases q
   refine⟨e,U,Y,_,_,eH,w,rl,q1,fun v e' x' w' i'=>?_⟩
   rw[Is] at i'
   exact⟨i,i',hi.1,hi.2,fun t=>k _ e' x' w'⟩
  ·cases q
 ·cases q
end
def qR(s:aU)(r:fC)(i:Nat)(tc:Str->Bool)(t:aU):aU:=fun Y U=>match s Y U with
 | some o=>some o
 | none=>match r Y U with
  | some (c,Y1,U1)=>if tc c=true then match t (Y1.set i (.dat (.obj U1.length))) (U1++[.exc c]) with
    | some (.rt d U')=>some (.rt d U')
    | _=>none
   else none
  | none=>none
section
variable {X:Cx} {C:Cl} {body:List Stmt} {x n:Str} {np hpos pos:Pos} {cv:Value} {i:Nat} {b₀:Stmt} {suite:List Stmt} {s t:aU} {r:fC} {tc:Str->Bool}
theorem Ke(hb:∀pn E,PDB (X.hold pn E) C body s)(hr:∀pn E XW,pA (X.hold pn E) XW->RDB (X.hold pn E) C XW body r)(ht:∀v pn,PDB ((X.mark v).hold pn fun _ _=>False) C (b₀::suite) t)
  (htc:∀c,tc c=true->∃Ca,C c=some Ca/\PySem.W.exmOne X.K (.ref Ca) cv=some true)
  (hs:X.stack=X.env::X.outer) (hfr:X.env.frame=some X.env.locals) (hg:Gl X x) (hm:X.mg x=some cv) (hN:X.N.Nodup) (hi:X.N[i]? = some n) (hl:X.env.scope.names.lookup n=some .local) (hkn:X.env.kindOf n=some .local) (hd:(x==("__debug__":Str))=false:=by decide) :
  PDS X C (.Try body [.ExceptHandler (some (.Name x np)) (some n) (b₀::suite) hpos] [] [] pos) (qR s r i tc t):=fun e₀ =>
 cQ (Om (tb:=fun pn E Dn Z H=>tDS X.K C e₀ s Dn Z H\/∃XW,pA (X.hold pn E) XW/\tRS X.K C XW e₀ r Dn Z H) (th:=tDS X.K C e₀ t)
  (fun pn E pins sh Z H D I h=>h.elim (fun z=>hb pn E e₀ pins sh Z H D I z) fun⟨XW,hX,z⟩=>hr pn E XW hX e₀ pins sh Z H D I z) (fun v pn=>ht v pn e₀) hs hfr hg hm hN hi hl hkn hd) fun Dn Z H hw' pins=>by
  obtain⟨e,U,Y,o,eH,rl,q,k⟩:=hw'
  unfold qR at q
  cases q1:s Y U with
  | some o1 =>
   rw[q1] at q
   cases q
   exact .inl ⟨e,U,Y,_,eH,rl,q1,k⟩
  | none =>
   rw[q1] at q
   dsimp only at q
   cases q2:r Y U with
   | none=>rw[q2] at q;cases q
   | some p2 =>
    obtain⟨c,Y1,U1⟩:=p2
    rw[q2] at q
    dsimp only at q
    by_cases hc:tc c=true
    ·rw[if_pos hc] at q
     obtain⟨Ca,hC,hx⟩:=htc c hc
     refine .inr ⟨_,yX,e,U,Y,c,Y1,U1,Ca,eH,rl,q2,hC,fun e' Z' r'=>⟨hx,fun ea oe hn ho=>?_⟩⟩
     obtain⟨w',x'⟩:=r'.wf.obj (H':=upd e'.H ea (.frz oe (.own 0))) (o:=.exc c) hn (fun b u hb=>by rw[aD (aP hb hn)];exact hb) (by rw[aM];exact⟨by simp,fun xs z=>nomatch z⟩) ⟨Ca,oe,_,hC,aM,ho⟩
     have r2:=(r'.to x' w').set i (d:=.obj U1.length) (v:=.ref ea) (by
      rw[Is]
      exact⟨ea,by show(e'.α++[ea])[U1.length]? = some ea;rw[<-r'.wf.ol];simp,rfl⟩)
     cases q3:t (Y1.set i (.dat (.obj U1.length))) (U1++[.exc c]) with
     | none=>rw[q3] at q;cases q
     | some o3 =>
      rw[q3] at q
      cases o3 with
      | rt d U'=>cases q;exact⟨_,_,_,_,rfl,r2,q3,k⟩
      | _=>cases q
    ·rw[if_neg hc] at q;cases q
end
end DL
namespace L2
open PySem PySem.Spec PyProof.Rows
section
variable {X:Cx} {pins:List (Addr×Obj)} {Z:St} {H:Hp} {s:Shared} {a:Addr}
theorem Inv.freeze{kvs:List (Key×V)}{o:Obj}(I:Inv X pins Z H s)(e:H a=some (.dK kvs))(ho:s.heap.get? a=some o):Inv X pins Z (upd H a (.frz o (.dK kvs))) s:=by
 have neA:∀b u,H b=some u->(∀k,u ≠ .dK k)->b≠a:=fun b u h n z=>by rw[z,e] at h;cases h;exact n _ rfl
 refine I.write (x:=a) (e:=a) (o:=.frz o (.dK kvs)) (t':=s.toks) (h':=s.heap) (by rw[e];trivial) (.inl rfl) (fun b u _ q=>q) ⟨o,ho⟩ ⟨ho,?_⟩
 exact(I.hok a _ e).stay (fun _ _ _ q=>q) (fun b q=>by rw[aD (neA b _ q fun k z=>nomatch z)];exact q) fun b xs q=>by rw[aD (neA b _ q fun k z=>nomatch z)];exact q
theorem Inv.thaw{o:Obj}{u:HO}(I:Inv X pins Z H s)(e:H a=some (.frz o u))(h0:∀o u,X.H₀ a≠some (.frz o u))(hu:∀b,u ≠ .own b):Inv X pins Z (upd H a u) s:=by
 have nn:∀b,H b=none->b≠a:=fun b q z=>by rw[z,e] at q;cases q
 have neA:∀b v,H b=some v->(∀o u,v ≠ .frz o u)->b≠a:=fun b v h n z=>by rw[z,e] at h;cases h;exact n _ _ rfl
 refine⟨I.ok,I.os,I.bare,⟨I.base.keep,I.base.slot,fun b ob h1 h2 h3=>?_,I.base.there,fun b xs h=>?_,fun b ob v h=>?_,fun b ps h=>?_⟩,I.loc,I.cell,?_,fun x c h=>?_,fun p hp=>?_,fun b v h=>?_,I.len⟩
 ·have q:=I.base.free b ob h1 h2 h3
  rw[aD (nn b q)];exact q
 ·have q:=I.base.tups b xs h
  rw[aD (neA b _ q fun _ _ z=>nomatch z)];exact q
 ·have q:=I.base.frzs b ob v h
  rw[aD (fun z=>by rw[z] at h;exact h0 _ _ h)];exact q
 ·obtain⟨more,q⟩:=I.base.tbls b ps h
  exact⟨more,by rw[aD (neA b _ q fun _ _ z=>nomatch z)];exact q⟩
 ·rw[aD (nn _ I.free)];exact I.free
 ·rcases I.freeC x c h with fc |⟨q1,o1,b1,fc⟩
  ·exact .inl (by rw[aD (nn _ fc)];exact fc)
  ·exact .inr ⟨q1,o1,b1,by rw[aD (fun z=>by rw[z,e] at fc;cases fc;exact hu _ rfl)];exact fc⟩
 ·obtain⟨p1,p2,p3⟩:=I.pin p hp
  exact⟨p1,by rw[aD (nn _ p2)];exact p2,p3⟩
 ·have ow:∀c d,H c=some (.own d)->upd H a u c=some (.own d):=fun c d q=>by rw[aD (neA c _ q fun _ _ z=>nomatch z)];exact q
  have tp:∀c xs,H c=some (.tup xs)->upd H a u c=some (.tup xs):=fun c xs q=>by rw[aD (neA c _ q fun _ _ z=>nomatch z)];exact q
  by_cases z:b=a
  ·subst z
   rw[aM] at h
   cases h
   exact(show bV X.prog X.w H s.heap b (.frz o u) from I.hok b _ e).2.stay (fun _ _ _ q=>q) (fun c q=>ow c b q) fun c xs q=>tp c xs q
  ·rw[aD z] at h
   exact(I.hok b v h).stay (fun _ _ _ q=>q) (fun c q=>ow c b q) fun c xs q=>tp c xs q
end
def Ends.thaw(D:Ends)(a:Addr):Ends :=
 { nx:=fun Z H=>∃o u,H a=some (.frz o u)/\(∀b,u ≠ .own b)/\D.nx Z (upd H a u),rt:=fun v H=>∃o u,H a=some (.frz o u)/\(∀b,u ≠ .own b)/\D.rt v (upd H a u),bk:=fun Z H=>∃o u,H a=some (.frz o u)/\(∀b,u ≠ .own b)/\D.bk Z (upd H a u),ct:=fun Z H=>∃o u,H a=some (.frz o u)/\(∀b,u ≠ .own b)/\D.ct Z (upd H a u) }
theorem Oo{X:Cx}{st:Stmt}{t:TS}(h:PS X st t):PS X st (fun D Z H=>∃a,(∀o u,H a≠some (.frz o u))/\t (D.thaw a) Z H):=by
 rintro pins s Z H D I ⟨a,hn,q⟩
 have h0:∀o u,X.H₀ a≠some (.frz o u):=fun o u z=>hn o u (I.base.frzs a o u z)
 refine wpAny_mono (h pins s Z H _ I q) (fun fl s1 r=>?_) fun _ _ z=>z
 cases fl with
 | next=>obtain⟨Z',H',I',o,u,e,hu,d⟩:=r;exact⟨Z',_,I'.thaw e h0 hu,d⟩
 | brk=>obtain⟨Z',H',I',o,u,e,hu,d⟩:=r;exact⟨Z',_,I'.thaw e h0 hu,d⟩
 | cont=>obtain⟨Z',H',I',o,u,e,hu,d⟩:=r;exact⟨Z',_,I'.thaw e h0 hu,d⟩
 | ret v=>obtain⟨v',Z',H',I',rv,o,u,e,hu,d⟩:=r;exact⟨v',Z',_,I'.thaw e h0 hu,rv,d⟩
theorem yZ{P:Program}{w:World}{es:List DictEntry}{vs:List (Key×Value)}(h:Pairs (cg P w) es vs):∀(i:Nat) (e:DictEntry),es[i]? = some e->∃k,(vs[i]?).map (·.1)=some k/\RelV (kV k) e.key:=by
 induction h with
 | nil=>intro i e q;simp at q
 | cons h1 h2 _ ih =>
  intro i e q
  cases i with
  | zero =>
   simp at q
   subst q
   rename_i e kv _ _ _
   refine⟨kv.1,rfl,?_⟩
   rcases cZ h1 with⟨j,t,e1,e2⟩ |⟨x,t,e1,e2⟩
   ·rw[e1];exact⟨t,e2⟩
   ·rw[e1];exact⟨t,e2⟩
  | succ i=>simpa using ih i e (by simpa using q)
def Itk(a:Addr)(o:Obj)(kvs:List (Key×V)):It :=
 ⟨fun i H=>H a=some (.frz o (.dK kvs))/\i<kvs.length,fun i H x H'=>H'=H/\∃k,(kvs[i]?).map (·.1)=some k/\x=kV k,fun i H=>H a=some (.frz o (.dK kvs))/\i=kvs.length⟩
theorem HQ{P:Program}{w:World}{K:PySem.W.Frag}{tg:Expr}(a it:Addr){o:Obj}{es:Array DictEntry}{ep:Nat}{kvs:List (Key×V)}(hx:o.ExactDict)(hd:o.data=.dict es ep)(hlen:es.size=kvs.length)
  (hkey:∀(i:Nat) (e:DictEntry),es[i]? = some e->∃k,(kvs[i]?).map (·.1)=some k/\RelV (kV k) e.key) (hne:a≠it) :
  Turn P w K tg (Itk a o kvs) [it] it (fun i h=>h.IsKeyIter it a i es.size ep) where
 mem:=by simp
 obj:=fun i h st b hb=>by
  have e:b=it:=by simpa using hb
  subst e
  obtain⟨ob,h1,h2,h3⟩:=st
  exact⟨ob,h1,fun v z=>by rw[h3] at z;cases z⟩
 keep:=fun i h h' st k=>by
  obtain⟨ob,h1,h2⟩:=st
  exact⟨ob,k it (by simp) _ h1,h2⟩
 item:=by
  intro X hP hw hK hc i pins s Z H E I hf st hg
  subst hP hw hK
  obtain⟨hg,hi⟩:=hg
  obtain⟨f0,f1,f2,f3,f4,f5⟩:=hf it (by simp)
  have ho:s.heap.get? a=some o:=(show bV X.prog X.w H s.heap a (.frz o (.dK kvs)) from I.hok a _ hg).1
  have hl:i<es.size:=by rw[hlen];exact hi
  refine DR.Ay st ⟨o,ho,hx,hd⟩ hl fun h' st' sb=>?_
  obtain⟨k,hk,rk⟩:=hkey i es[i] (Array.getElem?_eq_getElem hl)
  have J1:Inv X pins Z H { s with heap:=h' }:=I.turned (t':=s.toks) (fun b ob hb e=>(sb.2 b hb).trans e) f0 f1 f3 f4 f5
  obtain⟨ob,g1,g2,g3⟩:=id st'
  exact⟨_,rfl,Ew (s:={ s with heap:=h' }) (n:="dict_keyiterator") g1 g2 g3 (by decide) ⟨kV k,H,J1,rk,⟨rfl,k,hk,rfl⟩,st',fun b hb=>(hf b hb).1⟩⟩
 done:=by
  intro X hP hw hK hc i pins s Z H E I hf st hg
  subst hP hw hK
  obtain⟨hg,hi⟩:=hg
  obtain⟨f0,f1,f2,f3,f4,f5⟩:=hf it (by simp)
  have ho:s.heap.get? a=some o:=(show bV X.prog X.w H s.heap a (.frz o (.dK kvs)) from I.hok a _ hg).1
  exact DR.DQ (I.ok.hd hc) st ⟨o,ho,hx,hd⟩ (by rw[hlen,hi];exact Nat.le_refl _) fun h' eb=>⟨rfl,I.turned (t':=s.toks) (fun b ob hb e=>eb b ob hb e) f0 f1 f3 f4 f5⟩
 self:=fun A i s Q E st h=>by
  obtain⟨ob,h1,h2,h3⟩:=id st
  exact wpAny_pyIter_keyiter st h
def iFd(tl:TE):TI:=fun Z H R=>tl Z H fun x H1=>∃a kvs,x=.ref a/\H1 a=some (.dK kvs)/\∀o,R (Itk a o kvs) (upd H1 a (.frz o (.dK kvs)))
theorem Tp{X:Cx}{tg l:Expr}{tl:TE}(hl:PE X l tl):PI X tg l (iFd tl):=by
 intro pins s Z H R I h
 refine thn (hl pins s Z H _ I h) fun v s1 hw'=>?_
 obtain⟨x,H1,I1,r1,q1⟩:=hw'
 obtain⟨a,kvs,e,ha,q⟩:=q1
 subst e
 cases r1
 obtain⟨hz,hm,vs,rel,o,es,ep,ho,hx,hd,_,hp,_⟩:=tL I1.hok ha
 have hlen:es.size=kvs.length:=by
  have:=hp.length
  rw[rel.length,<-this]
  simp
 have hkey:∀(i:Nat) (e:DictEntry),es[i]? = some e->∃k,(kvs[i]?).map (·.1)=some k/\RelV (kV k) e.key:=fun i e hi=>by
  obtain⟨k,hk,rk⟩:=yZ hp i e (by simpa using hi)
  refine⟨k,?_,rk⟩
  have q2:(kvs.map (·.1))[i]? = (vs.map (·.1))[i]?:=by rw[rel.keys]
  rw[List.getElem?_map,List.getElem?_map,hk] at q2
  exact q2
 have lt:a<s1.heap.objs.size:=Heap.lt_size ho
 have I2:=I1.freeze ha ho
 refine DR.Ax hm ⟨o,ho,hx,hd⟩ ⟨s1.heap.objs.size,[s1.heap.objs.size],_,_,_,rfl,I2.kept (t':=s1.toks) fun b ob e=>Heap.get?_push_of_some _ e,HQ a _ hx hd hlen hkey (Nat.ne_of_lt lt),⟨_,Heap.get?_push_size _ rfl,rfl,rfl⟩,fun b hb=>?_,q o⟩
 have e:b=s1.heap.objs.size:=by simpa using hb
 subst e
 exact I2.fpOk (Nat.le_refl _) (I2.hok.fresh (Nat.le_refl _))
end L2
namespace DL
open PySem PySem.Spec PyProof.Rows L2
def qT(n:Nat)(kvs:List (Key×D))(U:List OS):Option (List OS):=match U[n]? with
 | some (.fzK kvs')=>if kvs'.map (·.1)=kvs.map (·.1) then some (U.set n (.dK kvs')) else none
 | _=>none
def FP(n:Nat)(kvs:List (Key×D)):Option Out->Option Out
 | some (.nx Y U)=>(match qT n kvs U with |some U'=>some (.nx Y U') |none=>none)
 | some (.rt d U)=>(match qT n kvs U with |some U'=>some (.rt d U') |none=>none)
 | _=>none
def qU(g:Den)(β:cT)(s:aU):aU:=fun Y U=>match g Y U with
 | some (.obj n,U1)=>(match U[n]?,U1[n]? with
  | some (.dK _),some (.dK kvs)=>FP n kvs (eF β s (kvs.map fun x=>ofK x.1) Y (U1.set n (.fzK kvs)))
  | _,_=>none)
 | _=>none
theorem Ef{K:PySem.W.Frag}{C:Cl}{e₀ e:E4}{U U':List OS}{n:Nat}{a:Addr}{o:Obj}{kvs:List (Key×D)}{vs:List (Key×V)}(w:Wf K C e U)(hα:e.α[n]? = some a)(ha:e.H a=some (.frz o (.dK vs)))(h:qT n kvs U=some U') :
  Wf K C (e.at a (.dK vs)) U':=by
 unfold qT at h
 cases q:U[n]? with
 | none=>rw[q] at h;cases h
 | some os =>
  rw[q] at h
  cases os with
  | fzK kvs' =>
   dsimp only at h
   split at h
   ·cases h
    obtain⟨vs',o',h1,h2⟩:=(w.ob n a _ hα q).2
    rw[ha] at h1
    cases h1
    exact w.atW hα (fun xs z=>nomatch z) ⟨vs,aM,h2⟩
   ·cases h
  | _=>cases h
theorem Bp{e₀ e:E4}{a:Addr}{o:Obj}{u:HO}(x:Ext e₀ e)(ha:e.H a=some (.frz o u))(h0:∀o u,e₀.H a≠some (.frz o u)):Ext e₀ (e.at a u):=by
 refine⟨fun b o' u' h=>?_,fun b v h hn=>?_,fun b v h=>?_,x.ff,x.fn,x.an,x.aa,x.al⟩
 ·show upd e.H a u b=some (.frz o' u')
  rw[aD (fun z=>h0 o' u' (by rw[<-z];exact h))];exact x.fz b o' u' h
 ·show upd e.H a u b=some v
  have q:=x.hk b v h hn
  rw[aD (fun z=>by rw[z] at q h;rw[ha] at q;cases q;exact h0 _ _ h)];exact q
 ·by_cases z:b=a
  ·subst z;exact⟨u,aM⟩
  ·obtain⟨v',q⟩:=x.dm b v h
   exact⟨v',by show upd e.H a u b=some v';rw[aD z];exact q⟩
theorem Kf{K:PySem.W.Frag}{e:E4}{a:Addr}{o:Obj}{u:HO}{Z:St}{Y:List Sl}(r:RelE K e Z Y)(ha:e.H a=some (.frz o u)):RelE K (e.at a u) Z Y:=by
 refine⟨r.len,r.dat,fun i ds h=>?_,r.sep⟩
 obtain⟨b,vs,e1,e2,q,n1,n2⟩:=r.own i ds h
 refine⟨b,vs,e1,?_,q,n1,n2⟩
 show upd e.H a u b=some (.lst vs)
 rw[aD (fun z=>by rw[z,ha] at e2;cases e2)];exact e2
section
variable {X:Cx} {C:Cl} {tg iter:Expr} {g:Den} {β:cT} {s:aU} {body:List Stmt} {pos:Pos}
theorem Bq(hp:PassesOwn (model X.prog X.w) X.A X.env X.xe)(hc:X.calm=true)(hi:PD X C iter g)(hg:PDG X C tg β)(hb:PDB X C body s)
  (hs:∀x,foldedSetIterable iter X.env x=pure x:=by intro _;rfl):PDS X C (.For tg iter body [] pos) (qU g β s):=by
 refine fun e₀=>cQ (Oo (z_ hp hc (Tp hi) hg (vW hb) hs)) fun Dn Z H hw'=>?_
 obtain⟨e,U,Y,o,eH,r,q,k⟩:=hw'
 unfold qU at q
 cases q1:g Y U with
 | none=>rw[q1] at q;cases q
 | some p1 =>
  obtain⟨d1,U1⟩:=p1
  rw[q1] at q
  cases d1 with
  | obj n =>
   dsimp only at q
   cases q2:U[n]? with
   | none=>rw[q2] at q;cases q
   | some o2 =>
    rw[q2] at q
    cases o2 with
    | dK kvs0 =>
     cases q3:U1[n]? with
     | none=>rw[q3] at q;cases q
     | some o3 =>
      rw[q3] at q
      cases o3 with
      | dK kvs =>
       dsimp only at q
       have hn:n<e.α.length:=by rw[r.wf.ol];exact(List.getElem?_eq_some_iff.mp q2).1
       have hα:e.α[n]? = some e.α[n]:=List.getElem?_eq_getElem hn
       generalize e.α[n]=a at hα
       obtain⟨vs0,ha0,_⟩:=(r.wf.ob n a _ hα q2).2
       have nz:∀o u,e.H a≠some (.frz o u):=fun o u z=>by rw[ha0] at z;cases z
       have nz0:∀o u,e₀.H a≠some (.frz o u):=fun o u z=>nz o u (r.ext.fz a o u z)
       refine⟨a,by rw[<-eH];exact nz,e,U,Y,.obj n,U1,eH,r.wf,r.rel,q1,fun v e' x' w' i'=>?_⟩
       rw[Is] at i'
       obtain⟨a',hα',rfl⟩:=i'
       have ea:a'=a:=by
        obtain⟨more,z⟩:=x'.al
        rw[z,List.getElem?_append_left hn,hα] at hα'
        exact(Option.some.inj hα').symm
       subst ea
       obtain⟨vs,ha,hps⟩:=(w'.ob n a' _ hα' q3).2
       refine⟨a',vs,rfl,ha,fun ob=>?_⟩
       have nz':∀o u,e'.H a'≠some (.frz o u):=fun o u z=>by rw[ha] at z;cases z
       obtain⟨wf,xf⟩:=w'.at (o':=.fzK kvs) (ho:=.frz ob (.dK vs)) hα' (fun xs z=>nomatch z) ⟨vs,ob,aM,hps⟩ nz'
       have rf:=r.to (x'.trans xf) wf
       have hkeys:vs.map (·.1)=kvs.map (·.1):=hps.keys.symm
       have hlen:vs.length=kvs.length:=hps.len.symm
       cases q4:eF β s (kvs.map fun x=>ofK x.1) Y (U1.set n (.fzK kvs)) with
       | none=>rw[q4] at q;cases q
       | some o4 =>
        rw[q4] at q
        have ajz:∀{e5:E4} {U5:List OS} {Z5:St} {Y5:List Sl},o4=.nx Y5 U5->RelS X.K C e₀ e5 U5 Z5 Y5->e5.α[n]? = some a'->e5.H a'=some (.frz ob (.dK vs))->(Dn.thaw a').nx Z5 e5.H:=fun {e5 U5 Z5 Y5} eo r5 h1 h2=>by
         subst eo
         unfold FP at q
         dsimp only at q
         cases q5:qT n kvs U5 with
         | none=>rw[q5] at q;cases q
         | some U' =>
          rw[q5] at q
          cases q
          exact⟨ob,.dK vs,h2,(fun b z=>nomatch z),k (e5.at a' (.dK vs)) Z5 ⟨Ef (e₀:=e₀) r5.wf h1 h2 q5,Kf r5.rel h2,Bp r5.ext h2 nz0,r5.fresh⟩⟩
        have akW:∀{e5:E4} {U5:List OS} {v5:V} {d5:D},o4=.rt d5 U5->Ext e₀ e5->Wf X.K C e5 U5->Is X.K e5.α e5.F d5 v5->e5.α[n]? = some a'->e5.H a'=some (.frz ob (.dK vs))->(Dn.thaw a').rt v5 e5.H:=fun {e5 U5 v5 d5} eo x5 w5 i5 h1 h2=>by
         subst eo
         unfold FP at q
         dsimp only at q
         cases q5:qT n kvs U5 with
         | none=>rw[q5] at q;cases q
         | some U' =>
          rw[q5] at q
          cases q
          exact⟨ob,.dK vs,h2,(fun b z=>nomatch z),k (e5.at a' (.dK vs)) v5 (Bp x5 h2 nz0) (Ef (e₀:=e₀) w5 h1 h2 q5) i5⟩
        refine⟨fun i m Z H=>m=(kvs.map fun x=>ofK x.1).length-i/\i<=(kvs.map fun x=>ofK x.1).length/\∃e2 U2 Y2,e2.H=H/\RelS X.K C e₀ e2 U2 Z Y2/\e2.α[n]? = some a'/\e2.H a'=some (.frz ob (.dK vs))/\eF β s ((kvs.map fun x=>ofK x.1).drop i) Y2 U2=some o4,
         ⟨(kvs.map fun x=>ofK x.1).length,by simp,Nat.zero_le _,e'.at a' (.frz ob (.dK vs)),_,Y,rfl,rf,hα',aM,by simpa using q4⟩,?_⟩
        generalize hds:(kvs.map fun x=>ofK x.1)=ds at *
        have dl:ds.length=vs.length:=by rw[<-hds,List.length_map,hlen]
        rintro i m Z2 H2 ⟨rfl,hil,e2,U2,Y2,rfl,r2,hα2,ha2,q2'⟩
        by_cases hlt:i<ds.length
        ·have edrop:ds.drop i=ds[i]::ds.drop (i+1):=List.drop_eq_getElem_cons hlt
         rw[edrop] at q2'
         refine .inr ⟨⟨ha2,by rw[<-dl];exact hlt⟩,fun Z' H'=>∃e3 U3 Y3,e3.H=H'/\RelS X.K C e₀ e3 U3 Z' Y3/\e3.α[n]? = some a'/\e3.H a'=some (.frz ob (.dK vs))/\eF β s (ds.drop (i+1)) Y3 U3=some o4,fun Z' H' hN=>⟨ds.length-(i+1),by omega,rfl,hlt,hN⟩,fun x H' hy=>?_⟩
         obtain⟨rfl,kk,hk,rfl⟩:=hy
         have ekk:ds[i]? = some (ofK kk):=by
          have z1:(kvs.map (·.1))[i]? = some kk:=by rw[<-hkeys,List.getElem?_map];exact hk
          rw[<-hds]
          rw[List.getElem?_map] at z1 ⊢
          cases z2:kvs[i]? with
          | none=>rw[z2] at z1;cases z1
          | some kv=>rw[z2] at z1;cases z1;rfl
         have ekk':ds[i]=ofK kk:=by
          rw[List.getElem?_eq_getElem hlt] at ekk
          exact Option.some.inj ekk
         have ix:Is X.K e2.α e2.F ds[i] (kV kk):=by rw[ekk'];exact Ar kk
         unfold eF at q2'
         cases q5:β ds[i] Y2 with
         | none=>rw[q5] at q2';cases q2'
         | some Y3 =>
          rw[q5] at q2'
          dsimp only at q2'
          refine⟨e2,U2,Y2,_,Y3,rfl,r2.wf,r2.rel,ix,q5,fun Z3 r3 o3=>?_⟩
          have r3':=r2.by r3 o3
          obtain⟨e₁,hF,hα₁,r4,toE,toN,fz₁⟩:=r3'.mark
          have hl2:n<e2.α.length:=(List.getElem?_eq_some_iff.mp hα2).1
          have place:∀{e5:E4},Ext e₁ e5->e5.α[n]? = some a'/\e5.H a'=some (.frz ob (.dK vs)):=fun {e5} x5=>by
           refine⟨?_,x5.fz a' _ _ (fz₁ a' _ _ ha2)⟩
           obtain⟨m2,z2⟩:=x5.al
           rw[z2,hα₁,List.getElem?_append_left hl2]
           exact hα2
          have back:∀{e5:E4} {U5:List OS} {Z5:St} {Y5:List Sl},RelS X.K C e₁ e5 U5 Z5 Y5->RelS X.K C e₀ e5 U5 Z5 Y5:=fun {e5 U5 Z5 Y5} r5 =>
           ⟨r5.wf,r5.rel,toE _ r5.ext,fun i ds a h1 h2=>toN _ (r5.fresh i ds a h1 h2)⟩
          cases q6:s Y3 U2 with
          | none=>rw[q6] at q2';cases q2'
          | some o5 =>
           rw[q6] at q2'
           refine⟨e₁,e2,U2,Y3,o5,rfl,r4,q6,?_⟩
           cases o5 with
           | nx Y5 U5=>exact fun e5 Z5 r5=>⟨e5,U5,Y5,rfl,back r5,(place r5.ext).1,(place r5.ext).2,q2'⟩
           | ct Y5 U5=>exact fun e5 Z5 r5=>⟨e5,U5,Y5,rfl,back r5,(place r5.ext).1,(place r5.ext).2,q2'⟩
           | bk Y5 U5=>exact fun e5 Z5 r5=>ajz (Option.some.inj q2').symm (back r5) (place r5.ext).1 (place r5.ext).2
           | rt z U5=>exact fun e5 v5 x5 w5 i5=>akW (Option.some.inj q2').symm (toE _ x5) w5 i5 (place x5).1 (place x5).2
        ·have ei:i=ds.length:=by omega
         subst ei
         rw[List.drop_length] at q2'
         exact .inl ⟨⟨ha2,dl⟩,ajz (Option.some.inj q2').symm r2 hα2 ha2⟩
      | _=>cases q
    | _=>cases q
  | _=>cases q
end
end DL
namespace KS
open PySem PySem.W PySem.Calls PyProof.Rows
def qW:Option (Value×Value)->Array Value
 | none=>#[]
 | some (v,k)=>#[v,k]
def upS(s:Shared)(S:Addr)(xs:Array Value):Shared:={ s with heap:=s.heap.update S (Obj.mapSeq fun _=>xs) }
section
variable {prog:Program} {w:World} {A:Around} {R:Result->Shared->Prop} {I S:Addr} {kv:Value} {kw:List (Str×Value)} {n:Nat}
def HR(prog:Program)(w:World)(A:Around)(kv v:Value)(Q:Value->Shared->Prop)(s:Shared):Prop:=match kv with
 | .none=>Q v s
 | _=>∀E,wpAny (model prog w) A (call kv [v]) Q E s
theorem Kg(hkv:kv=.none\/∃q,kv=.ref q)(J:Nat->Option (Value×Value)->Shared->Prop)(JK:Nat->Option (Value×Value)->Value->Value->Shared->Prop)
  (hS:∀i b s,J i b s->∃c,s.heap.get? S=some (seqObj "list" (qW b) c))
  (hSK:∀i b v k s,JK i b v k s->∃c,s.heap.get? S=some (seqObj "list" (qW b) c))
  (item:∀i b s (Q:Option Value->Shared->Prop) (E:Value->Shared->Prop),i<n->J i b s->(∀v s1,HR prog w A.in1 kv v (fun k s2=>JK i b v k s2) s1->Q (some v) s1)->wpAny (model prog w) A.in1 (pyNext (.ref I)) Q E s)
  (cmp:∀i vb kb v k s (Q:Value->Shared->Prop) (E:Value->Shared->Prop),JK i (some (vb,kb)) v k s->(∀b:Bool,(b=true->J (i+1) (some (v,k)) (upS s S #[v,k]))->(b=false->J (i+1) (some (vb,kb)) s)->Q (.bool b) s)->wpAny (model prog w) A.in1 (richCompare .Lt k kb) Q E s)
  (put:∀i v k s,JK i none v k s->J (i+1) (some (v,k)) (upS s S #[v,k]))
  (done:∀b s (Q:Option Value->Shared->Prop) (E:Value->Shared->Prop),J n b s->(∀s1,(∀v k,b=some (v,k)->(∃c,s1.heap.get? S=some (seqObj "list" #[v,k] c))/\R (.ok (.ret v)) (upS s1 S #[]))->(b=none->∃x d,kw=[(x,d)]/\R (.ok (.ret d)) s1)->Q none s1)->wpAny (model prog w) A.in1 (pyNext (.ref I)) Q E s) :
  ∀(r i:Nat) (b:Option (Value×Value)) (s:Shared),n-i=r->i<=n->J i b s->codeAny (model prog w) A (.builtin "min.loop" ⟨[.ref I,kv,.ref S],kw⟩) R s:=by
 have hname:(toString "min" ++ toString ".loop":String) = "min.loop":=by decide
 intro r
 induction r with
 | zero =>
  intro i b s hr hi hJ
  have hin:i=n:=by omega
  subst hin
  obtain⟨c,oS⟩:=hS _ _ _ hJ
  refine codeAny_builtin PySem.F.entry_min_loop ?_
  rw[Around.under_plainId PySem.F.plain_min_loop _]
  show wpAny _ A.in1 (seqItems? (.ref S)>>=_) _ _ s
  refine wpAny_bind (wpAny_seqItems oS rfl ?_)
  show wpAny _ A.in1 (tryCatch (pyNext (.ref I)) _>>=_) _ _ s
  refine wpAny_bind (wpAny_tryCatch (done b s _ _ hJ fun s1 h1 h2=>?_))
  cases b with
  | none =>
   obtain⟨x,d,rfl,hR⟩:=h2 rfl
   show wpAny _ A.in1 (rule _>>=_) _ _ _
   refine wpAny_bind (wpAny_rule ?_)
   exact wpAny_pure hR
  | some p =>
   obtain⟨v,k⟩:=p
   obtain⟨⟨c',o'⟩,hR⟩:=h1 v k rfl
   show wpAny _ A.in1 (updateSeq S (fun _=>#[])>>=_) _ _ _
   refine wpAny_bind ?_
   refine wpAny_updateSeq o' rfl (wpAny_bind (wpAny_letGo (wpAny_pure ?_)))
   exact hR
 | succ r ih =>
  intro i b s hr hi hJ
  have hlt:i<n:=by omega
  obtain⟨c,oS⟩:=hS _ _ _ hJ
  refine codeAny_builtin PySem.F.entry_min_loop ?_
  rw[Around.under_plainId PySem.F.plain_min_loop _]
  show wpAny _ A.in1 (seqItems? (.ref S)>>=_) _ _ s
  refine wpAny_bind (wpAny_seqItems oS rfl ?_)
  show wpAny _ A.in1 (tryCatch (pyNext (.ref I)) _>>=_) _ _ s
  refine wpAny_bind (wpAny_tryCatch (item i b s _ _ hlt hJ fun v s1 hK=>?_))
  have rest:∀k s2,JK i b v k s2->wpAny (model prog w) A.in1 (do
    let old:=(qW b).toList
    let failing {α:Type} (first:List Value) (m:Sem α):Sem α:=m.tryCatch fun e=>do
     updateSeq S fun _=>#[]
     letGo (first++old.reverse) [e]
     throw e
    match old with
    | [oldItem,oldVal] =>
     let better <-failing [k,v] <| holding [v,k] do
      let answer <-richCompare .Lt k oldVal
      let yes <-holding [answer] (truthy answer)
      letGo [answer]
      pure yes
     if better then
      updateSeq S fun _=>#[v,k]
      letGo [oldVal,oldItem]
     else letGo [v,k]
    | _=>updateSeq S fun _=>#[v,k]
    again (.builtin (toString "min" ++ toString ".loop") ⟨[.ref I,kv,.ref S],kw⟩)) (fun fin s'=>match fin with
     | .done f=>R (.ok f) s'
     | .again c'=>c'.quiet=true/\codeAny (model prog w) A c' R s') (fun e s'=>R (.error e) s') s2:=by
   intro k s2 hJK
   obtain⟨c2,o2⟩:=hSK _ _ _ _ _ hJK
   cases b with
   | none =>
    show wpAny _ A.in1 (updateSeq S (fun _=>#[v,k])>>=_) _ _ _
    refine wpAny_bind ?_
    refine wpAny_updateSeq o2 rfl ?_
    rw[hname]
    exact wpAny_pure ⟨plainId_quiet PySem.F.plain_min_loop _,ih (i+1) _ _ (by omega) hlt (put i v k s2 hJK)⟩
   | some p =>
    obtain⟨vb,kb⟩:=p
    show wpAny _ A.in1 (tryCatch (holding [v,k] (richCompare .Lt k kb>>=_)) _>>=_) _ _ _
    refine wpAny_bind (wpAny_tryCatch (wpAny_holding (wpAny_bind (cmp i vb kb v k s2 _ _ hJK fun bb hT hF=>?_))))
    refine wpAny_bind (wpAny_holding (wpAny_truthy_bool ?_))
    refine wpAny_bind (wpAny_letGo (wpAny_pure ?_))
    cases bb with
    | true =>
     simp only[if_true]
     refine wpAny_bind ?_
     refine wpAny_updateSeq o2 rfl (wpAny_bind (wpAny_letGo ?_)) (by show 2<=sizeLine;decide)
     rw[hname]
     exact wpAny_pure ⟨plainId_quiet PySem.F.plain_min_loop _,ih (i+1) _ _ (by omega) hlt (hT rfl)⟩
    | false =>
     simp only[Bool.false_eq_true,if_false]
     refine wpAny_bind (wpAny_letGo ?_)
     rw[hname]
     exact wpAny_pure ⟨plainId_quiet PySem.F.plain_min_loop _,ih (i+1) _ _ (by omega) hlt (hF rfl)⟩
  rcases hkv with rfl |⟨q,rfl⟩
  ·exact rest v s1 hK
  ·show wpAny _ A.in1 (tryCatch (holding [v] (call (.ref q) [v])) _>>=_) _ _ _
   refine wpAny_bind (wpAny_tryCatch (wpAny_holding (wpAny_mono (hK (fun _ _=>False)) (fun k s2 hJK=>?_) fun _ _ hF=>hF.elim)))
   exact rest k s2 hJK
end
end KS
namespace L2
open PySem PySem.Spec PyProof.Rows KS PySem.W
def mIx(nss:List (List Int)):Nat->Nat
 | 0=>0
 | k+1=>if HT.lexLt (nss.getD (k+1) []) (nss.getD (mIx nss k) []) then k+1 else mIx nss k
theorem wH(nss:List (List Int)):∀k,mIx nss k<=k
 | 0=>Nat.le_refl _
 | k+1=>by
  unfold mIx
  split
  ·exact Nat.le_refl _
  ·exact Nat.le_succ_of_le (wH nss k)
section
variable {X:Cx} {pins:List (Addr×Obj)} {Z:St} {H:Hp} {s:Shared}
def Bst(nss:List (List Int))(xs vks:List V):Nat->Option (Value×Value)->Prop
 | 0,b=>b=none
 | i+1,b=>∃v k,b=some (v,k)/\RelV (xs.getD (mIx nss i) .non) v/\RelV (vks.getD (mIx nss i) .non) k
theorem Eg{vks:List V}{nss:List (List Int)}{H:Hp}{i j:Nat}(h:KeysAre H vks (nss.take i))(hj:j<i)(hn:j<nss.length):∃b,vks.getD j .non=.ref b/\H b=some (.tup ((nss.getD j []).map V.int)):=by
 have hl:=Paired.length h
 rw[List.length_take] at hl
 have hjv:j<vks.length:=by omega
 obtain⟨ns,e1,b,e2,e3,e4⟩:=Paired.get h (List.getElem?_eq_getElem hjv)
 rw[List.getElem?_take_of_lt hj,List.getElem?_eq_getElem hn] at e1
 cases e1
 exact⟨b,by rw[getD_get hjv,e2],by rw[getD_get hn];exact e3⟩
theorem Br{β:Type}{l:List β}{x d:β}{j:Nat}(h:j<l.length):(l++[x]).getD j d=l.getD j d:=by
 rw[getD_get h,getD_get (by rw[List.length_append];omega),List.getElem_append_left h]
theorem rD{β:Type}{l:List β}{x d:β}:(l++[x]).getD l.length d=x:=by
 rw[getD_get (by simp)];simp
theorem Ei{l:Addr}{xs:List V}{nss:List (List Int)}{Q:VK}{kv:Value}{kws kw:List (Str×Value)}{R:Result->Shared->Prop}(hkv:kv=.none\/∃q,kv=.ref q)(hh:X.A.handled=none)(hu:X.A.units+64<cLine)
  (W:Nat->List V->Hp->Prop)
  (KR:∀(pins':List (Addr×Obj)) (i:Nat) (x:V) (v:Value) (vks:List V) (H':Hp) (s':Shared),xs[i]? = some x->RelV x v->W i vks H'->Inv X pins' Z H' s'->HR X.prog X.w X.A.in1 kv v (fun k s2=>∃vk H2,Inv X pins' Z H2 s2/\RelV vk k/\W (i+1) (vks++[vk]) H2) s')
  (wl:∀i vks H',W i vks H'->H' l=some (.lst xs)) (wk:∀i vks H',W i vks H'->KeysAre H' vks (nss.take i)) (hn:nss.length=xs.length)
  (wend:∀vks H',W xs.length vks H'->xs≠[]->Q (xs.getD (mIx nss (xs.length-1)) .non) H')
  (wnil:∀vks H',W xs.length vks H'->xs=[]->∃x,kw=[(x,.none)]/\Q .non H')
  (hR:∀v s',EP X pins Z Q v s'->R (.ok (.ret v)) s')
  {I0 S0:Addr} (hIS:S0≠I0) (h0:∃H',Inv X pins Z H' s/\eZ X pins H' I0/\eZ X pins H' S0/\W 0 [] H') (hI0:s.heap.IsListIter I0 l 0) (hS0:∃c,s.heap.get? S0=some (seqObj "list" #[] c)) :
  codeAny (model X.prog X.w) X.A (.builtin "min.loop" ⟨[.ref I0,kv,.ref S0],kw⟩) R s:=by
 have hh1:X.A.in1.handled=none:=hh
 have hu1:X.A.in1.units<cLine:=by show X.A.units+1<cLine;omega
 have turn:∀{H':Hp} {s':Shared} {h2:Heap} {t2:Nat} {b:Addr},Inv X pins Z H' s'->eZ X pins H' b->(∀c o,c≠b->s'.heap.get? c=some o->h2.get? c=some o)->Inv X pins Z H' { s' with heap:=h2,toks:=t2 } :=
  fun I' f kp=>I'.turned kp f.1 f.2.1 f.2.2.2.1 f.2.2.2.2.1 f.2.2.2.2.2
 refine Kg (n:=xs.length) hkv
  (fun i b s'=>∃vks H',Inv X pins Z H' s'/\eZ X pins H' I0/\eZ X pins H' S0/\s'.heap.IsListIter I0 l i/\(∃c,s'.heap.get? S0=some (seqObj "list" (qW b) c))/\W i vks H'/\Bst nss xs vks i b)
  (fun i b v k s'=>∃vks vk x H',i<xs.length/\Inv X pins Z H' s'/\eZ X pins H' I0/\eZ X pins H' S0/\s'.heap.IsListIter I0 l (i+1)/\(∃c,s'.heap.get? S0=some (seqObj "list" (qW b) c))/\W (i+1) (vks++[vk]) H'/\vks.length=i/\xs[i]? = some x/\RelV x v/\RelV vk k/\Bst nss xs vks i b)
  (fun i b s' hw'=>by obtain⟨_,_,_,_,_,_,h,_⟩:=hw';exact h) (fun i b v k s' hw'=>by obtain⟨_,_,_,_,_,_,_,_,_,h,_⟩:=hw';exact h) ?item ?cmp ?put ?done xs.length 0 none s (by omega) (Nat.zero_le _) ?init
 case init =>
  obtain⟨H',I',f1,f2,hW⟩:=h0
  exact⟨[],H',I',f1,f2,hI0,hS0,hW,rfl⟩
 case item =>
  rintro i b s' Q' E' hi ⟨vks,H',I',f1,f2,hit,⟨c,oS⟩,hW,hB⟩ hQ
  obtain⟨its,r,⟨o,m,e1,e2,_,e3⟩,hz⟩:=I'.list (SqL.of (wl _ _ _ hW))
  have hlI:l≠I0:=fun z=>by have:=wl _ _ _ hW;rw[z,f1.1] at this;cases this
  have Wk:=Walks.list (prog:=X.prog) (w:=X.w) (A:=X.A.in1) hh1 I0 l hlI its.toArray
  have hsz:its.toArray.size=xs.length:=by rw[List.size_toArray];exact r.length.symm
  refine Wk.item i s' _ _ (by rw[hsz];exact hi) ⟨hit,⟨o,e1,e2,m,e3⟩⟩ fun v h' tk hP hst hk=>?_
  have ex:xs[i]? = some xs[i]:=List.getElem?_eq_getElem hi
  obtain⟨u,q1,q2⟩:=r.get ex
  have hv:its[i]? = some v:=by simpa using hP
  rw[hv] at q1
  cases q1
  have I1:Inv X pins Z H' { s' with heap:=h',toks:=tk }:=turn I' f1 fun c o hc q=>hk c o (by simpa using hc) q
  have oS1:=hk S0 _ (by simpa using hIS) oS
  obtain⟨oI,hoI,hoc,hod⟩:=id hst.1
  have pk:∀p∈pins++[(S0,seqObj "list" (qW b) c),(I0,oI)],h'.get? p.1=some p.2/\H' p.1=none/\p.1≠X.env.locals/\p.1∉X.fs/\∀v,p.2.data ≠ .cell v:=fun p hp=>by
   rcases List.mem_append.mp hp with z |z
   ·exact I1.pin p (List.mem_append_right _ z)
   ·rw[List.mem_cons,List.mem_singleton] at z
    rcases z with rfl |rfl
    ·exact⟨oS1,f2.1,f2.2.1,f2.2.2.1,fun v z=>nomatch z⟩
    ·exact⟨hoI,f1.1,f1.2.1,f1.2.2.1,fun v z=>by rw[hod] at z;cases z⟩
  have Ip:=I1.pins_of pk
  have lv:vks.length=i:=by
   have:=Paired.length (wk _ _ _ hW)
   rw[List.length_take] at this
   omega
  have goal:∀k s2,(∃vk H2,Inv X (pins++[(S0,seqObj "list" (qW b) c),(I0,oI)]) Z H2 s2/\RelV vk k/\W (i+1) (vks++[vk]) H2)->∃vks vk x H',i<xs.length/\Inv X pins Z H' s2/\eZ X pins H' I0/\eZ X pins H' S0/\s2.heap.IsListIter I0 l (i+1)/\(∃c,s2.heap.get? S0=some (seqObj "list" (qW b) c))/\W (i+1) (vks++[vk]) H'/\vks.length=i/\xs[i]? = some x/\RelV x v/\RelV vk k/\Bst nss xs vks i b:=by
   rintro k s2 ⟨vk,H2,I2,rk,hW2⟩
   have p1:=I2.pin (S0,seqObj "list" (qW b) c) (List.mem_append_right _ (List.mem_append_right _ (.head _)))
   have p2:=I2.pin (I0,oI) (List.mem_append_right _ (List.mem_append_right _ (.tail _ (.head _))))
   exact⟨vks,vk,xs[i],H2,hi,I2.unpinned,LC f1 p2.2.1,LC f2 p1.2.1,⟨oI,p2.1,hoc,hod⟩,⟨c,p1.1⟩,hW2,lv,ex,q2,rk,hB⟩
  have hK:=KR _ i xs[i] v vks H' _ ex q2 hW Ip
  refine hQ v _ ?_
  rcases hkv with rfl |⟨q,rfl⟩
  ·exact goal v _ hK
  ·exact fun E=>wpAny_mono (hK E) (fun k s2 z=>goal k s2 z) fun _ _ e=>e
 case cmp =>
  rintro i vb kb v k s' Q' E' ⟨vks,vk,x,H',hi,I',f1,f2,hit,⟨c,oS⟩,hW,lv,ex,rx,rk,hB⟩ hQ
  cases i with
  | zero=>cases hB
  | succ j =>
   obtain⟨v',k',e',r1,r2⟩:=hB
   cases e'
   have hm:=wH nss j
   have K:=wk _ _ _ hW
   obtain⟨b1,z1,t1⟩:=Eg (j:=j+1) K (by omega) (by omega)
   obtain⟨b2,z2,t2⟩:=Eg (j:=mIx nss j) K (by omega) (by omega)
   rw[<-lv,rD] at z1
   rw[Br (by omega)] at z2
   subst z1
   rw[z2] at r2
   cases rk
   cases r2
   obtain⟨its1,ra,p1,_⟩:=I'.tuple (SqT.of t1)
   obtain⟨its2,rb,p2,_⟩:=I'.tuple (SqT.of t2)
   refine HT.Fi p1 p2 (intsAre_of ra) (intsAre_of rb) hu1 (hQ _ (fun hT=>?_) fun hF=>?_)
   ·have s1:=Heap.SameBut.update s'.heap S0 (Obj.mapSeq fun _=>#[v,.ref b1])
    obtain⟨c2,hc2⟩:∃c2,(s'.heap.update S0 (Obj.mapSeq fun _=>#[v,.ref b1])).get? S0=some (seqObj "list" #[v,.ref b1] c2):=⟨_,get?_update_seq oS fun _=>#[v,.ref b1]⟩
    refine⟨vks++[.ref b1],H',turn (t2:=s'.toks) I' f2 fun c o hc q=>(s1.2 c hc).trans q,f1,f2,hit.at fun o q=>(s1.2 I0 hIS.symm).trans q,⟨c2,hc2⟩,hW,v,.ref b1,rfl,?_,?_⟩
    ·rw[show mIx nss (j+1)=j+1 from if_pos hT,List.getD_eq_getElem?_getD,ex];exact rx
    ·rw[show mIx nss (j+1)=j+1 from if_pos hT,<-lv,rD];rfl
   ·have em:mIx nss (j+1)=mIx nss j:=if_neg (by rw[hF];simp)
    refine⟨vks++[.ref b1],H',I',f1,f2,hit,⟨c,oS⟩,hW,vb,.ref b2,rfl,by rw[em];exact r1,?_⟩
    rw[em,Br (by omega),z2];rfl
 case put =>
  rintro i v k s' ⟨vks,vk,x,H',hi,I',f1,f2,hit,⟨c,oS⟩,hW,lv,ex,rx,rk,hB⟩
  cases i with
  | succ j=>obtain⟨v',k',e',r1,r2⟩:=hB;cases e'
  | zero =>
   have s1:=Heap.SameBut.update s'.heap S0 (Obj.mapSeq fun _=>#[v,k])
   obtain⟨c2,hc2⟩:∃c2,(s'.heap.update S0 (Obj.mapSeq fun _=>#[v,k])).get? S0=some (seqObj "list" #[v,k] c2):=⟨_,get?_update_seq oS fun _=>#[v,k]⟩
   have ez:vks=[]:=List.length_eq_zero_iff.mp lv
   subst ez
   exact⟨[]++[vk],H',turn (t2:=s'.toks) I' f2 fun c o hc q=>(s1.2 c hc).trans q,f1,f2,hit.at fun o q=>(s1.2 I0 hIS.symm).trans q,⟨c2,hc2⟩,hW,v,k,rfl,by rw[show mIx nss 0=0 from rfl,List.getD_eq_getElem?_getD,ex];exact rx,rk⟩
 case done =>
  rintro b s' Q' E' ⟨vks,H',I',f1,f2,hit,⟨c,oS⟩,hW,hB⟩ hQ
  obtain⟨its,r,⟨o,m,e1,e2,_,e3⟩,hz⟩:=I'.list (SqL.of (wl _ _ _ hW))
  have hlI:l≠I0:=fun z=>by have:=wl _ _ _ hW;rw[z,f1.1] at this;cases this
  have Wk:=Walks.list (prog:=X.prog) (w:=X.w) (A:=X.A.in1) hh1 I0 l hlI its.toArray
  have hsz:its.toArray.size=xs.length:=by rw[List.size_toArray];exact r.length.symm
  refine Wk.done s' _ _ ⟨by rw[hsz];exact hit,⟨o,e1,e2,m,e3⟩⟩ fun h' tk hk=>?_
  have I1:Inv X pins Z H' { s' with heap:=h',toks:=tk }:=turn I' f1 fun c o hc q=>hk c o (by simpa using hc) q
  have oS1:=hk S0 _ (by simpa using hIS) oS
  refine hQ _ (fun v k eb=>?_) fun eb=>?_
  ·subst eb
   refine⟨⟨c,oS1⟩,?_⟩
   have s1:=Heap.SameBut.update h' S0 (Obj.mapSeq fun _=>(#[]:Array Value))
   cases hx:xs.length with
   | zero=>rw[hx] at hB;cases hB
   | succ j =>
    rw[hx] at hB
    obtain⟨v',k',e',r1,r2⟩:=hB
    cases e'
    have hne:xs≠[]:=fun z=>by rw[z] at hx;cases hx
    have:=wend _ _ hW hne
    rw[hx] at this
    exact hR _ _ ⟨_,H',turn (t2:=tk) I1 f2 fun c o hc q=>(s1.2 c hc).trans q,r1,this⟩
  ·subst eb
   cases hx:xs.length with
   | succ j=>rw[hx] at hB;obtain⟨v',k',e',_⟩:=hB;cases e'
   | zero =>
    obtain⟨x,ek,hq⟩:=wnil _ _ hW (List.length_eq_zero_iff.mp hx)
    exact⟨x,.none,ek,hR _ _ ⟨.non,H',I1,rfl,hq⟩⟩
end
end L2
namespace L2
open PySem PySem.Spec PyProof.Rows KS PySem.W
theorem CP(a v d:Value):argsOk "min" ⟨[a],[(Str.ofString "key",v),(Str.ofString "default",d)]⟩:=by unfold argsOk;kernel_rfl
section
variable {X:Cx} {k:Nat} {f:Addr} {fd:FuncData} {ps:List Str} {sp:Sp} {pins:List (Addr×Obj)} {Z:St} {H:Hp} {s:Shared}
theorem Oq{x:V}{v:Value}{P:V->Hp->Prop}(G:FnOk X.prog X.w X.K X.mg X.base CX0 k f fd ps sp)(hr:Room (k+1) X.A)(hb:Binds X.K fd ps [])(I:Inv X pins Z H s)(ru:RelV x v)(hsp:sp [x] H P E0)(E:Value->Shared->Prop) :
  wpAny (model X.prog X.w) X.A.in1 (call (.ref f) [v]) (fun u s2=>∃vk H2,Inv X pins Z H2 s2/\RelV vk u/\P vk H2) E s:=by
 have hlen:([v]++([]:List Value)).length=ps.length:=by have:=G.len _ _ _ _ hsp;simpa using this
 refine wpAny_call (codeAny_mono (G.run X.A.in1 X.stack s H ⟨[v],[]⟩ ([v]++[]) [x] _ E0 (Room.in1 hr) I.env0.in1 (hb s [v] I.kIn hlen) (.cons ru .nil) hsp) fun r s'' hq=>?_)
 cases r with
 | error e=>exact hq.elim
 | ok fl =>
  cases fl with
  | ret kv=>exact I.after hq
  | next=>exact False.elim hq
  | brk=>exact False.elim hq
  | cont=>exact False.elim hq
theorem y_{l:Addr}{xs:List V}{kv:Value}{kws kw:List (Str×Value)}{Q:Value->Shared->Prop}{E:Value->Shared->Prop}(I:Inv X pins Z H s)(hl:H l=some (.lst xs))
  (ha:argsOk "min" ⟨[.ref l],kws⟩) {ok od:Option Value} (hb:Builtin.Builtins.bindParams "min" ["key","default"] 0 ⟨[],kws⟩=pure [ok,od]) (ek:ok.getD .none=kv) (ed:(od.toList.map fun d=>(Str.ofString "default",d))=kw)
  (go:∀(I0 S0:Addr) (s1:Shared) (R:Result->Shared->Prop),S0≠I0->Inv X pins Z H s1->eZ X pins H I0->eZ X pins H S0->s1.heap.IsListIter I0 l 0->(∃c,s1.heap.get? S0=some (seqObj "list" #[] c))->(∀v s',Q v s'->R (.ok (.ret v)) s') ->
   codeAny (model X.prog X.w) X.A (.builtin "min.loop" ⟨[.ref I0,kv,.ref S0],kw⟩) R s1) :
  wpAny (model X.prog X.w) X.A (call (.builtin "min") [.ref l] kws) Q E s:=by
 have hname:(toString "min" ++ toString ".loop":String) = "min.loop":=by decide
 obtain⟨its,r,⟨o,m,e1,e2,_,e3⟩,hz⟩:=I.list (SqL.of hl)
 refine kmk_tree PySem.F.kind_min PySem.F.plain_min PySem.F.entry_min ha ?_
 show wpAny _ X.A.in1 (Builtin.Builtins.bindParams "min" ["key","default"] 0 ⟨[],kws⟩>>=_) _ _ s
 refine wpAny_bind (wpAny_of_eq hb ?_)
 refine wpAny_bind (wpAny_pure ?_)
 refine wpAny_bind (wpAny_pyIter_list ⟨o,e1,e2,m,e3⟩ ?_)
 refine wpAny_bind (wpAny_newList ?_ (Nat.zero_le _))
 rw[hname,ek]
 have ed':(od.toList.map fun d=>(("default":Str),d))=kw:=ed
 rw[ed']
 have gI:((s.heap.push { cls:=.type "list_iterator",data:=.fields #[.ref l,.int 0 0] }).push (seqObj "list" #[] 0)).get? s.heap.objs.size=some { cls:=.type "list_iterator",data:=.fields #[.ref l,.int 0 0] } :=
  Heap.get?_push_of_some _ (Heap.get?_push_size _ rfl)
 have gS:((s.heap.push { cls:=.type "list_iterator",data:=.fields #[.ref l,.int 0 0] }).push (seqObj "list" #[] 0)).get? (s.heap.push { cls:=.type "list_iterator",data:=.fields #[.ref l,.int 0 0] }).objs.size=some (seqObj "list" #[] 0):=Heap.get?_push_size _ rfl
 have hS:(s.heap.push { cls:=.type "list_iterator",data:=.fields #[.ref l,.int 0 0] }).objs.size=s.heap.objs.size+1:=size_push' ..
 have hSI:(s.heap.push { cls:=.type "list_iterator",data:=.fields #[.ref l,.int 0 0] }).objs.size≠s.heap.objs.size:=by rw[hS];exact Nat.ne_of_gt (Nat.lt_succ_self _)
 have hle:s.heap.objs.size<=(s.heap.push { cls:=.type "list_iterator",data:=.fields #[.ref l,.int 0 0] }).objs.size:=by rw[hS];exact Nat.le_succ _
 refine wpAny_pure ⟨plainId_quiet PySem.F.plain_min_loop _,?_⟩
 exact go _ _ _ _ hSI (I.kept (t':=s.toks) fun b u q=>Heap.get?_push_of_some _ (Heap.get?_push_of_some _ q)) (I.fpOk (Nat.le_refl _) (I.hok.fresh (Nat.le_refl _))) (I.fpOk hle (I.hok.fresh hle)) ⟨_,gI,rfl,rfl⟩ ⟨0,gS⟩ fun v s' q=>q
theorem HS(hh:X.A.handled=none)(hu:X.A.units+64<cLine):gG X (.builtin "min") (fun xs H Q=>∃l ys nss,xs=[V.ref l]/\H l=some (.lst ys)/\ys≠[]/\KeysAre H ys nss/\Q (ys.getD (mIx nss (ys.length-1)) .non) H):=by
 intro pins s Z H xs us Q I r h
 obtain⟨l,ys,nss,rfl,hl,hne,hK,fin⟩:=h
 obtain⟨u,rfl,ru⟩:=vals1 r
 cases ru
 have hn:nss.length=ys.length:=(Paired.length hK).symm
 refine y_ (kv:=.none) (kw:=[]) I hl (PySem.F.args_min1 _) (ok:=none) (od:=none) rfl rfl rfl fun I0 S0 s1 R hne' I1 f1 f2 hI hS hR=>?_
 have tk:∀i,KeysAre H (ys.take i) (nss.take i):=fun i=>by
  have:∀(ys:List V) (nss:List (List Int)) (i:Nat),KeysAre H ys nss->KeysAre H (ys.take i) (nss.take i):=fun ys nss i h=>by
   induction h generalizing i with
   | nil=>rw[List.take_nil,List.take_nil];exact .nil
   | cons r t ih =>
    cases i with
    | zero=>exact .nil
    | succ i=>exact .cons r (ih i)
  exact this ys nss i hK
 refine Ei (Q:=Q) (kws:=[]) (.inl rfl) hh hu (fun i vks H'=>H'=H/\i<=ys.length/\vks=ys.take i) ?_ (fun i vks H' ⟨e,_⟩=>by rw[e];exact hl) (fun i vks H' ⟨e,_,e2⟩=>by rw[e,e2];exact tk i) hn (fun vks H' ⟨e,_⟩ _=>by rw[e];exact fin) (fun vks H' _ z=>absurd z hne) hR hne' ⟨H,I1,f1,f2,rfl,Nat.zero_le _,rfl⟩ hI hS
 rintro pins' i x v vks H' s' ex rx ⟨rfl,hi,rfl⟩ I'
 have hix:i<ys.length:=(List.getElem?_eq_some_iff.mp ex).1
 refine⟨x,H',I',rx,rfl,hix,?_⟩
 rw[List.take_succ,ex];rfl
end
end L2
namespace DL
open PySem PySem.Spec PyProof.Rows L2
def nG:List D->Option (List (List Int))
 | []=>some []
 | d::ds=>match lY d with
  | some ns=>match nG ds with
   | some nss=>some (ns::nss)
   | none=>none
  | none=>none
theorem Bs:∀{ds:List D} {nss:List (List Int)},nG ds=some nss->ds=nss.map (fun ns=>D.tup (ns.map D.int))/\∀ns∈nss,ns≠[]
 | [],nss,h=>by cases h;exact⟨rfl,fun _ h=>nomatch h⟩
 | d::ds,nss,h=>by
  unfold nG at h
  cases q:lY d with
  | none=>rw[q] at h;cases h
  | some ns =>
   rw[q] at h
   dsimp only at h
   cases q2:nG ds with
   | none=>rw[q2] at h;cases h
   | some ms =>
    rw[q2] at h
    cases h
    obtain⟨e1,e2⟩:=xW q
    obtain⟨e3,e4⟩:=Bs q2
    refine⟨by rw[e1,e3];rfl,fun m hm=>?_⟩
    rcases List.mem_cons.mp hm with rfl |hm
    ·exact e2
    ·exact e4 m hm
def minD(nss:List (List Int))(ds:List D):D:=ds.getD (mIx nss (ds.length-1)) .non
def FQ(g:Den):Den:=fun Y U=>match g Y U with
 | some (.lst (d::ds),U1)=>match nG (d::ds) with
  | some nss=>some (minD nss (d::ds),U1)
  | none=>none
 | _=>none
def zP(F:bw)(g:Den):Den:=fun Y U=>match g Y U with
 | some (.lst ds,U1)=>match cO F ds U1 with
  | some (nss,U2)=>some (minD nss ds,U2)
  | none=>none
 | _=>none
section
variable {X:Cx} {C:Cl} {n:Str} {p pos kpos npos kpos2 cpos:Pos} {a:Expr} {g:Den} {k:Nat}
theorem Ej{K:PySem.W.Frag}{α:List Addr}{F:Hp}{ds:List D}{vs:List V}(h:IsL K α F ds vs)(i:Nat):Is K α F (ds.getD i .non) (vs.getD i .non):=by
 by_cases hi:i<ds.length
 ·obtain⟨v,e1,e2⟩:=h.get (List.getElem?_eq_getElem hi)
  rw[getD_get hi,List.getD_eq_getElem?_getD,e1]
  exact e2
 ·have hl:=h.length
  rw[List.getD_eq_getElem?_getD,List.getElem?_eq_none (Nat.le_of_not_lt hi),List.getD_eq_getElem?_getD,List.getElem?_eq_none (by omega)]
  show Is K α F .non .non
  rw[Is]
theorem Rr(hr:Room k X.A)(hg:Gl X n)(hm:X.mg n=none)(hv:bootBuiltins n=some (.builtin "min"))(ho:PD X C a g)(hn:n ≠ "__name__":=by decide)(hdb:(n==("__debug__":Str))=false:=by decide)
  (he:starEach [a] X.env=(false,eval a X.env)::starEach [] X.env:=by rfl) (hpl:(backTo pos (starEach [] X.env)).any (·.1)=false:=by rfl):PD X C (.Call (.Name n p) [a] [] pos) (FQ g) :=
 bx (gb (HS hr.hd hr.units) hg hm hv (bR ho dH he) hn hdb he hpl) fun Z H Q hw'=>by
  obtain⟨e,U,Y,d,U',eH,w,rl,q,kk⟩:=hw'
  unfold FQ at q
  cases q1:g Y U with
  | none=>rw[q1] at q;cases q
  | some p1 =>
   obtain⟨d1,U1⟩:=p1
   rw[q1] at q
   cases d1 with
   | lst ds =>
    cases ds with
    | nil=>cases q
    | cons d0 ds =>
     dsimp only at q
     cases q2:nG (d0::ds) with
     | none=>rw[q2] at q;cases q
     | some nss =>
      rw[q2] at q
      cases q
      refine⟨e,U,Y,_,_,eH,w,rl,q1,fun v e1 x1 w1 i1=>?_⟩
      rw[Is] at i1
      obtain⟨l,vs,rfl,hF,il⟩:=i1
      have len:=il.length
      obtain⟨em,ne⟩:=Bs q2
      have il':=il
      rw[em] at il'
      refine⟨l,vs,nss,rfl,w1.fh _ _ hF,fun z=>?_,xX w1.fh ne il',kk _ e1 x1 w1 ?_⟩
      ·rw[z] at len;simp at len
      ·have hb:=Ej il (mIx nss ((d0::ds).length-1))
       rw[<-len];exact hb
   | _=>cases q
theorem Ot{m:Str}{F:bw}{j:Nat}(G:Fn X.prog X.w X.K X.mg X.base C k m F)(hr:Room (k+2) X.A)(hgm:Gl X m)(hg:Gl X n)(hm:X.mg n=none)(hv:bootBuiltins n=some (.builtin "min"))(ho:PD X C a g)(hn:n ≠ "__name__":=by decide)(hdb:(n==("__debug__":Str))=false:=by decide)(hdm:(m==("__debug__":Str))=false:=by decide)
  (he:starEach [a] X.env=(false,eval a X.env)::starEach [] X.env:=by rfl) (he2:backTo pos (starEach [a] X.env)=(false,eval a X.env)::backTo pos (starEach [] X.env):=by rfl) (hpl:(backTo pos (starEach [a] X.env)).any (·.1)=false:=by rfl)
  (hall:(backToKw pos (keywordEach [⟨some (Str.ofString "key"),.Name m npos,kpos⟩,⟨some (Str.ofString "default"),.Constant .none j cpos,kpos2⟩] X.env)).all (·.1.isSome)=true:=by rfl) (hkw:(backToKw pos (keywordEach [⟨some (Str.ofString "key"),.Name m npos,kpos⟩,⟨some (Str.ofString "default"),.Constant .none j cpos,kpos2⟩] X.env)).any (·.1.isNone)=false:=by rfl)
  (hks:(backToKw pos (keywordEach [⟨some (Str.ofString "key"),.Name m npos,kpos⟩,⟨some (Str.ofString "default"),.Constant .none j cpos,kpos2⟩] X.env)).filterMap (·.1)=[Str.ofString "key",Str.ofString "default"]:=by rfl):PD X C (.Call (.Name n p) [a] [⟨some (Str.ofString "key"),.Name m npos,kpos⟩,⟨some (Str.ofString "default"),.Constant .none j cpos,kpos2⟩] pos) (zP F g):=by
 obtain⟨f,fd,ps,hf,hkp,hb,ok⟩:=G.ex
 rintro pins s Z H Q I ⟨e,U,Y,d,U',eH,w,rl,q,kk⟩
 unfold zP at q
 cases q1:g Y U with
 | none=>rw[q1] at q;cases q
 | some p1 =>
  obtain⟨d1,U1⟩:=p1
  rw[q1] at q
  cases d1 with
  | lst ds =>
   dsimp only at q
   cases q2:cO F ds U1 with
   | none=>rw[q2] at q;cases q
   | some p2 =>
    obtain⟨nss,U2⟩:=p2
    rw[q2] at q
    cases q
    have hl:=yV q2
    refine wpAny_Call_Name_kw (nW I hg hm hv ?_ hn hdb)
    refine callWith_kw ?_ he2 hpl hall hkw
    rw[hks]
    refine thn ((bR ho dH he) pos pins s Z H (fun us H1=>∃l vs e1,us=[V.ref l]/\e1.H=H1/\Ext e e1/\Wf X.K C e1 U1/\e1.F l=some (.lst vs)/\IsL X.K e1.α e1.F ds vs) I ?_) fun us s1 ⟨vs,H1,I1,r1,l,ys,e1,z1,z2,x1,w1,hF,il⟩=>?_
    ·refine⟨e,U,Y,_,_,eH,w,rl,q1,fun v e1 x1 w1 i1=>?_⟩
     rw[Is] at i1
     obtain⟨l,vs,rfl,hF,il⟩:=i1
     exact⟨l,vs,e1,rfl,rfl,x1,w1,hF,il⟩
    ·subst z1
     subst z2
     obtain⟨u,rfl,ru⟩:=vals1 r1
     cases ru
     refine thn (Dl (jE hgm hf (v:=.ref f) rfl hdm) (Dl Gs QD) pos pins s1 Z e1.H (fun zs H2=>zs=[V.ref f,V.non]/\H2=e1.H) I1 ⟨rfl,rfl⟩) fun ws s2 hw'=>?_
     obtain⟨zs,H2,I2,r2,y1,y2⟩:=hw'
     subst y1
     subst y2
     obtain⟨u2,ur,rfl,ru2,rt⟩:∃u2 ur,ws=u2::ur/\RelV (V.ref f) u2/\Vals [V.non] ur:=by cases r2 with |cons a b=>exact⟨_,_,rfl,a,b⟩
     obtain⟨u3,rfl,ru3⟩:=vals1 rt
     cases ru2
     cases ru3
     have len:=il.length
     refine y_ (kv:=.ref f) (kw:=[(Str.ofString "default",.none)]) I2 (w1.fh _ _ hF) (CP _ _ _) (ok:=some (.ref f)) (od:=some .none) rfl rfl rfl fun I0 S0 s3 R hne' I3 f1 f2 hI hS hR=>?_
     refine Ei (Q:=Q) (xs:=ys) (nss:=nss) (kws:=[]) (.inr ⟨f,rfl⟩) hr.hd hr.units (fun i vks H'=>∃e' ms Uqi,e'.H=H'/\Ext e1 e'/\Wf X.K C e' Uqi/\i<=ds.length/\cO F (ds.take i) U1=some (ms,Uqi)/\ms=nss.take i/\cO F (ds.drop i) Uqi=some (nss.drop i,U')/\IsL X.K e'.α e'.F (ms.map fun ns=>D.tup (ns.map D.int)) vks) ?_
      (fun i vks H' hw'=>by obtain⟨e',ms,Uqi,eh,x',w',_⟩:=hw';rw[<-eh];exact w'.fh _ _ (x'.ff _ _ hF))
      (fun i vks H' hw'=>by
       obtain⟨e',ms,Uqi,eh,x',w',hi,k1,k2,k3,ik⟩:=hw'
       rw[<-eh,<-k2]
       exact xX w'.fh (fun ns hns=>Bg q2 ns (by rw[k2] at hns;exact List.mem_of_mem_take hns)) ik) (by omega) ?_ ?_ hR hne' ⟨e1.H,I3,f1,f2,e1,[],U1,rfl,Ext.refl e1,w1,Nat.zero_le _,rfl,rfl,q2,.nil⟩ hI hS
     ·rintro pins' i x v vks H' s' ex rx ⟨e',ms,Uqi,rfl,x',w',hi,k1,k2,k3,ik⟩ I'
      have hix:i<ds.length:=by rw[len];exact(List.getElem?_eq_some_iff.mp ex).1
      obtain⟨v',ev,iv⟩:=il.get (List.getElem?_eq_getElem hix)
      rw[ex] at ev
      cases ev
      rw[List.drop_eq_getElem_cons hix] at k3
      have hin:i<nss.length:=by omega
      rw[List.drop_eq_getElem_cons hin] at k3
      unfold cO at k3
      cases t1:F [ds[i]] Uqi with
      | none=>rw[t1] at k3;cases k3
      | some pp =>
       obtain⟨kd,Uqj⟩:=pp
       rw[t1] at k3
       dsimp only at k3
       cases t2:lY kd with
       | none=>rw[t2] at k3;cases k3
       | some ns =>
        rw[t2] at k3
        dsimp only at k3
        cases t3:cO F (ds.drop (i+1)) Uqj with
        | none=>rw[t3] at k3;cases k3
        | some p3 =>
         obtain⟨mss,Uqk⟩:=p3
         rw[t3] at k3
         simp only[Option.some.injEq,Prod.mk.injEq,List.cons.injEq] at k3
         obtain⟨⟨n1,n2⟩,n3⟩:=k3
         obtain⟨ms',Ui',c1,c2,c3⟩:=yU (i:=i+1) q2 (by omega)
         have cj:Ui'=Uqj:=by
          have:ds.take (i+1)=ds.take i++[ds[i]]:=List.take_succ_eq_append_getElem hix
          rw[this] at c1
          exact(wz k1 t1 c1).symm
         rw[cj] at c1 c3
         refine fun E=>Oq ok (hr.mono (by omega)) hb I' rx ?_ E
         refine⟨e',Uqi,[ds[i]],kd,Uqj,rfl,w',.cons (Is.ext x' iv) .nil,t1,fun v e'' x'' w'' i''=>⟨e'',ms',Uqj,rfl,x'.trans x'',w'',by omega,c1,c2,c3,?_⟩⟩
         rw[c2,List.take_succ_eq_append_getElem hin,List.map_append,<-k2]
         refine IsL.append (ik.ext x'') (.cons ?_ .nil)
         rw[<-n1]
         show Is X.K e''.α e''.F (D.tup (ns.map D.int)) v
         rw[<-(xW t2).1]
         exact i''
     ·rintro vks H' ⟨e',ms,Uqi,rfl,x',w',hi,k1,k2,k3,ik⟩ hne
      rw[<-len,List.drop_length] at k3
      have hUq:Uqi=U':=by
       have e0:some (([]:List (List Int)),Uqi)=some (nss.drop ds.length,U'):=k3
       simp only[Option.some.injEq,Prod.mk.injEq] at e0
       exact e0.2
      subst hUq
      refine kk _ e' (x1.trans x') w' ?_
      have hb:=Ej (il.ext x') (mIx nss (ds.length-1))
      rw[<-len];exact hb
     ·rintro vks H' ⟨e',ms,Uqi,rfl,x',w',hi,k1,k2,k3,ik⟩ hne
      have hd0:ds=[]:=List.length_eq_zero_iff.mp (by rw[len,hne];rfl)
      subst hd0
      rw[hne] at k3
      have hUq:Uqi=U':=by
       have e0:some (([]:List (List Int)),Uqi)=some (nss.drop 0,U'):=k3
       simp only[Option.some.injEq,Prod.mk.injEq] at e0
       exact e0.2
      subst hUq
      refine⟨_,rfl,kk _ e' (x1.trans x') w' ?_⟩
      show Is X.K e'.α e'.F .non .non
      rw[Is]
  | _=>cases q
end
end DL
namespace DL
open PySem PySem.Spec PyProof.Rows L2
section
variable {X:Cx} {C:Cl} {k:Nat} {F:bw} {n:Str} {p pos:Pos}
theorem za(G:Fn X.prog X.w X.K X.mg X.base C k n F)(hr:Room k X.A)(hg:Gl X n)(hdb:(n==("__debug__":Str))=false:=by decide):PD X C (.Call (.Name n p) [] [] pos) (aJ F aA):=by
 obtain⟨f,fd,ps,hm,hk,hb,ok⟩:=G.ex
 exact bx (Jh ok hr hg hm hk hb .nil vK hdb) fun Z H Q hw=>by
  obtain⟨e,U,Y,d,U',eH,w,rl,q,kk⟩:=hw
  subst eH
  exact⟨e,U,[],d,U',rfl,w,.nil,q,fun v e'' x'' w'' i''=>kk v e'' x'' w'' i''⟩
end
def jN:List (Str×Den)->List Sl->List OS->Option (List (Key×D)×List OS)
 | [],_,U=>some ([],U)
 | (z,g)::r,Y,U=>match g Y U with
  | some (d,U1)=>match jN r Y U1 with
   | some (kvs,U2)=>some ((.inr z,d)::kvs,U2)
   | none=>none
  | none=>none
def sS(kvs more:List (Key×D)):List (Key×D):=more.foldl (fun acc kv=>putD acc kv.1 kv.2) kvs
def wI(kgs:List (Str×Den)):Den:=fun Y U=>match jN kgs Y (U++[.dK []]) with
 | some (kvs,U')=>(match U'[U.length]? with
  | some (.dK [])=>some (.obj U.length,U'.set U.length (.dK (sS [] kvs)))
  | _=>none)
 | none=>none
theorem cz.merge{K:PySem.W.Frag}{α:List Addr}{F:Hp}:∀{more:List (Key×D)} {ms:List (Key×V)} {kvs:List (Key×D)} {vs:List (Key×V)},cz K α F more ms->cz K α F kvs vs->cz K α F (sS kvs more) (nY vs ms)
 | [],ms,kvs,vs,h,h2=>by rw[show ms=[] from h];exact h2
 | p::r,ms,kvs,vs,⟨v,t,e,i,q⟩,h2=>by
  rw[e]
  exact cz.merge (kvs:=putD kvs p.1 p.2) (vs:=putK vs p.1 v) q (h2.put p.1 i)
section
variable {X:Cx} {C:Cl} {pos:Pos}
theorem Ek{K:PySem.W.Frag}{Z:St}{Y:List Sl}:∀{kgs:List (Str×Den)} {e:E4} {U U':List OS} {kvs:List (Key×D)} {Q:List (V×V)->Hp->Prop},jN kgs Y U=some (kvs,U')->Wf K C e U->RelE K e Z Y ->
  (∀e' ps,Ext e e'->Wf K C e' U'->cz K e'.α e'.F kvs ps->Q (ps.map fun kv=>(kV kv.1,kv.2)) e'.H)->vH (kgs.map fun kg=>(tC (.str kg.1),tD K C kg.2)) Z e.H Q
 | [],e,U,U',kvs,Q,h,w,rl,kk=>by cases h;exact kk e [] (Ext.refl e) w rfl
 | (z,g)::r,e,U,U',kvs,Q,h,w,rl,kk=>by
  unfold jN at h
  cases q1:g Y U with
  | none=>rw[q1] at h;cases h
  | some p1 =>
   obtain⟨d,U1⟩:=p1
   rw[q1] at h
   dsimp only at h
   cases q2:jN r Y U1 with
   | none=>rw[q2] at h;cases h
   | some p2 =>
    obtain⟨kvs2,U2⟩:=p2
    rw[q2] at h
    cases h
    refine⟨e,U,Y,d,U1,rfl,w,rl,q1,fun v e1 x1 w1 i1=>?_⟩
    refine Ek q2 w1 (rl.ext x1) fun e2 ps x2 w2 ip=>?_
    exact kk e2 ((.inr z,v)::ps) (x1.trans x2) w2 ⟨v,ps,rfl,i1.ext x2,ip⟩
inductive PDP(X:Cx)(C:Cl):List (Option Expr)->List Expr->List (Str×Den)->Prop
 | nil:PDP X C [] [] []
 | cons {z:Str} {j:Nat} {p:Pos} {x:Expr} {g:Den} {ks:List (Option Expr)} {vs:List Expr} {kgs:List (Str×Den)}:PD X C x g->PDP X C ks vs kgs->PDP X C (some (.Constant (.str z) j p)::ks) (x::vs) ((z,g)::kgs)
theorem PDP.pps{ks:List (Option Expr)}{vs:List Expr}{kgs:List (Str×Den)}(h:PDP X C ks vs kgs):PPs X pos ks vs (kgs.map fun kg=>(tC (.str kg.1),tD X.K C kg.2)):=by
 induction h with
 | nil=>exact M_
 | cons h1 _ ih=>exact Ju zV h1 ih
theorem PDP.all{ks:List (Option Expr)}{vs:List Expr}{kgs:List (Str×Den)}(h:PDP X C ks vs kgs):ks.all (·.isSome)=true/\ks.length=vs.length/\kgs.length=ks.length:=by
 induction h with
 | nil=>exact⟨rfl,rfl,rfl⟩
 | cons _ _ ih=>exact⟨by rw[List.all_cons,ih.1];rfl,by rw[List.length_cons,List.length_cons,ih.2.1],by rw[List.length_cons,List.length_cons,ih.2.2]⟩
theorem zb{Y:List Sl}:∀{kgs:List (Str×Den)} {U U':List OS} {kvs:List (Key×D)},jN kgs Y U=some (kvs,U')->kvs.length=kgs.length
 | [],_,_,_,h=>by cases h;rfl
 | (z,g)::r,U,U',kvs,h=>by
  unfold jN at h
  cases q1:g Y U with
  | none=>rw[q1] at h;cases h
  | some p1 =>
   obtain⟨d,U1⟩:=p1
   rw[q1] at h
   dsimp only at h
   cases q2:jN r Y U1 with
   | none=>rw[q2] at h;cases h
   | some p2 =>
    obtain⟨kvs2,U2⟩:=p2
    rw[q2] at h
    cases h
    rw[List.length_cons,List.length_cons,zb q2]
theorem Ou{ks:List (Option Expr)}{vs:List Expr}{kgs:List (Str×Den)}(h:PDP X C ks vs kgs)(h0:ks≠[])(h15:ks.length<=15):PD X C (.Dict ks vs pos) (wI kgs) :=
 bx (Nb h.pps h.all.1 h.all.2.1 h0 h15) fun Z H Q hw'=>by
  obtain⟨e,U,Y,d,U',eH,w,rl,q,kk⟩:=hw'
  subst eH
  intro p hp
  unfold wI at q
  cases q1:jN kgs Y (U++[.dK []]) with
  | none=>rw[q1] at q;cases q
  | some p1 =>
   obtain⟨kvs,U1⟩:=p1
   rw[q1] at q
   dsimp only at q
   cases q2:U1[U.length]? with
   | none=>rw[q2] at q;cases q
   | some o =>
    rw[q2] at q
    cases o with
    | dK l =>
     cases l with
     | cons _ _=>cases q
     | nil =>
      cases q
      obtain⟨w',x'⟩:=w.obj (H':=upd e.H p (.dK [])) (o:=.dK []) hp (fun b u hb=>by rw[aD (aP hb hp)];exact hb) (by rw[aM];exact⟨by simp,fun xs z=>nomatch z⟩) ⟨[],aM,rfl⟩
      refine Ek q1 w' (rl.ext x') fun e2 ps x2 w2 ip=>?_
      have hα:e2.α[U.length]? = some p:=by
       obtain⟨more,em⟩:=x2.al
       rw[em,List.getElem?_append_left]
       ·show(e.α++[p])[U.length]? = some p
        rw[<-w.ol];simp
       ·show U.length<(e.α++[p]).length
        rw[<-w.ol];simp
      obtain⟨vs0,h1,h2⟩:=(w2.ob _ p _ hα q2).2
      have e0:vs0=[]:=h2
      subst e0
      refine⟨h1,ps,rfl,?_,?_⟩
      ·rw[<-ip.len,zb q1,h.all.2.2];exact h15
      ·obtain⟨w3,x3⟩:=w2.at (o':=.dK (sS [] kvs)) (ho:=.dK (nY [] ps)) hα (fun xs z=>nomatch z) ⟨_,aM,ip.merge rfl⟩ fun o u z=>by rw[h1] at z;cases z
       refine kk _ (e2.at p _) ((x'.trans x2).trans x3) w3 ?_
       rw[Is]
       exact⟨p,hα,rfl⟩
    | _=>cases q
end
end DL
namespace DL
open PySem PySem.Spec PyProof.Rows L2
def iz:OS->Option (List D)
 | .mls xs=>some xs
 | _=>none
def gY:D->Option Nat
 | .obj n=>some n
 | _=>none
def FT:D->Option Int
 | .int i=>some i
 | _=>none
theorem lD{o:OS}{xs:List D}(h:iz o=some xs):o=.mls xs:=by
 unfold iz at h
 split at h
 ·cases h;rfl
 ·cases h
theorem jU{d:D}{n:Nat}(h:gY d=some n):d=.obj n:=by
 unfold gY at h
 split at h
 ·cases h;rfl
 ·cases h
theorem Rt{d:D}{n:Int}(h:FT d=some n):d=.int n:=by
 unfold FT at h
 split at h
 ·cases h;rfl
 ·cases h
def pB(ga:bB):Den:=fun Y U=>(ga Y U).bind fun p=>if p.1.length<=big then some (.obj p.2.length,p.2++[.mls p.1]) else none
def oK(f g:Den):Den:=fun Y U=>(f Y U).bind fun p=>(gY p.1).bind fun n=>(g Y p.2).bind fun r=>(FT r.1).bind fun i=>(r.2[n]?).bind fun o=>(iz o).bind fun xs=>(atI xs i).bind fun d=>some (d,r.2)
def pC(f g:Den):aU:=fun Y U=>(f Y U).bind fun p=>(gY p.1).bind fun n=>(p.2[n]?).bind fun o1=>(iz o1).bind fun _=>(g Y p.2).bind fun r=>(r.2[n]?).bind fun o=>(iz o).bind fun xs =>
 if xs.length<big then some (.nx Y (r.2.set n (.mls (xs++[r.1])))) else none
theorem Wf.mls{K:PySem.W.Frag}{C:Cl}{e:E4}{U:List OS}(w:Wf K C e U){n:Nat}{a:Addr}{xs:List D}(hα:e.α[n]? = some a)(h:U[n]? = some (.mls xs)):∃vs,e.H a=some (.lst vs)/\IsL K e.α e.F xs vs:=(w.ob n a _ hα h).2
section
variable {X:Cx} {C:Cl} {a b x:Expr} {es:List Expr} {f g h:Den} {ga:bB} {pos pos':Pos}
theorem yd(ha:PDA X C es ga):PD X C (.List es pos) (pB ga):=bx (Aa ha) fun Z H Q hw'=>by
 obtain⟨e,U,Y,d,U',eH,w,rl,q,kk⟩:=hw'
 obtain⟨⟨ds,U1⟩,q1,q⟩:=Option.bind_eq_some_iff.mp q
 dsimp only at q
 split at q
 ·rename_i hl
  cases q
  refine⟨e,U,Y,ds,_,eH,w,rl,q1,fun vs e' x' w' i'=>⟨by rw[<-i'.length];exact iZ hl,fun p hp=>?_⟩⟩
  obtain⟨w2,x2⟩:=w'.obj (H':=upd e'.H p (.lst vs)) (o:=.mls ds) hp (fun b u hb=>by rw[aD (aP hb hp)];exact hb) (by rw[aM];exact⟨by simp,fun xs z=>nomatch z⟩) ⟨vs,aM,IsL.mono (bK.refl _) ⟨[p],rfl⟩ _ i'⟩
  refine kk _ (e'.obj p _) (x'.trans x2) w2 ?_
  rw[Is]
  exact⟨p,by show(e'.α++[p])[U1.length]? = some p;rw[<-w'.ol];simp,rfl⟩
 ·cases q
theorem wJ(ha:PD X C a f)(hb:PD X C b g)(hs:xK b:=by intro _ _;rfl):PD X C (.Subscript a b pos) (oK f g):=bx (Ln Dm ha hb hs) fun Z H Q hw'=>by
 obtain⟨e,U,Y,d,U',eH,w,rl,q,kk⟩:=hw'
 obtain⟨⟨d1,U1⟩,q1,q⟩:=Option.bind_eq_some_iff.mp q
 obtain⟨n,q2,q⟩:=Option.bind_eq_some_iff.mp q
 obtain⟨⟨d3,U3⟩,q3,q⟩:=Option.bind_eq_some_iff.mp q
 obtain⟨i,q4,q⟩:=Option.bind_eq_some_iff.mp q
 obtain⟨o,q5,q⟩:=Option.bind_eq_some_iff.mp q
 obtain⟨xs,q6,q⟩:=Option.bind_eq_some_iff.mp q
 obtain⟨z,q7,q⟩:=Option.bind_eq_some_iff.mp q
 cases q
 have e2:=jU q2
 have e4:=Rt q4
 have e6:=lD q6
 dsimp only at e2 e4 q5
 subst e2 e4 e6
 refine⟨e,U,Y,_,U1,eH,w,rl,q1,fun v e1 x1 w1 i1=>?_⟩
 refine⟨e1,U1,Y,_,U3,rfl,w1,rl.ext x1,q3,fun u e2 x2 w2 i2=>?_⟩
 have i1':=i1.ext x2
 rw[Is] at i1'
 rw[Is] at i2
 obtain⟨p,hα,rfl⟩:=i1'
 subst i2
 obtain⟨vs,hH,il⟩:=w2.mls hα q5
 obtain⟨u,hu,iu⟩:=Al il q7
 exact⟨p,vs,i,u,rfl,rfl,SqL.of hH,hu,kk u e2 (x1.trans x2) w2 iu⟩
theorem uQ{ap cp:Pos}(ha:PD X C a f)(hb:PD X C b g)(hbase:attributeBase a "append" X.env (eval a X.env)=eval a X.env:=by rfl)
  (hfew:((backTo cp (starEach [b] X.env)).all (fun x=>!x.1) && (backToKw cp (keywordEach [] X.env)).all (fun x=>x.1.isSome)
   && decide (([b]:List Expr).length+([]:List Keyword).length+(if([]:List Keyword).isEmpty then 0 else 1)<30))=true:=by rfl)
  (hline:(ap.endLine==cp.line)=true:=by rfl) (hst:starEach [b] X.env=(false,eval b X.env)::starEach [] X.env:=by rfl) (hplain:(backTo cp (starEach [] X.env)).any (·.1)=false:=by rfl)
  (hs:swapsWith (.Call (.Attribute a "append" ap) [b] [] cp) none pos.line X.env=pure false:=by rfl) :
  PDS X C (.Expr (.Call (.Attribute a "append" ap) [b] [] cp) pos) (pC f g):=fun e₀ =>
 cQ (tH (Lp PySem.F.plainAttrs_list PySem.F.slot_list_append PySem.F.type_list_append rN ha (bR hb dH hst) hbase hfew hline hst hplain) hs) fun Dn Z H hw'=>by
  obtain⟨e,U,Y,o,eH,r,q,k⟩:=hw'
  obtain⟨⟨d1,U1⟩,q1,q⟩:=Option.bind_eq_some_iff.mp q
  obtain⟨n,q2,q⟩:=Option.bind_eq_some_iff.mp q
  obtain⟨o1,q3,q⟩:=Option.bind_eq_some_iff.mp q
  obtain⟨xs1,q4,q⟩:=Option.bind_eq_some_iff.mp q
  obtain⟨⟨d5,U5⟩,q5,q⟩:=Option.bind_eq_some_iff.mp q
  obtain⟨o6,q6,q⟩:=Option.bind_eq_some_iff.mp q
  obtain⟨xs,q7,q⟩:=Option.bind_eq_some_iff.mp q
  split at q
  ·rename_i hl
   cases q
   have e2:=jU q2
   have e4:=lD q4
   have e7:=lD q7
   dsimp only at e2 q3 q5 q6 hl
   subst e2 e4 e7
   refine⟨e,U,Y,_,U1,eH,r.wf,r.rel,q1,fun v e1 x1 w1 i1=>?_⟩
   have i1':=i1
   rw[Is] at i1'
   obtain⟨p,hα,rfl⟩:=i1'
   obtain⟨vs1,hH1,_⟩:=w1.mls hα q3
   refine⟨.inl ⟨rfl,_,SqL.of hH1⟩,?_⟩
   refine⟨e1,U1,Y,d5,U5,rfl,w1,r.rel.ext x1,q5,fun u e2 x2 w2 i2=>?_⟩
   have i3:=i1.ext x2
   rw[Is] at i3
   obtain⟨p',hα2,ep⟩:=i3
   cases ep
   obtain⟨vs,hH,il⟩:=w2.mls hα2 q6
   refine⟨p,vs,u,rfl,rfl,hH,by rw[<-il.length];exact pQ hl,?_⟩
   obtain⟨w3,x3⟩:=w2.at (ho:=.lst (vs++[u])) (o':=.mls (xs++[d5])) hα2 (fun _ z=>nomatch z) ⟨_,aM,il.append (.cons i2 .nil)⟩ (fun o u z=>by rw[hH] at z;cases z)
   exact k (e2.at p _) Z (r.to ((x1.trans x2).trans x3) w3)
  ·cases q
def forM(β:cT)(s:aU)(n:Nat)(xs:List D):List D->aU
 | [],Y,U=>grd (U[n]? = some (.mls xs)) (some (.nx Y U))
 | d::ds,Y,U=>grd (U[n]? = some (.mls xs)) (match β d Y with
  | some Y1=>match s Y1 U with
   | some (.nx Y' U')=>forM β s n xs ds Y' U'
   | some (.ct Y' U')=>forM β s n xs ds Y' U'
   | some (.bk Y' U')=>some (.nx Y' U')
   | some (.rt z U')=>some (.rt z U')
   | none=>none
  | none=>none)
def zQ(f:Den)(β:cT)(s:aU):aU:=fun Y U=>(f Y U).bind fun p=>(gY p.1).bind fun n=>(p.2[n]?).bind fun o=>(iz o).bind fun xs=>forM β s n xs xs Y p.2
theorem Kh{tg iter:Expr}{β:cT}{s:aU}{body:List Stmt}(hp:PassesOwn (model X.prog X.w) X.A X.env X.xe)(hc:X.calm=true)(hi:PD X C iter f)(hg:PDG X C tg β)(hb:PDB X C body s)
  (hs:∀x,foldedSetIterable iter X.env x=pure x:=by intro _;rfl):PDS X C (.For tg iter body [] pos) (zQ f β s):=by
 refine fun e₀=>cQ (z_ hp hc (Di hi) hg (vW hb) hs) fun Dn Z H hw'=>?_
 obtain⟨e,U,Y,o,eH,r,q,k⟩:=hw'
 obtain⟨⟨d1,U'⟩,q1,qa⟩:=Option.bind_eq_some_iff.mp q
 obtain⟨n,q2,qb⟩:=Option.bind_eq_some_iff.mp qa
 obtain⟨o3,q3,qc⟩:=Option.bind_eq_some_iff.mp qb
 obtain⟨ds,q4,qd⟩:=Option.bind_eq_some_iff.mp qc
 clear q qa qb qc
 have e2:=jU q2
 have e4:=lD q4
 dsimp only at e2 q3 qd
 subst e2 e4
 refine⟨e,U,Y,_,U',eH,r.wf,r.rel,q1,fun v e' x' w' i'=>?_⟩
 rw[Is] at i'
 obtain⟨a,hα,rfl⟩:=i'
 obtain⟨vs0,hH0,il0⟩:=w'.mls hα q3
 refine⟨a,rfl,⟨vs0,SqL.of hH0⟩,?_⟩
 refine⟨fun i m Z H=>m=ds.length-i/\i<=ds.length/\∃e2 U2 Y2,e2.H=H/\RelS X.K C e₀ e2 U2 Z Y2/\e2.α[n]? = some a/\forM β s n ds (ds.drop i) Y2 U2=some o,⟨ds.length,by simp,Nat.zero_le _,e',U',Y,rfl,r.to x' w',hα,by simpa using qd⟩,?_⟩
 rintro i m Z2 H2 ⟨rfl,hil,e2,U2,Y2,rfl,r2,al,q5⟩
 by_cases hlt:i<ds.length
 ·have hd:ds[i]? = some ds[i]:=List.getElem?_eq_getElem hlt
  have edrop:ds.drop i=ds[i]::ds.drop (i+1):=List.drop_eq_getElem_cons hlt
  rw[edrop] at q5
  unfold forM at q5
  obtain⟨hg,q5⟩:=lU q5
  obtain⟨vs,hH,il⟩:=r2.wf.mls al hg
  obtain⟨u,hu,iu⟩:=il.get hd
  refine .inr ⟨⟨vs,u,SqL.of hH,hu⟩,fun Z' H'=>∃e3 U3 Y3,e3.H=H'/\RelS X.K C e₀ e3 U3 Z' Y3/\e3.α[n]? = some a/\forM β s n ds (ds.drop (i+1)) Y3 U3=some o,fun Z' H' hN=>⟨ds.length-(i+1),by omega,rfl,hlt,hN⟩,fun x H' hy=>?_⟩
  obtain⟨rfl,hx⟩:=hy
  have hx':=hx vs (SqL.of hH)
  rw[hu] at hx'
  cases hx'
  cases q6:β ds[i] Y2 with
  | none=>rw[q6] at q5;cases q5
  | some Y3 =>
   rw[q6] at q5
   dsimp only at q5
   refine⟨e2,U2,Y2,_,Y3,rfl,r2.wf,r2.rel,iu,q6,fun Z3 r3 o3=>?_⟩
   have r3':=r2.by r3 o3
   obtain⟨e₁,hF,hα1,r4,toE,toN,_⟩:=r3'.mark
   cases q7:s Y3 U2 with
   | none=>rw[q7] at q5;cases q5
   | some o7 =>
    rw[q7] at q5
    refine⟨e₁,e2,U2,Y3,o7,rfl,r4,q7,?_⟩
    have back:∀{e5:E4} {U5:List OS} {Z5:St} {Y5:List Sl},RelS X.K C e₁ e5 U5 Z5 Y5->RelS X.K C e₀ e5 U5 Z5 Y5/\e5.α[n]? = some a:=fun {e5 U5 Z5 Y5} r5=>by
     refine⟨⟨r5.wf,r5.rel,toE _ r5.ext,fun i ds a h1 h2=>toN _ (r5.fresh i ds a h1 h2)⟩,?_⟩
     obtain⟨m2,z2⟩:=r5.ext.al
     rw[z2,hα1,List.getElem?_append_left (List.getElem?_eq_some_iff.mp al).1]
     exact al
    cases o7 with
    | nx Y5 U5=>exact fun e5 Z5 r5=>⟨e5,U5,Y5,rfl,(back r5).1,(back r5).2,q5⟩
    | ct Y5 U5=>exact fun e5 Z5 r5=>⟨e5,U5,Y5,rfl,(back r5).1,(back r5).2,q5⟩
    | bk Y5 U5=>cases q5;exact fun e5 Z5 r5=>k e5 Z5 (back r5).1
    | rt z U5=>cases q5;exact fun e5 v5 x5 w5 i5=>k e5 v5 (toE _ x5) w5 i5
 ·have ei:i=ds.length:=by omega
  subst ei
  rw[List.drop_length] at q5
  unfold forM at q5
  obtain⟨hg,q5⟩:=lU q5
  cases q5
  obtain⟨vs,hH,il⟩:=r2.wf.mls al hg
  exact .inl ⟨⟨vs,SqL.of hH,by rw[<-il.length];exact Nat.le_refl _⟩,k e2 Z2 r2⟩
theorem sU{K:PySem.W.Frag}{α:List Addr}{F:Hp}{κ:Type}:∀{ps:List (κ×D)} {vs:List (κ×V)},cz K α F ps vs->vs.map (·.1)=ps.map (·.1)
 | [],vs,h=>by cases (show vs=[] from h);rfl
 | p::r,_,⟨v,t,e,i,q⟩=>by rw[e,List.map_cons,List.map_cons,sU q]
end
end DL
namespace DL
open PySem PySem.Spec PyProof.Rows L2
theorem Ov{g:Den}{Y:List Sl}{U U':List OS}{ds:List D}(h:gLs g Y U=some (ds,U')):g Y U=some (.lst ds,U'):=by
 unfold gLs at h
 split at h
 ·rename_i q;cases h;exact q
 ·cases h
section
variable {K:PySem.W.Frag} {C:Cl} {e e':E4} {U:List OS} {a:Addr} {o:HO}
def E4.bare(e:E4)(a:Addr):E4:=⟨e.α,e.F,e.A,fun b=>if b=a then none else e.H b⟩
theorem Kl(h:e.H a=some o):upd (e.bare a).H a o=e.H:=by
 funext b
 by_cases z:b=a
 ·subst z;rw[aM];exact h.symm
 ·rw[aD z];show(if b=a then none else e.H b)=e.H b;rw[if_neg z]
theorem Wf.bare(w:Wf K C e U)(hF:e.F a=none)(hA:¬e.A a):Wf K C (e.bare a) U:=by
 have hb:∀b,b≠a->(e.bare a).H b=e.H b:=fun b z=>by show(if b=a then none else e.H b)=e.H b;rw[if_neg z]
 refine⟨fun b u h=>?_,w.fa,fun b h=>?_,w.ol,w.nd,fun n b u h1 h2=>⟨(w.ob n b u h1 h2).1,(w.ob n b u h1 h2).2.keep (fun v hv=>?_) (bK.refl _) ⟨[],by simp[E4.bare]⟩⟩⟩
 ·rw[hb b (fun z=>by subst z;rw[show e.F b=some u from h] at hF;cases hF)];exact w.fh b u h
 ·rw[hb b (fun z=>hA (by rw[<-z];exact h))];exact w.ah b h
 ·rw[hb b (fun z=>hA (by rw[<-z];exact(w.ob n b u h1 h2).1))];exact hv
theorem Ext.bare(x:Ext e e')(ha:e.H a=none):Ext e (e'.bare a):=by
 have hb:∀b,b≠a->(e'.bare a).H b=e'.H b:=fun b z=>by show(if b=a then none else e'.H b)=e'.H b;rw[if_neg z]
 refine⟨fun b o' u h=>?_,fun b u h hn=>?_,fun b u h=>?_,x.ff,x.fn,x.an,x.aa,x.al⟩
 ·rw[hb b (aP h ha)];exact x.fz b o' u h
 ·rw[hb b (aP h ha)];exact x.hk b u h hn
 ·obtain⟨u',z⟩:=x.dm b u h
  exact⟨u',by rw[hb b (aP h ha)];exact z⟩
end
end DL
namespace L2
open PySem PySem.Spec PyProof.Rows KS PySem.W
theorem CQ{prog:Program}{w:World}{A:Around}{E:Value->Shared->Prop}{s:Shared}{T:String}{r d:Addr}{n:Nat}{P:Nat->Value->Prop}{OK:Heap->Prop}{Q:List Value->Shared->Prop}(K:KdlSrc prog w T r d n P OK)(hh:A.handled=none)(hok:OK s.heap)(hn:n<=sizeLine)
  (hQ:∀h' tk acc',(∀b o,s.heap.get? b=some o->h'.get? b=some o)->ItemsOf P acc' n->Q acc'.toList { s with heap:=h',toks:=tk }):wpAny (model prog w) A (collect (.ref r)) Q E s:=by
 obtain⟨lr,ld⟩:=K.there s.heap hok
 unfold collect
 refine wpAny_bind (wpAny_runValue (codeAny_builtin F.entry_proto_collect ?_))
 rw[Around.under_plainId F.plain_proto_collect _]
 show wpAny _ A.in1 (newList []>>=fun l=>again (.builtin "list.__iadd__" ⟨[l,.ref r],[]⟩)) _ _ s
 refine wpAny_bind (wpAny_newObj_type ?_)
 refine wpAny_pure ⟨plainId_quiet F.plain_list_iadd _,codeAny_builtin F.entry_list_iadd ?_⟩
 rw[Around.under_plainId F.plain_list_iadd _]
 show wpAny _ A.in1 (Builtin.List.listExtendWith (.ref s.heap.objs.size) (.ref r) (.ref s.heap.objs.size)) _ _ _
 have hS:(s.heap.push { cls:=.type "list",data:=.seq ([]:List Value).toArray }).get? s.heap.objs.size=some { cls:=.type "list",data:=.seq #[] }:=Heap.get?_push_size _ rfl
 refine kdl_extend (R:=fun r s'=>match r with |Except.ok (Flow.ret v)=>wpAny (model prog w) A (match v with |Value.ref a=>(do match(<-load a).data with |.seq xs _=>pure xs.toList |_=>unsupported "internal:collect") |_=>unsupported "internal:collect") Q E s' |Except.ok a=>False |Except.error e=>E e s') (s:={ s with heap:=s.heap.push { cls:=.type "list",data:=.seq ([]:List Value).toArray } }) K hh (K.keep _ _ hok fun b _ o e=>Heap.get?_push_of_some _ e) s.heap.objs.size (Nat.ne_of_gt lr) (Nat.ne_of_gt ld) _ 0 hS (fun h' tk acc' c' kp hS' hacc=>?_) hn
 show wpAny _ A (load s.heap.objs.size>>=_) _ _ _
 refine wpAny_bind (wpAny_load hS' ?_)
 exact wpAny_pure (hQ h' tk acc' (fun b o e=>kp b o (Nat.ne_of_lt (Heap.lt_size e)) (Heap.get?_push_of_some _ e)) hacc)
end L2
namespace DL
open PySem PySem.Spec PyProof.Rows L2
section
variable {X:Cx} {C:Cl} {a b x:Expr} {f g:Den} {ga:bB} {n:Str} {p pos:Pos} {k:Nat}
def qX(ga:bB):Den:=fun Y U=>(ga Y U).bind fun p=>some (.obj p.2.length,p.2++[.mls p.1])
theorem El(h:PDN X C x ga):PD X C x (qX ga):=bx h fun Z H Q hw'=>by
 obtain⟨e,U,Y,d,U',eH,w,rl,q,kk⟩:=hw'
 obtain⟨⟨ds,U1⟩,q1,qa⟩:=Option.bind_eq_some_iff.mp q
 cases qa
 refine⟨e,U,Y,ds,U1,eH,w,rl,q1,fun p vs e' x' w' i' hp=>?_⟩
 obtain⟨w2,x2⟩:=w'.obj (H':=upd e'.H p (.lst vs)) (o:=.mls ds) hp (fun b u hb=>by rw[aD (aP hb hp)];exact hb) (by rw[aM];exact⟨by simp,fun xs z=>nomatch z⟩) ⟨vs,aM,IsL.mono (bK.refl _) ⟨[p],rfl⟩ _ i'⟩
 refine kk _ (e'.obj p _) (x'.trans x2) w2 ?_
 rw[Is]
 exact⟨p,by show(e'.α++[p])[U1.length]? = some p;rw[<-w'.ol];simp,rfl⟩
def wK(f:Den):Den:=fun Y U=>(f Y U).bind fun p=>(gY p.1).bind fun n=>(p.2[n]?).bind fun o=>(iz o).bind fun _=>some (.bl true,p.2)
theorem Km{y:Expr}(ha:PD X C x f)(hy:PE X y (tC (.ty "list")))(hg:Gl X n)(hm:X.mg n=none)(hv:bootBuiltins n=some (.builtin "isinstance"))
  (hk:∀t∈["NoneType","bool","int","str","tuple","list"],PySem.W.kitOne X.K (.type t) (.type "list")=some (decide (t = "list") || (decide (t = "bool") && decide ("list" = "int"))))
  (hn:n ≠ "__name__":=by decide) (hdb:(n==("__debug__":Str))=false:=by decide)
  (he:starEach [x,y] X.env=(false,eval x X.env)::starEach [y] X.env:=by rfl) (he2:starEach [y] X.env=(false,eval y X.env)::starEach [] X.env:=by rfl) (hpl:(backTo pos (starEach [y] X.env)).any (·.1)=false:=by rfl) :
  PD X C (.Call (.Name n p) [x,y] [] pos) (wK f):=by
 have hc:gG X (.builtin "isinstance") (fun xs H Q=>∃v t k,xs=[v,.ty "list"]/\TyOf X.K H v (.type t)/\PySem.W.kitOne X.K (.type t) (.type "list")=some k/\Q (.bl k) H):=by
  intro pins s Z H xs us Q I r hw
  obtain⟨v,t,k,rfl,ty,e,q⟩:=hw
  obtain⟨u,w',rfl,r1,r2⟩:=vals2 r
  cases (show w'=Value.type "list" from r2)
  exact rM I r1 ty e fun tk=>⟨.bl k,H,I.tok tk,rfl,q⟩
 refine bx (gb hc hg hm hv (bR ha (bR hy dH he2) he) hn hdb he hpl) fun Z H Q hw'=>?_
 obtain⟨e,U,Y,d,U',eH,w,rl,q,kk⟩:=hw'
 obtain⟨⟨d1,U1⟩,q1,qa⟩:=Option.bind_eq_some_iff.mp q
 obtain⟨m,q2,qb⟩:=Option.bind_eq_some_iff.mp qa
 obtain⟨o,q3,qc⟩:=Option.bind_eq_some_iff.mp qb
 obtain⟨ds,q4,qd⟩:=Option.bind_eq_some_iff.mp qc
 clear q qa qb qc
 have e2:=jU q2
 have e4:=lD q4
 dsimp only at e2 q3 qd
 subst e2 e4
 cases qd
 refine⟨e,U,Y,_,_,eH,w,rl,q1,fun v e1 x1 w1 i1=>?_⟩
 rw[Is] at i1
 obtain⟨l,hα,rfl⟩:=i1
 obtain⟨vs,hH,_⟩:=w1.mls hα q3
 exact⟨.ref l,"list",_,rfl,.lst hH,hk "list" (by simp),kk _ e1 x1 w1 (by rw[Is];rfl)⟩
def qY(neg:Bool)(f g:Den):Den:=fun Y U=>(f Y U).bind fun p=>(gY p.1).bind fun n=>(g Y p.2).bind fun q=>(q.2[n]?).bind fun o=>(iz o).bind fun xs=>(eqD neg (.lst xs) q.1).bind fun z=>some (z,q.2)
def Ko(X:Cx)(C:Cl)(neg:Bool):R2:=fun x y H Q=>∃e U l vs xs d z,e.H=H/\Wf X.K C e U/\x=.ref l/\e.H l=some (.lst vs)/\IsL X.K e.α e.F xs vs/\Is X.K e.α e.F d y/\eqD neg (.lst xs) d=some (.bl z)/\Q (.bl z) H
theorem ye{neg:Bool}{p q z:D}(h:eqD neg p q=some z):SeqAt.shaped (toP p)=true/\SeqAt.shaped (toP q)=true/\z=.bl (if neg then !PyData.eqv (toP p) (toP q) else PyData.eqv (toP p) (toP q)):=by
 unfold eqD at h
 split at h
 ·rename_i hs
  rw[Bool.and_eq_true] at hs
  cases h
  exact⟨hs.1,hs.2,rfl⟩
 ·cases h
theorem zc{pins:List (Addr×Obj)}{s:Shared}{Z:St}{e:E4}(I:Inv X pins Z e.H s)(fh:bK e.F e.H){l:Addr}{vs:List V}{xs:List D}(hl:e.H l=some (.lst vs))(il:IsL X.K e.α e.F xs vs)(hc:(toP (.lst xs)).canLay0=true):∃as,Reads s.heap (.ref l) (toP (.lst xs)) as:=by
 obtain⟨_,its,n,rv,e1⟩:=(show bV X.prog X.w e.H s.heap l (.lst vs) from I.hok l _ hl)
 rw[toP] at hc ⊢
 obtain⟨as,z⟩:=oZ I rfl fh xs (by simpa [PyData.canLay0] using hc) il rv
 exact⟨_,.list e1 rfl rfl (by simpa using z)⟩
theorem Ru(hu:X.A.units+64<cLine):OpR X (compareOp .Eq) (Ko X C false):=by
 intro pins s Z H x y v u Q I rx ry h
 obtain⟨e,U,l,vs,xs,d,z,rfl,w,rfl,hl,il,iy,q,kk⟩:=h
 obtain⟨s1,s2,ez⟩:=ye q
 cases ez
 cases rx
 obtain⟨as,r1⟩:=zc I w.fh hl il (SeqAt.canLay_of_shaped s1)
 obtain⟨bs,r2⟩:=jX I rfl w.fh d (SeqAt.canLay_of_shaped s2) iy ry
 exact eq_dataH r1 r2 s1 s2 hu ⟨.bl _,e.H,I,rfl,kk⟩
theorem Rv(hu:X.A.units+64<cLine):OpR X (compareOp .NotEq) (Ko X C true):=by
 intro pins s Z H x y v u Q I rx ry h
 obtain⟨e,U,l,vs,xs,d,z,rfl,w,rfl,hl,il,iy,q,kk⟩:=h
 obtain⟨s1,s2,ez⟩:=ye q
 cases ez
 cases rx
 obtain⟨as,r1⟩:=zc I w.fh hl il (SeqAt.canLay_of_shaped s1)
 obtain⟨bs,r2⟩:=jX I rfl w.fh d (SeqAt.canLay_of_shaped s2) iy ry
 exact ne_dataH r1 r2 s1 s2 hu ⟨.bl _,e.H,I,rfl,kk⟩
theorem Bt{neg:Bool}{Z:St}{H:Hp}{Q:VK}(hw:tD X.K C (qY neg f g) Z H Q):tOp (Ko X C neg) (tD X.K C f) (tD X.K C g) Z H Q:=by
 obtain⟨e,U,Y,d,U',eH,w,rl,q,kk⟩:=hw
 obtain⟨⟨d1,U1⟩,q1,qa⟩:=Option.bind_eq_some_iff.mp q
 obtain⟨m,q2,qb⟩:=Option.bind_eq_some_iff.mp qa
 obtain⟨⟨d3,U3⟩,q3,qc⟩:=Option.bind_eq_some_iff.mp qb
 obtain⟨o,q4,qd⟩:=Option.bind_eq_some_iff.mp qc
 obtain⟨xs,q5,qe⟩:=Option.bind_eq_some_iff.mp qd
 obtain⟨z,q6,qf⟩:=Option.bind_eq_some_iff.mp qe
 clear q qa qb qc qd qe
 have e2:=jU q2
 have e5:=lD q5
 dsimp only at e2 q3 q4 q6 qf
 subst e2 e5
 cases qf
 obtain⟨_,_,ez⟩:=ye q6
 subst ez
 refine⟨e,U,Y,_,U1,eH,w,rl,q1,fun v e1 x1 w1 i1=>?_⟩
 refine⟨e1,U1,Y,d3,_,rfl,w1,rl.ext x1,q3,fun u e2 x2 w2 i2=>?_⟩
 have i1':=i1.ext x2
 rw[Is] at i1'
 obtain⟨l,hα,rfl⟩:=i1'
 obtain⟨vs,hH,il⟩:=w2.mls hα q4
 exact⟨e2,_,l,vs,xs,d3,_,rfl,w2,rfl,hH,il,i2,q6,kk _ e2 (x1.trans x2) w2 (by rw[Is])⟩
theorem Rw(hu:X.A.units+64<cLine)(ha:PD X C a f)(hb:PD X C b g)(hm:behindInMarks .Eq b=false:=by first |exact nobehind _ (by decide) (by decide) |rfl):PD X C (.Compare a [.Eq] [b] pos) (qY false f g) :=
 bx (Dj (Ru (C:=C) hu) ha hb hm) fun _ _ _ hw=>Bt hw
theorem Ox(hu:X.A.units+64<cLine)(ha:PD X C a f)(hb:PD X C b g)(hm:behindInMarks .NotEq b=false:=by first |exact nobehind _ (by decide) (by decide) |rfl):PDT X C (.Compare a [.NotEq] [b] pos) (gT (qY true f g)) :=
 pN (Dk (Rv (C:=C) hu) ha hb hm) fun _ _ _ h=>Bt (pP h)
end
end DL
namespace DL
open PySem PySem.Spec PyProof.Rows L2
def mC(n:Nat)(xs:List D)(β:cT)(p:cB)(g:Den):List D->List Sl->List OS->Option (List D×List OS)
 | [],_,U=>grd (U[n]? = some (.mls xs)) (some ([],U))
 | d::ds,Y,U=>grd (U[n]? = some (.mls xs)) (match β d Y with
  | some Y1=>match p Y1 U with
   | some (true,U1)=>match g Y1 U1 with
    | some (y,U2)=>match mC n xs β p g ds Y1 U2 with
     | some (ys,U3)=>some (y::ys,U3)
     | none=>none
    | none=>none
   | some (false,U1)=>mC n xs β p g ds Y1 U1
   | none=>none
  | none=>none)
end DL
namespace DL
open PySem PySem.Spec PyProof.Rows L2
section
variable {X:Cx} {C:Cl} {n:Str} {p pos:Pos} {a b:Expr} {f g:Den} {k:Nat}
def wL(f:Den):Den:=fun Y U=>(f Y U).bind fun p=>(gY p.1).bind fun n=>(p.2[n]?).bind fun o=>(iz o).bind fun xs=>some (.int xs.length,p.2)
theorem Oz(hg:Gl X n)(hm:X.mg n=none)(hv:bootBuiltins n=some (.builtin "len"))(ha:PD X C a f)(hn:n ≠ "__name__":=by decide)(hdb:(n==("__debug__":Str))=false:=by decide)
  (he:starEach [a] X.env=(false,eval a X.env)::starEach [] X.env:=by rfl) (hpl:(backTo pos (starEach [] X.env)).any (·.1)=false:=by rfl):PD X C (.Call (.Name n p) [a] [] pos) (wL f) :=
 bx (gb kZ hg hm hv (bR ha dH he) hn hdb he hpl) fun Z H Q hw'=>by
  obtain⟨e,U,Y,d,U',eH,w,rl,q,kk⟩:=hw'
  obtain⟨⟨d1,U1⟩,q1,q⟩:=Option.bind_eq_some_iff.mp q
  obtain⟨m,q2,q⟩:=Option.bind_eq_some_iff.mp q
  obtain⟨o,q3,q⟩:=Option.bind_eq_some_iff.mp q
  obtain⟨xs,q4,q⟩:=Option.bind_eq_some_iff.mp q
  have e2:=jU q2
  have e4:=lD q4
  dsimp only at e2 q3 q
  subst e2 e4
  cases q
  refine⟨e,U,Y,_,_,eH,w,rl,q1,fun v e1 x1 w1 i1=>?_⟩
  rw[Is] at i1
  obtain⟨p,hα,rfl⟩:=i1
  obtain⟨vs,hH,il⟩:=w1.mls hα q3
  exact⟨p,vs,rfl,.inl (SqL.of hH),kk _ e1 x1 w1 (by rw[Is,il.length])⟩
end
end DL
namespace DL
open PySem PySem.Spec PyProof.Rows L2
def dKO:OS->Option (List (Key×D))
 | .dK kvs=>some kvs
 | _=>none
theorem L_{o:OS}{kvs:List (Key×D)}(h:dKO o=some kvs):o=.dK kvs:=by
 unfold dKO at h
 split at h
 ·cases h;rfl
 ·cases h
end DL
namespace L2
open PySem PySem.Spec PyProof.Rows KS PySem.W
section
variable {X:Cx} {pins:List (Addr×Obj)} {Z:St} {s:Shared} {o:Expr} {td:TE} {apos cpos:Pos}
theorem FW{us:List Value}{ns:List Int}(h:IntsAre us ns):Vals (ns.map V.int) us:=by
 induction h with
 | nil=>exact .nil
 | cons n t _ ih=>exact .cons ⟨t,rfl⟩ ih
end
end L2
namespace DL
open PySem PySem.Spec PyProof.Rows L2
def lE(ns:List Int):List Int:=ns.mergeSort (fun a b=>decide (a<=b))
theorem uC{ns ns':List Int}(hp:ns'.Perm ns)(hs:ns'.Pairwise (· <= ·)):ns'=lE ns:=by
 refine List.Perm.eq_of_pairwise (le:=fun a b:Int=>a<=b) (fun a b _ _ h1 h2=>Int.le_antisymm h1 h2) hs ?_ (hp.trans (List.mergeSort_perm ns _).symm)
 have:=List.pairwise_mergeSort (le:=fun a b:Int=>decide (a<=b)) (fun a b c h1 h2=>by simp at *;omega) (fun a b=>by simp;omega) ns
 exact this.imp fun h=>by simpa using h
theorem uR{K:PySem.W.Frag}{α:List Addr}{F:Hp}:∀ns:List Int,IsL K α F (ns.map D.int) (ns.map V.int)
 | []=>.nil
 | n::ns=>.cons (by rw[Is]) (uR ns)
end DL
namespace KS
open PySem PySem.W PySem.Calls PyProof.Rows
section
variable {prog:Program} {w:World} {A:Around} {E:Value->Shared->Prop} {s:Shared} {vs:List Value}
theorem OD{it:Value}{ns:List Int}{Q:Value->Shared->Prop}(hcol:∀(E:Value->Shared->Prop) (Q':List Value->Shared->Prop),(∀h1 tk,(∀b o,s.heap.get? b=some o->h1.get? b=some o)->Q' vs { s with heap:=h1,toks:=tk })->wpAny (model prog w) A.in1 (collect it) Q' E s)(hI:IntsAre vs ns)(h64:vs.length<64)
  (h:∀(h1:Heap) (tk:Nat) (D:Addr) (h':Heap) (e1:Nat) (out:Array Value) (ns':List Int),(∀b o,s.heap.get? b=some o->h1.get? b=some o)->h1.objs.size<=D->(∀b o,h1.get? b=some o->h'.get? b=some o)->h'.get? D=some (seqObj "list" out e1)->IntsAre out.toList ns'->ns'.Perm ns->ns'.Pairwise (· <= ·)->Q (.ref D) { s with heap:=h',toks:=tk }) :
  wpAny (model prog w) A (call (.builtin "sorted") [it]) Q E s:=by
 refine Calls.call_function_entry kind_sorted plain_sorted entry_sorted (args_sorted1 _) ?_
 unfold Builtin.«sorted»;refine wpAny_bind (m:=checkCount "sorted" 1 1 _) (wpAny_pure ?_)
 refine wpAny_bind (hcol _ _ fun h1 tk keep1=>?_)
 refine wpAny_bind (wpAny_newList ?_ (by rw[sizeLine_eq];omega))
 have oL:(h1.push (seqObj "list" vs.toArray 0)).get? h1.objs.size=some (seqObj "list" vs.toArray 0):=Heap.get?_push_size _ rfl
 show wpAny _ _ _ _ _ { s with heap:=h1.push (seqObj "list" vs.toArray 0),toks:=tk }
 refine wpAny_bind (wpAny_holding (wpAny_call_entry slot_list_sort ⟨_,oL,rfl⟩ entry_list_sort (list_sort_tree (s:={ s with heap:=h1.push (seqObj "list" vs.toArray 0),toks:=tk }) oL hI h64 fun out ns' a1 a2 a3=>⟨_,rfl,?_⟩) (args_list_sort _)))
 obtain⟨e1,oD⟩:=sortedHeap_at (out:=out) oL
 refine wpAny_pure ⟨_,rfl,h h1 tk _ _ e1 out ns' keep1 (Nat.le_refl _) (fun b o q1=>?_) oD a1 a2 a3⟩
 have lt:b<h1.objs.size:=Heap.lt_size q1
 rw[sortedHeap_old (Nat.ne_of_lt lt) (by rw[size_push'];exact Nat.lt_succ_of_lt lt),Heap.get?_push_ne _ _ _ (Nat.ne_of_lt lt)]
 exact q1
end
end KS
namespace L2
open PySem PySem.Spec PyProof.Rows KS PySem.W
section
variable {X:Cx}
theorem HW{pins:List (Addr×Obj)}{Z:St}{H:Hp}{s:Shared}{a:Addr}{kvs:List (Key×V)}{ns:List Int}(I:Inv X pins Z H s)(e:H a=some (.dK kvs))(hn:kvs.map (·.1)=ns.map Sum.inl):∃vs:List Value,IntsAre vs ns /\
  ∀(A:Around),A.handled=none->∀(E:Value->Shared->Prop) (Q':List Value->Shared->Prop),(∀h1 tk,(∀b o,s.heap.get? b=some o->h1.get? b=some o)->Q' vs { s with heap:=h1,toks:=tk })->wpAny (model X.prog X.w) A (collect (.ref a)) Q' E s:=by
 obtain⟨hz,hm,vs,rel,o,es,ep,ho,hx,hd,_,hp,_⟩:=tL I.hok e
 have hlen:es.size=kvs.length:=by
  have:=hp.length
  rw[rel.length,<-this]
  simp
 have hl2:kvs.length=ns.length:=by have:=congrArg List.length hn;simpa using this
 have hkey:∀(i:Nat) (e:DictEntry),es[i]? = some e->∃n t,ns[i]? = some n/\e.key=.int n t:=fun i e hi=>by
  obtain⟨k,hk,rk⟩:=yZ hp i e (by simpa using hi)
  have q2:(kvs.map (·.1))[i]? = (vs.map (·.1))[i]?:=by rw[rel.keys]
  rw[hn,List.getElem?_map,List.getElem?_map,hk] at q2
  cases q:ns[i]? with
  | none=>rw[q] at q2;cases q2
  | some n =>
   rw[q] at q2
   cases q2
   obtain⟨t,z⟩:=(show ∃t,e.key=Value.int n t from rk)
   exact⟨n,t,rfl,z⟩
 have ia:∀(l:List DictEntry) (ms:List Int),l.length=ms.length->(∀(i:Nat) (e:DictEntry),l[i]? = some e->∃n t,ms[i]? = some n/\e.key=.int n t)->IntsAre (l.map (·.key)) ms:=by
  intro l
  induction l with
  | nil=>intro ms h _;cases ms with |nil=>exact .nil |cons _ _=>cases h
  | cons x l ih =>
   intro ms h k
   cases ms with
   | nil=>cases h
   | cons m ms =>
    obtain⟨n,t,q1,q2⟩:=k 0 x rfl
    cases q1
    rw[List.map_cons,q2]
    exact .cons _ t (ih ms (by simpa using h) fun i e hi=>by simpa using k (i+1) e (by simpa using hi))
 refine⟨es.toList.map (·.key),ia es.toList ns (by rw[Array.length_toList];omega) fun i e hi=>hkey i e (by simpa using hi),fun A hh E Q' hq=>?_⟩
 refine CQ (DR.DW (es:=es) (ep:=ep) hm) hh ⟨o,ho,hx,hd⟩ (by rw[hlen];exact hz) fun h' tk acc' kp hacc=>?_
 have ea:acc'.toList=es.toList.map (·.key):=by
  apply List.ext_getElem?
  intro i
  rw[List.getElem?_map,Array.getElem?_toList,Array.getElem?_toList]
  by_cases hi:i<acc'.size
  ·have q:(es[i]?).map (·.key)=some acc'[i]:=hacc.2 i acc'[i] (Array.getElem?_eq_getElem hi)
   rw[Array.getElem?_eq_getElem hi,q]
  ·have hx:es.size<=i:=by rw[<-hacc.1];omega
   rw[Array.getElem?_eq_none (by omega),Array.getElem?_eq_none hx];rfl
 rw[ea]
 exact hq h' tk kp
theorem uD(hh:X.A.handled=none):gG X (.builtin "sorted") (fun xs H Q=>∃a kvs ns,xs=[V.ref a]/\H a=some (.dK kvs)/\kvs.length<64/\kvs.map (·.1)=ns.map Sum.inl /\
  ∀(ns':List Int) (p:Addr),H p=none->ns'.Perm ns->ns'.Pairwise (· <= ·)->Q (.ref p) (upd H p (.lst (ns'.map V.int)))):=by
 intro pins s Z H xs us Q I r h
 obtain⟨a,kvs,ns,rfl,ha,h64,hn,fin⟩:=h
 obtain⟨u,rfl,ru⟩:=vals1 r
 cases ru
 obtain⟨vs,hI,hcol⟩:=HW I ha hn
 have l1:vs.length=ns.length:=hI.length
 have l2:kvs.length=ns.length:=by have:=congrArg List.length hn;simpa using this
 refine OD (fun E Q' hq=>hcol X.A.in1 hh E Q' hq) hI (by omega) fun h1 tk D h' e1 out ns' k1 zD kk oD i1 hp hs=>?_
 have I1:Inv X pins Z H { s with heap:=h1,toks:=tk }:=I.kept (t':=tk) k1
 have fD:=I1.fpOk zD (I1.hok.fresh zD)
 refine⟨.ref D,upd H D (.lst (ns'.map V.int)),?_,rfl,fin ns' D fD.1 hp hs⟩
 have I2:Inv X pins Z H { s with heap:=h',toks:=tk }:=I1.kept (t':=tk) kk
 exact I2.adopt (its:=out.toList) fD fD (fun b o _ q=>q) oD (FW i1) (by rw[List.length_map,hp.length_eq,sizeLine_eq];omega)
end
end L2
namespace L2
open PySem PySem.Spec PyProof.Rows
section
variable {X:Cx} {pins:List (Addr×Obj)} {Z:St} {ea C t:Addr} {H:Hp} {B:Heap} {s:Shared} {x:Str} {np hpos pos:Pos} {cv:Value} {b₀:Stmt} {suite body:List Stmt} {rest:List ExceptHandler} {Q:Flow->Shared->Prop} {E:Value->Shared->Prop}
theorem HX(F:Flown X pins Z ea C t H B s)(hs:X.stack=X.env::X.outer)(hfr:X.env.frame=some X.env.locals)(hg:Gl X x)(hm:X.mg x=some cv)(hx:PySem.W.exmOne X.K (.ref C) cv=some true)(hd:(x==("__debug__":Str))=false)
  (k:∀s7,Inv (X.mark (.ref ea)) pins Z H s7 ->
   wpAny (model X.prog X.w) (X.A.mark (some (.ref ea))) (execs (b₀::suite) X.env) (fun f s3=>Q f s3) (fun _ _=>False) s7) :
  wpAny (model X.prog X.w) X.A (noteFrame (.ref ea) X.env) (fun _ s2=>wpAny (model X.prog X.w) X.A (setFlight (.ref ea) none) (fun _ s3=>wpAny (model X.prog X.w) X.A (handleBy (.ref ea) X.env (.ExceptHandler (some (.Name x np)) none (b₀::suite) hpos::rest)) Q E s3) E s2) E s:=by
 have I0:=F.inv s.heap F.fl.1 (Heap.UpToSlots.refl _)
 have fl:=F.fl
 rw[hs] at fl
 have fr:X.A.frames=some (X.env::X.outer):=by rw[<-hs];exact I0.ok.frames
 refine wpAny_looks_onW fr hfr fl fun h4 held4 up4=>?_
 refine wpAny_landsW held4 fun h5 fl5 up5=>?_
 have up45:=up4.trans up5
 have I5:=(F.inv h5 fl5.1 up45).mark (.ref ea)
 obtain⟨ob,hob,hobc⟩:=fl5.there
 refine wpAny_handleBy_cons (codeAny_handlers_test (lR I5 hg hm ?_ hd)) (by intro q;cases q)
 refine(PySem.W.exm_one I5.kIn (Bj hob hobc) hx).here ?_
 refine codeAny_handlers_suite (lands_againW fl5 fun h6 fl6 up6=>?_)
 have I6:=(F.inv h6 fl6.1 (up45.trans up6)).mark (.ref ea)
 exact wpAny_mono (k _ I6) (fun f s3 q=>q) fun _ _ z=>z.elim
variable {tb:List (Addr×Obj)->(Value->Shared->Prop)->TS} {th:TS}
theorem OJ(hb:∀pn E,PSs (X.hold pn E) body (tb pn E))(hh:∀(v:Value) (pn:List (Addr×Obj)),PSs ((X.mark v).hold pn fun _ _=>False) (b₀::suite) th)
  (hs:X.stack=X.env::X.outer) (hfr:X.env.frame=some X.env.locals) (hg:Gl X x) (hm:X.mg x=some cv) (hd:(x==("__debug__":Str))=false:=by decide) :
  PS X (.Try body [.ExceptHandler (some (.Name x np)) none (b₀::suite) hpos] [] [] pos) (fun D Z H=>∀pins,tb (X.pn++pins) (sH X pins fun Z' C H'=>PySem.W.exmOne X.K (.ref C) cv=some true/\th (Ends.only D.rt) Z' H') D Z H):=by
 intro pins s Z H D I h
 have ok:=I.ok
 have sp:=hb (X.pn++pins) (sH X pins fun Z' C H'=>PySem.W.exmOne X.K (.ref C) cv=some true/\th (Ends.only D.rt) Z' H') [] s Z H D (I.hold _) (h pins)
 refine wpAny_Try_except (wpAny_mono sp (fun fl s1 q=>?_) fun e s1 q=>?_)
 ·cases fl with
  | ret u=>obtain⟨v,Z',H',I',r,q⟩:=q;exact⟨v,Z',H',I'.unhold ok,r,q⟩
  | next=>obtain⟨Z',H',I',q⟩:=q;exact wpAny_execs_nil ⟨Z',H',I'.unhold ok,q⟩
  | brk=>obtain⟨Z',H',I',q⟩:=q;exact⟨Z',H',I'.unhold ok,q⟩
  | cont=>obtain⟨Z',H',I',q⟩:=q;exact⟨Z',H',I'.unhold ok,q⟩
 ·obtain⟨Z1,ea,C,t,H',B,rfl,F,hx,q⟩:=q
  refine HX F hs hfr hg hm hx hd fun s7 I7=>?_
  refine wpAny_mono (hh (.ref ea) (X.pn++pins) [] s7 _ _ _ (I7.hold _) q) (fun fl s3 q3=>?_) fun _ _ z=>z
  cases fl with
  | ret u =>
   obtain⟨v,Z3,H3,I3,r3,q3⟩:=q3
   have I4:=I3.unhold (I7.ok)
   exact⟨v,Z3,H3,I4.unmark ok,r3,q3⟩
  | next=>obtain⟨_,_,_,q⟩:=q3;exact q.elim
  | brk=>obtain⟨_,_,_,q⟩:=q3;exact q.elim
  | cont=>obtain⟨_,_,_,q⟩:=q3;exact q.elim
end
end L2
namespace DL
open PySem PySem.Spec PyProof.Rows L2
def Kp:aU:=fun Y U=>some (.ct Y U)
theorem O_{X:Cx}{C:Cl}{pos:Pos}:PDS X C (.Continue pos) Kp:=fun e₀=>cQ CG fun Dn Z H hw'=>by
 obtain⟨e,U,Y,o,eH,r,q,k⟩:=hw'
 cases q
 have:=k e Z r
 rw[eH] at this
 exact this
def wM(s:aU)(r:fC)(tc:Str->Bool)(t:aU):aU:=fun Y U=>match s Y U with
 | some o=>some o
 | none=>match r Y U with
  | some (c,Y1,U1)=>if tc c=true then match t Y1 U1 with
    | some (.rt d U')=>some (.rt d U')
    | _=>none
   else none
  | none=>none
section
variable {X:Cx} {C:Cl} {body:List Stmt} {x:Str} {np hpos pos:Pos} {cv:Value} {b₀:Stmt} {suite:List Stmt} {s t:aU} {r:fC} {tc:Str->Bool}
theorem Kq(hb:∀pn E,PDB (X.hold pn E) C body s)(hr:∀pn E XW,pA (X.hold pn E) XW->RDB (X.hold pn E) C XW body r)(ht:∀v pn,PDB ((X.mark v).hold pn fun _ _=>False) C (b₀::suite) t)
  (htc:∀c,tc c=true->∃Ca,C c=some Ca/\PySem.W.exmOne X.K (.ref Ca) cv=some true)
  (hs:X.stack=X.env::X.outer) (hfr:X.env.frame=some X.env.locals) (hg:Gl X x) (hm:X.mg x=some cv) (hd:(x==("__debug__":Str))=false:=by decide) :
  PDS X C (.Try body [.ExceptHandler (some (.Name x np)) none (b₀::suite) hpos] [] [] pos) (wM s r tc t):=fun e₀ =>
 cQ (OJ (tb:=fun pn E Dn Z H=>tDS X.K C e₀ s Dn Z H\/∃XW,pA (X.hold pn E) XW/\tRS X.K C XW e₀ r Dn Z H) (th:=tDS X.K C e₀ t)
  (fun pn E pins sh Z H D I h=>h.elim (fun z=>hb pn E e₀ pins sh Z H D I z) fun⟨XW,hX,z⟩=>hr pn E XW hX e₀ pins sh Z H D I z) (fun v pn=>ht v pn e₀) hs hfr hg hm hd) fun Dn Z H hw' pins=>by
  obtain⟨e,U,Y,o,eH,rl,q,k⟩:=hw'
  unfold wM at q
  cases q1:s Y U with
  | some o1 =>
   rw[q1] at q
   cases q
   exact .inl ⟨e,U,Y,_,eH,rl,q1,k⟩
  | none =>
   rw[q1] at q
   dsimp only at q
   cases q2:r Y U with
   | none=>rw[q2] at q;cases q
   | some p2 =>
    obtain⟨c,Y1,U1⟩:=p2
    rw[q2] at q
    dsimp only at q
    by_cases hc:tc c=true
    ·rw[if_pos hc] at q
     obtain⟨Ca,hC,hx⟩:=htc c hc
     refine .inr ⟨_,yX,e,U,Y,c,Y1,U1,Ca,eH,rl,q2,hC,fun e' Z' r'=>⟨hx,?_⟩⟩
     cases q3:t Y1 U1 with
     | none=>rw[q3] at q;cases q
     | some o3 =>
      rw[q3] at q
      cases o3 with
      | rt d U'=>cases q;exact⟨_,_,_,_,rfl,r',q3,k⟩
      | _=>cases q
    ·rw[if_neg hc] at q;cases q
end
section
variable {X:Cx} {C:Cl} {n:Str} {p pos:Pos} {x:Expr} {f:Den} {k:Nat} {a:Expr}
def ue(f:Den):Den:=fun Y U=>(f Y U).bind fun p=>(gY p.1).bind fun n=>(p.2[n]?).bind fun o=>(iz o).bind fun _=>some (.bl false,p.2)
theorem HY{y:Expr}(ha:PD X C x f)(hy:PE X y (tC (.ty "tuple")))(hg:Gl X n)(hm:X.mg n=none)(hv:bootBuiltins n=some (.builtin "isinstance"))
  (hk:∀t∈["NoneType","bool","int","str","tuple","list"],PySem.W.kitOne X.K (.type t) (.type "tuple")=some (decide (t = "tuple") || (decide (t = "bool") && decide ("tuple" = "int"))))
  (hn:n ≠ "__name__":=by decide) (hdb:(n==("__debug__":Str))=false:=by decide)
  (he:starEach [x,y] X.env=(false,eval x X.env)::starEach [y] X.env:=by rfl) (he2:starEach [y] X.env=(false,eval y X.env)::starEach [] X.env:=by rfl) (hpl:(backTo pos (starEach [y] X.env)).any (·.1)=false:=by rfl) :
  PD X C (.Call (.Name n p) [x,y] [] pos) (ue f):=by
 have hc:gG X (.builtin "isinstance") (fun xs H Q=>∃v t k,xs=[v,.ty "tuple"]/\TyOf X.K H v (.type t)/\PySem.W.kitOne X.K (.type t) (.type "tuple")=some k/\Q (.bl k) H):=by
  intro pins s Z H xs us Q I r hw
  obtain⟨v,t,k,rfl,ty,e,q⟩:=hw
  obtain⟨u,w',rfl,r1,r2⟩:=vals2 r
  cases (show w'=Value.type "tuple" from r2)
  exact rM I r1 ty e fun tk=>⟨.bl k,H,I.tok tk,rfl,q⟩
 refine bx (gb hc hg hm hv (bR ha (bR hy dH he2) he) hn hdb he hpl) fun Z H Q hw'=>?_
 obtain⟨e,U,Y,d,U',eH,w,rl,q,kk⟩:=hw'
 obtain⟨⟨d1,U1⟩,q1,qa⟩:=Option.bind_eq_some_iff.mp q
 obtain⟨m,q2,qb⟩:=Option.bind_eq_some_iff.mp qa
 obtain⟨o,q3,qc⟩:=Option.bind_eq_some_iff.mp qb
 obtain⟨ds,q4,qd⟩:=Option.bind_eq_some_iff.mp qc
 clear q qa qb qc
 have e2:=jU q2
 have e4:=lD q4
 dsimp only at e2 q3 qd
 subst e2 e4
 cases qd
 refine⟨e,U,Y,_,_,eH,w,rl,q1,fun v e1 x1 w1 i1=>?_⟩
 rw[Is] at i1
 obtain⟨l,hα,rfl⟩:=i1
 obtain⟨vs,hH,_⟩:=w1.mls hα q3
 exact⟨.ref l,"list",_,rfl,.lst hH,hk "list" (by simp),kk _ e1 x1 w1 (by rw[Is];rfl)⟩
def wN:List (Key×D)->Option (List Int)
 | []=>some []
 | (.inl i,_)::r=>(wN r).bind fun is=>some (i::is)
 | (.inr _,_)::_=>none
theorem sV:∀{kvs:List (Key×D)} {ns:List Int},wN kvs=some ns->kvs.map (·.1)=ns.map Sum.inl
 | [],ns,h=>by cases h;rfl
 | (.inl i,_)::r,ns,h=>by
  obtain⟨is,q,z⟩:=Option.bind_eq_some_iff.mp h
  cases z
  rw[List.map_cons,List.map_cons,sV q]
 | (.inr _,_)::_,_,h=>by cases h
def kE(f:Den):Den:=fun Y U=>(f Y U).bind fun p=>(gY p.1).bind fun n=>(p.2[n]?).bind fun o=>(dKO o).bind fun kvs=>(wN kvs).bind fun ns=>if kvs.length<64 then some (.lst ((lE ns).map D.int),p.2) else none
theorem zf(hr:Room k X.A)(hg:Gl X n)(hm:X.mg n=none)(hv:bootBuiltins n=some (.builtin "sorted"))(ho:PD X C a f)(hn:n ≠ "__name__":=by decide)(hdb:(n==("__debug__":Str))=false:=by decide)
  (he:starEach [a] X.env=(false,eval a X.env)::starEach [] X.env:=by rfl) (hpl:(backTo pos (starEach [] X.env)).any (·.1)=false:=by rfl):PD X C (.Call (.Name n p) [a] [] pos) (kE f) :=
 bx (gb (uD hr.hd) hg hm hv (bR ho dH he) hn hdb he hpl) fun Z H Q hw'=>by
  obtain⟨e,U,Y,d,U',eH,w,rl,q,kk⟩:=hw'
  obtain⟨⟨d1,U1⟩,q1,qa⟩:=Option.bind_eq_some_iff.mp q
  obtain⟨m,q2,qb⟩:=Option.bind_eq_some_iff.mp qa
  obtain⟨o,q3,qc⟩:=Option.bind_eq_some_iff.mp qb
  obtain⟨kvs,q4,qd⟩:=Option.bind_eq_some_iff.mp qc
  obtain⟨ns,q5,qe⟩:=Option.bind_eq_some_iff.mp qd
  clear q qa qb qc qd
  have e2:=jU q2
  have e4:=L_ q4
  dsimp only at e2 q3 qe
  subst e2 e4
  split at qe
  ·rename_i h64
   cases qe
   refine⟨e,U,Y,_,_,eH,w,rl,q1,fun v e1 x1 w1 i1=>?_⟩
   rw[Is] at i1
   obtain⟨a,hα,rfl⟩:=i1
   obtain⟨vs,h1,h2⟩:=(w1.ob m a _ hα q3).2
   have hk:=sU h2
   have hl:=congrArg List.length hk
   simp only[List.length_map] at hl
   refine⟨a,vs,ns,rfl,h1,by omega,by rw[hk];exact sV q5,fun ns' p' hp hpm hs=>?_⟩
   refine kk _ (e1.new p' _) (x1.trans (w1.new_ext hp)) (w1.new hp) ?_
   rw[uC hpm hs,Is]
   exact⟨p',_,rfl,aM,uR _⟩
  ·cases qe
theorem wO(hr:Room k X.A)(hg:Gl X n)(hm:X.mg n=none)(hv:bootBuiltins n=some (.builtin "sorted"))(ho:PD X C a f)(hn:n ≠ "__name__":=by decide)(hdb:(n==("__debug__":Str))=false:=by decide)
  (he:starEach [a] X.env=(false,eval a X.env)::starEach [] X.env:=by rfl) (hpl:(backTo pos (starEach [] X.env)).any (·.1)=false:=by rfl):PDN X C (.Call (.Name n p) [a] [] pos) (gLs (kE f)) :=
 bx (gb (uD hr.hd) hg hm hv (bR ho dH he) hn hdb he hpl) fun Z H Q hw'=>by
  obtain⟨e,U,Y,ys,U',eH,w,rl,q0,kk⟩:=hw'
  have q:=Ov q0
  obtain⟨⟨d1,U1⟩,q1,qa⟩:=Option.bind_eq_some_iff.mp q
  obtain⟨m,q2,qb⟩:=Option.bind_eq_some_iff.mp qa
  obtain⟨o,q3,qc⟩:=Option.bind_eq_some_iff.mp qb
  obtain⟨kvs,q4,qd⟩:=Option.bind_eq_some_iff.mp qc
  obtain⟨ns,q5,qe⟩:=Option.bind_eq_some_iff.mp qd
  clear q q0 qa qb qc qd
  have e2:=jU q2
  have e4:=L_ q4
  dsimp only at e2 q3 qe
  subst e2 e4
  split at qe
  ·rename_i h64
   cases qe
   refine⟨e,U,Y,_,_,eH,w,rl,q1,fun v e1 x1 w1 i1=>?_⟩
   rw[Is] at i1
   obtain⟨a,hα,rfl⟩:=i1
   obtain⟨vs,h1,h2⟩:=(w1.ob m a _ hα q3).2
   have hk:=sU h2
   have hl:=congrArg List.length hk
   simp only[List.length_map] at hl
   refine⟨a,vs,ns,rfl,h1,by omega,by rw[hk];exact sV q5,fun ns' p' hp hpm hs=>?_⟩
   refine kk p' _ e1 x1 w1 ?_ hp
   rw[uC hpm hs]
   exact uR _
  ·cases qe
end
end DL
namespace DL
open PySem PySem.Spec PyProof.Rows L2
def nQ(μ:List (Option Nat))(ga:bB)(β:cT)(p:cB)(g:Den):Den:=fun Y U=>(ga Y U).bind fun q=>match q.1 with
 | [d1,d2]=>(gY d1).bind fun n=>(q.2[n]?).bind fun o=>(iz o).bind fun xs=>(mz d2).bind fun ys =>
  if xs.length<=big then(mC n xs β p g (List.zipWith pairD xs ys) (cU μ Y) q.2).bind fun r=>some (.lst r.1,r.2) else none
 | _=>none
section
variable {K:PySem.W.Frag} {C:Cl} {β:cT} {p:cB} {g:Den} {μ:List (Option Nat)}
structure CIZ(nn:Nat)(os:List D)(K:PySem.W.Frag)(C:Cl)(β:cT)(p:cB)(g:Den)(ds:List D)(a:Addr)(ysAll:List D)(Uf:List OS)(e':E4)(i:Nat)(Z':St)(e2:E4)(U2:List OS)(Y2:List Sl)(vs:List V)(ys0 ys1:List D):Prop where
 w:Wf K C e2 U2
 r:RelE K e2 Z' Y2
 no:∀(j:Nat) (es:List D),Y2[j]? ≠ some (.own es)
 ha:e2.H a=some (.lst vs)
 hF:e2.F a=none
 hA:¬e2.A a
 iy:IsL K e2.α e2.F ys0 vs
 x:Ext e' e2
 q:mC nn os β p g (ds.drop i) Y2 U2=some (ys1,Uf)
 ey:ys0++ys1=ysAll
 hy:ys0.length<=i
def Ma(nn:Nat)(os:List D)(K:PySem.W.Frag)(C:Cl)(β:cT)(p:cB)(g:Den)(ds:List D)(a:Addr)(ysAll:List D)(Uf:List OS)(e':E4)(i:Nat)(Z':St)(H':Hp):Prop :=
 ∃e2 U2 Y2 vs ys0 ys1,e2.H=H'/\CIZ nn os K C β p g ds a ysAll Uf e' i Z' e2 U2 Y2 vs ys0 ys1
theorem H_{nn:Nat}{ga:bB}{Z:St}{H:Hp}{Q:VK}{e:E4}{U U1 Uf:List OS}{Y:List Sl}{os zs ds ysAll:List D}{d2:D}(eH:e.H=H)(w:Wf K C e U)(rl:RelE K e Z Y)(q1:ga Y U=some ([.obj nn,d2],U1))(q0:U1[nn]? = some (.mls os))(qz:mz d2=some zs)(eds:ds=List.zipWith pairD os zs)(hbig:os.length<=big)(q2:mC nn os β p g ds (cU μ Y) U1=some (ysAll,Uf))
  (fin:∀a vs e2,Ext e e2->Wf K C e2 Uf->e2.H a=some (.lst vs)->e2.F a=none->¬e2.A a->e.H a=none->IsL K e2.α e2.F ysAll vs->Q (.ref a) e2.H):vO μ (Rq K (tDA K C ga)) (tDG K C β) (tDT K C p) (tD K C g) Z H Q:=by
 have hbig':ds.length<=big:=by rw[eds,List.length_zipWith];omega
 refine⟨e,U,Y,_,U1,eH,w,rl,q1,fun v e' x' w' i'=>?_⟩
 obtain⟨v1,v2,rfl,iv1,iv2⟩:=pW i'
 rw[Is] at iv1
 obtain⟨ax,hα,rfl⟩:=iv1
 obtain⟨vs0,hH0,_⟩:=w'.mls hα q0
 obtain⟨bz,lz,vz,rfl,tz,rz⟩:=yc qz iv2
 refine⟨false,bz,ax,lz,vs0,vz,rfl,SqL.of hH0,gn w'.fh tz,fun a ha=>?_⟩
 refine⟨fun i m Z' H'=>m=ds.length-i/\i<=ds.length/\Ma nn os K C β p g ds a ysAll Uf e' i Z' H',⟨ds.length,by simp,Nat.zero_le _,⟨e'.α,e'.F,e'.A,upd e'.H a (.lst [])⟩,U1,cU μ Y,[],[],ysAll,rfl,⟨?_,?_,fun j es=>kj,aM,w'.nF ha,fun z=>(w'.ah a z).1 ha,.nil,?_,by simpa using q2,rfl,Nat.zero_le _⟩⟩,?_⟩
 ·refine⟨fun b u hb=>?_,w'.fa,fun b hb=>?_,w'.ol,w'.nd,fun n b u h1 h2=>⟨(w'.ob n b u h1 h2).1,(w'.ob n b u h1 h2).2.keep (fun z hz=>?_) (bK.refl _) ⟨[],by simp⟩⟩⟩
  ·show upd e'.H a _ b=some u
   rw[aD (aP (w'.fh b u hb) ha)];exact w'.fh b u hb
  ·show upd e'.H a _ b≠none/\∀xs,upd e'.H a _ b≠some (.tup xs)
   rw[aD (fun z=>(w'.ah b hb).1 (by rw[z];exact ha))];exact w'.ah b hb
  ·show upd e'.H a _ b=some z
   rw[aD (aP hz ha)];exact hz
 ·have r1:=yM (μ:=μ) (rl.ext x')
  exact⟨r1.len,r1.dat,fun j es h=>absurd h kj,r1.sep⟩
 ·refine⟨fun b o' u hb=>by show upd e'.H a _ b=some (.frz o' u);rw[aD (aP hb ha)];exact hb,fun b u hb _=>?_,fun b u hb=>⟨u,?_⟩,bK.refl _,fun b u hb=>.inl hb,fun b hb=>.inl hb,fun b hb=>hb,[],by simp⟩
  ·show upd e'.H a _ b=some u
   rw[aD (aP hb ha)];exact hb
  ·show upd e'.H a _ b=some u
   rw[aD (aP hb ha)];exact hb
 ·rintro i m Z2 H2 ⟨rfl,hil,e2,U2,Y2,vs,ys0,ys1,rfl,⟨w2,r2,no2,ha2,hF2,hA2,iy,x2,q3,ey,hy⟩⟩
  have al:e2.α[nn]? = some ax:=p_ (K:=K) x2 hα
  by_cases hlt:i<ds.length
  ·have hd:ds[i]? = some ds[i]:=List.getElem?_eq_getElem hlt
   have edrop:ds.drop i=ds[i]::ds.drop (i+1):=List.drop_eq_getElem_cons hlt
   rw[edrop] at q3
   unfold mC at q3
   obtain⟨hgd,q3⟩:=lU q3
   obtain⟨us,hU,iU⟩:=w2.mls al hgd
   have hlo:i<os.length/\i<zs.length:=by rw[eds,List.length_zipWith] at hlt;omega
   have ez:ds[i]=pairD os[i] zs[i]:=by subst eds;simp
   obtain⟨u0,hu0,ix0⟩:=iU.get (List.getElem?_eq_getElem hlo.1)
   have tz2:SqD K bz e2.H lz vz:=gn w2.fh (gn x2.ff tz)
   obtain⟨u1,hu1,ix1⟩:=(rz.ext x2).get (List.getElem?_eq_getElem hlo.2)
   refine .inr ⟨⟨us,vz,u0,u1,SqL.of hU,tz2,hu0,hu1⟩,fun Z' H'=>i+1<=ds.length/\Ma nn os K C β p g ds a ysAll Uf e' (i+1) Z' H',fun Z' H' hN=>⟨ds.length-(i+1),by omega,rfl,hN⟩,fun x H' hyl=>?_⟩
   obtain⟨pz,x0,y0,rfl,hpz,rfl,z0,z1⟩:=hyl
   have z0':=z0 us (SqL.of hU)
   have z1':=z1 vz tz2
   rw[hu0] at z0'
   rw[hu1] at z1'
   cases z0'
   cases z1'
   have xn:=w2.new_ext (o:=.tup [u0,u1]) hpz
   have wn:=w2.new (o:=.tup [u0,u1]) hpz
   obtain⟨ha2,hF2,hA2⟩:=xn.keepOwn ha2 hF2 hA2
   have ix:Is K (e2.new pz (.tup [u0,u1])).α (e2.new pz (.tup [u0,u1])).F ds[i] (.ref pz):=by
    rw[ez]
    unfold pairD
    rw[Is]
    exact⟨pz,[u0,u1],rfl,aM,.cons (ix0.ext xn) (.cons (ix1.ext xn) .nil)⟩
   have x2:=x2.trans xn
   have r2:=r2.ext xn
   have iy:=iy.ext xn
   cases q4:β ds[i] Y2 with
   | none=>rw[q4] at q3;cases q3
   | some Y3 =>
    rw[q4] at q3
    dsimp only at q3
    refine⟨e2.new pz (.tup [u0,u1]),U2,Y2,_,Y3,rfl,wn,r2,ix,q4,fun Z3 r3 o3=>?_⟩
    have no3:∀(j:Nat) (es:List D),Y3[j]? ≠ some (.own es):=fun j es h=>no2 j es (o3 j es h).1
    cases q5:p Y3 U2 with
    | none=>rw[q5] at q3;cases q3
    | some p5 =>
     obtain⟨b,U3⟩:=p5
     rw[q5] at q3
     refine⟨e2.new pz (.tup [u0,u1]),U2,Y3,b,U3,rfl,wn,r3,q5,fun e3 x3 w3=>?_⟩
     cases b with
     | false =>
      refine Jy ?_
      obtain⟨z1,z2,z3⟩:=x3.keepOwn ha2 hF2 hA2
      exact⟨hlt,e3,U3,Y3,vs,ys0,ys1,rfl,⟨w3,r3.ext x3,no3,z1,z2,z3,iy.ext x3,x2.trans x3,q3,ey,Nat.le_succ_of_le hy⟩⟩
     | true =>
      refine Jz ?_
      dsimp only at q3
      cases q6:g Y3 U3 with
      | none=>rw[q6] at q3;cases q3
      | some p6 =>
       obtain⟨y,U4⟩:=p6
       rw[q6] at q3
       dsimp only at q3
       cases q7:mC nn os β p g (ds.drop (i+1)) Y3 U4 with
       | none=>rw[q7] at q3;cases q3
       | some p7 =>
        obtain⟨ys2,U5⟩:=p7
        rw[q7] at q3
        cases q3
        refine⟨e3,U3,Y3,y,U4,rfl,w3,r3.ext x3,q6,fun v e4 x4 w4 i4=>?_⟩
        obtain⟨z1,z2,z3⟩:=(x3.trans x4).keepOwn ha2 hF2 hA2
        have x24:=x3.trans x4
        refine⟨vs,z1,by rw[<-iy.length];exact pQ (by omega),hlt,⟨e4.α,e4.F,e4.A,upd e4.H a (.lst (vs++[v]))⟩,U4,Y3,_,ys0++[y],ys2,rfl,⟨⟨fun b u hb=>?_,w4.fa,fun b hb=>?_,w4.ol,w4.nd,fun n b u h1 h2=>⟨(w4.ob n b u h1 h2).1,(w4.ob n b u h1 h2).2.keep (fun z hz=>?_) (bK.refl _) ⟨[],by simp⟩⟩⟩,
         ⟨((r3.ext x3).ext x4).len,((r3.ext x3).ext x4).dat,fun j es h=>absurd h (no3 j es),((r3.ext x3).ext x4).sep⟩,no3,aM,z2,z3,(iy.ext x24).append (.cons i4 .nil),⟨fun b o' u hb=>by show upd e4.H a _ b=some (.frz o' u);rw[aD (aP hb ha)];exact(x2.trans x24).fz b o' u hb,fun b u hb hn=>?_,fun b u hb=>?_,(x2.trans x24).ff,(x2.trans x24).fn,(x2.trans x24).an,(x2.trans x24).aa,(x2.trans x24).al⟩,q7,by rw[<-ey];simp,by simp;omega⟩⟩
        ·show upd e4.H a _ b=some u
         rw[aD (fun z=>by subst z;rw[z2] at hb;cases hb)];exact w4.fh b u hb
        ·show upd e4.H a _ b≠none/\∀xs,upd e4.H a _ b≠some (.tup xs)
         rw[aD (fun z=>z3 (by rw[<-z];exact hb))];exact w4.ah b hb
        ·show upd e4.H a _ b=some z
         rw[aD (fun y=>z3 (by rw[<-y];exact(w4.ob n b u h1 h2).1))];exact hz
        ·show upd e4.H a _ b=some u
         rw[aD (aP hb ha)];exact(x2.trans x24).hk b u hb hn
        ·obtain⟨u',z⟩:=(x2.trans x24).dm b u hb
         exact⟨u',by show upd e4.H a _ b=some u';rw[aD (aP hb ha)];exact z⟩
  ·have ei:i=ds.length:=by omega
   subst ei
   rw[List.drop_length] at q3
   unfold mC at q3
   obtain⟨hgd,q3⟩:=lU q3
   cases q3
   rw[List.append_nil] at ey
   subst ey
   obtain⟨us,hU,iU⟩:=w2.mls al hgd
   have l1:=iU.length
   have l2:=rz.length
   refine .inl ⟨⟨us,vz,SqL.of hU,gn w2.fh (gn x2.ff tz),by
    have:ds.length=min os.length zs.length:=by rw[eds,List.length_zipWith]
    omega⟩,?_⟩
   exact fin a vs e2 (x'.trans x2) w2 ha2 hF2 hA2 (x'.back ha) iy
end
section
variable {X:Cx} {C:Cl} {elt a b:Expr} {es:List Expr} {kk:Nat} {pt:Pos} {ifs:List Expr} {scope:Scope} {pos pc pn:Pos} {N:List Str} {μ:List (Option Nat)} {ga:bB} {β:cT} {p:cB} {g:Den}
theorem Ia(hc:X.calm=true)(ok:CompOk X N scope μ)(hz:Gl X "zip")(hm:X.mg "zip" = none)(ha:PDA X C [a,b] ga)
  (hg:∀fp A s H,PDG (bO X N scope (clos X.env.cells scope.names []) A fp s H) C (.Tuple es kk pt) β) (ht:∀fp A s H,xP (bO X N scope (clos X.env.cells scope.names []) A fp s H) C ifs p) (he:∀fp A s H,PD (bO X N scope (clos X.env.cells scope.names []) A fp s H) C elt g)
  (h1:starEach [a,b] X.env=[(false,eval a X.env),(false,eval b X.env)]:=by rfl) (h2:starEach [b] X.env=[(false,eval b X.env)]:=by rfl)
  (hs:∀x,foldedSetIterable (.Call (.Name "zip" pn) [a,b] [] pc) X.env x=pure x:=by intro _;rfl):PD X C (.ListComp elt [⟨.Tuple es kk pt,.Call (.Name "zip" pn) [a,b] [] pc,ifs,0⟩] scope pos) (nQ μ ga β p g) :=
 bx (Ds (g:=tDG X.K C β) (tt:=tDT X.K C p) (te:=tD X.K C g) hc ok.cell ok.kind ok.names ok.free ok.has ok.mu (HN hz hm ha h1 h2) hg ht he hs) fun Z H Q hw=>by
  obtain⟨e,U,Y,d,Uf,eH,w,rl,q,kk⟩:=hw
  obtain⟨⟨fs,U1⟩,q1,qa⟩:=Option.bind_eq_some_iff.mp q
  dsimp only at qa
  match fs,q1,qa with
  | [d1,d2],q1,qa =>
   obtain⟨n,q2,qb⟩:=Option.bind_eq_some_iff.mp qa
   obtain⟨o,q3,qc⟩:=Option.bind_eq_some_iff.mp qb
   obtain⟨xs,q4,qd⟩:=Option.bind_eq_some_iff.mp qc
   obtain⟨ys,q4',qd⟩:=Option.bind_eq_some_iff.mp qd
   clear q qa qb qc
   have e2:=jU q2
   have e4:=lD q4
   subst e2 e4
   split at qd
   ·rename_i hbig
    obtain⟨⟨ys,U5⟩,q5,qe⟩:=Option.bind_eq_some_iff.mp qd
    cases qe
    refine H_ eH w rl q1 q3 q4' rfl hbig q5 fun a vs e2 x2 w2 ha2 hF2 hA2 ha iy=>?_
    have w3:=w2.bare hF2 hA2
    have z:=kk (.ref a) ((e2.bare a).new a (.lst vs)) ((x2.bare ha).trans (w3.new_ext (if_pos rfl))) (w3.new (if_pos rfl)) (by
     rw[Is]
     exact⟨a,vs,rfl,aM,IsL.ext (w3.new_ext (if_pos rfl)) iy⟩)
    have eq:((e2.bare a).new a (.lst vs)).H=e2.H:=Kl ha2
    rw[<-eq];exact z
   ·cases qd
end
end DL
namespace Law
open PySem DL
def uT:Str->Option Bool:=fun c=>if c = "NotTied" then some false else if c = "Tied" then some false else none
def uU:Str->Option Bool:=fun c=>if c = "NotTied" then some false else if c = "Tied" then some false else none
def uV:Str->Option Bool:=fun c=>if c = "NotTied" then some false else if c = "Tied" then some false else none
def uW:Str->Option Bool:=fun c=>if c = "NotTied" then some false else if c = "Tied" then some false else none
def uX:Str->Option Bool:=fun c=>if c = "NotTied" then some false else if c = "Tied" then some false else none
def uY:Str->Option Bool:=fun c=>if c = "NotTied" then some false else if c = "Tied" then some false else none
def uZ:Str->Option Bool:=fun c=>if c = "NotTied" then some true else if c = "Tied" then some true else none
def u_:Str->Option Bool:=fun c=>if c = "NotTied" then some true else if c = "Tied" then some false else none
def vd:Str->Option Bool:=fun c=>if c = "NotTied" then some false else if c = "Tied" then some true else none
def gZ:Str->Bool:=fun c=>decide (c = "NotTied")
def dU:Str->Bool:=fun c=>decide (c = "NotTied") || decide (c = "Tied")
def mQ:bw:=bQ 1 4 (aK (uL 1 aA) (aK (bD 2 (gC (.int 1))) (aK (n_ (jk (aj 0)) (bF 3) (aK (bD 2 (gOp bT (gOp bY (gOp bY (gOp cR (aj 2) (gC (.int 6364136223846793005))) (aj 3)) (gC (.int 1442695040888963407))) (gC (.int 1000000000000000003)))) (mU 1 (aj 2)))) (aK (jr (gT (gOp ltD (wA (gO 1)) (gC (.int 48)))) (aK (bD 2 (gOp bT (gOp bY (gOp cR (aj 2) (gC (.int 6364136223846793005))) (gC (.int 1442695040888963407))) (gC (.int 1000000000000000003)))) (mU 1 (aj 2))) 1000) (pX (frz 1) (a_ (aj 1)))))))
def b_:bw:=bQ 2 2 (aK (sIf (gT (gOp ltD (aj 1) (gCB lu (ao (aj 0) aA)))) (a_ (gOp ixD (aj 0) (aj 1))) aX) (a_ (gOp cR (gOp cR (gOp bY (aj 1) (gC (.int 3))) (gOp bY (aj 1) (gC (.int 7)))) (gC (.int 7919)))))
def lF:bw:=bQ 1 2 (aK (bD 1 (aJ b_ (ao (aj 0) (ao (gC (.int 0)) aA)))) (aK (sIf (gT (gOp (eqD false) (gOp bT (aj 1) (gC (.int 12))) (gC (.int 0)))) (a_ (dF [none] (gh jP (ao (gC (.int 32)) aA)) (bF 0) cN (aj 0))) aX) (a_ (dF [none,some 1] (gh jP (ao (gOp bY (gC (.int 3)) (gOp bT (gOp k_ (aj 1) (gC (.int 11904))) (gC (.int 3)))) aA)) (bF 0) cN (gOp bT (gOp bY (gOp k_ (aj 1) (gC (.int 12))) (gOp cR (aj 0) (gOp bY (gC (.int 1)) (gOp bT (gOp k_ (aj 1) (gC (.int 384))) (gC (.int 31)))))) (gC (.int 32)))))))
def dW:bw:=bQ 1 1 (a_ (jW (gUn (gH "int") (aj 0)) (zL (gUn (gH "bool") (aj 0)))))
def bW:bw:=bQ 2 2 (aK (sIf (gT (gOp (isD false) (aj 1) (gC .non))) (a_ (gOp (isD false) (aj 0) (gC .non))) aX) (aK (sIf (gT (gUn (jx ["tuple","list"]) (aj 1))) (aK (sIf (pG (gT (gOp (eqD true) (gUn (gH "tuple") (aj 1)) (gUn (gH "tuple") (aj 0)))) (gT (gOp (eqD true) (gUn (gH "list") (aj 1)) (gUn (gH "list") (aj 0))))) (a_ (gC (.bl false))) aX) (a_ (jW (gOp (eqD false) (gCB lu (ao (aj 0) aA)) (gCB lu (ao (aj 1) aA))) (gCB j_ (ao (dF [none,none] (gh sO (ao (aj 0) (ao (aj 1) aA))) (jj [0,1]) cN gNo) aA))))) aX) (a_ (jW (gOp (eqD false) (aJ dW (ao (aj 0) aA)) (aJ dW (ao (aj 1) aA))) (gOp (eqD false) (aj 0) (aj 1))))))
def fK:bw:=bQ 2 2 (aK (sIf (gT (gOp (isD false) (aj 1) (gC .non))) (a_ (gOp (isD false) (aj 0) (gC .non))) aX) (aK (sIf (gT (gUn (jx ["tuple","list"]) (aj 1))) (aK (sIf (pG (gT (gOp (eqD true) (gUn (gH "tuple") (aj 1)) (ue (aj 0)))) (gT (gOp (eqD true) (gUn (gH "list") (aj 1)) (wK (aj 0))))) (a_ (gC (.bl false))) aX) (a_ (jW (gOp (eqD false) (wL (aj 0)) (gCB lu (ao (aj 1) aA))) (gCB j_ (ao (nQ [none,none] (ao (aj 0) (ao (aj 1) aA)) (jj [0,1]) cN (aJ bW (ao (aj 0) (ao (aj 1) aA)))) aA))))) aX) (a_ (jW (gOp (eqD false) (aJ dW (ao (aj 0) aA)) (aJ dW (ao (aj 1) aA))) (qY false (aj 0) (aj 1))))))
def cD:bw:=bQ 1 1 (a_ (qX (gLs (kE (fJ "Ways" "length_by" (aj 0))))))
def du:bw:=bQ 1 1 (a_ (qX (gLs (kE (fJ "Ways" "mark_of" (aj 0))))))
def cI:bw:=bQ 2 2 (aK (sIf (gT (gOp (isD false) (aj 1) (gC .non))) (a_ (gOp (isD false) (aj 0) (gC .non))) aX) (aK (sIf (gT (gUn (jx ["tuple","list"]) (aj 1))) (aK (sIf (pG (gT (gOp (eqD true) (gUn (gH "tuple") (aj 1)) (gUn (gH "tuple") (aj 0)))) (gT (gOp (eqD true) (gUn (gH "list") (aj 1)) (gUn (gH "list") (aj 0))))) (a_ (gC (.bl false))) aX) (a_ (jW (gOp (eqD false) (gCB lu (ao (aj 0) aA)) (gCB lu (ao (aj 1) aA))) (gCB j_ (ao (dF [none,none] (gh sO (ao (aj 0) (ao (aj 1) aA))) (jj [0,1]) cN (aJ bW (ao (aj 0) (ao (aj 1) aA)))) aA))))) aX) (a_ (jW (gOp (eqD false) (aJ dW (ao (aj 0) aA)) (aJ dW (ao (aj 1) aA))) (gOp (eqD false) (aj 0) (aj 1))))))
def bJ:bw:=bQ 2 2 (sIf (gT (jm true (aj 1) (fJ "Ways" "length_by" (aj 0)))) vQ aX)
def bZ:jK:=pH 2 2 (rIf (gT (jm true (aj 1) (fJ "Ways" "length_by" (aj 0)))) (qj "NotTied" (pFi (aj 1))) wC)
def cA:bw:=bQ 2 2 (aK (eV (cP "Ways" "need_tie" bJ [] (aj 0) (ao (aj 1) aA))) (a_ (bu (fJ "Ways" "length_by" (aj 0)) (aj 1))))
def dg:jK:=pH 2 2 (rE (jM "Ways" "need_tie" bZ [] (aj 0) (ao (aj 1) aA)))
def gF:bw:=bQ 2 2 (aK (wM (eV (cP "Ways" "length" cA [] (aj 0) (ao (aj 1) aA))) (rE (jM "Ways" "length" dg [] (aj 0) (ao (aj 1) aA))) gZ (a_ (gC (.bl true)))) (a_ (gC (.bl false))))
def dG:bw:=bQ 2 2 (a_ (jt (fJ "Ways" "mark_of" (aj 0)) (aj 1)))
def fZ:bw:=bQ 1 1 (a_ (cV (ao (jl (gOp ixD (aj 0) (gC (.int 0)))) (ao (gOp ixD (aj 0) (gC (.int 1))) (ao (gOp ixD (aj 0) (gC (.int 2))) aA)))))
def oM:bw:=bQ 2 2 (aK (sIf (gT (gOp (eqD true) (gOp ixD (aj 0) (gC (.int 0))) (gOp ixD (aj 1) (gC (.int 0))))) (a_ (gOp gtD (gOp ixD (aj 0) (gC (.int 0))) (gOp ixD (aj 1) (gC (.int 0))))) aX) (a_ (gOp ltD (gOp ixD (aj 0) (gC (.int 1))) (gOp ixD (aj 1) (gC (.int 1))))))
def kI:bw:=bQ 3 3 (aK (sIf (gT (gOp (isD false) (aj 2) (gC .non))) (a_ (gC (.bl false))) aX) (a_ (xN (gOp (isD false) (aj 0) (gC .non)) (aJ oM (ao (cV (ao (aj 1) (ao (aj 2) aA))) (ao (aj 0) aA))))))
def eX:bw:=bQ 2 6 (aK (bD 2 (cP "Ways" "mark" dG [] (aj 0) (ao (aj 1) aA))) (aK (uL 3 aA) (aK (qU (fJ "Ways" "tellings_by" (aj 0)) (bF 4) (aK (bD 5 (jt (bu (fJ "Ways" "tellings_by" (aj 0)) (aj 4)) (aj 1))) (sIf (jn (gT (gOp (isD true) (aj 5) (gC .non))) (gT (aJ kI (ao (aj 2) (ao (gOp ixD (aj 5) (gC (.int 0))) (ao (gOp ixD (aj 5) (gC (.int 1))) aA)))))) (mU 3 (cV (ao (gOp ixD (aj 5) (gC (.int 0))) (ao (gOp bY (gOp ixD (aj 5) (gC (.int 1))) (bu (fJ "Ways" "length_by" (aj 0)) (aj 4))) (ao (aj 4) aA))))) aX))) (pX (frz 3) (a_ (zP fZ (aj 3)))))))
def lG:bw:=bQ 2 2 (a_ (xN (gOp gtD (gOp ixD (aj 0) (gC (.int 0))) (gOp ixD (aj 1) (gC (.int 0)))) (jW (gOp (eqD false) (gOp ixD (aj 0) (gC (.int 0))) (gOp ixD (aj 1) (gC (.int 0)))) (gOp ltD (gOp ixD (aj 0) (gC (.int 1))) (gOp ixD (aj 1) (gC (.int 1)))))))
def nR:bw:=bQ 3 3 (a_ (jW (gOp (isD true) (aj 2) (gC .non)) (xN (gOp (isD false) (aj 0) (gC .non)) (aJ lG (ao (cV (ao (aj 1) (ao (aj 2) aA))) (ao (aj 0) aA))))))
def iB:bw:=bQ 2 7 (aK (uL 2 aA) (aK (qU (bu (aj 0) (gC (.str "lengths"))) (bF 3) (sIf (gT (jm false (cV (ao (aj 1) (ao (aj 3) aA))) (bu (aj 0) (gC (.str "told"))))) (aK (An (jj [4,5]) (bu (bu (aj 0) (gC (.str "told"))) (cV (ao (aj 1) (ao (aj 3) aA))))) (sIf (gT (aJ nR (ao (jt (bu (aj 0) (gC (.str "marks"))) (aj 1)) (ao (aj 4) (ao (aj 5) aA))))) (mU 2 (cV (ao (jl (aj 4)) (ao (gOp bY (aj 5) (bu (bu (aj 0) (gC (.str "lengths"))) (aj 3))) (ao (aj 3) aA))))) aX)) aX)) (pX (frz 2) (aK (sIf (gT (gOp (eqD false) (aj 2) (ji aA))) (a_ (gC .non)) aX) (aK (bD 6 (FQ (aj 2))) (a_ (cV (ao (jl (gOp ixD (aj 6) (gC (.int 0)))) (ao (gOp ixD (aj 6) (gC (.int 1))) (ao (gOp ixD (aj 6) (gC (.int 2))) aA))))))))))
def jy:bw:=bQ 6 7 (aK (sIf (gT (gOp (eqD false) (aj 4) (gC (.int 0)))) (aK (pC (aj 5) (ji (ao (cP "Ways" "neighbours" cD [] (aj 0) aA) (ao (kE (bu (aj 1) (gC (.str "lengths")))) aA)))) (a_ (aJ fK (ao (gOp ixD (oK (aj 5) (jl (gC (.int 1)))) (gC (.int 0))) (ao (gOp ixD (oK (aj 5) (jl (gC (.int 1)))) (gC (.int 1))) aA))))) aX) (aK (sIf (gT (gOp (eqD false) (aj 4) (gC (.int 1)))) (aK (pC (aj 5) (ji (ao (cP "Ways" "goals" du [] (aj 0) aA) (ao (kE (bu (aj 1) (gC (.str "marks")))) aA)))) (a_ (aJ fK (ao (gOp ixD (oK (aj 5) (jl (gC (.int 1)))) (gC (.int 0))) (ao (gOp ixD (oK (aj 5) (jl (gC (.int 1)))) (gC (.int 1))) aA))))) aX) (aK (sIf (gT (gOp (eqD false) (aj 4) (gC (.int 2)))) (a_ (gCB j_ (ao (dF [none,some 0,some 1] (jk (aj 3)) (bF 0) cN (aJ cI (ao (cP "Ways" "mark" dG [] (aj 1) (ao (aj 0) aA)) (ao (jt (bu (aj 2) (gC (.str "marks"))) (aj 0)) aA)))) aA))) aX) (aK (sIf (gT (gOp (eqD false) (aj 4) (gC (.int 3)))) (a_ (gCB j_ (ao (dF [none,some 1,some 0] (jk (aj 3)) (bF 0) cN (aJ cI (ao (cP "Ways" "way" eX [] (aj 2) (ao (aj 0) aA)) (ao (aJ iB (ao (aj 1) (ao (aj 0) aA))) aA)))) aA))) aX) (aK (n_ (jk (aj 2)) (bF 6) (aK (sIf (jn (gT (jm false (aj 6) (bu (aj 1) (gC (.str "lengths"))))) (my (gT (aJ cI (ao (cP "Ways" "length" cA [] (aj 0) (ao (aj 6) aA)) (ao (bu (bu (aj 1) (gC (.str "lengths"))) (aj 6)) aA)))))) (a_ (gC (.bl false))) aX) (sIf (jn (gT (jm true (aj 6) (bu (aj 1) (gC (.str "lengths"))))) (my (gT (aJ gF (ao (aj 0) (ao (aj 6) aA)))))) (a_ (gC (.bl false))) aX))) (a_ (gC (.bl true))))))))
def dX:bw:=bQ 6 7 (aK (bD 6 (dF [none,some 4] (gh jP (ao (gC (.int 5)) aA)) (bF 0) cN (gOp bT (gOp bY (gOp k_ (aj 1) (gC (.int 5))) (gOp cR (aj 0) (gOp bY (gC (.int 1)) (gOp bT (aj 1) (gC (.int 4)))))) (gC (.int 5))))) (a_ (gCB j_ (ao (dF [none,some 0,some 1,some 2,some 3,some 5] (jk (aj 6)) (bF 0) cN (aJ jy (ao (aj 1) (ao (aj 2) (ao (aj 3) (ao (aj 4) (ao (aj 0) (ao (aj 5) aA)))))))) aA))))
def cX:bw:=bQ 1 1 (aK (nC "Ways" "length_by" (aj 0) jJ) (aK (nC "Ways" "tellings_by" (aj 0) jJ) (nC "Ways" "mark_of" (aj 0) jJ)))
def iI:bw:=bQ 0 0 (a_ (wI [("lengths",jJ),("told",zO),("marks",jJ)]))
def bI:bw:=bQ 2 3 (aK (bD 2 (gOp bT (gOp bY (gOp bY (aj 0) (gOp cR (gC (.int 104729)) (aj 1))) (gOp cR (gOp cR (gC (.int 7919)) (aj 1)) (aj 1))) (gC (.int 998244353)))) (a_ (gOp bT (gOp cR (gOp bT (gOp cR (aj 2) (aj 2)) (gC (.int 998244353))) (gC (.int 1000003))) (gC (.int 998244353)))))
def gJ:bw:=bQ 4 11 (aK (bD 4 (gOp ixD (aj 1) (gOp bT (aJ bI (ao (aj 3) (ao (gC (.int 1)) aA))) (gCB lu (ao (aj 1) aA))))) (aK (bD 5 (gOp ixD (aj 2) (gOp bT (aJ bI (ao (aj 3) (ao (gC (.int 2)) aA))) (gCB lu (ao (aj 2) aA))))) (aK (bD 6 (gOp bT (aJ bI (ao (aj 3) (ao (gC (.int 3)) aA))) (gC (.int 16)))) (aK (sIf (gT (gOp ltD (aj 6) (gC (.int 3)))) (a_ (cV (ao (gC (.str "tie")) (ao (aj 4) (ao (gOp ixD (ji (ao (gOp bY (gC (.int 1)) (gOp bT (aJ bI (ao (aj 3) (ao (gC (.int 4)) aA))) (gC (.int 4)))) (ao (gOp bY (gC (.int 1)) (gOp bT (aJ bI (ao (aj 3) (ao (gC (.int 4)) aA))) (gC (.int 99)))) aA))) (gOp bT (aJ bI (ao (aj 3) (ao (gC (.int 5)) aA))) (gC (.int 2)))) aA))))) aX) (aK (sIf (gT (gOp (eqD false) (aj 6) (gC (.int 3)))) (a_ (cV (ao (gC (.str "untie")) (ao (aj 4) aA)))) aX) (aK (bD 7 (aJ iB (ao (aj 0) (ao (aj 5) aA)))) (aK (sIf (jn (gT (gOp (isD true) (aj 7) (gC .non))) (jn (gT (jm false (aj 4) (bu (aj 0) (gC (.str "lengths"))))) (gT (gOp (eqD false) (gOp bT (aJ bI (ao (aj 3) (ao (gC (.int 11)) aA))) (gC (.int 5))) (gC (.int 0)))))) (a_ (cV (ao (gC (.str "hear")) (ao (aj 4) (ao (aj 5) (ao (gOp ixD (aj 7) (gC (.int 0))) (ao (gCB vP (ao (gC (.int 0)) (ao (gOp JB (gOp ixD (aj 7) (gC (.int 1))) (bu (bu (aj 0) (gC (.str "lengths"))) (aj 4))) aA))) aA))))))) aX) (aK (bD 8 (wg (bu (aj 0) (gC (.str "marks"))) (aj 5) (cV (ao (gC (.int 1)) (ao (gC (.int 3)) aA))))) (aK (bD 9 (gCB vP (ao (gC (.int 1)) (ao (gOp bY (gOp ixD (aj 8) (gC (.int 0))) (gOp ixD (ji (ao (gC (.int 0)) (ao (gC (.int 0)) (ao (gC (.int 0)) (ao (gC (.int 1)) (ao (jl (gC (.int 1))) (ao (gC (.int 2)) aA))))))) (gOp bT (aJ bI (ao (aj 3) (ao (gC (.int 4)) aA))) (gC (.int 6))))) aA)))) (aK (bD 10 (gOp ixD (ji (ao (gOp bT (aJ bI (ao (aj 3) (ao (gC (.int 5)) aA))) (gC (.int 9))) (ao (gOp ixD (aj 8) (gC (.int 1))) (ao (gOp JB (gOp ixD (aj 8) (gC (.int 1))) (gC (.int 1))) (ao (gOp bY (gOp ixD (aj 8) (gC (.int 1))) (gC (.int 1))) aA))))) (gOp bT (aJ bI (ao (aj 3) (ao (gC (.int 6)) aA))) (gC (.int 4))))) (aK (sIf (gT (gOp (eqD false) (gOp bT (aJ bI (ao (aj 3) (ao (gC (.int 7)) aA))) (gC (.int 40))) (gC (.int 0)))) (aK (bD 9 (gOp bY (gC (.int 1)) (gOp cR (aJ bI (ao (aj 3) (ao (gC (.int 8)) aA))) (gC (.int 1000))))) (bD 10 (aJ bI (ao (aj 3) (ao (gC (.int 9)) aA))))) aX) (aK (sIf (gT (gOp (eqD false) (gOp bT (aJ bI (ao (aj 3) (ao (gC (.int 7)) aA))) (gC (.int 7))) (gC (.int 1)))) (bD 10 (gC .non)) aX) (a_ (cV (ao (gC (.str "hear")) (ao (aj 4) (ao (aj 5) (ao (aj 9) (ao (aj 10) aA)))))))))))))))))))
def fG:bw:=bQ 2 2 (aK (sIf (jn (gT (gOp (eqD false) (gOp ixD (aj 1) (gC (.int 0))) (gC (.str "tie")))) (gT (jm false (gOp ixD (aj 1) (gC (.int 1))) (bu (aj 0) (gC (.str "lengths")))))) (a_ (gOp bY (ji (ao (gC (.bl true)) (ao (gC (.bl false)) (ao (gC (.bl true)) aA)))) (gOp cR (ji (ao (gC (.bl false)) aA)) (gC (.int 6))))) aX) (aK (sIf (jn (gT (gOp (eqD true) (gOp ixD (aj 1) (gC (.int 0))) (gC (.str "tie")))) (gT (jm true (gOp ixD (aj 1) (gC (.int 1))) (bu (aj 0) (gC (.str "lengths")))))) (a_ (gOp bY (ji (ao (gC (.bl false)) (ao (gC (.bl true)) (ao (gC (.bl true)) aA)))) (gOp cR (ji (ao (gC (.bl false)) aA)) (gC (.int 6))))) aX) (a_ (gC .non))))
def jc:bw:=bQ 3 3 (aK (sIf (gT (jm false (aj 1) (fJ "Ways" "length_by" (aj 0)))) vQ aX) (aK (ir (fJ "Ways" "length_by" (aj 0)) (aj 1) (aj 2)) (ir (fJ "Ways" "tellings_by" (aj 0)) (aj 1) jJ)))
def jO:jK:=pH 3 3 (rIf (gT (jm false (aj 1) (fJ "Ways" "length_by" (aj 0)))) (qj "Tied" (pFi (aj 1))) wC)
def gq:bw:=bQ 2 2 (aK (eV (cP "Ways" "need_tie" bJ [] (aj 0) (ao (aj 1) aA))) (aK (eV (pq (fJ "Ways" "length_by" (aj 0)) (aj 1))) (eV (pq (fJ "Ways" "tellings_by" (aj 0)) (aj 1)))))
def iC:jK:=pH 2 2 (rE (jM "Ways" "need_tie" bZ [] (aj 0) (ao (aj 1) aA)))
def lH:bw:=bQ 3 3 (aK (sIf (pG (gT (gOp (isD false) (aj 0) (gC .non))) (gT (gOp gtD (aj 1) (gOp ixD (aj 0) (gC (.int 0)))))) (a_ (cV (ao (aj 1) (ao (aj 2) aA)))) aX) (a_ (cV (ao (aj 1) (ao (gCB tQ (ao (gOp ixD (aj 0) (gC (.int 1))) (ao (aj 2) aA))) aA)))))
def fV:bw:=bQ 5 6 (aK (eV (cP "Ways" "need_tie" bJ [] (aj 0) (ao (aj 1) aA))) (aK (ir (bu (fJ "Ways" "tellings_by" (aj 0)) (aj 1)) (aj 2) (cV (ao (aj 3) (ao (aj 4) aA)))) (aK (bD 5 (cP "Ways" "way" eX [] (aj 0) (ao (aj 2) aA))) (sIf (gT (gOp (isD true) (aj 5) (gC .non))) (ir (fJ "Ways" "mark_of" (aj 0)) (aj 2) (aJ lH (ao (cP "Ways" "mark" dG [] (aj 0) (ao (aj 2) aA)) (ao (gOp ixD (aj 5) (gC (.int 0))) (ao (gOp ixD (aj 5) (gC (.int 1))) aA))))) aX))))
def jh:jK:=pH 5 6 (rE (jM "Ways" "need_tie" bZ [] (aj 0) (ao (aj 1) aA)))
def cG:bw:=bQ 2 5 (aK (qR (sIf (gT (gOp (eqD false) (gOp ixD (aj 1) (gC (.int 0))) (gC (.str "tie")))) (bD 2 (cP "Ways" "tie" jc [] (aj 0) (ao (gOp ixD (aj 1) (gC (.int 1))) (ao (gOp ixD (aj 1) (gC (.int 2))) aA)))) (sIf (gT (gOp (eqD false) (gOp ixD (aj 1) (gC (.int 0))) (gC (.str "untie")))) (bD 2 (cP "Ways" "untie" gq [] (aj 0) (ao (gOp ixD (aj 1) (gC (.int 1))) aA))) (bD 2 (cP "Ways" "hear" fV [] (aj 0) (ao (gOp ixD (aj 1) (gC (.int 1))) (ao (gOp ixD (aj 1) (gC (.int 2))) (ao (gOp ixD (aj 1) (gC (.int 3))) (ao (gOp ixD (aj 1) (gC (.int 4))) aA)))))))) (rIf (gT (gOp (eqD false) (gOp ixD (aj 1) (gC (.int 0))) (gC (.str "tie")))) (rE (jM "Ways" "tie" jO [] (aj 0) (ao (gOp ixD (aj 1) (gC (.int 1))) (ao (gOp ixD (aj 1) (gC (.int 2))) aA)))) (rIf (gT (gOp (eqD false) (gOp ixD (aj 1) (gC (.int 0))) (gC (.str "untie")))) (rE (jM "Ways" "untie" iC [] (aj 0) (ao (gOp ixD (aj 1) (gC (.int 1))) aA))) (rE (jM "Ways" "hear" jh [] (aj 0) (ao (gOp ixD (aj 1) (gC (.int 1))) (ao (gOp ixD (aj 1) (gC (.int 2))) (ao (gOp ixD (aj 1) (gC (.int 3))) (ao (gOp ixD (aj 1) (gC (.int 4))) aA)))))))) 3 dU (aK (bD 4 (ji (ao (lB uW (aj 3)) (ao (lB uV (aj 3)) (ao (lB uU (aj 3)) (ao (lB uT (aj 3)) aA)))))) (aK (bD 4 (gOp bY (aj 4) (ji (ao (lB uY (aj 3)) (ao (lB uX (aj 3)) aA))))) (a_ (gOp bY (ji (ao (lB vd (aj 3)) (ao (lB u_ (aj 3)) (ao (lB uZ (aj 3)) aA)))) (aj 4)))))) (a_ (aj 2)))
def gr:bw:=bQ 2 3 (sIf (gT (gOp (eqD false) (gOp ixD (aj 1) (gC (.int 0))) (gC (.str "tie")))) (ir (bu (aj 0) (gC (.str "lengths"))) (gOp ixD (aj 1) (gC (.int 1))) (gOp ixD (aj 1) (gC (.int 2)))) (sIf (gT (gOp (eqD false) (gOp ixD (aj 1) (gC (.int 0))) (gC (.str "untie")))) (aK (eV (pq (bu (aj 0) (gC (.str "lengths"))) (gOp ixD (aj 1) (gC (.int 1))))) (n_ (jk (sy (bu (aj 0) (gC (.str "told"))))) (bF 2) (sIf (gT (gOp (eqD false) (gOp ixD (aj 2) (gC (.int 1))) (gOp ixD (aj 1) (gC (.int 1))))) (eV (pq (bu (aj 0) (gC (.str "told"))) (aj 2))) aX))) (ir (bu (aj 0) (gC (.str "told"))) (cV (ao (gOp ixD (aj 1) (gC (.int 2))) (ao (gOp ixD (aj 1) (gC (.int 1))) aA))) (cV (ao (gOp ixD (aj 1) (gC (.int 3))) (ao (gOp ixD (aj 1) (gC (.int 4))) aA))))))
def fQ:bw:=bQ 2 5 (n_ (jk (aj 1)) (bF 2) (aK (bD 3 (aJ iB (ao (aj 0) (ao (aj 2) aA)))) (sIf (gT (gOp (isD true) (aj 3) (gC .non))) (aK (bD 4 (jt (bu (aj 0) (gC (.str "marks"))) (aj 2))) (sIf (pG (gT (gOp (isD false) (aj 4) (gC .non))) (gT (gOp gtD (gOp ixD (aj 3) (gC (.int 0))) (gOp ixD (aj 4) (gC (.int 0)))))) (ir (bu (aj 0) (gC (.str "marks"))) (aj 2) (cV (ao (gOp ixD (aj 3) (gC (.int 0))) (ao (gOp ixD (aj 3) (gC (.int 1))) aA)))) (ir (bu (aj 0) (gC (.str "marks"))) (aj 2) (cV (ao (gOp ixD (aj 4) (gC (.int 0))) (ao (gCB tQ (ao (gOp ixD (aj 4) (gC (.int 1))) (ao (gOp ixD (aj 3) (gC (.int 1))) aA))) aA)))))) aX)))
def uf:bw:=bQ 1 12 (aK (bD 1 (aJ mQ (ao (aj 0) aA))) (aK (bD 2 (aJ lF (ao (aj 1) aA))) (aK (bD 3 (dF [none,some 1] (gh jP (ao (gC (.int 3)) aA)) (bF 0) cN (gOp bT (aJ bI (ao (aJ b_ (ao (aj 1) (ao (gC (.int 1)) aA))) (ao (aj 0) aA))) (gC (.int 32))))) (aK (bD 4 (ji (ao (qJ "Ways" cX [] aA) (ao (qJ "Ways" cX [] aA) aA)))) (aK (bD 5 (ji (ao (aJ iI aA) (ao (aJ iI aA) aA)))) (aK (bD 6 (pB aA)) (aK (n_ (gh Ao (ao (gC (.int 2)) (ao (gOp bY (gC (.int 8)) (gOp bT (aJ b_ (ao (aj 1) (ao (gC (.int 1)) aA))) (gC (.int 15)))) aA))) (bF 7) (aK (bD 8 (gOp k_ (gOp bT (aJ bI (ao (gOp ixD (aj 1) (aj 7)) (ao (gC (.int 0)) aA))) (gC (.int 5))) (gC (.int 4)))) (aK (bD 9 (aJ gJ (ao (gOp ixD (aj 5) (aj 8)) (ao (aj 2) (ao (aj 3) (ao (gOp ixD (aj 1) (aj 7)) aA)))))) (aK (bD 10 (aJ fG (ao (gOp ixD (aj 5) (aj 8)) (ao (aj 9) aA)))) (aK (sIf (gT (gOp (eqD true) (aJ cG (ao (gOp ixD (aj 4) (aj 8)) (ao (aj 9) aA))) (aj 10))) (a_ (gC (.bl false))) aX) (aK (sIf (gT (gOp (isD false) (aj 10) (gC .non))) (aK (eV (aJ gr (ao (gOp ixD (aj 5) (aj 8)) (ao (aj 9) aA)))) (eV (aJ fQ (ao (gOp ixD (aj 5) (aj 8)) (ao (aj 3) aA))))) aX) (aK (sIf (gT (gOp gtD (gOp bT (aJ bI (ao (gOp ixD (aj 1) (aj 7)) (ao (gC (.int 11)) aA))) (gC (.int 3))) (gC (.int 0)))) Kp aX) (sIf (my (gT (aJ dX (ao (gOp ixD (aj 4) (aj 8)) (ao (gOp ixD (aj 5) (aj 8)) (ao (aj 2) (ao (aj 3) (ao (aJ bI (ao (gOp ixD (aj 1) (aj 7)) (ao (gC (.int 10)) aA))) (ao (aj 6) aA))))))))) (a_ (gC (.bl false))) aX)))))))) (aK (zQ (aj 6) (bF 11) (aK (sIf (gT (qY true (gOp ixD (aj 11) (gC (.int 0))) (gOp ixD (aj 11) (gC (.int 1))))) (a_ (gC (.bl false))) aX) (pC (gOp ixD (aj 11) (gC (.int 0))) (gC (.int 99))))) (aK (sIf (my (gT (aJ dX (ao (gOp ixD (aj 4) (gC (.int 0))) (ao (gOp ixD (aj 5) (gC (.int 0))) (ao (aj 2) (ao (aj 3) (ao (gC (.int 7)) (ao (pB aA) aA))))))))) (a_ (gC (.bl false))) aX) (a_ (aJ dX (ao (gOp ixD (aj 4) (gC (.int 1))) (ao (gOp ixD (aj 5) (gC (.int 1))) (ao (aj 2) (ao (aj 3) (ao (gC (.int 12)) (ao (pB aA) aA)))))))))))))))))
end Law
namespace Law
open PySem DL
section
variable {κ κ' β:Type} [DecidableEq κ] [DecidableEq κ']
def aH(xs:List (κ×β))(k:κ):Option β:=(xs.find? fun r=>decide (r.1=k)).map (·.2)
def bA(xs:List (κ×β))(k:κ)(v:β):List (κ×β):=if(xs.any fun r=>decide (r.1=k))=true then xs.map (fun r=>if r.1=k then(r.1,v) else r) else xs++[(k,v)]
def cJ(xs:List (κ×β))(k:κ):List (κ×β):=xs.filter fun r=>decide (r.1≠k)
def mpA(e:κ->κ')(f:β->D)(xs:List (κ×β)):List (κ'×D):=xs.map fun r=>(e r.1,f r.2)
theorem dY(r:κ×β)(xs:List (κ×β))(k:κ):aH (r::xs) k=if r.1=k then some r.2 else aH xs k:=by
 unfold aH
 rw[List.find?_cons]
 by_cases h:r.1=k
 ·simp[h]
 ·simp[h]
theorem qm{e:κ->κ'}(he:∀a b,e a=e b↔a=b)(f:β->D)(k:κ):∀xs:List (κ×β),cW (mpA e f xs) (e k)=(aH xs k).map f
 | []=>rfl
 | r::xs=>by
  have ih:=qm he f k xs
  rw[dY]
  unfold cW mpA at ih ⊢
  rw[List.map_cons,List.find?_cons]
  by_cases h:r.1=k
  ·simp[h]
  ·have h':¬e r.1=e k:=fun z=>h ((he _ _).mp z)
   simpa [h,h'] using ih
theorem Ib{e:κ->κ'}(he:∀a b,e a=e b↔a=b)(f:β->D)(k:κ):∀xs:List (κ×β),((mpA e f xs).any fun kv=>decide (kv.1=e k))=xs.any fun r=>decide (r.1=k)
 | []=>rfl
 | r::xs=>by
  have ih:=Ib he f k xs
  unfold mpA at ih ⊢
  rw[List.map_cons,List.any_cons,List.any_cons,ih]
  congr 1
  exact decide_eq_decide.mpr (he _ _)
theorem oO{e:κ->κ'}(he:∀a b,e a=e b↔a=b)(f:β->D)(xs:List (κ×β))(k:κ)(v:β):putD (mpA e f xs) (e k) (f v)=mpA e f (bA xs k v):=by
 unfold putD bA
 rw[Ib he]
 split
 ·unfold mpA
  rw[List.map_map,List.map_map]
  apply List.map_congr_left
  intro r _
  show(if e r.1=e k then(e r.1,f v) else(e r.1,f r.2))=_
  by_cases h:r.1=k
  ·rw[if_pos (by rw[h])];simp[h]
  ·rw[if_neg (fun z=>h ((he _ _).mp z))];simp[h]
 ·simp[mpA]
theorem ug{e:κ->κ'}(he:∀a b,e a=e b↔a=b)(f:β->D)(xs:List (κ×β))(k:κ):jo (mpA e f xs) (e k)=mpA e f (cJ xs k):=by
 unfold jo cJ mpA
 rw[List.filter_map]
 congr 1
 apply List.filter_congr
 intro r _
 exact decide_eq_decide.mpr (not_congr (he _ _))
@[simp] theorem FZ(e:κ->κ')(f:β->D)(xs:List (κ×β)):(mpA e f xs).length=xs.length:=by simp[mpA]
theorem qZ{xs:List (κ×β)}{k:κ}{v:β}(h:aH xs k=some v):(k,v)∈xs:=by
 induction xs with
 | nil=>cases h
 | cons r xs ih =>
  rw[dY] at h
  split at h
  ·rename_i e
   cases h
   rw[<-e];exact List.mem_cons_self
  ·exact List.mem_cons_of_mem _ (ih h)
theorem gK{xs:List (κ×β)}{k:κ}:aH xs k=none↔k∉xs.map (·.1):=by
 induction xs with
 | nil=>simp[aH]
 | cons r xs ih =>
  rw[dY,List.map_cons,List.mem_cons,not_or,<-ih]
  by_cases h:r.1=k
  ·rw[if_pos h];simp[h]
  ·rw[if_neg h]
   exact⟨fun z=>⟨fun y=>h y.symm,z⟩,fun z=>z.2⟩
theorem nT{xs:List (κ×β)}{k:κ}{v:β}(hn:(xs.map (·.1)).Nodup)(h:(k,v)∈xs):aH xs k=some v:=by
 induction xs with
 | nil=>cases h
 | cons r xs ih =>
  rw[List.map_cons,List.nodup_cons] at hn
  rw[dY]
  rcases List.mem_cons.mp h with rfl |h
  ·rw[if_pos rfl]
  ·rw[if_neg (fun z=>hn.1 (by rw[z];exact List.mem_map.mpr ⟨_,h,rfl⟩)),ih hn.2 h]
theorem nU{xs:List (κ×β)}{k:κ}:(xs.any fun r=>decide (r.1=k))=true↔k∈xs.map (·.1):=by
 rw[List.any_eq_true]
 constructor
 ·rintro⟨r,h1,h2⟩
  exact List.mem_map.mpr ⟨r,h1,by simpa using h2⟩
 ·intro h
  obtain⟨r,h1,h2⟩:=List.mem_map.mp h
  exact⟨r,h1,by simpa using h2⟩
theorem Bu(xs:List (κ×β))(k k':κ)(v:β):aH (xs.map fun r=>if r.1=k then(r.1,v) else r) k'=if k'=k then(aH xs k).map fun _=>v else aH xs k':=by
 induction xs with
 | nil=>simp[aH]
 | cons r xs ih =>
  rw[List.map_cons,dY,ih,dY,dY]
  by_cases h:r.1=k
  ·by_cases h2:k'=k
   ·subst h2;simp[h]
   ·have h3:¬r.1=k':=fun z=>h2 (by rw[<-z,h])
    have h4:¬k=k':=fun z=>h2 z.symm
    simp[h,h2,h4]
  ·by_cases h2:k'=k
   ·subst h2;simp[h]
   ·simp[h,h2]
theorem Kr(xs ys:List (κ×β))(k:κ):aH (xs++ys) k=match aH xs k with |some v=>some v |none=>aH ys k:=by
 induction xs with
 | nil=>rfl
 | cons r xs ih =>
  rw[List.cons_append,dY,dY,ih]
  by_cases h:r.1=k
  ·simp[h]
  ·simp[h]
theorem fL(xs:List (κ×β))(k k':κ)(v:β):aH (bA xs k v) k'=if k'=k then some v else aH xs k':=by
 unfold bA
 split
 ·rename_i h
  rw[Bu]
  by_cases h2:k'=k
  ·rw[if_pos h2,if_pos h2]
   have:=nU.mp h
   cases q:aH xs k with
   | none=>exact absurd this (gK.mp q)
   | some w=>rfl
  ·rw[if_neg h2,if_neg h2]
 ·rename_i h
  have hn:k∉xs.map (·.1):=fun z=>h (nU.mpr z)
  rw[Kr,dY]
  by_cases h2:k'=k
  ·subst h2
   rw[gK.mpr hn];simp
  ·have h3:¬k=k':=fun z=>h2 z.symm
   rw[if_neg h2]
   show(match aH xs k' with |some v=>some v |none=>if k=k' then some v else aH [] k')=_
   rw[if_neg h3]
   cases aH xs k'<;>rfl
theorem l_(xs:List (κ×β))(k k':κ):aH (cJ xs k) k'=if k'=k then none else aH xs k':=by
 induction xs with
 | nil=>simp[cJ,aH]
 | cons r xs ih =>
  unfold cJ at ih ⊢
  rw[List.filter_cons,dY]
  by_cases h:r.1=k
  ·simp only[h,ne_eq,not_true,decide_false,Bool.false_eq_true,if_false,ih]
   by_cases h2:k'=k
   ·simp[h2]
   ·have h3:¬k=k':=fun z=>h2 z.symm
    simp[h2,h3]
  ·simp only[h,ne_eq,not_false_eq_true,decide_true,if_true,dY,ih]
   by_cases h2:k'=k
   ·subst h2;simp[h]
   ·simp[h2]
theorem sW(xs:List (κ×β))(k:κ)(v:β):(bA xs k v).map (·.1)=if k∈xs.map (·.1) then xs.map (·.1) else xs.map (·.1)++[k]:=by
 unfold bA
 by_cases h:k∈xs.map (·.1)
 ·rw[if_pos (nU.mpr h),if_pos h,List.map_map]
  apply List.map_congr_left
  intro r _
  show(if r.1=k then(r.1,v) else r).1=r.1
  split<;>rfl
 ·rw[if_neg (fun z=>h (nU.mp z)),if_neg h];simp
theorem lJ{xs:List (κ×β)}(h:(xs.map (·.1)).Nodup)(k:κ)(v:β):((bA xs k v).map (·.1)).Nodup:=by
 rw[sW]
 split
 ·exact h
 ·rename_i hn
  rw[List.nodup_append]
  refine⟨h,by simp,fun a ha b hb z=>hn ?_⟩
  rw[List.mem_singleton] at hb
  rw[<-hb,<-z];exact ha
theorem sX(xs:List (κ×β))(k:κ):(cJ xs k).map (·.1)=(xs.map (·.1)).filter fun x=>decide (x≠k):=by
 unfold cJ
 rw[List.filter_map];rfl
theorem q_{xs:List (κ×β)}(h:(xs.map (·.1)).Nodup)(k:κ):((cJ xs k).map (·.1)).Nodup:=by
 rw[sX];exact h.filter _
theorem oR(xs:List (κ×β))(k:κ)(v:β):(bA xs k v).length<=xs.length+1:=by
 unfold bA
 split<;>simp
theorem vf(xs:List (κ×β))(k:κ):(cJ xs k).length<=xs.length:=List.length_filter_le _ _
theorem Ks{xs:List (κ×β)}{k:κ}{v:β}{r:κ×β}(h:r∈bA xs k v):r∈xs\/r=(k,v):=by
 unfold bA at h
 split at h
 ·obtain⟨q,hq,e⟩:=List.mem_map.mp h
  by_cases z:q.1=k
  ·rw[if_pos z] at e;exact .inr (by rw[<-e,z])
  ·rw[if_neg z] at e;exact .inl (by rw[<-e];exact hq)
 ·rcases List.mem_append.mp h with h |h
  ·exact .inl h
  ·exact .inr (by simpa using h)
theorem Bv{xs:List (κ×β)}{k:κ}(h:k∉xs.map (·.1))(v:β):bA xs k v=xs++[(k,v)]:=if_neg fun z=>h (nU.mp z)
end
end Law
namespace Law
open PySem DL
@[simp] theorem Wh{β:Type}(a:β)(l:List β):L2.atI (a::l) 0=some a:=by
 have:=gj (a::l) 0 (by simp)
 simpa using this
@[simp] theorem Wi{β:Type}(a b:β)(l:List β):L2.atI (a::b::l) 1=some b:=by
 have:=gj (a::b::l) 1 (by simp)
 simpa using this
def Cel(x:Int):Prop:=0<=x/\x<1000000000000000003
@[simp] theorem Vu(gl:bB)(Y:List Sl)(U:List OS):wA gl Y U=match gl Y U with |some (ds,U1)=>some (.int ds.length,U1) |none=>none:=(rfl)
@[simp] theorem WD(i:Nat)(Y:List Sl)(U:List OS):gO i Y U=match Y[i]? with |some (.own ds)=>some (ds,U) |_=>none:=(rfl)
theorem Rx(a:Int):cR (.int a) (.int 6364136223846793005)=some (.int (a*6364136223846793005)):=gD (.inr ⟨by decide,by decide⟩)
theorem Ry(X0:Sl)(U:List OS):∀(ns:List Int) (fs:List Int) (m:Int) (x:Sl),fs.length+ns.length<=63->(∀x∈fs,Cel x)->∃(gs:List Int) (m':Int) (y:Sl),gs.length=fs.length+ns.length/\(∀x∈gs,Cel x) /\
  eF (bF 3) (aK (bD 2 (gOp bT (gOp bY (gOp bY (gOp cR (aj 2) (gC (.int 6364136223846793005))) (aj 3)) (gC (.int 1442695040888963407))) (gC (.int 1000000000000000003)))) (mU 1 (aj 2))) (ns.map D.int) [X0,.own (fs.map D.int),.dat (.int m),x] U
   = some (.nx [X0,.own (gs.map D.int),.dat (.int m'),y] U)
 | [],fs,m,x,_,h=>⟨fs,m,x,by simp,h,rfl⟩
 | n::ns,fs,m,x,hl,h=>by
  rw[List.length_cons] at hl
  have b0:0<=(m*6364136223846793005+n+1442695040888963407)%1000000000000000003:=Int.emod_nonneg _ (by decide)
  have b1:(m*6364136223846793005+n+1442695040888963407)%1000000000000000003<1000000000000000003:=Int.emod_lt_of_pos _ (by decide)
  obtain⟨gs,m',y,h1,h2,h3⟩:=Ry X0 U ns (fs++[(m*6364136223846793005+n+1442695040888963407)%1000000000000000003]) ((m*6364136223846793005+n+1442695040888963407)%1000000000000000003) (.dat (.int n)) (by simp;omega) (by
   intro x hx
   rcases List.mem_append.mp hx with z |z
   ·exact h x z
   ·rw[List.mem_singleton.mp z];exact⟨b0,b1⟩)
  refine⟨gs,m',y,by simp at h1 ⊢;omega,h2,?_⟩
  have hb:fs.length<100000:=by omega
  rw[<-h3,List.map_cons,i_]
  simp[Rx,hb]
theorem Rz(X0:Sl)(U:List OS):∀(k:Nat) (fs:List Int) (m:Int) (x:Sl) (n:Nat),fs.length+k=48\/(48<=fs.length/\k=0)->fs.length<=63->k<n->(∀x∈fs,Cel x)->∃(gs:List Int) (m':Int),48<=gs.length/\gs.length<=63/\(∀x∈gs,Cel x) /\
  jr (gT (gOp ltD (wA (gO 1)) (gC (.int 48)))) (aK (bD 2 (gOp bT (gOp bY (gOp cR (aj 2) (gC (.int 6364136223846793005))) (gC (.int 1442695040888963407))) (gC (.int 1000000000000000003)))) (mU 1 (aj 2))) n [X0,.own (fs.map D.int),.dat (.int m),x] U
   = some (.nx [X0,.own (gs.map D.int),.dat (.int m'),x] U)
 | 0,fs,m,x,n,hk,hl,hn,h=>by
  obtain⟨n,rfl⟩:∃j,n=j+1:=⟨n-1,by omega⟩
  have h48:¬((fs.length:Int)<48):=by omega
  refine⟨fs,m,by omega,hl,h,?_⟩
  rw[yQ]
  simp[h48]
 | k+1,fs,m,x,n,hk,hl,hn,h=>by
  obtain⟨n,rfl⟩:∃j,n=j+1:=⟨n-1,by omega⟩
  have b0:0<=(m*6364136223846793005+1442695040888963407)%1000000000000000003:=Int.emod_nonneg _ (by decide)
  have b1:(m*6364136223846793005+1442695040888963407)%1000000000000000003<1000000000000000003:=Int.emod_lt_of_pos _ (by decide)
  obtain⟨gs,m',h1,h2,h3,h4⟩:=Rz X0 U k (fs++[(m*6364136223846793005+1442695040888963407)%1000000000000000003]) ((m*6364136223846793005+1442695040888963407)%1000000000000000003) x n (by simp;omega) (by simp;omega) (by omega) (by
   intro x hx
   rcases List.mem_append.mp hx with z |z
   ·exact h x z
   ·rw[List.mem_singleton.mp z];exact⟨b0,b1⟩)
  refine⟨gs,m',h1,h2,h3,?_⟩
  have h48:((fs.length:Int)<48):=by omega
  have hb:fs.length<100000:=by omega
  rw[<-h4,yQ]
  simp[h48,hb,Rx]
theorem Ie{ns:List Int}(hn:ns.length<=63)(U:List OS):∃xs:List Int,48<=xs.length/\xs.length<=63/\(∀x∈xs,Cel x)/\mQ [.scr ns] U=some (.lst (xs.map D.int),U):=by
 obtain⟨gs,m,y,h1,h2,h3⟩:=Ry (.dat (.scr ns)) U ns [] 1 .und (by simpa using hn) (fun x hx=>absurd hx List.not_mem_nil)
 rw[List.length_nil,Nat.zero_add] at h1
 obtain⟨xs,m',g1,g2,g3,g4⟩:=Rz (.dat (.scr ns)) U (48-gs.length) gs m y 1000 (by omega) (by omega) (by omega) h2
 refine⟨xs,g1,g2,g3,bh rfl ?_⟩
 refine(aN (Y':=[.dat (.scr ns),.own [],.und,.und]) (U':=U) (by simp)).trans ?_
 refine(aN (Y':=[.dat (.scr ns),.own [],.dat (.int 1),.und]) (U':=U) (by simp)).trans ?_
 refine(aN (Y':=[.dat (.scr ns),.own (gs.map D.int),.dat (.int m),y]) (U':=U) ?_).trans ?_
 ·simp only[rW,Ho,oA,List.getElem?_cons_zero,Nv]
  exact h3
 refine(aN g4).trans ?_
 simp[frz]
theorem vg{xs:List Int}{k:Nat}(hk:k<xs.length)(U:List OS):b_ [.lst (xs.map D.int),.int k] U=some (.int xs[k],U):=by
 have h1:(k:Int)<(xs.length:Int):=by omega
 have h2:L2.atI (xs.map D.int) (k:Int)=some (.int xs[k]):=by rw[tZ,gj _ _ hk];rfl
 refine bh rfl (eG ?_)
 simp[h1,h2]
end Law
namespace Law
open PySem DL
section
variable {Y:List Sl} {U:List OS}
@[simp] theorem VR(t:Str->Option Bool)(g:Den):lB t g Y U=match g Y U with
 | some (.obj n,U1)=>(match U1[n]? with
  | some (.exc c)=>(match t c with |some b=>some (.bl b,U1) |none=>none)
  | _=>none)
 | _=>none:=by unfold lB;rfl
@[simp] theorem Wj(rx:uO):rE rx Y U=match rx Y U with |some (c,U')=>some (c,Y,U') |none=>none:=(rfl)
@[simp] theorem UG(c m:Str)(R:jK)(dfl:List D)(go:Den)(ga:bB):jM c m R dfl go ga Y U=match go Y U with
 | some (.obj n,U1)=>(match U1[n]? with
  | some (.ins c' fs)=>(if c'=c then(match fs.lookup m with
   | none=>(match ga Y U1 with |some (ds,U2)=>R (.obj n::(ds++dfl)) U2 |none=>none)
   | some _=>none) else none)
  | _=>none)
 | _=>none:=(rfl)
@[simp] theorem Tq(c:Str)(p:xZ):qj c p Y U=match p Y U with |some U'=>some (c,Y,U') |none=>none:=(rfl)
@[simp] theorem V_(p:cB)(s t:fC):rIf p s t Y U=match p Y U with |some (true,U')=>s Y U' |some (false,U')=>t Y U' |none=>none:=(rfl)
@[simp] theorem Tz:wC Y U=none:=(rfl)
@[simp] theorem UJ:vQ Y U=none:=(rfl)
theorem Em(n m:Nat)(r:fC)(ds:List D):pH n m r ds U=if ds.length=n then(match r (ds.map Sl.dat++List.replicate (m-n) Sl.und) U with
  | some (c,_,U')=>some (c,U')
  | none=>none) else none:=(rfl)
end
theorem wQ{n m:Nat}{s:aU}{ds:List D}{U:List OS}(hl:ds.length=n)(h:s (ds.map Sl.dat++List.replicate (m-n) Sl.und) U=none):bQ n m s ds U=none:=by
 rw[rY,if_pos hl,h]
theorem um{n m:Nat}{r:fC}{ds:List D}{c:Str}{Y:List Sl}{U U':List OS}(hl:ds.length=n)(h:r (ds.map Sl.dat++List.replicate (m-n) Sl.und) U=some (c,Y,U')):pH n m r ds U=some (c,U'):=by
 rw[Em,if_pos hl,h]
theorem En{i:Int}(h0:-70000<i)(h1:i<70000):qi i:=by
 have hl:i.natAbs.log2<17:=by
  by_cases z:i.natAbs=0
  ·rw[z];decide
  ·exact(Nat.log2_lt z).mpr (by omega)
 refine⟨by omega,?_⟩
 have:=int_text_length_le (a:=i) (k:=17) (by decide) hl
 rw[ofString_length]
 omega
end Law
namespace Law
open PySem DL
@[simp] theorem Wl{β:Type}(a b c:β)(l:List β):L2.atI (a::b::c::l) 2=some c:=by
 have:=gj (a::b::c::l) 2 (by simp)
 simpa using this
@[simp] theorem Wm{β:Type}(a b c d:β)(l:List β):L2.atI (a::b::c::d::l) 3=some d:=by
 have:=gj (a::b::c::d::l) 3 (by simp)
 simpa using this
@[simp] theorem Wn{β:Type}(a b c d e:β)(l:List β):L2.atI (a::b::c::d::e::l) 4=some e:=by
 have:=gj (a::b::c::d::e::l) 4 (by simp)
 simpa using this
@[simp] theorem UL(kvs:List (L2.Key×D))(i:Int):gA (.dK kvs) (.int i)=some (cW kvs (.inl i)):=(rfl)
@[simp] theorem UT(kvs:List (L2.Key×D))(i:Int):gA (.fzK kvs) (.int i)=some (cW kvs (.inl i)):=(rfl)
@[simp] theorem UW(kvs:List (L2.Key×D))(z:Str):gA (.dK kvs) (.str z)=some (cW kvs (.inr z)):=(rfl)
@[simp] theorem Vv(kvs:List (L2.Key×D))(i:Int)(v:D):sr (.dK kvs) (.int i) v=if kvs.length<100000 then some (.dK (putD kvs (.inl i) v)) else none:=(rfl)
@[simp] theorem Vw(kvs:List (L2.Key×D))(z:Str)(v:D):sr (.dK kvs) (.str z) v=if kvs.length<100000 then some (.dK (putD kvs (.inr z) v)) else none:=(rfl)
@[simp] theorem U_(kvs:List (L2.Key×D))(i:Int):qI (.dK kvs) (.int i)=match cW kvs (.inl i) with |some v=>some (v,.dK (jo kvs (.inl i))) |none=>none:=(rfl)
@[simp] theorem Va(kvs:List (L2.Key×D)):jH (.dK kvs)=true:=(rfl)
@[simp] theorem Vb(kvs:List (L2.Key×D)):jH (.fzK kvs)=true:=(rfl)
abbrev Tl:=Int×Option Int
def faD:Option Int->D
 | none=>.non
 | some f=>.int f
def tlD(t:Tl):D:=.tup [.int t.1,faD t.2]
def mkD(m:Int×Int):D:=.tup [.int m.1,.int m.2]
def mOD(m:Option (Int×Int)):D:=(m.map mkD).getD .non
def w3(u:Int×Int×Int):D:=.tup [.int u.1,.int u.2.1,.int u.2.2]
def iK:Int->L2.Key:=Sum.inl
def pK(p:Int×Int):List L2.Key:=[.inl p.1,.inl p.2]
theorem iD(a b:Int):iK a=iK b↔a=b:=by simp[iK]
theorem Bw(a b:Int×Int):pK a=pK b↔a=b:=by
 obtain⟨a1,a2⟩:=a
 obtain⟨b1,b2⟩:=b
 simp[pK]
def fM(o:Nat):List (Str×D):=[("length_by",.obj (o+1)),("tellings_by",.obj (o+2)),("mark_of",.obj (o+3))]
theorem n21:(("tellings_by":Str) == "length_by")=false:=by decide +kernel
theorem n31:(("mark_of":Str) == "length_by")=false:=by decide +kernel
theorem n32:(("mark_of":Str) == "tellings_by")=false:=by decide +kernel
theorem lk1{o:Nat}:List.lookup ("length_by":Str) (fM o)=some (.obj (o+1)):=by simp[fM,List.lookup_cons]
theorem lk2{o:Nat}:List.lookup ("tellings_by":Str) (fM o)=some (.obj (o+2)):=by simp[fM,List.lookup_cons,n21]
theorem lk3{o:Nat}:List.lookup ("mark_of":Str) (fM o)=some (.obj (o+3)):=by simp[fM,List.lookup_cons,n31,n32]
theorem lkn{o:Nat}{f:Str}(h1:(f==("length_by":Str))=false)(h2:(f==("tellings_by":Str))=false)(h3:(f==("mark_of":Str))=false):List.lookup f (fM o)=none:=by simp[fM,List.lookup_cons,h1,h2,h3]
theorem wR{o:Nat}:List.lookup ("mark":Str) (fM o)=none:=lkn (by decide +kernel) (by decide +kernel) (by decide +kernel)
theorem Mf{o:Nat}:List.lookup ("way":Str) (fM o)=none:=lkn (by decide +kernel) (by decide +kernel) (by decide +kernel)
theorem F_{o:Nat}:List.lookup ("tie":Str) (fM o)=none:=lkn (by decide +kernel) (by decide +kernel) (by decide +kernel)
theorem yf{o:Nat}:List.lookup ("untie":Str) (fM o)=none:=lkn (by decide +kernel) (by decide +kernel) (by decide +kernel)
theorem Bx{o:Nat}:List.lookup ("hear":Str) (fM o)=none:=lkn (by decide +kernel) (by decide +kernel) (by decide +kernel)
theorem lK{o:Nat}:List.lookup ("need_tie":Str) (fM o)=none:=lkn (by decide +kernel) (by decide +kernel) (by decide +kernel)
structure Wy(o B:Nat)(U:List OS)(L:List (Int×Int))(T:List (Int×Nat))(X:Int->List (Int×Tl))(M:List (Int×(Int×Int)))(b:Nat):Prop where
 o0:U[o]? = some (.ins "Ways" (fM o))
 o1:U[o+1]? = some (.dK (mpA iK D.int L))
 o2:U[o+2]? = some (.dK (mpA iK D.obj T))
 o3:U[o+3]? = some (.dK (mpA iK mkD M))
 ot:∀n i,(n,i)∈T->B<=i/\U[i]? = some (.dK (mpA iK tlD (X n)))
 ti:(T.map (·.2)).Nodup
 kt:T.map (·.1)=L.map (·.1)
 kn:(L.map (·.1)).Nodup
 bL:L.length<=b
 bM:M.length<=b
 bX:∀n,(X n).length<=b
 bg:B<=U.length
 ob:o+4<=B
theorem vL(L:List (Int×Int))(n:Int):cW (mpA iK D.int L) (.inl n)=(aH L n).map D.int:=qm iD D.int n L
theorem vT(T:List (Int×Nat))(n:Int):cW (mpA iK D.obj T) (.inl n)=(aH T n).map D.obj:=qm iD D.obj n T
theorem vM(M:List (Int×(Int×Int)))(n:Int):cW (mpA iK mkD M) (.inl n)=(aH M n).map mkD:=qm iD mkD n M
theorem vX(X:List (Int×Tl))(n:Int):cW (mpA iK tlD X) (.inl n)=(aH X n).map tlD:=qm iD tlD n X
theorem rm{o B:Nat}{U:List OS}{L T X M b}(h:Wy o B U L T X M b)(g:Int):dG [.obj o,.int g] U=some (mOD (aH M g),U):=by
 refine bh rfl ?_
 simp[h.o0,lk3,h.o3,vM,mOD]
def bt(a b p q:Int):Bool:=decide (a>p) || (decide (a=p) && decide (b<q))
theorem Ga(a b p q:Int)(U:List OS):oM [.tup [.int a,.int b],.tup [.int p,.int q]] U=some (.bl (bt a b p q),U):=by
 by_cases h:a=p
 ·subst h
  refine bh rfl ((aN (Y':=[.dat (.tup [.int a,.int b]),.dat (.tup [.int a,.int q])]) (U':=U) (by simp)).trans ?_)
  simp[bt]
 ·refine bh rfl (eG ?_)
  simp[bt,h]
def jz(m:Option (Int×Int))(num:Int):Option Int->Bool
 | none=>false
 | some f=>match m with
  | none=>true
  | some p=>bt num f p.1 p.2
theorem Pa(m:Option (Int×Int))(num:Int)(f:Option Int)(U:List OS):kI [mOD m,.int num,faD f] U=some (.bl (jz m num f),U):=by
 cases f with
 | none =>
  refine bh rfl (eG ?_)
  simp[faD,isD,isNone,jz]
 | some f =>
  refine bh rfl ((aN (Y':=[.dat (mOD m),.dat (.int num),.dat (.int f)]) (U':=U) (by simp[faD,isD,isNone])).trans ?_)
  cases m with
  | none=>simp[mOD,isD,isNone,jz]
  | some p=>simp[mOD,mkD,isD,isNone,jz,Ga]
def us(L:List (Int×Int))(X:Int->List (Int×Tl))(m:Option (Int×Int))(g n:Int):List (Int×Int×Int):=match aH (X n) g with
 | some (num,some f)=>if jz m num (some f)=true then[(num,f+(aH L n).getD 0,n)] else[]
 | _=>[]
def vh:aU:=(aK (bD 5 (jt (bu (fJ "Ways" "tellings_by" (aj 0)) (aj 4)) (aj 1))) (sIf (jn (gT (gOp (isD true) (aj 5) (gC .non))) (gT (aJ kI (ao (aj 2) (ao (gOp ixD (aj 5) (gC (.int 0))) (ao (gOp ixD (aj 5) (gC (.int 1))) aA)))))) (mU 3 (cV (ao (gOp ixD (aj 5) (gC (.int 0))) (ao (gOp bY (gOp ixD (aj 5) (gC (.int 1))) (bu (fJ "Ways" "length_by" (aj 0)) (aj 4))) (ao (aj 4) aA))))) aX))
theorem yg{g:Den}{β:cT}{s:aU}{Y Y':List Sl}{U:List OS}{n:Nat}{kvs:List (L2.Key×D)}(hg:g Y U=some (.obj n,U))(hn:U[n]? = some (.dK kvs))(hl:eF β s (kvs.map fun x=>ofK x.1) Y (U.set n (.fzK kvs))=some (.nx Y' (U.set n (.fzK kvs)))) :
  qU g β s Y U=some (.nx Y' U):=by
 have hlt:n<U.length:=(List.getElem?_eq_some_iff.mp hn).1
 have e1:(U.set n (.fzK kvs))[n]? = some (.fzK kvs):=List.getElem?_set_self hlt
 have e2:(U.set n (.fzK kvs)).set n (.dK kvs)=U:=by
  rw[List.set_set]
  apply List.ext_getElem?
  intro i
  by_cases hi:n=i
  ·subst hi;rw[List.getElem?_set_self hlt,hn]
  ·rw[List.getElem?_set_ne hi]
 unfold qU
 rw[hg]
 dsimp only
 rw[hn]
 dsimp only
 rw[hl]
 unfold FP
 dsimp only
 unfold qT
 rw[e1]
 dsimp only
 rw[if_pos rfl,e2]
theorem vm{o:Nat}{U:List OS}{L:List (Int×Int)}{T:List (Int×Nat)}{X:Int->List (Int×Tl)}(o0:U[o]? = some (.ins "Ways" (fM o)))(o1:U[o+1]? = some (.dK (mpA iK D.int L)))(o2:U[o+2]? = some (.fzK (mpA iK D.obj T)))
  (ot:∀n i,(n,i)∈T->U[i]? = some (.dK (mpA iK tlD (X n)))) (gt:∀n i,(n,i)∈T->aH T n=some i) (gl:∀n i,(n,i)∈T->∃l,aH L n=some l) (g:Int) (m:Option (Int×Int)) :
  ∀(rest:List (Int×Nat)) (acc:List (Int×Int×Int)) (x y:Sl),(∀p∈rest,p∈T)->acc.length+rest.length<=1000->∃x' y',eF (bF 4) vh (rest.map fun p=>D.int p.1) [.dat (.obj o),.dat (.int g),.dat (mOD m),.own (acc.map w3),x,y] U
   = some (.nx [.dat (.obj o),.dat (.int g),.dat (mOD m),.own ((acc++rest.flatMap fun p=>us L X m g p.1).map w3),x',y'] U)
 | [],acc,x,y,_,_=>⟨x,y,by simp⟩
 | (n,i)::rest,acc,x,y,hT,hl=>by
  have hp:=hT (n,i) List.mem_cons_self
  obtain⟨l,hL⟩:=gl n i hp
  have e1:=ot n i hp
  have e2:=gt n i hp
  rw[List.length_cons] at hl
  have st:eF (bF 4) vh (((n,i)::rest).map fun p=>D.int p.1) [.dat (.obj o),.dat (.int g),.dat (mOD m),.own (acc.map w3),x,y] U
    = eF (bF 4) vh (rest.map fun p=>D.int p.1) [.dat (.obj o),.dat (.int g),.dat (mOD m),.own ((acc++us L X m g n).map w3),.dat (.int n),.dat (((aH (X n) g).map tlD).getD .non)] U:=by
   rw[List.map_cons,i_]
   unfold us
   cases q:aH (X n) g with
   | none=>simp[vh,o0,lk2,o2,vT,e2,e1,vX,q,isD,isNone]
   | some t =>
    obtain⟨num,f⟩:=t
    have hm:=Pa m num f U
    cases f with
    | none =>
     have hb:jz m num none=false:=rfl
     rw[hb] at hm
     simp[vh,o0,lk2,o2,vT,e2,e1,vX,q,isD,isNone,tlD,hm]
    | some f =>
     have ef:faD (some f)=.int f:=rfl
     rw[ef] at hm
     cases hb:jz m num (some f) with
     | false =>
      rw[hb] at hm
      simp[vh,o0,lk2,o2,vT,e2,e1,vX,q,isD,isNone,tlD,hm,ef,hb]
     | true =>
      rw[hb] at hm
      have hl':acc.length<100000:=by omega
      simp[vh,o0,lk1,lk2,o1,o2,vT,vL,e2,e1,vX,q,isD,isNone,tlD,hm,ef,hb,hL,hl',w3]
  have hu:(us L X m g n).length<=1:=by
   unfold us
   split
   ·split<;>simp
   ·simp
  obtain⟨x',y',ih⟩:=vm o0 o1 o2 ot gt gl g m rest (acc++us L X m g n) (.dat (.int n)) (.dat (((aH (X n) g).map tlD).getD .non)) (fun p hp=>hT p (List.mem_cons_of_mem _ hp)) (by rw[List.length_append];omega)
  refine⟨x',y',st.trans (ih.trans ?_)⟩
  rw[List.flatMap_cons,List.append_assoc]
end Law
namespace Law
open PySem DL
theorem vo(nss:List (List Int)):∀k j:Nat,j<=k->HT.lexLt (nss.getD j []) (nss.getD (L2.mIx nss k) [])=false
 | 0,j,h=>by
  obtain rfl:j=0:=by omega
  exact L2.oG _
 | k+1,j,h=>by
  show HT.lexLt (nss.getD j []) (nss.getD (if HT.lexLt (nss.getD (k+1) []) (nss.getD (L2.mIx nss k) []) then k+1 else L2.mIx nss k) [])=false
  cases q:HT.lexLt (nss.getD (k+1) []) (nss.getD (L2.mIx nss k) []) with
  | true =>
   simp only[if_true]
   by_cases e:j=k+1
   ·rw[e];exact L2.oG _
   ·cases z:HT.lexLt (nss.getD j []) (nss.getD (k+1) []) with
    | false=>rfl
    | true =>
     have:=L2.uz _ _ _ z q
     rw[vo nss k j (by omega)] at this
     cases this
  | false =>
   simp only[Bool.false_eq_true,if_false]
   by_cases e:j=k+1
   ·rw[e];exact q
   ·exact vo nss k j (by omega)
def g_(u:Int×Int×Int):List Int:=[-u.1,u.2.1,u.2.2]
def vp(vs:List (Int×Int×Int))(u:Int×Int×Int):Prop:=u∈vs/\∀v∈vs,HT.lexLt (g_ v) (g_ u)=false
def Gb(vs:List (Int×Int×Int))(d:D):Prop:=(vs=[]/\d=.non)\/∃u,vp vs u/\d=w3 u
theorem By{vs:List (Int×Int×Int)}:Gb vs (minD (vs.map g_) (vs.map w3)):=by
 cases hv:vs with
 | nil=>exact .inl ⟨rfl,rfl⟩
 | cons v0 vr =>
  rw[<-hv]
  have hpos:0<vs.length:=by rw[hv];simp
  have hm:=L2.wH (vs.map g_) (vs.length-1)
  have hlt:L2.mIx (vs.map g_) (vs.length-1)<vs.length:=by omega
  refine .inr ⟨vs[L2.mIx (vs.map g_) (vs.length-1)],⟨List.getElem_mem _,fun v hv'=>?_⟩,?_⟩
  ·obtain⟨j,hj,e⟩:=List.getElem_of_mem hv'
   have:=vo (vs.map g_) (vs.length-1) j (by omega)
   rw[L2.getD_get (by simpa using hj),L2.getD_get (by simpa using hlt),List.getElem_map,List.getElem_map,e] at this
   exact this
  ·unfold minD
   rw[List.length_map,L2.getD_get (by simpa using hlt),List.getElem_map]
theorem Ig(u:Int×Int×Int)(U:List OS):fZ [w3 u] U=some (.tup ((g_ u).map D.int),U):=by
 refine bh rfl ?_
 simp[w3,g_]
theorem rn(U:List OS):∀vs:List (Int×Int×Int),cO fZ (vs.map w3) U=some (vs.map g_,U)
 | []=>rfl
 | v::vs=>by
  rw[List.map_cons,List.map_cons]
  unfold cO
  rw[Ig]
  dsimp only
  rw[show lY (.tup ((g_ v).map D.int))=some (g_ v) from rfl]
  dsimp only
  rw[rn U vs]
@[simp] theorem Vx(F:bw)(g:Den)(Y:List Sl)(U:List OS):zP F g Y U=match g Y U with
 | some (.lst ds,U1)=>(match cO F ds U1 with
  | some (nss,U2)=>some (minD nss ds,U2)
  | none=>none)
 | _=>none:=(rfl)
@[simp] theorem Wa(g:Den)(Y:List Sl)(U:List OS):FQ g Y U=match g Y U with
 | some (.lst (d::ds),U1)=>(match nG (d::ds) with
  | some nss=>some (minD nss (d::ds),U1)
  | none=>none)
 | _=>none:=(rfl)
def Us(L:List (Int×Int))(X:Int->List (Int×Tl))(m:Option (Int×Int))(g:Int):List (Int×Int×Int):=(L.map (·.1)).flatMap fun n=>us L X m g n
theorem Pb{o B:Nat}{U:List OS}{L T X M b}(h:Wy o B U L T X M b)(hb:b<=500)(g:Int):∃d,Gb (Us L X (aH M g) g) d/\eX [.obj o,.int g] U=some (d,U):=by
 have ho:=h.ob
 have hg:=h.bg
 have hk:=rm h g
 have hl2:o+2<U.length:=by have:=h.bg;omega
 have hTl:T.length=L.length:=by have:=congrArg List.length h.kt;simpa using this
 obtain⟨x',y',hloop⟩:=vm (U:=U.set (o+2) (.fzK (mpA iK D.obj T))) (L:=L) (T:=T) (X:=X) (by rw[List.getElem?_set_ne (by omega)];exact h.o0) (by rw[List.getElem?_set_ne (by omega)];exact h.o1) (List.getElem?_set_self hl2)
  (fun n i hi=>by have:=h.ot n i hi;rw[List.getElem?_set_ne (by omega)];exact this.2) (fun n i hi=>nT (by rw[h.kt];exact h.kn) hi)
  (fun n i hi=>by
   have hn:n∈L.map (·.1):=by rw[<-h.kt];exact List.mem_map.mpr ⟨_,hi,rfl⟩
   cases q:aH L n with
   | none=>exact absurd hn (gK.mp q)
   | some l=>exact⟨l,rfl⟩) g (aH M g) T [] .und .und (fun p hp=>hp) (by have:=h.bL;simp;omega)
 have eU:(T.flatMap fun p=>us L X (aH M g) g p.1)=Us L X (aH M g) g:=by
  unfold Us
  rw[<-h.kt,List.flatMap_map]
 rw[List.nil_append,eU] at hloop
 have ek:(mpA iK D.obj T).map (fun x=>ofK x.1)=T.map fun p=>D.int p.1:=by
  unfold mpA
  rw[List.map_map];rfl
 refine⟨_,By (vs:=Us L X (aH M g) g),bh rfl ?_⟩
 refine(aN (Y':=[.dat (.obj o),.dat (.int g),.dat (mOD (aH M g)),.und,.und,.und]) (U':=U) (by simp[h.o0,wR,hk])).trans ?_
 refine(aN (Y':=[.dat (.obj o),.dat (.int g),.dat (mOD (aH M g)),.own [],.und,.und]) (U':=U) (by simp)).trans ?_
 refine(aN (yg (n:=o+2) (kvs:=mpA iK D.obj T) (by simp[h.o0,lk2]) h.o2 (by rw[ek];exact hloop))).trans ?_
 simp[frz,rn]
def bet(m:Option (Int×Int))(a l:Int):Int×Int:=match m with
 | none=>(a,l)
 | some p=>if a>p.1 then(a,l) else(a,if l<p.2 then l else p.2)
theorem BJ(m:Option (Int×Int))(a l:Int)(U:List OS):lH [mOD m,.int a,.int l] U=some (mkD (bet m a l),U):=by
 cases m with
 | none =>
  refine bh rfl (eG ?_)
  simp[mOD,isD,isNone,bet,mkD]
 | some p =>
  by_cases hp:a>p.1
  ·refine bh rfl (eG ?_)
   simp[mOD,isD,isNone,bet,mkD,hp]
  ·have hp':¬p.1<a:=hp
   refine bh rfl ((aN (Y':=[.dat (mOD (some p)),.dat (.int a),.dat (.int l)]) (U':=U) (by simp[mOD,isD,isNone,mkD,hp'])).trans ?_)
   simp[mOD,mkD,bet,hp']
def upX(X:Int->List (Int×Tl))(n:Int)(xs:List (Int×Tl)):Int->List (Int×Tl):=fun k=>if k=n then xs else X k
theorem RB{T:List (Int×Nat)}(h:(T.map (·.2)).Nodup){n n':Int}{i:Nat}(h1:(n,i)∈T)(h2:(n',i)∈T):n=n':=by
 induction T with
 | nil=>cases h1
 | cons r T ih =>
  rw[List.map_cons,List.nodup_cons] at h
  rcases List.mem_cons.mp h1 with e1 |e1
  ·rcases List.mem_cons.mp h2 with e2 |e2
   ·rw[<-e1] at e2;cases e2;rfl
   ·exact absurd (List.mem_map.mpr ⟨_,e2,by rw[<-e1]⟩) h.1
  ·rcases List.mem_cons.mp h2 with e2 |e2
   ·exact absurd (List.mem_map.mpr ⟨_,e1,by rw[<-e2]⟩) h.1
   ·exact ih h.2 e1 e2
theorem jA{U:List OS}{i:Nat}{x y:OS}(h:U[i]? = some x):(U.set i y)[i]? = some y:=List.getElem?_set_self (List.getElem?_eq_some_iff.mp h).1
theorem Wy.set_t{o B:Nat}{U:List OS}{L T X M b}(h:Wy o B U L T X M b){n:Int}{i:Nat}(hi:(n,i)∈T)(g:Int)(t:Tl) :
  Wy o B (U.set i (.dK (mpA iK tlD (bA (X n) g t)))) L T (upX X n (bA (X n) g t)) M (b+1):=by
 have ho:=h.ob
 have hg:=h.bg
 have h8:=(h.ot n i hi).1
 refine⟨by rw[List.getElem?_set_ne (by omega)];exact h.o0,by rw[List.getElem?_set_ne (by omega)];exact h.o1,by rw[List.getElem?_set_ne (by omega)];exact h.o2,by rw[List.getElem?_set_ne (by omega)];exact h.o3,fun n' i' hi'=>?_,h.ti,h.kt,h.kn,Nat.le_succ_of_le h.bL,Nat.le_succ_of_le h.bM,fun k=>?_,by rw[List.length_set];exact h.bg,h.ob⟩
 ·refine⟨(h.ot n' i' hi').1,?_⟩
  by_cases e:i=i'
  ·subst e
   obtain rfl:=RB h.ti hi hi'
   rw[jA (h.ot n i hi).2]
   unfold upX
   rw[if_pos rfl]
  ·rw[List.getElem?_set_ne e,(h.ot n' i' hi').2]
   have:¬n'=n:=fun z=>by
    subst z
    have e1:=nT (by rw[h.kt];exact h.kn) hi
    have e2:=nT (by rw[h.kt];exact h.kn) hi'
    rw[e1] at e2
    exact e (Option.some.inj e2)
   unfold upX
   rw[if_neg this]
 ·unfold upX
  split
  ·exact Nat.le_trans (oR _ _ _) (Nat.succ_le_succ (h.bX n))
  ·exact Nat.le_succ_of_le (h.bX k)
theorem Wy.set_m{o B:Nat}{U:List OS}{L T X M b}(h:Wy o B U L T X M b)(g:Int)(m:Int×Int):Wy o B (U.set (o+3) (.dK (mpA iK mkD (bA M g m)))) L T X (bA M g m) (b+1):=by
 have ho:=h.ob
 exact⟨by rw[List.getElem?_set_ne (by omega)];exact h.o0,by rw[List.getElem?_set_ne (by omega)];exact h.o1,by rw[List.getElem?_set_ne (by omega)];exact h.o2,jA h.o3,
  fun n i hi=>⟨(h.ot n i hi).1,by have:=(h.ot n i hi).1;rw[List.getElem?_set_ne (by omega)];exact(h.ot n i hi).2⟩,h.ti,h.kt,h.kn,Nat.le_succ_of_le h.bL,Nat.le_trans (oR _ _ _) (Nat.succ_le_succ h.bM),fun k=>Nat.le_succ_of_le (h.bX k),by rw[List.length_set];exact h.bg,h.ob⟩
def Frm(o:Nat)(T:List (Int×Nat))(U U':List OS):Prop:=U.length<=U'.length/\∀j,j<U.length->j≠o+1->j≠o+2->j≠o+3->j∉T.map (·.2)->U'[j]? = U[j]?
theorem vq{o B:Nat}{U:List OS}{L T X M b}(h:Wy o B U L T X M b){n l:Int}(hn:aH L n=some l):bJ [.obj o,.int n] U=some (.non,U):=by
 have ho:=h.ob
 have hg:=h.bg
 unfold bJ
 rw[rY]
 simp[h.o0,lk1,h.o1,vL,hn]
theorem yh{o B:Nat}{U:List OS}{L T X M b}(h:Wy o B U L T X M b){n:Int}(hn:aH L n=none):bJ [.obj o,.int n] U=none:=by
 have ho:=h.ob
 have hg:=h.bg
 unfold bJ
 rw[rY]
 simp[h.o0,lk1,h.o1,vL,hn]
end Law
namespace Law
open PySem DL
theorem lL{n m:Nat}{s:aU}{ds:List D}{Y':List Sl}{U U':List OS}(hl:ds.length=n)(h:s (ds.map Sl.dat++List.replicate (m-n) Sl.und) U=some (.nx Y' U')):bQ n m s ds U=some (.non,U'):=by
 rw[rY,if_pos hl,h]
theorem Wy.mono{o B:Nat}{U:List OS}{L T X M b b'}(h:Wy o B U L T X M b)(hb:b<=b'):Wy o B U L T X M b' :=
 ⟨h.o0,h.o1,h.o2,h.o3,h.ot,h.ti,h.kt,h.kn,Nat.le_trans h.bL hb,Nat.le_trans h.bM hb,fun n=>Nat.le_trans (h.bX n) hb,h.bg,h.ob⟩
theorem Wy.lt{o B:Nat}{U:List OS}{L T X M b}(h:Wy o B U L T X M b){n:Int}{i:Nat}(hi:(n,i)∈T):i<U.length:=(List.getElem?_eq_some_iff.mp (h.ot n i hi).2).1
theorem Wy.len{o B:Nat}{U:List OS}{L T X M b}(h:Wy o B U L T X M b):T.length=L.length:=by have:=congrArg List.length h.kt;simpa using this
theorem Wy.get{o B:Nat}{U:List OS}{L T X M b}(h:Wy o B U L T X M b){n l:Int}(hn:aH L n=some l):∃i,aH T n=some i/\(n,i)∈T:=by
 have ho:=h.ob
 have hg:=h.bg
 have hm:n∈T.map (·.1):=by rw[h.kt];exact List.mem_map.mpr ⟨_,qZ hn,rfl⟩
 cases q:aH T n with
 | none=>exact absurd hm (gK.mp q)
 | some i=>exact⟨i,rfl,qZ q⟩
def jQ(o:Nat)(U:List OS)(L:List (Int×Int))(T:List (Int×Nat))(n l:Int):List OS:=(U.set (o+1) (.dK (mpA iK D.int (bA L n l)))++[OS.dK []]).set (o+2) (.dK (mpA iK D.obj (bA T n U.length)))
theorem qp{o:Nat}{U:List OS}{L T}{n l:Int}{j:Nat}(hj:j<U.length)(h1:j≠o+1)(h2:j≠o+2):(jQ o U L T n l)[j]? = U[j]?:=by
 unfold jQ
 rw[List.getElem?_set_ne (fun z=>h2 z.symm),List.getElem?_append_left (by rw[List.length_set];exact hj),List.getElem?_set_ne (fun z=>h1 z.symm)]
theorem Eo{o:Nat}{U:List OS}{L T}{n l:Int}:(jQ o U L T n l).length=U.length+1:=by unfold jQ;simp
theorem Wy.tie{o B:Nat}{U:List OS}{L T X M b}(h:Wy o B U L T X M b){n:Int}(hn:aH L n=none)(l:Int):Wy o B (jQ o U L T n l) (bA L n l) (bA T n U.length) (upX X n []) M (b+1):=by
 have ho:=h.ob
 have hg:=h.bg
 have h8:=h.bg
 have hnL:n∉L.map (·.1):=gK.mp hn
 have hnT:n∉T.map (·.1):=by rw[h.kt];exact hnL
 refine⟨by rw[qp (by omega) (by omega) (by omega)];exact h.o0,?_,?_,by rw[qp (by omega) (by omega) (by omega)];exact h.o3,fun n' i' hi'=>?_,?_,?_,lJ h.kn _ _,Nat.le_trans (oR _ _ _) (Nat.succ_le_succ h.bL),Nat.le_succ_of_le h.bM,fun k=>?_,by rw[Eo];omega,h.ob⟩
 ·unfold jQ
  rw[List.getElem?_set_ne (by omega),List.getElem?_append_left (by rw[List.length_set];omega),jA h.o1]
 ·unfold jQ
  rw[List.getElem?_set_self (by simp;omega)]
 ·rw[Bv hnT] at hi'
  rcases List.mem_append.mp hi' with z |z
  ·have hne:¬n'=n:=fun e=>hnT (List.mem_map.mpr ⟨_,z,e⟩)
   have a:=h.ot n' i' z
   refine⟨a.1,?_⟩
   rw[qp (h.lt z) (by omega) (by omega),a.2]
   unfold upX
   rw[if_neg hne]
  ·rw[List.mem_singleton] at z
   cases z
   refine⟨h8,?_⟩
   unfold jQ upX
   rw[List.getElem?_set_ne (by omega),List.getElem?_append_right (by simp),if_pos rfl]
   simp[mpA]
 ·rw[Bv hnT,List.map_append,List.nodup_append]
  refine⟨h.ti,by simp,fun a ha c hc z=>?_⟩
  obtain⟨p,hp,e⟩:=List.mem_map.mp ha
  obtain⟨n',i'⟩:=p
  have:=h.lt hp
  simp at hc
  dsimp only at e
  omega
 ·rw[sW,sW,h.kt]
 ·unfold upX
  split
  ·simp
  ·exact Nat.le_succ_of_le (h.bX k)
theorem Pg{o B:Nat}{U:List OS}{L T X M b}(h:Wy o B U L T X M b)(hb:b<=500){n:Int}(hn:aH L n=none)(l:Int):jc [.obj o,.int n,.int l] U=some (.non,jQ o U L T n l):=by
 have ho:=h.ob
 have hg:=h.bg
 have h8:=h.bg
 have hl:L.length<100000:=by have:=h.bL;omega
 have hT:T.length<100000:=by rw[h.len];exact hl
 have e1:putD (mpA iK D.int L) (.inl n) (.int l)=mpA iK D.int (bA L n l):=oO iD D.int L n l
 have e2:putD (mpA iK D.obj T) (.inl n) (.obj U.length)=mpA iK D.obj (bA T n U.length):=oO iD D.obj T n U.length
 have a0:(U.set (o+1) (.dK (mpA iK D.int (bA L n l)))++[OS.dK []])[o]? = some (.ins "Ways" (fM o)):=by rw[List.getElem?_append_left (by rw[List.length_set];omega),List.getElem?_set_ne (by omega)];exact h.o0
 have a2:(U.set (o+1) (.dK (mpA iK D.int (bA L n l)))++[OS.dK []])[o+2]? = some (.dK (mpA iK D.obj T)):=by rw[List.getElem?_append_left (by rw[List.length_set];omega),List.getElem?_set_ne (by omega)];exact h.o2
 refine lL (Y':=[.dat (.obj o),.dat (.int n),.dat (.int l)]) rfl ?_
 refine(aN (Y':=[.dat (.obj o),.dat (.int n),.dat (.int l)]) (U':=U) (by simp[h.o0,lk1,h.o1,vL,hn])).trans ?_
 refine(aN (Y':=[.dat (.obj o),.dat (.int n),.dat (.int l)]) (U':=U.set (o+1) (.dK (mpA iK D.int (bA L n l)))) (by simp[h.o0,lk1,h.o1,hl,e1])).trans ?_
 generalize hUq:U.set (o+1) (.dK (mpA iK D.int (bA L n l)))=U1 at *
 have hlen:U1.length=U.length:=by rw[<-hUq,List.length_set]
 have et:jQ o U L T n l=(U1++[OS.dK []]).set (o+2) (.dK (mpA iK D.obj (bA T n U.length))):=by unfold jQ;rw[hUq]
 rw[et,Oa,xR]
 dsimp only
 rw[hlen]
 generalize U1++[OS.dK []]=U2 at *
 simp[a0,lk2,a2,hT,e2]
theorem RC{o B:Nat}{U:List OS}{L T X M b}(h:Wy o B U L T X M b){n l':Int}(hn:aH L n=some l')(l:Int):jc [.obj o,.int n,.int l] U=none:=by
 have ho:=h.ob
 have hg:=h.bg
 refine wQ rfl ?_
 simp[h.o0,lk1,h.o1,vL,hn]
def unU(o:Nat)(U:List OS)(L:List (Int×Int))(T:List (Int×Nat))(n:Int):List OS:=(U.set (o+1) (.dK (mpA iK D.int (cJ L n)))).set (o+2) (.dK (mpA iK D.obj (cJ T n)))
theorem sY{o:Nat}{U:List OS}{L T}{n:Int}{j:Nat}(h1:j≠o+1)(h2:j≠o+2):(unU o U L T n)[j]? = U[j]?:=by
 unfold unU
 rw[List.getElem?_set_ne (fun z=>h2 z.symm),List.getElem?_set_ne (fun z=>h1 z.symm)]
theorem Wy.untie{o B:Nat}{U:List OS}{L T X M b}(h:Wy o B U L T X M b)(n:Int):Wy o B (unU o U L T n) (cJ L n) (cJ T n) X M b:=by
 have ho:=h.ob
 have hg:=h.bg
 have h8:=h.bg
 refine⟨by rw[sY (by omega) (by omega)];exact h.o0,?_,?_,by rw[sY (by omega) (by omega)];exact h.o3,fun n' i' hi'=>?_,?_,?_,q_ h.kn _,Nat.le_trans (vf _ _) h.bL,h.bM,h.bX,by unfold unU;rw[List.length_set,List.length_set];exact h8,h.ob⟩
 ·unfold unU
  rw[List.getElem?_set_ne (by omega),jA h.o1]
 ·unfold unU
  rw[List.getElem?_set_self (by rw[List.length_set];omega)]
 ·have hi:=(List.mem_filter.mp hi').1
  have a:=h.ot n' i' hi
  exact⟨a.1,by rw[sY (by omega) (by omega)];exact a.2⟩
 ·unfold cJ
  exact h.ti.sublist (List.filter_sublist.map _)
 ·rw[sX,sX,h.kt]
theorem Ih{o B:Nat}{U:List OS}{L T X M b}(h:Wy o B U L T X M b){n l:Int}(hn:aH L n=some l):gq [.obj o,.int n] U=some (.non,unU o U L T n):=by
 have ho:=h.ob
 have hg:=h.bg
 obtain⟨i,hi,_⟩:=h.get hn
 have hy:=vq h hn
 have e1:jo (mpA iK D.int L) (.inl n)=mpA iK D.int (cJ L n):=ug iD D.int L n
 have e2:jo (mpA iK D.obj T) (.inl n)=mpA iK D.obj (cJ T n):=ug iD D.obj T n
 have a0:(U.set (o+1) (.dK (mpA iK D.int (cJ L n))))[o]? = some (.ins "Ways" (fM o)):=by rw[List.getElem?_set_ne (by omega)];exact h.o0
 have a2:(U.set (o+1) (.dK (mpA iK D.int (cJ L n))))[o+2]? = some (.dK (mpA iK D.obj T)):=by rw[List.getElem?_set_ne (by omega)];exact h.o2
 refine lL (Y':=[.dat (.obj o),.dat (.int n)]) rfl ?_
 refine(aN (Y':=[.dat (.obj o),.dat (.int n)]) (U':=U) (by simp[h.o0,lK,hy])).trans ?_
 refine(aN (Y':=[.dat (.obj o),.dat (.int n)]) (U':=U.set (o+1) (.dK (mpA iK D.int (cJ L n)))) (by simp[h.o0,lk1,h.o1,vL,hn,e1])).trans ?_
 unfold unU
 simp[a0,lk2,a2,vT,hi,e2]
theorem Ku{o B:Nat}{U:List OS}{L T X M b}(h:Wy o B U L T X M b){n:Int}(hn:aH L n=none):gq [.obj o,.int n] U=none:=by
 have ho:=h.ob
 have hg:=h.bg
 have hy:=yh h hn
 refine wQ rfl ?_
 simp[h.o0,lK,hy]
theorem Ph{o B:Nat}{U:List OS}{L T X M b}(h:Wy o B U L T X M b){n:Int}(hn:aH L n=none)(g num:Int)(f:Option Int):fV [.obj o,.int n,.int g,.int num,faD f] U=none:=by
 have ho:=h.ob
 have hg:=h.bg
 have hy:=yh h hn
 refine wQ rfl ?_
 simp[h.o0,lK,hy]
theorem Ep{o:Nat}{T:List (Int×Nat)}{U:List OS}{i:Nat}{x:OS}(hi:i=o+3\/i∈T.map (·.2)):Frm o T U (U.set i x) :=
 ⟨by rw[List.length_set];exact Nat.le_refl _,fun j _ _ _ h3 hT=>List.getElem?_set_ne fun z=>by
  subst z
  rcases hi with e |e
  ·exact h3 e
  ·exact hT e⟩
theorem Frm.trans{o:Nat}{T:List (Int×Nat)}{U U' U'':List OS}(h:Frm o T U U')(h':Frm o T U' U''):Frm o T U U'' :=
 ⟨Nat.le_trans h.1 h'.1,fun j hj h1 h2 h3 hT=>(h'.2 j (Nat.lt_of_lt_of_le hj h.1) h1 h2 h3 hT).trans (h.2 j hj h1 h2 h3 hT)⟩
theorem Kv{o B:Nat}{U:List OS}{L T X M b}(h:Wy o B U L T X M b)(hb:b<=490){n l:Int}(hn:aH L n=some l)(g num:Int)(f:Option Int) :
  ∃U' M',fV [.obj o,.int n,.int g,.int num,faD f] U=some (.non,U')/\Wy o B U' L T (upX X n (bA (X n) g (num,f))) M' (b+2)/\Frm o T U U' /\
   ((Us L (upX X n (bA (X n) g (num,f))) (aH M g) g=[]/\M'=M)\/∃u,vp (Us L (upX X n (bA (X n) g (num,f))) (aH M g) g) u/\M'=bA M g (bet (aH M g) u.1 u.2.1)):=by
 have ho:=h.ob
 have hg:=h.bg
 obtain⟨i,hi,hm⟩:=h.get hn
 have hy:=vq h hn
 have w1:=h.set_t hm g (num,f)
 have hXl:(X n).length<100000:=by have:=h.bX n;omega
 have ex:putD (mpA iK tlD (X n)) (.inl g) (tlD (num,f))=mpA iK tlD (bA (X n) g (num,f)):=oO iD tlD (X n) g (num,f)
 have ei:=(h.ot n i hm).2
 have htl:tlD (num,f)=.tup [.int num,faD f]:=rfl
 have f1:Frm o T U (U.set i (.dK (mpA iK tlD (bA (X n) g (num,f))))):=Ep (.inr (List.mem_map.mpr ⟨_,hm,rfl⟩))
 obtain⟨d,hd,ed⟩:=Pb w1 (by omega) g
 have s1:∀{t:aU},aK (eV (cP "Ways" "need_tie" bJ [] (aj 0) (ao (aj 1) aA))) t [.dat (.obj o),.dat (.int n),.dat (.int g),.dat (.int num),.dat (faD f),.und] U=t [.dat (.obj o),.dat (.int n),.dat (.int g),.dat (.int num),.dat (faD f),.und] U :=
  aN (by simp[h.o0,lK,hy])
 have s2:∀{t:aU},aK (ir (bu (fJ "Ways" "tellings_by" (aj 0)) (aj 1)) (aj 2) (cV (ao (aj 3) (ao (aj 4) aA)))) t [.dat (.obj o),.dat (.int n),.dat (.int g),.dat (.int num),.dat (faD f),.und] U=t [.dat (.obj o),.dat (.int n),.dat (.int g),.dat (.int num),.dat (faD f),.und] (U.set i (.dK (mpA iK tlD (bA (X n) g (num,f))))) :=
  aN (by simp[h.o0,lk2,h.o2,vT,hi,ei,hXl,<-htl,ex])
 generalize U.set i (.dK (mpA iK tlD (bA (X n) g (num,f))))=U1 at *
 have s3:∀{t:aU},aK (bD 5 (cP "Ways" "way" eX [] (aj 0) (ao (aj 2) aA))) t [.dat (.obj o),.dat (.int n),.dat (.int g),.dat (.int num),.dat (faD f),.und] U1=t [.dat (.obj o),.dat (.int n),.dat (.int g),.dat (.int num),.dat (faD f),.dat d] U1 :=
  aN (by simp[w1.o0,Mf,ed])
 rcases hd with⟨e0,rfl⟩ |⟨u,hu,rfl⟩
 ·refine⟨U1,M,lL (Y':=[.dat (.obj o),.dat (.int n),.dat (.int g),.dat (.int num),.dat (faD f),.dat .non]) rfl (s1.trans (s2.trans (s3.trans ?_))),w1.mono (by omega),f1,.inl ⟨e0,rfl⟩⟩
  simp[isD,isNone]
 ·have hk:=rm w1 g
  have hB:=BJ (aH M g) u.1 u.2.1 U1
  have eM:putD (mpA iK mkD M) (.inl g) (mkD (bet (aH M g) u.1 u.2.1))=mpA iK mkD (bA M g (bet (aH M g) u.1 u.2.1)):=oO iD mkD M g _
  have hMl:M.length<100000:=by have:=h.bM;omega
  refine⟨U1.set (o+3) (.dK (mpA iK mkD (bA M g (bet (aH M g) u.1 u.2.1)))),_,lL (Y':=[.dat (.obj o),.dat (.int n),.dat (.int g),.dat (.int num),.dat (faD f),.dat (w3 u)]) rfl (s1.trans (s2.trans (s3.trans ?_))),w1.set_m g _,f1.trans (Ep (.inl rfl)),.inr ⟨u,hu,rfl⟩⟩
  simp[isD,isNone,w3,w1.o0,wR,hk,hB,lk3,w1.o3,hMl,eM]
end Law
namespace Law
open PySem DL
def IV(L:List (Int×Int))(X:Int->List (Int×Tl))(M:List (Int×(Int×Int)))(g:Int):Prop:=∀n l num f,aH L n=some l->aH (X n) g=some (num,some f)->∃p,aH M g=some p/\num<=p.1/\(num=p.1->p.2<=f+l)
theorem Ii{L X m}{g n:Int}{u:Int×Int×Int}:u∈us L X m g n↔∃num f,aH (X n) g=some (num,some f)/\jz m num (some f)=true/\u=(num,f+(aH L n).getD 0,n):=by
 unfold us
 constructor
 ·intro h
  split at h
  ·rename_i num f e
   split at h
   ·rename_i hm
    rw[List.mem_singleton] at h
    exact⟨num,f,e,hm,h⟩
   ·cases h
  ·cases h
 ·rintro⟨num,f,e,hm,rfl⟩
  rw[e]
  dsimp only
  rw[if_pos hm]
  exact List.mem_singleton.mpr rfl
theorem qt{L X m}{g:Int}(kn:(L.map (·.1)).Nodup){u:Int×Int×Int}:u∈Us L X m g↔∃n l num f,aH L n=some l/\aH (X n) g=some (num,some f)/\jz m num (some f)=true/\u=(num,f+l,n):=by
 unfold Us
 rw[List.mem_flatMap]
 constructor
 ·rintro⟨n,hn,hu⟩
  obtain⟨num,f,e1,e2,e3⟩:=Ii.mp hu
  cases q:aH L n with
  | none=>exact absurd hn (gK.mp q)
  | some l=>exact⟨n,l,num,f,q,e1,e2,by rw[e3,q];rfl⟩
 ·rintro⟨n,l,num,f,h1,h2,h3,rfl⟩
  exact⟨n,List.mem_map.mpr ⟨_,qZ h1,rfl⟩,Ii.mpr ⟨num,f,h2,h3,by rw[h1];rfl⟩⟩
theorem oU{a b p q:Int}:bt a b p q=true↔a>p\/(a=p/\b<q):=by simp[bt]
def Kw(M M':List (Int×(Int×Int))):Prop:=∀g p,aH M g=some p->∃p',aH M' g=some p'/\(p'=p\/bt p'.1 p'.2 p.1 p.2=true)
theorem Kw.refl(M:List (Int×(Int×Int))):Kw M M:=fun g p h=>⟨p,h,.inl rfl⟩
theorem Er{m:Option (Int×Int)}{num f:Int}(h:¬jz m num (some f)=true):∃p,m=some p/\num<=p.1/\(num=p.1->p.2<=f):=by
 cases m with
 | none=>exact absurd rfl h
 | some p =>
  refine⟨p,rfl,?_⟩
  have hb:¬bt num f p.1 p.2=true:=h
  rw[oU,not_or] at hb
  refine⟨by omega,fun e=>?_⟩
  have:=hb.2
  omega
theorem Pj{L X M}(kn:(L.map (·.1)).Nodup)(l0:∀n l,aH L n=some l->0<=l)(iv:∀g,IV L X M g){n g num:Int}{f:Option Int}{M':List (Int×(Int×Int))}
  (hM:(Us L (upX X n (bA (X n) g (num,f))) (aH M g) g=[]/\M'=M)\/∃u,vp (Us L (upX X n (bA (X n) g (num,f))) (aH M g) g) u/\M'=bA M g (bet (aH M g) u.1 u.2.1)) :
  (∀g',IV L (upX X n (bA (X n) g (num,f))) M' g')/\Kw M M':=by
 have hX:∀g' n',g'≠g->aH (upX X n (bA (X n) g (num,f)) n') g'=aH (X n') g':=fun g' n' hg=>by
  unfold upX
  split
  ·rename_i e
   rw[e,fL,if_neg hg]
  ·rfl
 have hM':∀g',g'≠g->aH M' g'=aH M g':=fun g' hg=>by
  rcases hM with⟨_,rfl⟩ |⟨u,_,rfl⟩
  ·rfl
  ·rw[fL,if_neg hg]
 generalize upX X n (bA (X n) g (num,f))=X' at *
 refine⟨fun g'=>?_,fun g' p hp=>?_⟩
 ·intro n' l' num' f' h1 h2
  by_cases hg:g'=g
  ·subst hg
   have hl:=l0 n' l' h1
   rcases hM with⟨e0,rfl⟩ |⟨u,hB,rfl⟩
   ·have:¬jz (aH M' g') num' (some f')=true:=fun z=>by
     have:(num',f'+l',n')∈Us L X' (aH M' g') g':=(qt kn).mpr ⟨n',l',num',f',h1,h2,z,rfl⟩
     rw[e0] at this;cases this
    obtain⟨p,e1,e2,e3⟩:=Er this
    exact⟨p,e1,e2,fun z=>by have:=e3 z;omega⟩
   ·obtain⟨wn,wl,num2,f2,w1,w2,w3',rfl⟩:=(qt kn).mp hB.1
    refine⟨_,by rw[fL,if_pos rfl],?_⟩
    by_cases hm:jz (aH M g') num' (some f')=true
    ·have hv:=hB.2 _ ((qt kn).mpr ⟨n',l',num',f',h1,h2,hm,rfl⟩)
     have hv':HT.lexLt [-num',f'+l',n'] [-num2,f2+wl,wn]=false:=hv
     rw[HT.eO] at hv'
     have c1:num'<=num2/\(num'=num2->f2+wl<=f'+l'):=by
      by_cases e:-num' = -num2
      ·rw[if_pos e,HT.eO] at hv'
       refine⟨by omega,fun _=>?_⟩
       by_cases e2:f'+l'=f2+wl
       ·omega
       ·rw[if_neg e2] at hv'
        have:=of_decide_eq_false hv'
        omega
      ·rw[if_neg e] at hv'
       have:=of_decide_eq_false hv'
       exact⟨by omega,fun z=>by omega⟩
     unfold bet
     cases hq:aH M g' with
     | none=>exact c1
     | some p =>
      dsimp only
      split
      ·exact c1
      ·refine⟨c1.1,fun z=>?_⟩
       have:=c1.2 z
       dsimp only
       split<;>omega
    ·obtain⟨p,e1,e2,e3⟩:=Er hm
     rw[e1] at w3' ⊢
     have hbt:bt num2 f2 p.1 p.2=true:=w3'
     have hge:=oU.mp hbt
     unfold bet
     dsimp only
     split
     ·rename_i hgt
      exact⟨by dsimp only;omega,fun z=>by dsimp only at z;omega⟩
     ·rename_i hgt
      refine⟨by dsimp only;omega,fun z=>?_⟩
      dsimp only at z ⊢
      have:=e3 (by omega)
      split<;>omega
  ·rw[hX g' n' hg] at h2
   obtain⟨p,e1,e2⟩:=iv g' n' l' num' f' h1 h2
   exact⟨p,by rw[hM' g' hg];exact e1,e2⟩
 ·by_cases hg:g'=g
  ·subst hg
   rcases hM with⟨e0,rfl⟩ |⟨u,hB,rfl⟩
   ·exact⟨p,hp,.inl rfl⟩
   ·obtain⟨wn,wl,num2,f2,w1,w2,w3',rfl⟩:=(qt kn).mp hB.1
    refine⟨_,by rw[fL,if_pos rfl],?_⟩
    rw[hp] at w3' ⊢
    have hbt:bt num2 f2 p.1 p.2=true:=w3'
    have hge:=oU.mp hbt
    unfold bet
    dsimp only
    split
    ·rename_i hgt
     exact .inr (oU.mpr (.inl hgt))
    ·rename_i hgt
     split
     ·rename_i hlt
      exact .inr (oU.mpr (.inr ⟨by dsimp only;omega,hlt⟩))
     ·left
      obtain⟨p1,p2⟩:=p
      dsimp only at *
      have:num2=p1:=by omega
      rw[this]
  ·exact⟨p,by rw[hM' g' hg];exact hp,.inl rfl⟩
theorem Wy.of_eq{o B:Nat}{U U':List OS}{L T X M b}(h:Wy o B U L T X M b)(hl:U.length<=U'.length)(e:∀j,j<U.length->((o<=j/\j<o+4)\/j∈T.map (·.2))->U'[j]? = U[j]?):Wy o B U' L T X M b:=by
 have ho:=h.ob
 have hg:=h.bg
 have h8:=h.bg
 exact⟨by rw[e o (by omega) (.inl (by omega))];exact h.o0,by rw[e (o+1) (by omega) (.inl (by omega))];exact h.o1,by rw[e (o+2) (by omega) (.inl (by omega))];exact h.o2,by rw[e (o+3) (by omega) (.inl (by omega))];exact h.o3,
  fun n i hi=>⟨(h.ot n i hi).1,by rw[e i (h.lt hi) (.inr (List.mem_map.mpr ⟨_,hi,rfl⟩))];exact(h.ot n i hi).2⟩,h.ti,h.kt,h.kn,h.bL,h.bM,h.bX,Nat.le_trans h8 hl,h.ob⟩
theorem Wy.T8{o B:Nat}{U:List OS}{L T X M b}(h:Wy o B U L T X M b){j:Nat}(hj:j∈T.map (·.2)):B<=j:=by
 have ho:=h.ob
 have hg:=h.bg
 obtain⟨p,hp,rfl⟩:=List.mem_map.mp hj
 exact(h.ot p.1 p.2 hp).1
end Law
namespace Law
open PySem DL
theorem BK{o B:Nat}{U:List OS}{L T X M b}(h:Wy o B U L T X M b){n:Int}(h0:0<=n)(h1:n<32)(hn:aH L n=none):bZ [.obj o,.int n] U=some (("NotTied":Str),U):=by
 unfold bZ
 rw[Em]
 have hs:qi n:=En (by omega) (by omega)
 have ep:pFi (aj 1) [.dat (.obj o),.dat (.int n)] U=some U:=by
  unfold pFi
  simp[hs]
 simp[h.o0,lk1,h.o1,vL,hn,ep]
theorem yj{s t:aU}{r:fC}{i:Nat}{tc:Str->Bool}{Y:List Sl}{U:List OS}{o:Out}(h:s Y U=some o):qR s r i tc t Y U=some o:=by unfold qR;rw[h]
theorem yl{s t:aU}{r:fC}{i:Nat}{tc:Str->Bool}{c:Str}{Y Y1:List Sl}{d:D}{U U1 U':List OS}(h:s Y U=none)(h1:r Y U=some (c,Y1,U1))(h2:tc c=true)(h3:t (Y1.set i (.dat (.obj U1.length))) (U1++[.exc c])=some (.rt d U')):qR s r i tc t Y U=some (.rt d U'):=by
 unfold qR
 rw[h]
 dsimp only
 rw[h1]
 dsimp only
 rw[if_pos h2,h3]
theorem Tr{o B:Nat}{U:List OS}{L T X M b}(h:Wy o B U L T X M b){n l':Int}(h0:0<=n)(h1:n<32)(hn:aH L n=some l')(l:Int):jO [.obj o,.int n,.int l] U=some (("Tied":Str),U):=by
 have hs:qi n:=En (by omega) (by omega)
 have ep:pFi (aj 1) [.dat (.obj o),.dat (.int n),.dat (.int l)] U=some U:=by
  unfold pFi
  simp[hs]
 refine um (Y:=[.dat (.obj o),.dat (.int n),.dat (.int l)]) rfl ?_
 simp[h.o0,lk1,h.o1,vL,hn,ep]
theorem Pk{o B:Nat}{U:List OS}{L T X M b}(h:Wy o B U L T X M b){n:Int}(h0:0<=n)(h1:n<32)(hn:aH L n=none):iC [.obj o,.int n] U=some (("NotTied":Str),U):=by
 have hy:=BK h h0 h1 hn
 refine um (Y:=[.dat (.obj o),.dat (.int n)]) rfl ?_
 simp[h.o0,lK,hy]
theorem RG{o B:Nat}{U:List OS}{L T X M b}(h:Wy o B U L T X M b){n:Int}(h0:0<=n)(h1:n<32)(hn:aH L n=none)(g num:Int)(f:Option Int):jh [.obj o,.int n,.int g,.int num,faD f] U=some (("NotTied":Str),U):=by
 have hy:=BK h h0 h1 hn
 refine um (Y:=[.dat (.obj o),.dat (.int n),.dat (.int g),.dat (.int num),.dat (faD f),.und]) rfl ?_
 simp[h.o0,lK,hy]
theorem es{a b:Str}(ha:(PyData.str a).canLay0=true)(hb:(PyData.str b).canLay0=true):eqD false (.str a) (.str b)=some (.bl (decide (a=b))):=by
 by_cases h:a=b
 ·subst h
  rw[qL false (by simp[pl,ha]) (by simp[dep])];simp
 ·rw[Be false (by simp[pl,ha]) (by simp[pl,hb]) (by simp[dep]) (by simp[dep]) (by simpa using h)];simp[h]
theorem clT:(PyData.str "tie").canLay0=true:=by decide +kernel
theorem clU:(PyData.str "untie").canLay0=true:=by decide +kernel
theorem clH:(PyData.str "hear").canLay0=true:=by decide +kernel
@[simp] theorem Wo:eqD false (.str "tie") (.str "tie")=some (.bl true):=by rw[es clT clT];simp
@[simp] theorem Wq:eqD false (.str "untie") (.str "tie")=some (.bl false):=by rw[es clU clT,decide_eq_false (by decide +kernel)]
@[simp] theorem Wr:eqD false (.str "untie") (.str "untie")=some (.bl true):=by rw[es clU clU];simp
@[simp] theorem Ws:eqD false (.str "hear") (.str "tie")=some (.bl false):=by rw[es clH clT,decide_eq_false (by decide +kernel)]
@[simp] theorem Wt:eqD false (.str "hear") (.str "untie")=some (.bl false):=by rw[es clH clU,decide_eq_false (by decide +kernel)]
theorem Ky(u:Int×Int×Int):ixD (w3 u) (.int 0)=some (.int u.1):=by simp[w3]
theorem Kz(u:Int×Int×Int):ixD (w3 u) (.int 1)=some (.int u.2.1):=by simp[w3]
theorem Vc(u:Int×Int×Int):ixD (w3 u) (.int 2)=some (.int u.2.2):=by simp[w3]
def deT(n l:Int):D:=.tup [.str "tie",.int n,.int l]
def deU(n:Int):D:=.tup [.str "untie",.int n]
def deH(n g num:Int)(f:Option Int):D:=.tup [.str "hear",.int n,.int g,.int num,faD f]
def flT:D:=.lst [.bl true,.bl false,.bl true,.bl false,.bl false,.bl false,.bl false,.bl false,.bl false]
def flN:D:=.lst [.bl false,.bl true,.bl true,.bl false,.bl false,.bl false,.bl false,.bl false,.bl false]
theorem nTN:¬(("Tied":Str) = "NotTied"):=by decide +kernel
theorem Vd:dU "Tied" = true:=by simp[dU]
theorem RJ:dU "NotTied" = true:=by simp[dU]
theorem Ij{o B:Nat}{U:List OS}{L T X M b}(h:Wy o B U L T X M b)(hb:b<=500){n:Int}(hn:aH L n=none)(l:Int):cG [.obj o,deT n l] U=some (.non,jQ o U L T n l):=by
 have e:=Pg h hb hn l
 refine bh rfl ((aN (Y':=[.dat (.obj o),.dat (deT n l),.dat .non,.und,.und]) (U':=jQ o U L T n l) (yj ?_)).trans (by simp))
 simp[deT,h.o0,F_,e]
theorem BL{o B:Nat}{U:List OS}{L T X M b}(h:Wy o B U L T X M b){n l':Int}(h0:0<=n)(h1:n<32)(hn:aH L n=some l')(l:Int):cG [.obj o,deT n l] U=some (flT,U++[.exc "Tied"]):=by
 have e:=RC h hn l
 have e2:=Tr h h0 h1 hn l
 refine bh rfl (eG (yl (c:="Tied") (Y1:=[.dat (.obj o),.dat (deT n l),.und,.und,.und]) (U1:=U) ?_ ?_ Vd ?_))
 ·simp[deT,h.o0,F_,e]
 ·simp[deT,h.o0,F_,e2]
 ·simp[uT,uU,uV,uW,uX,uY,uZ,u_,vd,nTN,flT]
theorem KC{o B:Nat}{U:List OS}{L T X M b}(h:Wy o B U L T X M b){n l:Int}(hn:aH L n=some l):cG [.obj o,deU n] U=some (.non,unU o U L T n):=by
 have e:=Ih h hn
 refine bh rfl ((aN (Y':=[.dat (.obj o),.dat (deU n),.dat .non,.und,.und]) (U':=unU o U L T n) (yj ?_)).trans (by simp))
 simp[deU,h.o0,yf,e]
theorem CT{o B:Nat}{U:List OS}{L T X M b}(h:Wy o B U L T X M b){n:Int}(h0:0<=n)(h1:n<32)(hn:aH L n=none):cG [.obj o,deU n] U=some (flN,U++[.exc "NotTied"]):=by
 have e:=Ku h hn
 have e2:=Pk h h0 h1 hn
 refine bh rfl (eG (yl (c:="NotTied") (Y1:=[.dat (.obj o),.dat (deU n),.und,.und,.und]) (U1:=U) ?_ ?_ RJ ?_))
 ·simp[deU,h.o0,yf,e]
 ·simp[deU,h.o0,yf,e2]
 ·simp[uT,uU,uV,uW,uX,uY,uZ,u_,vd,flN]
theorem KD{o B:Nat}{U U':List OS}{L T X M b}(h:Wy o B U L T X M b){n g num:Int}{f:Option Int}(e:fV [.obj o,.int n,.int g,.int num,faD f] U=some (.non,U')):cG [.obj o,deH n g num f] U=some (.non,U'):=by
 refine bh rfl ((aN (Y':=[.dat (.obj o),.dat (deH n g num f),.dat .non,.und,.und]) (U':=U') (yj ?_)).trans (by simp))
 simp[deH,h.o0,Bx,e]
theorem CV{o B:Nat}{U:List OS}{L T X M b}(h:Wy o B U L T X M b){n:Int}(h0:0<=n)(h1:n<32)(hn:aH L n=none)(g num:Int)(f:Option Int):cG [.obj o,deH n g num f] U=some (flN,U++[.exc "NotTied"]):=by
 have e:=Ph h hn g num f
 have e2:=RG h h0 h1 hn g num f
 refine bh rfl (eG (yl (c:="NotTied") (Y1:=[.dat (.obj o),.dat (deH n g num f),.und,.und,.und]) (U1:=U) ?_ ?_ RJ ?_))
 ·simp[deH,h.o0,Bx,e]
 ·simp[deH,h.o0,Bx,e2]
 ·simp[uT,uU,uV,uW,uX,uY,uZ,u_,vd,flN]
end Law
namespace Law
open PySem DL
def fO(u:Nat):List (L2.Key×D):=[(.inr "lengths",.obj (u+1)),(.inr "told",.obj (u+2)),(.inr "marks",.obj (u+3))]
theorem s12:¬(("lengths":Str) = "told"):=by decide +kernel
theorem s13:¬(("lengths":Str) = "marks"):=by decide +kernel
theorem s23:¬(("told":Str) = "marks"):=by decide +kernel
theorem ov1(u:Nat):cW (fO u) (.inr "lengths")=some (.obj (u+1)):=by simp[cW,fO]
theorem ov2(u:Nat):cW (fO u) (.inr "told")=some (.obj (u+2)):=by simp[cW,fO,s12]
theorem ov3(u:Nat):cW (fO u) (.inr "marks")=some (.obj (u+3)):=by simp[cW,fO,s13,s23]
structure Ow(u:Nat)(U:List OS)(L:List (Int×Int))(S:List ((Int×Int)×Tl))(M:List (Int×(Int×Int)))(b:Nat):Prop where
 p4:U[u]? = some (.dK (fO u))
 p5:U[u+1]? = some (.dK (mpA iK D.int L))
 p6:U[u+2]? = some (.dT (mpA pK tlD S))
 p7:U[u+3]? = some (.dK (mpA iK mkD M))
 nd:(S.map (·.1)).Nodup
 kn:(L.map (·.1)).Nodup
 bS:S.length<=b
 bL:L.length<=b
 bM:M.length<=b
 mn:(M.map (·.1)).Nodup
theorem vS(S:List ((Int×Int)×Tl))(g n:Int):cW (mpA pK tlD S) [.inl g,.inl n]=(aH S (g,n)).map tlD:=qm Bw tlD (g,n) S
theorem CW(a b p q:Int)(U:List OS):lG [.tup [.int a,.int b],.tup [.int p,.int q]] U=some (.bl (bt a b p q),U):=by
 refine bh rfl ?_
 by_cases h:a>p
 ·simp[bt,h]
 ·by_cases h2:a=p
  ·simp[bt,h2]
  ·simp[bt,h,h2]
theorem KH(m:Option (Int×Int))(num:Int)(f:Option Int)(U:List OS):nR [mOD m,.int num,faD f] U=some (.bl (jz m num f),U):=by
 refine bh rfl ?_
 cases f with
 | none=>simp[faD,isD,isNone,jz]
 | some f =>
  cases m with
  | none=>simp[faD,mOD,isD,isNone,jz]
  | some p=>simp[faD,mOD,mkD,isD,isNone,jz,CW]
def wU:aU:=(sIf (gT (jm false (cV (ao (aj 1) (ao (aj 3) aA))) (bu (aj 0) (gC (.str "told"))))) (aK (An (jj [4,5]) (bu (bu (aj 0) (gC (.str "told"))) (cV (ao (aj 1) (ao (aj 3) aA))))) (sIf (gT (aJ nR (ao (jt (bu (aj 0) (gC (.str "marks"))) (aj 1)) (ao (aj 4) (ao (aj 5) aA))))) (mU 2 (cV (ao (jl (aj 4)) (ao (gOp bY (aj 5) (bu (bu (aj 0) (gC (.str "lengths"))) (aj 3))) (ao (aj 3) aA))))) aX)) aX)
structure Lnk(L:List (Int×Int))(X:Int->List (Int×Tl))(S:List ((Int×Int)×Tl)):Prop where
 k1:∀g n l,aH L n=some l->aH S (g,n)=aH (X n) g
 k2:∀g n,aH L n=none->aH S (g,n)=none
def jB(v:Int×Int×Int):Int×Int×Int:=(-v.1,v.2.1,v.2.2)
theorem zg{u:Nat}{U:List OS}{L:List (Int×Int)}{X:Int->List (Int×Tl)}{S:List ((Int×Int)×Tl)}{M:List (Int×(Int×Int))}(p4:U[u]? = some (.dK (fO u)))(p5:U[u+1]? = some (.fzK (mpA iK D.int L)))(p6:U[u+2]? = some (.dT (mpA pK tlD S)))(p7:U[u+3]? = some (.dK (mpA iK mkD M)))(lk:Lnk L X S)(g:Int) :
  ∀(rest:List (Int×Int)) (acc:List (Int×Int×Int)) (x y z:Sl),(∀p∈rest,∃l,aH L p.1=some l)->acc.length+rest.length<=1000->∃(x' y' z':Sl),eF (bF 3) wU (rest.map fun p=>D.int p.1) [.dat (.obj u),.dat (.int g),.own (acc.map w3),x,y,z,.und] U
   = some (.nx [.dat (.obj u),.dat (.int g),.own ((acc++(rest.flatMap fun p=>us L X (aH M g) g p.1).map jB).map w3),x',y',z',.und] U)
 | [],acc,x,y,z,_,_=>⟨x,y,z,by simp⟩
 | (n,l0)::rest,acc,x,y,z,hT,hl=>by
  obtain⟨l,hL⟩:=hT (n,l0) List.mem_cons_self
  rw[List.length_cons] at hl
  dsimp only at hL
  have hl':acc.length<100000:=by omega
  have ih:=fun acc x y z h=>zg p4 p5 p6 p7 lk g rest acc x y z (fun p hp=>hT p (List.mem_cons_of_mem _ hp)) h
  have em:(Option.map mkD (aH M g)).getD .non=mOD (aH M g):=rfl
  have ek:=lk.k1 g n l hL
  rw[List.map_cons,i_,List.flatMap_cons]
  cases e:aH S (g,n) with
  | none =>
   obtain⟨x',y',z',ih⟩:=ih acc (.dat (.int n)) y z (by omega)
   rw[show us L X (aH M g) g n=[] by unfold us;rw[<-ek,e],List.nil_append]
   refine⟨x',y',z',Eq.trans ?_ ih⟩
   simp[wU,p4,ov2,p6,vS,e]
  | some t =>
   obtain⟨num,f⟩:=t
   have hm:=KH (aH M g) num f U
   cases hb:jz (aH M g) num f with
   | false =>
    rw[hb] at hm
    obtain⟨x',y',z',ih⟩:=ih acc (.dat (.int n)) (.dat (.int num)) (.dat (faD f)) (by omega)
    rw[show us L X (aH M g) g n=[] by
     unfold us
     rw[<-ek,e]
     cases f with
     | none=>rfl
     | some f=>dsimp only;rw[if_neg (by rw[hb];decide)],List.nil_append]
    refine⟨x',y',z',Eq.trans ?_ ih⟩
    simp[wU,p4,ov2,ov3,p6,p7,vS,vM,e,tlD,nZ,em,hm]
   | true =>
    cases f with
    | none=>cases hb
    | some f =>
     rw[hb] at hm
     have ef:faD (some f)=.int f:=rfl
     rw[ef] at hm
     obtain⟨x',y',z',ih⟩:=ih (acc++[(-num,f+l,n)]) (.dat (.int n)) (.dat (.int num)) (.dat (.int f)) (by rw[List.length_append];simp;omega)
     rw[show us L X (aH M g) g n=[(num,f+l,n)] by
      unfold us
      rw[<-ek,e]
      dsimp only
      rw[if_pos hb,hL]
      rfl]
     refine⟨x',y',z',Eq.trans ?_ (ih.trans (by simp[jB]))⟩
     simp[wU,p4,p5,ov1,ov2,ov3,p6,p7,vS,vM,vL,e,ef,tlD,nZ,em,hm,hL,hl',w3]
theorem RK(vs:List (Int×Int×Int)):plL (vs.map w3)=true/\oH (vs.map w3)<=2:=by
 induction vs with
 | nil=>simp[plL,oH]
 | cons v vs ih =>
  refine⟨?_,?_⟩
  ·simp[plL,ih.1,w3,pl]
  ·simp[oH,w3,dep]
   omega
theorem BP:∀vs:List (Int×Int×Int),nG (vs.map w3)=some (vs.map fun u=>[u.1,u.2.1,u.2.2])
 | []=>rfl
 | v::vs=>by
  rw[List.map_cons,List.map_cons]
  unfold nG
  rw[show lY (w3 v)=some [v.1,v.2.1,v.2.2] from rfl]
  dsimp only
  rw[BP vs]
def rA(vs:List (Int×Int×Int)):D:=minD (vs.map g_) (vs.map w3)
theorem RL{o B:Nat}{U:List OS}{L T X M b}(h:Wy o B U L T X M b)(hb:b<=500)(g:Int):eX [.obj o,.int g] U=some (rA (Us L X (aH M g) g),U):=by
 have ho:=h.ob
 have hg:=h.bg
 have hk:=rm h g
 have hl2:o+2<U.length:=by have:=h.bg;omega
 have hTl:T.length=L.length:=by have:=congrArg List.length h.kt;simpa using this
 obtain⟨x',y',hloop⟩:=vm (U:=U.set (o+2) (.fzK (mpA iK D.obj T))) (L:=L) (T:=T) (X:=X) (by rw[List.getElem?_set_ne (by omega)];exact h.o0) (by rw[List.getElem?_set_ne (by omega)];exact h.o1) (List.getElem?_set_self hl2)
  (fun n i hi=>by have:=h.ot n i hi;rw[List.getElem?_set_ne (by omega)];exact this.2) (fun n i hi=>nT (by rw[h.kt];exact h.kn) hi)
  (fun n i hi=>by
   have hn:n∈L.map (·.1):=by rw[<-h.kt];exact List.mem_map.mpr ⟨_,hi,rfl⟩
   cases q:aH L n with
   | none=>exact absurd hn (gK.mp q)
   | some l=>exact⟨l,rfl⟩) g (aH M g) T [] .und .und (fun p hp=>hp) (by have:=h.bL;simp;omega)
 have eU:(T.flatMap fun p=>us L X (aH M g) g p.1)=Us L X (aH M g) g:=by
  unfold Us
  rw[<-h.kt,List.flatMap_map]
 rw[List.nil_append,eU] at hloop
 have ek:(mpA iK D.obj T).map (fun x=>ofK x.1)=T.map fun p=>D.int p.1:=by
  unfold mpA
  rw[List.map_map];rfl
 refine bh rfl ?_
 refine(aN (Y':=[.dat (.obj o),.dat (.int g),.dat (mOD (aH M g)),.und,.und,.und]) (U':=U) (by simp[h.o0,wR,hk])).trans ?_
 refine(aN (Y':=[.dat (.obj o),.dat (.int g),.dat (mOD (aH M g)),.own [],.und,.und]) (U':=U) (by simp)).trans ?_
 refine(aN (yg (n:=o+2) (kvs:=mpA iK D.obj T) (by simp[h.o0,lk2]) h.o2 (by rw[ek];exact hloop))).trans ?_
 simp[frz,rn,rA]
theorem ym{u:Nat}{U:List OS}{L X S M b}(o:Ow u U L S M b)(lk:Lnk L X S)(hb:b<=400)(g:Int):iB [.obj u,.int g] U=some (rA (Us L X (aH M g) g),U):=by
 have hl5:u+1<U.length:=(List.getElem?_eq_some_iff.mp o.p5).1
 obtain⟨x',y',z',hloop⟩:=zg (u:=u) (U:=U.set (u+1) (.fzK (mpA iK D.int L))) (L:=L) (X:=X) (S:=S) (M:=M) (by rw[List.getElem?_set_ne (by omega)];exact o.p4) (List.getElem?_set_self hl5) (by rw[List.getElem?_set_ne (by omega)];exact o.p6) (by rw[List.getElem?_set_ne (by omega)];exact o.p7) lk g L [] .und .und .und
  (fun p hp=>⟨p.2,nT o.kn hp⟩) (by have:=o.bL;simp;omega)
 have eU:(L.flatMap fun p=>us L X (aH M g) g p.1)=Us L X (aH M g) g:=by
  unfold Us
  rw[List.flatMap_map]
 rw[List.nil_append,eU] at hloop
 obtain⟨vs,hvs⟩:∃vs,Us L X (aH M g) g=vs:=⟨_,rfl⟩
 rw[hvs] at hloop ⊢
 have ek:(mpA iK D.int L).map (fun x=>ofK x.1)=L.map fun p=>D.int p.1:=by
  unfold mpA
  rw[List.map_map];rfl
 have s1:∀{t:aU},aK (uL 2 aA) t [.dat (.obj u),.dat (.int g),.und,.und,.und,.und,.und] U=t [.dat (.obj u),.dat (.int g),.own [],.und,.und,.und,.und] U:=aN (by simp)
 have s2:∀{t:aU},aK (qU (bu (aj 0) (gC (.str "lengths"))) (bF 3) wU) t [.dat (.obj u),.dat (.int g),.own [],.und,.und,.und,.und] U=t [.dat (.obj u),.dat (.int g),.own ((vs.map jB).map w3),x',y',z',.und] U :=
  aN (yg (n:=u+1) (kvs:=mpA iK D.int L) (by simp[o.p4,ov1]) o.p5 (by rw[ek];exact hloop))
 have hp:=RK (vs.map jB)
 refine bh rfl (s1.trans (s2.trans ?_))
 cases hv:vs with
 | nil =>
  have e0:eqD false (.lst []) (.lst [])=some (.bl true):=qL false (by simp[pl,plL]) (by simp[dep,oH])
  simp[frz,e0,rA,minD]
 | cons v0 vr =>
  have e0:eqD false (.lst ((vs.map jB).map w3)) (.lst [])=some (.bl false):=Be false (by rw[pl];exact hp.1) (by simp[pl,plL]) (by rw[dep];omega) (by simp[dep,oH]) (by rw[hv];simp)
  have eK:=BP (vs.map jB)
  rw[List.map_map (f:=jB) (g:=fun u:Int×Int×Int=>[u.1,u.2.1,u.2.2]),show((fun u:Int×Int×Int=>[u.1,u.2.1,u.2.2]) ∘ jB)=g_ from rfl] at eK
  have hpos:0<vs.length:=by rw[hv];simp
  have hm:=L2.wH (vs.map g_) (vs.length-1)
  have hlt:L2.mIx (vs.map g_) (vs.length-1)<vs.length:=by omega
  have eu:rA vs=w3 vs[L2.mIx (vs.map g_) (vs.length-1)]:=by
   unfold rA minD
   rw[List.length_map,L2.getD_get (by simpa using hlt),List.getElem_map]
  have en:minD (vs.map g_) ((vs.map jB).map w3)=w3 (jB vs[L2.mIx (vs.map g_) (vs.length-1)]):=by
   unfold minD
   rw[List.length_map,List.length_map,L2.getD_get (by simpa using hlt),List.getElem_map,List.getElem_map]
  rw[<-hv,eu]
  obtain⟨v,hvv⟩:∃v,vs[L2.mIx (vs.map g_) (vs.length-1)]=v:=⟨_,rfl⟩
  rw[hvv] at en ⊢
  obtain⟨d0,dr,hd⟩:∃d0 dr,(vs.map jB).map w3=d0::dr:=by rw[hv];exact⟨_,_,rfl⟩
  rw[hd] at e0 eK en ⊢
  rw[show w3 v=.tup [.int v.1,.int v.2.1,.int v.2.2] from rfl]
  have i0:ixD (w3 (jB v)) (.int 0)=some (.int (-v.1)):=Ky (jB v)
  have i1:ixD (w3 (jB v)) (.int 1)=some (.int v.2.1):=Kz (jB v)
  have i2:ixD (w3 (jB v)) (.int 2)=some (.int v.2.2):=Vc (jB v)
  simp[frz,e0,eK,en,i0,i1,i2]
theorem set_same{U:List OS}{i:Nat}{o:OS}(h:U[i]? = some o):U.set i o=U:=by
 apply List.ext_getElem?
 intro j
 by_cases e:i=j
 ·subst e;rw[jA h,h]
 ·rw[List.getElem?_set_ne e]
theorem KJ{u:Nat}{U:List OS}{L S M b}(o:Ow u U L S M b)(hb:b<=400)(n l:Int):gr [.obj u,deT n l] U=some (.non,U.set (u+1) (.dK (mpA iK D.int (bA L n l)))):=by
 have hl:L.length<100000:=by have:=o.bL;omega
 have e1:putD (mpA iK D.int L) (.inl n) (.int l)=mpA iK D.int (bA L n l):=oO iD D.int L n l
 refine lL (Y':=[.dat (.obj u),.dat (deT n l),.und]) rfl ?_
 simp[deT,o.p4,ov1,o.p5,hl,e1]
theorem Pn{u:Nat}{U:List OS}{L S M b}(o:Ow u U L S M b)(hb:b<=400)(n g num:Int)(f:Option Int):gr [.obj u,deH n g num f] U=some (.non,U.set (u+2) (.dT (mpA pK tlD (bA S (g,n) (num,f))))):=by
 have hl:S.length<100000:=by have:=o.bS;omega
 have htl:tlD (num,f)=.tup [.int num,faD f]:=rfl
 have e1:putD (mpA pK tlD S) [.inl g,.inl n] (tlD (num,f))=mpA pK tlD (bA S (g,n) (num,f)):=oO Bw tlD S (g,n) (num,f)
 rw[htl] at e1
 refine lL (Y':=[.dat (.obj u),.dat (deH n g num f),.und]) rfl ?_
 simp[deH,o.p4,ov2,o.p6,hl,e1]
def unB:aU:=(sIf (gT (gOp (eqD false) (gOp ixD (aj 2) (gC (.int 1))) (gOp ixD (aj 1) (gC (.int 1))))) (eV (pq (bu (aj 0) (gC (.str "told"))) (aj 2))) aX)
theorem yo{u:Nat}(n:Int):∀(rest:List (Int×Int)) (S:List ((Int×Int)×Tl)) (U:List OS) (x:Sl),U[u]? = some (.dK (fO u))->U[u+2]? = some (.dT (mpA pK tlD S))->rest.Nodup->(∀k∈rest,k.2=n->aH S k≠none)->(S.map (·.1)).Nodup ->
  ∃x' S',eF (bF 2) unB (rest.map fun k=>D.tup [.int k.1,.int k.2]) [.dat (.obj u),.dat (deU n),x] U=some (.nx [.dat (.obj u),.dat (deU n),x'] (U.set (u+2) (.dT (mpA pK tlD S'))))/\(∀k,aH S' k=if k∈rest/\k.2=n then none else aH S k)/\(S'.map (·.1)).Nodup/\S'.length<=S.length
 | [],S,U,x,h4,h6,_,_,hS=>⟨x,S,by rw[set_same h6];rfl,fun k=>by simp,hS,Nat.le_refl _⟩
 | (g,m)::rest,S,U,x,h4,h6,hn,hk,hS=>by
  rw[List.nodup_cons] at hn
  rw[List.map_cons,i_]
  by_cases e:m=n
  ·subst e
   have hin:=hk (g,m) List.mem_cons_self rfl
   obtain⟨t,ht⟩:=Option.ne_none_iff_exists'.mp hin
   have e1:jo (mpA pK tlD S) [.inl g,.inl m]=mpA pK tlD (cJ S (g,m)):=ug Bw tlD S (g,m)
   have h6':(U.set (u+2) (.dT (mpA pK tlD (cJ S (g,m)))))[u+2]? = some (.dT (mpA pK tlD (cJ S (g,m)))):=jA h6
   obtain⟨x',S',a1,a2,a3,a4⟩:=yo (u:=u) m rest (cJ S (g,m)) (U.set (u+2) (.dT (mpA pK tlD (cJ S (g,m))))) (.dat (.tup [.int g,.int m])) (by rw[List.getElem?_set_ne (by omega)];exact h4) h6' hn.2
    (fun k hk' e=>by
     rw[l_,if_neg (fun z=>hn.1 (by rw[<-z];exact hk'))]
     exact hk k (List.mem_cons_of_mem _ hk') e) (q_ hS _)
   rw[List.set_set] at a1
   refine⟨x',S',Eq.trans ?_ a1,fun k=>?_,a3,Nat.le_trans a4 (vf _ _)⟩
   ·simp[unB,deU,h4,ov2,h6,vS,ht,e1]
   ·rw[a2,l_]
    by_cases c1:k=(g,m)
    ·subst c1;simp
    ·simp[c1]
  ·obtain⟨x',S',a1,a2,a3,a4⟩:=yo (u:=u) n rest S U (.dat (.tup [.int g,.int m])) h4 h6 hn.2 (fun k hk' e=>hk k (List.mem_cons_of_mem _ hk') e) hS
   refine⟨x',S',Eq.trans ?_ a1,fun k=>?_,a3,a4⟩
   ·simp[unB,deU,e]
   ·rw[a2]
    by_cases c1:k=(g,m)
    ·subst c1;simp[e]
    ·simp[c1]
theorem Pq{u:Nat}{U:List OS}{L S M b}(o:Ow u U L S M b){n l:Int}(hn:aH L n=some l):∃S',gr [.obj u,deU n] U=some (.non,(U.set (u+1) (.dK (mpA iK D.int (cJ L n)))).set (u+2) (.dT (mpA pK tlD S'))) /\
  (∀g m,aH S' (g,m)=if m=n then none else aH S (g,m))/\(S'.map (·.1)).Nodup/\S'.length<=S.length:=by
 have e1:jo (mpA iK D.int L) (.inl n)=mpA iK D.int (cJ L n):=ug iD D.int L n
 have a4:(U.set (u+1) (.dK (mpA iK D.int (cJ L n))))[u]? = some (.dK (fO u)):=by rw[List.getElem?_set_ne (by omega)];exact o.p4
 have a6:(U.set (u+1) (.dK (mpA iK D.int (cJ L n))))[u+2]? = some (.dT (mpA pK tlD S)):=by rw[List.getElem?_set_ne (by omega)];exact o.p6
 obtain⟨x',S',b1,b2,b3,b4⟩:=yo (u:=u) n (S.map (·.1)) S _ .und a4 a6 o.nd (fun k hk _ z=>gK.mp z hk) o.nd
 refine⟨S',lL (Y':=[.dat (.obj u),.dat (deU n),x']) rfl ?_,fun g m=>?_,b3,b4⟩
 ·have ek:(mpA pK tlD S).map (fun x=>D.tup (x.1.map ofK))=(S.map (·.1)).map fun k=>D.tup [.int k.1,.int k.2]:=by
   unfold mpA
   rw[List.map_map,List.map_map];rfl
  have s0:∀{s t t2:aU},sIf (gT (gOp (eqD false) (gOp ixD (aj 1) (gC (.int 0))) (gC (.str "tie")))) s (sIf (gT (gOp (eqD false) (gOp ixD (aj 1) (gC (.int 0))) (gC (.str "untie")))) t t2) [.dat (.obj u),.dat (deU n),.und] U=t [.dat (.obj u),.dat (deU n),.und] U:=by
   intro s t t2
   simp[deU]
  refine s0.trans ((aN (Y':=[.dat (.obj u),.dat (deU n),.und]) (U':=U.set (u+1) (.dK (mpA iK D.int (cJ L n)))) (by simp[deU,o.p4,ov1,o.p5,vL,hn,e1])).trans ?_)
  generalize U.set (u+1) (.dK (mpA iK D.int (cJ L n)))=U1 at *
  refine Eq.trans ?_ b1
  have hs:jk (sy (bu (aj 0) (gC (.str "told")))) [.dat (.obj u),.dat (deU n),.und] U1=some ((S.map (·.1)).map fun k=>D.tup [.int k.1,.int k.2],U1):=by
   rw[<-ek]
   simp[a4,ov2,a6]
  rw[rW,hs]
  rfl
 ·rw[b2]
  by_cases c1:m=n
  ·by_cases c2:(g,m)∈S.map (·.1)
   ·simp[c1] at c2 ⊢
    intro h;exact absurd c2 (by simpa using h)
   ·have:=gK.mpr c2
    rw[if_neg (fun z=>c2 z.1),if_pos c1,this]
  ·rw[if_neg (fun z=>c1 z.2),if_neg c1]
end Law
namespace Law
open PySem DL
theorem yp(vs:List (Int×Int×Int)):Gb vs (rA vs):=By
theorem KN{u:Nat}{U:List OS}{L X S M b}(o:Ow u U L S M b)(lk:Lnk L X S)(hb:b<=400)(g:Int):∃d,(d=.non\/∃v,d=w3 v)/\iB [.obj u,.int g] U=some (d,U):=by
 refine⟨_,?_,ym o lk hb g⟩
 rcases yp (Us L X (aH M g) g) with⟨_,e⟩ |⟨v,_,e⟩
 ·exact .inl e
 ·exact .inr ⟨v,e⟩
@[simp] theorem Wu{β:Type}(a b c d e f:β)(l:List β):L2.atI (a::b::c::d::e::f::l) 5=some f:=by
 have:=gj (a::b::c::d::e::f::l) 5 (by simp)
 simpa using this
theorem fH{c k:Int}(hk0:0<=k)(hk1:k<=100)(U:List OS):∃x:Int,0<=x/\bI [.int c,.int k] U=some (.int x,U):=by
 have e1:cR (.int 104729) (.int k)=some (.int (104729*k)):=ph (.inl ⟨by decide,by decide⟩)
 have e2:cR (.int 7919) (.int k)=some (.int (7919*k)):=ph (.inl ⟨by decide,by decide⟩)
 have e3:cR (.int (7919*k)) (.int k)=some (.int (7919*k*k)):=ph (.inr ⟨by omega,by omega⟩)
 obtain⟨x,hx⟩:∃x,x=(c+104729*k+7919*k*k)%998244353:=⟨_,rfl⟩
 have b0:0<=x:=by rw[hx];exact Int.emod_nonneg _ (by decide)
 have b1:x<998244353:=by rw[hx];exact Int.emod_lt_of_pos _ (by decide)
 have e4:cR (.int x) (.int x)=some (.int (x*x)):=ph (.inl ⟨by omega,by omega⟩)
 have e5:cR (.int (x*x%998244353)) (.int 1000003)=some (.int (x*x%998244353*1000003)):=ph (.inr ⟨by decide,by decide⟩)
 refine⟨x*x%998244353*1000003%998244353,Int.emod_nonneg _ (by decide),bh rfl ?_⟩
 refine(aN (Y':=[.dat (.int c),.dat (.int k),.dat (.int x)]) (U':=U) (by simp[e1,e2,e3,hx])).trans ?_
 simp[e4,e5]
theorem wV{xs:List Int}(h:xs≠[])(m:Int):∃v∈xs,L2.atI (xs.map D.int) (m%(xs.length:Int))=some (.int v):=by
 have hp:0<xs.length:=List.length_pos_iff.mpr h
 have h0:0<=m%(xs.length:Int):=Int.emod_nonneg _ (by omega)
 have h1:m%(xs.length:Int)<(xs.length:Int):=Int.emod_lt_of_pos _ (by omega)
 have hl:(m%(xs.length:Int)).toNat<xs.length:=by omega
 refine⟨xs[(m%(xs.length:Int)).toNat],List.getElem_mem _,?_⟩
 rw[Ri h0 (by simpa using hl),List.getElem_map]
def lN(gs:List Int)(d:D):Prop:=(∃n l,0<=n/\n<32/\0<=l/\d=deT n l)\/(∃n,0<=n/\n<32/\d=deU n)\/∃n g num f,0<=n/\n<32/\g∈gs/\d=deH n g num f
theorem RM{P:D->Prop}{n m:Nat}{s:aU}{ds:List D}{U:List OS}(hl:ds.length=n)(h:∃d,P d/\∃U',U'=U/\s (ds.map Sl.dat++List.replicate (m-n) Sl.und) U=some (.rt d U')):∃d,P d/\bQ n m s ds U=some (d,U):=by
 obtain⟨d,h1,_,rfl,h2⟩:=h
 exact⟨d,h1,bh hl h2⟩
def RR(u:Nat)(hs gs:List Int)(c:Int)(a4 a5 a6 a7 a8 a9 a10:Sl):List Sl:=[.dat (.obj u),.dat (.lst (hs.map D.int)),.dat (.lst (gs.map D.int)),.dat (.int c),a4,a5,a6,a7,a8,a9,a10]
theorem Ik{u:Nat}{U:List OS}{L X S M b}(o:Ow u U L S M b)(lk:Lnk L X S)(hb:b<=400){hs gs:List Int}(hs0:hs≠[])(hsb:∀n∈hs,0<=n/\n<32)(gs0:gs≠[])(c:Int) :
  ∃d,lN gs d/\gJ [.obj u,.lst (hs.map D.int),.lst (gs.map D.int),.int c] U=some (d,U):=by
 obtain⟨m1,_,e1⟩:=fH (c:=c) (k:=1) (by omega) (by omega) U
 obtain⟨m2,_,e2⟩:=fH (c:=c) (k:=2) (by omega) (by omega) U
 obtain⟨m3,h3,e3⟩:=fH (c:=c) (k:=3) (by omega) (by omega) U
 obtain⟨m4,h4,e4⟩:=fH (c:=c) (k:=4) (by omega) (by omega) U
 obtain⟨m5,_,e5⟩:=fH (c:=c) (k:=5) (by omega) (by omega) U
 obtain⟨m6,_,e6⟩:=fH (c:=c) (k:=6) (by omega) (by omega) U
 obtain⟨m7,_,e7⟩:=fH (c:=c) (k:=7) (by omega) (by omega) U
 obtain⟨m8,_,e8⟩:=fH (c:=c) (k:=8) (by omega) (by omega) U
 obtain⟨m9,_,e9⟩:=fH (c:=c) (k:=9) (by omega) (by omega) U
 obtain⟨m11,_,e11⟩:=fH (c:=c) (k:=11) (by omega) (by omega) U
 obtain⟨n,hn,en⟩:=wV hs0 m1
 obtain⟨g,hg,eg⟩:=wV gs0 m2
 obtain⟨n0,n1⟩:=hsb n hn
 obtain⟨d7,hd7,e12⟩:=KN o lk hb g
 have hsp:0<hs.length:=List.length_pos_iff.mpr hs0
 have gsp:0<gs.length:=List.length_pos_iff.mpr gs0
 unfold gJ
 refine RM rfl ?_
 have lift:∀{s t:aU} {Y Y':List Sl},s Y U=some (.nx Y' U)->(∃d,lN gs d/\∃U',U'=U/\t Y' U=some (Out.rt d U'))->∃d,lN gs d/\∃U',U'=U/\aK s t Y U=some (Out.rt d U'):=fun h ⟨d,h1,U',h2,h3⟩=>⟨d,h1,U',h2,(aN h).trans h3⟩
 have stop:∀{s t:aU} {Y:List Sl} {d:D},lN gs d->s Y U=some (.rt d U)->∃d,lN gs d/\∃U',U'=U/\aK s t Y U=some (Out.rt d U'):=fun hd h=>⟨_,hd,_,rfl,eG h⟩
 refine lift (Y':=RR u hs gs c (.dat (.int n)) .und .und .und .und .und .und) (by simp[RR,e1,en,hsp]) ?_
 refine lift (Y':=RR u hs gs c (.dat (.int n)) (.dat (.int g)) .und .und .und .und .und) (by simp[RR,e2,eg,gsp]) ?_
 refine lift (Y':=RR u hs gs c (.dat (.int n)) (.dat (.int g)) (.dat (.int (m3%16))) .und .und .und .und) (by simp[RR,e3]) ?_
 by_cases c1:m3%16<3
 ·obtain⟨l,hl,el⟩:=wV (xs:=[1+m4%4,1+m4%99]) (by simp) m5
  have el':L2.atI [D.int (1+m4%4),D.int (1+m4%99)] (m5%2)=some (.int l):=el
  have l0:0<=l:=by
   have a1:=Int.emod_nonneg m4 (b:=4) (by decide)
   have a2:=Int.emod_nonneg m4 (b:=99) (by decide)
   simp at hl
   omega
  refine stop (d:=deT n l) (.inl ⟨n,l,n0,n1,l0,rfl⟩) ?_
  simp[RR,c1,e4,e5,el',deT]
 refine lift (Y':=RR u hs gs c (.dat (.int n)) (.dat (.int g)) (.dat (.int (m3%16))) .und .und .und .und) (by simp[RR,c1]) ?_
 by_cases c2:m3%16=3
 ·refine stop (d:=deU n) (.inr (.inl ⟨n,n0,n1,rfl⟩)) ?_
  simp[RR,c2,deU]
 refine lift (Y':=RR u hs gs c (.dat (.int n)) (.dat (.int g)) (.dat (.int (m3%16))) .und .und .und .und) (by simp[RR,c2]) ?_
 refine lift (Y':=RR u hs gs c (.dat (.int n)) (.dat (.int g)) (.dat (.int (m3%16))) (.dat d7) .und .und .und) (by simp[RR,e12]) ?_
 obtain⟨p,hp⟩:∃p,(Option.map mkD (aH M g)).getD (.tup [.int 1,.int 3])=mkD p:=by
  cases aH M g with
  | none=>exact⟨(1,3),rfl⟩
  | some p=>exact⟨p,rfl⟩
 have s7:(∃v l,d7=w3 v/\aH L n=some l/\m11%5=0)\/((d7=.non\/∃v,d7=w3 v/\(aH L n=none\/(aH L n≠none/\m11%5≠0)))):=by
  rcases hd7 with h |⟨v,hu⟩
  ·exact .inr (.inl h)
  ·cases hl:aH L n with
   | none=>exact .inr (.inr ⟨v,hu,.inl rfl⟩)
   | some l =>
    by_cases h5:m11%5=0
    ·exact .inl ⟨v,l,hu,rfl,h5⟩
    ·exact .inr (.inr ⟨v,hu,.inr ⟨by simp,h5⟩⟩)
 rcases s7 with⟨v,l,rfl,hl,h5⟩ |s7
 ·refine stop (d:=deH n g v.1 (some (if v.2.1-l>0 then v.2.1-l else 0))) (.inr (.inr ⟨n,g,_,_,n0,n1,hg,rfl⟩)) ?_
  have hw:isD true (w3 v) .non=some (.bl true):=by simp[w3,isD,isNone]
  simp[RR,hw,o.p4,ov1,o.p5,vL,hl,e11,h5,Ky,Kz,deH,faD]
 refine lift (Y':=RR u hs gs c (.dat (.int n)) (.dat (.int g)) (.dat (.int (m3%16))) (.dat d7) .und .und .und) (by
  rcases s7 with rfl |⟨v,rfl,hl |⟨hl,h5⟩⟩
  ·simp[RR,isD,isNone]
  ·have hw:isD true (w3 v) .non=some (.bl true):=by simp[w3,isD,isNone]
   simp[RR,hw,o.p4,ov1,o.p5,vL,hl]
  ·have hw:isD true (w3 v) .non=some (.bl true):=by simp[w3,isD,isNone]
   obtain⟨l,hl⟩:=Option.ne_none_iff_exists'.mp hl
   simp[RR,hw,o.p4,ov1,o.p5,vL,hl,e11,h5]) ?_
 refine lift (Y':=RR u hs gs c (.dat (.int n)) (.dat (.int g)) (.dat (.int (m3%16))) (.dat d7) (.dat (mkD p)) .und .und) (by simp[RR,o.p4,ov3,o.p7,vM,hp]) ?_
 obtain⟨a6,_,ea6⟩:=wV (xs:=[0,0,0,1,-1,2]) (by simp) m4
 have ea6':L2.atI [D.int 0,D.int 0,D.int 0,D.int 1,D.int (-1),D.int 2] (m4%6)=some (.int a6):=ea6
 have ip0:ixD (mkD p) (.int 0)=some (.int p.1):=by simp[mkD]
 have ip1:ixD (mkD p) (.int 1)=some (.int p.2):=by simp[mkD]
 refine lift (Y':=RR u hs gs c (.dat (.int n)) (.dat (.int g)) (.dat (.int (m3%16))) (.dat d7) (.dat (mkD p)) (.dat (.int (if p.1+a6>1 then p.1+a6 else 1))) .und) (by simp[RR,e4,ip0,ea6']) ?_
 obtain⟨f,_,ef⟩:=wV (xs:=[m5%9,p.2,p.2-1,p.2+1]) (by simp) m6
 have ef':L2.atI [D.int (m5%9),D.int p.2,D.int (p.2-1),D.int (p.2+1)] (m6%4)=some (.int f):=ef
 refine lift (Y':=RR u hs gs c (.dat (.int n)) (.dat (.int g)) (.dat (.int (m3%16))) (.dat d7) (.dat (mkD p)) (.dat (.int (if p.1+a6>1 then p.1+a6 else 1))) (.dat (.int f))) (by simp[RR,e5,e6,ip1,ef']) ?_
 have e10:cR (.int m8) (.int 1000)=some (.int (m8*1000)):=ph (.inr ⟨by decide,by decide⟩)
 generalize (if p.1+a6>1 then p.1+a6 else 1)=nm
 have fin:∀(nm f:Int),∃d,lN gs d/\∃U',U'=U/\aK (sIf (gT (gOp (eqD false) (gOp bT (aJ bI (ao (aj 3) (ao (gC (.int 7)) aA))) (gC (.int 7))) (gC (.int 1)))) (bD 10 (gC .non)) aX) (a_ (cV (ao (gC (.str "hear")) (ao (aj 4) (ao (aj 5) (ao (aj 9) (ao (aj 10) aA)))))))
   (RR u hs gs c (.dat (.int n)) (.dat (.int g)) (.dat (.int (m3%16))) (.dat d7) (.dat (mkD p)) (.dat (.int nm)) (.dat (.int f))) U=some (Out.rt d U'):=fun nm f=>by
  by_cases h7:m7%7=1
  ·refine lift (Y':=RR u hs gs c (.dat (.int n)) (.dat (.int g)) (.dat (.int (m3%16))) (.dat d7) (.dat (mkD p)) (.dat (.int nm)) (.dat .non)) (by simp[RR,e7,h7]) ?_
   exact⟨deH n g nm none,.inr (.inr ⟨n,g,_,_,n0,n1,hg,rfl⟩),U,rfl,by simp[RR,deH,faD]⟩
  ·refine lift (Y':=RR u hs gs c (.dat (.int n)) (.dat (.int g)) (.dat (.int (m3%16))) (.dat d7) (.dat (mkD p)) (.dat (.int nm)) (.dat (.int f))) (by simp[RR,e7,h7]) ?_
   exact⟨deH n g nm (some f),.inr (.inr ⟨n,g,_,_,n0,n1,hg,rfl⟩),U,rfl,by simp[RR,deH,faD]⟩
 by_cases h40:m7%40=0
 ·refine lift (Y':=RR u hs gs c (.dat (.int n)) (.dat (.int g)) (.dat (.int (m3%16))) (.dat d7) (.dat (mkD p)) (.dat (.int (1+m8*1000))) (.dat (.int m9))) (by simp[RR,e7,h40,e8,e9,e10]) ?_
  exact fin _ _
 ·refine lift (Y':=RR u hs gs c (.dat (.int n)) (.dat (.int g)) (.dat (.int (m3%16))) (.dat d7) (.dat (mkD p)) (.dat (.int nm)) (.dat (.int f))) (by simp[RR,e7,h40]) ?_
  exact fin _ _
end Law
namespace Law
open PySem DL
def mkB:aU:=(aK (bD 3 (aJ iB (ao (aj 0) (ao (aj 2) aA)))) (sIf (gT (gOp (isD true) (aj 3) (gC .non))) (aK (bD 4 (jt (bu (aj 0) (gC (.str "marks"))) (aj 2))) (sIf (pG (gT (gOp (isD false) (aj 4) (gC .non))) (gT (gOp gtD (gOp ixD (aj 3) (gC (.int 0))) (gOp ixD (aj 4) (gC (.int 0)))))) (ir (bu (aj 0) (gC (.str "marks"))) (aj 2) (cV (ao (gOp ixD (aj 3) (gC (.int 0))) (ao (gOp ixD (aj 3) (gC (.int 1))) aA)))) (ir (bu (aj 0) (gC (.str "marks"))) (aj 2) (cV (ao (gOp ixD (aj 4) (gC (.int 0))) (ao (gCB tQ (ao (gOp ixD (aj 4) (gC (.int 1))) (ao (gOp ixD (aj 3) (gC (.int 1))) aA))) aA)))))) aX))
theorem KQ{vs:List (Int×Int×Int)}{u v:Int×Int×Int}(hu:vp vs u)(hv:vp vs v):u=v:=by
 have h1:=hu.2 v hv.1
 have h2:=hv.2 u hu.1
 obtain⟨a,b,c⟩:=u
 obtain⟨x,y,z⟩:=v
 unfold g_ at h1 h2
 rw[HT.eO] at h1 h2
 dsimp only at h1 h2
 by_cases e1:-x = -a
 ·rw[if_pos e1,HT.eO] at h1
  rw[if_pos e1.symm,HT.eO] at h2
  by_cases e2:y=b
  ·rw[if_pos e2,HT.eO] at h1
   rw[if_pos e2.symm,HT.eO] at h2
   by_cases e3:z=c
   ·have:x=a:=by omega
    rw[this,e2,e3]
   ·rw[if_neg e3] at h1
    rw[if_neg (fun q=>e3 q.symm)] at h2
    have a1:=of_decide_eq_false h1
    have a2:=of_decide_eq_false h2
    omega
  ·rw[if_neg e2] at h1
   rw[if_neg (fun q=>e2 q.symm)] at h2
   have a1:=of_decide_eq_false h1
   have a2:=of_decide_eq_false h2
   omega
 ·rw[if_neg e1] at h1
  rw[if_neg (fun q=>e1 q.symm)] at h2
  have a1:=of_decide_eq_false h1
  have a2:=of_decide_eq_false h2
  omega
theorem Tt{L X}{M:List (Int×(Int×Int))}{g:Int}(kn:(L.map (·.1)).Nodup){v:Int×Int×Int}(hv:v∈Us L X (aH M g) g){p:Int×Int}(hp:aH M g=some p):p.1<=v.1:=by
 obtain⟨n,l,num,f,_,_,h3,rfl⟩:=(qt kn).mp hv
 rw[hp] at h3
 have:=oU.mp (show bt num f p.1 p.2=true from h3)
 dsimp only
 omega
theorem Es{L X}{M:List (Int×(Int×Int))}{g:Int}(kn:(L.map (·.1)).Nodup)(iv:IV L X M g){v:Int×Int×Int}(hv:v∈Us L X (aH M g) g):∃p,aH M g=some p/\bet (aH M g) v.1 v.2.1=p:=by
 obtain⟨n,l,num,f,h1,h2,h3,rfl⟩:=(qt kn).mp hv
 obtain⟨p,e1,e2,e3⟩:=iv n l num f h1 h2
 rw[e1] at h3
 have hb:=oU.mp (show bt num f p.1 p.2=true from h3)
 have en:num=p.1:=by omega
 have:=e3 en
 refine⟨p,e1,?_⟩
 rw[e1]
 unfold bet
 dsimp only
 rw[if_neg (by omega),if_neg (by omega),en]
section
variable {u:Nat} {U:List OS} {L:List (Int×Int)} {X:Int->List (Int×Tl)} {S:List ((Int×Int)×Tl)} {M:List (Int×(Int×Int))} {b:Nat}
theorem Ow.setM(o:Ow u U L S M b){M':List (Int×(Int×Int))}{b':Nat}(hb:b<=b')(hn:(M'.map (·.1)).Nodup)(hM:M'.length<=b'):Ow u (U.set (u+3) (.dK (mpA iK mkD M'))) L S M' b' :=
 ⟨by rw[List.getElem?_set_ne (by omega)];exact o.p4,by rw[List.getElem?_set_ne (by omega)];exact o.p5,by rw[List.getElem?_set_ne (by omega)];exact o.p6,jA o.p7,o.nd,o.kn,Nat.le_trans o.bS hb,Nat.le_trans o.bL hb,hM,hn⟩
theorem zj(o:Ow u U L S M b)(lk:Lnk L X S)(hb:b<=400)(g:Int)(x1 x3 x4:Sl):∃M' y3 y4,((Us L X (aH M g) g=[]/\M'=M)\/∃v,vp (Us L X (aH M g) g) v/\M'=bA M g (bet (aH M g) v.1 v.2.1)) /\
  mkB [.dat (.obj u),x1,.dat (.int g),x3,x4] U=some (.nx [.dat (.obj u),x1,.dat (.int g),y3,y4] (U.set (u+3) (.dK (mpA iK mkD M')))):=by
 have ew:=ym o lk hb g
 have hMl:M.length<100000:=by have:=o.bM;omega
 rcases yp (Us L X (aH M g) g) with⟨e0,e1⟩ |⟨v,hB,e1⟩
 ·refine⟨M,.dat .non,x4,.inl ⟨e0,rfl⟩,?_⟩
  rw[e1] at ew
  rw[set_same o.p7]
  unfold mkB
  refine(aN (Y':=[.dat (.obj u),x1,.dat (.int g),.dat .non,x4]) (U':=U) (by simp[ew])).trans ?_
  simp[isD,isNone]
 ·rw[e1] at ew
  have eM:∀m:Int×Int,putD (mpA iK mkD M) (.inl g) (mkD m)=mpA iK mkD (bA M g m):=fun m=>oO iD mkD M g m
  refine⟨_,.dat (w3 v),.dat (mOD (aH M g)),.inr ⟨v,hB,rfl⟩,?_⟩
  unfold mkB
  refine(aN (Y':=[.dat (.obj u),x1,.dat (.int g),.dat (w3 v),x4]) (U':=U) (by simp[ew])).trans ?_
  rw[mL,show gT (gOp (isD true) (aj 3) (gC .non)) [.dat (.obj u),x1,.dat (.int g),.dat (w3 v),x4] U=some (true,U) by simp[w3,isD,isNone]]
  dsimp only
  refine(aN (Y':=[.dat (.obj u),x1,.dat (.int g),.dat (w3 v),.dat (mOD (aH M g))]) (U':=U) (by simp[o.p4,ov3,o.p7,vM,mOD])).trans ?_
  have i0:=Ky v
  have i1:=Kz v
  cases hp:aH M g with
  | none =>
   have em:=eM (v.1,v.2.1)
   rw[show mkD (v.1,v.2.1)=.tup [.int v.1,.int v.2.1] from rfl] at em
   simp[mOD,isD,isNone,i0,i1,o.p4,ov3,o.p7,hMl,em,bet]
  | some p =>
   have hge:=Tt (M:=M) o.kn hB.1 hp
   have ip0:ixD (mkD p) (.int 0)=some (.int p.1):=by simp[mkD]
   have ip1:ixD (mkD p) (.int 1)=some (.int p.2):=by simp[mkD]
   by_cases hgt:v.1>p.1
   ·have em:=eM (v.1,v.2.1)
    rw[show mkD (v.1,v.2.1)=.tup [.int v.1,.int v.2.1] from rfl] at em
    have hn:isD false (mkD p) .non=some (.bl false):=by simp[mkD,isD,isNone]
    have hgt':p.1<v.1:=hgt
    simp[mOD,hn,i0,i1,ip0,o.p4,ov3,o.p7,hMl,em,bet,hgt']
   ·have ee:v.1=p.1:=by omega
    have em:=eM (p.1,if v.2.1<p.2 then v.2.1 else p.2)
    rw[show mkD (p.1,if v.2.1<p.2 then v.2.1 else p.2)=.tup [.int p.1,.int (if v.2.1<p.2 then v.2.1 else p.2)] from rfl] at em
    have hn:isD false (mkD p) .non=some (.bl false):=by simp[mkD,isD,isNone]
    have hgt':¬p.1<v.1:=hgt
    simp[mOD,hn,i0,i1,ip0,ip1,o.p4,ov3,o.p7,hMl,em,bet,ee]
theorem zm{M:List (Int×(Int×Int))}(hn:(M.map (·.1)).Nodup){g:Int}{p:Int×Int}(h:aH M g=some p):bA M g p=M:=by
 unfold bA
 rw[if_pos (nU.mpr (List.mem_map.mpr ⟨_,qZ h,rfl⟩))]
 have:∀r∈M,(if r.1=g then(r.1,p) else r)=r:=fun r hr=>by
  split
  ·rename_i e
   have:=nT hn (k:=r.1) (v:=r.2) hr
   rw[e,h] at this
   cases this
   rfl
  ·rfl
 rw[List.map_congr_left this,List.map_id']
theorem mD(o:Ow u U L S M b)(lk:Lnk L X S)(hb:b<=400)(iv:∀g,IV L X M g)(x1:Sl):∀(gs:List Int) (x2 x3 x4:Sl),∃y2 y3 y4,eF (bF 2) mkB (gs.map D.int) [.dat (.obj u),x1,x2,x3,x4] U=some (.nx [.dat (.obj u),x1,y2,y3,y4] U)
 | [],x2,x3,x4=>⟨x2,x3,x4,rfl⟩
 | g::gs,x2,x3,x4=>by
  obtain⟨M',y3,y4,hM,e⟩:=zj o lk hb g x1 x3 x4
  have eM:M'=M:=by
   rcases hM with⟨_,h⟩ |⟨v,hB,h⟩
   ·exact h
   ·obtain⟨p,hp,hb⟩:=Es o.kn (iv g) hB.1
    rw[h,hb]
    exact zm o.mn hp
  rw[eM,set_same o.p7] at e
  obtain⟨z2,z3,z4,ih⟩:=mD o lk hb iv x1 gs (.dat (.int g)) y3 y4
  refine⟨z2,z3,z4,?_⟩
  rw[List.map_cons,i_,show bF 2 (.int g) [.dat (.obj u),x1,x2,x3,x4]=some [.dat (.obj u),x1,.dat (.int g),x3,x4] from rfl]
  dsimp only
  rw[e]
  exact ih
theorem wW{g0:Int}{M':List (Int×(Int×Int))}(o:Ow u U L S M b)(lk:Lnk L X S)(hb:b<=390)(iv:∀g,g≠g0->IV L X M g)(iv':∀g,IV L X M' g)(hl:M'.length<=b+1)
  (hM:(Us L X (aH M g0) g0=[]/\M'=M)\/∃v,vp (Us L X (aH M g0) g0) v/\M'=bA M g0 (bet (aH M g0) v.1 v.2.1)) (x1:Sl):∀(gs:List Int) (x2 x3 x4:Sl),g0∈gs->∃y2 y3 y4,eF (bF 2) mkB (gs.map D.int) [.dat (.obj u),x1,x2,x3,x4] U=some (.nx [.dat (.obj u),x1,y2,y3,y4] (U.set (u+3) (.dK (mpA iK mkD M'))))
 | [],x2,x3,x4,h=>nomatch h
 | g::gs,x2,x3,x4,h=>by
  obtain⟨M1,y3,y4,h1,e⟩:=zj o lk (by omega) g x1 x3 x4
  have hn':(M'.map (·.1)).Nodup:=by
   rcases hM with⟨_,h⟩ |⟨v,_,h⟩
   ·rw[h];exact o.mn
   ·rw[h];exact lJ o.mn _ _
  by_cases eg:g=g0
  ·rw[eg] at h1
   have eM:M1=M':=by
    rcases hM with⟨z,rfl⟩ |⟨v,hB,rfl⟩
    ·rcases h1 with⟨_,h1⟩ |⟨v1,hB1,_⟩
     ·exact h1
     ·rw[z] at hB1;cases hB1.1
    ·rcases h1 with⟨z,_⟩ |⟨v1,hB1,h1⟩
     ·rw[z] at hB;cases hB.1
     ·rw[h1,KQ hB1 hB]
   rw[eM] at e
   obtain⟨z2,z3,z4,ih⟩:=mD (o.setM (Nat.le_succ b) hn' hl) lk (by omega) iv' x1 gs (.dat (.int g)) y3 y4
   refine⟨z2,z3,z4,?_⟩
   rw[List.map_cons,i_,show bF 2 (.int g) [.dat (.obj u),x1,x2,x3,x4]=some [.dat (.obj u),x1,.dat (.int g),x3,x4] from rfl]
   dsimp only
   rw[e]
   exact ih
  ·have eM:M1=M:=by
    rcases h1 with⟨_,h⟩ |⟨v,hB,h⟩
    ·exact h
    ·obtain⟨p,hp,hb⟩:=Es o.kn (iv g eg) hB.1
     rw[h,hb]
     exact zm o.mn hp
   rw[eM,set_same o.p7] at e
   obtain⟨z2,z3,z4,ih⟩:=wW o lk hb iv iv' hl hM x1 gs (.dat (.int g)) y3 y4 ((List.mem_cons.mp h).resolve_left fun q=>eg q.symm)
   refine⟨z2,z3,z4,?_⟩
   rw[List.map_cons,i_,show bF 2 (.int g) [.dat (.obj u),x1,x2,x3,x4]=some [.dat (.obj u),x1,.dat (.int g),x3,x4] from rfl]
   dsimp only
   rw[e]
   exact ih
end
end Law
namespace Law
open PySem DL
theorem esn{a b:Str}(ha:(PyData.str a).canLay0=true)(hb:(PyData.str b).canLay0=true):eqD true (.str a) (.str b)=some (.bl (!decide (a=b))):=by
 have:=es ha hb
 unfold eqD at this ⊢
 split at this
 ·rename_i h
  rw[if_pos h]
  simp only[Bool.false_eq_true,if_false,Option.some.injEq,D.bl.injEq] at this
  simp[this]
 ·cases this
@[simp] theorem Wv:eqD true (.str "tie") (.str "tie")=some (.bl false):=by rw[esn clT clT];simp
@[simp] theorem Ww:eqD true (.str "untie") (.str "tie")=some (.bl true):=by rw[esn clU clT,decide_eq_false (by decide +kernel)];rfl
@[simp] theorem Wx:eqD true (.str "hear") (.str "tie")=some (.bl true):=by rw[esn clH clT,decide_eq_false (by decide +kernel)];rfl
theorem m6:cR (.lst [.bl false]) (.int 6)=some (.lst [.bl false,.bl false,.bl false,.bl false,.bl false,.bl false]):=Tf (by decide) (by decide) (by decide)
section
variable {u:Nat} {U:List OS} {L:List (Int×Int)} {S:List ((Int×Int)×Tl)} {M:List (Int×(Int×Int))} {b:Nat}
theorem Pr(o:Ow u U L S M b)(n l:Int):fG [.obj u,deT n l] U=some (if(aH L n).isSome then flT else .non,U):=by
 cases h:aH L n with
 | none =>
  refine bh rfl ((aN (Y':=[.dat (.obj u),.dat (deT n l)]) (U':=U) (by simp[deT,o.p4,ov1,o.p5,vL,h])).trans ?_)
  refine(aN (Y':=[.dat (.obj u),.dat (deT n l)]) (U':=U) (by simp[deT])).trans ?_
  simp
 | some x =>
  refine bh rfl (eG ?_)
  simp[deT,o.p4,ov1,o.p5,vL,h,m6,flT]
theorem RN(o:Ow u U L S M b)(n:Int):fG [.obj u,deU n] U=some (if(aH L n).isSome then .non else flN,U):=by
 refine bh rfl ((aN (Y':=[.dat (.obj u),.dat (deU n)]) (U':=U) (by simp[deU])).trans ?_)
 cases h:aH L n with
 | none =>
  refine eG ?_
  simp[deU,o.p4,ov1,o.p5,vL,h,m6,flN]
 | some x =>
  refine(aN (Y':=[.dat (.obj u),.dat (deU n)]) (U':=U) (by simp[deU,o.p4,ov1,o.p5,vL,h])).trans ?_
  simp
theorem RP(o:Ow u U L S M b)(n g num:Int)(f:Option Int):fG [.obj u,deH n g num f] U=some (if(aH L n).isSome then .non else flN,U):=by
 refine bh rfl ((aN (Y':=[.dat (.obj u),.dat (deH n g num f)]) (U':=U) (by simp[deH])).trans ?_)
 cases h:aH L n with
 | none =>
  refine eG ?_
  simp[deH,o.p4,ov1,o.p5,vL,h,m6,flN]
 | some x =>
  refine(aN (Y':=[.dat (.obj u),.dat (deH n g num f)]) (U':=U) (by simp[deH,o.p4,ov1,o.p5,vL,h])).trans ?_
  simp
theorem Ow.of_eq(o:Ow u U L S M b){U':List OS}{b':Nat}(hb:b<=b')(e:∀j,u<=j->j<u+4->U'[j]? = U[j]?):Ow u U' L S M b' :=
 ⟨by rw[e u (by omega) (by omega)];exact o.p4,by rw[e (u+1) (by omega) (by omega)];exact o.p5,by rw[e (u+2) (by omega) (by omega)];exact o.p6,by rw[e (u+3) (by omega) (by omega)];exact o.p7,o.nd,o.kn,Nat.le_trans o.bS hb,Nat.le_trans o.bL hb,Nat.le_trans o.bM hb,o.mn⟩
end
structure Sd(o u B:Nat)(U:List OS)(L:List (Int×Int))(T:List (Int×Nat))(X:Int->List (Int×Tl))(S:List ((Int×Int)×Tl))(M:List (Int×(Int×Int)))(b:Nat):Prop where
 w:Wy o B U L T X M b
 ow:Ow u U L S M b
 lk:Lnk L X S
 iv:∀g,IV L X M g
 l0:∀n l,aH L n=some l->0<=l
def Ch(o u:Nat)(T:List (Int×Nat))(U U':List OS):Prop:=U.length<=U'.length/\∀j,j<U.length->(j<o\/o+4<=j)->(j<u\/u+4<=j)->j∉T.map (·.2)->U'[j]? = U[j]?
theorem Mg{d:D}{p:PyData}(h:toP d=p)(hs:SeqAt.shaped p=true)(he:PyData.eqv p p=true):eqD true d d=some (.bl false):=by
 unfold eqD
 rw[h,hs,he]
 rfl
theorem Tu(d:D)(h:d=flT\/d=flN):eqD true d d=some (.bl false)/\isD false d .non=some (.bl false):=by
 rcases h with rfl |rfl
 ·exact⟨Mg (p:=.list [.bool true,.bool false,.bool true,.bool false,.bool false,.bool false,.bool false,.bool false,.bool false]) (by simp[flT,toP,e_]) (by decide +kernel) (by decide +kernel),by simp[flT,isD,isNone]⟩
 ·exact⟨Mg (p:=.list [.bool false,.bool true,.bool true,.bool false,.bool false,.bool false,.bool false,.bool false,.bool false]) (by simp[flN,toP,e_]) (by decide +kernel) (by decide +kernel),by simp[flN,isD,isNone]⟩
section
variable {o u B:Nat} {U:List OS} {L:List (Int×Int)} {T:List (Int×Nat)} {X:Int->List (Int×Tl)} {S:List ((Int×Int)×Tl)} {M:List (Int×(Int×Int))} {b:Nat}
theorem rB{u:Nat}{gs:List Int}{U U':List OS}(h:∃y2 y3 y4,eF (bF 2) mkB (gs.map D.int) [.dat (.obj u),.dat (.lst (gs.map D.int)),.und,.und,.und] U=some (.nx [.dat (.obj u),.dat (.lst (gs.map D.int)),y2,y3,y4] U')):fQ [.obj u,.lst (gs.map D.int)] U=some (.non,U'):=by
 obtain⟨y2,y3,y4,h⟩:=h
 refine lL (Y':=[.dat (.obj u),.dat (.lst (gs.map D.int)),y2,y3,y4]) rfl ?_
 show n_ (jk (aj 1)) _ mkB [.dat (.obj u),.dat (.lst (gs.map D.int)),.und,.und,.und] U=_
 rw[rW,show jk (aj 1) [.dat (.obj u),.dat (.lst (gs.map D.int)),.und,.und,.und] U=some (gs.map D.int,U) from rfl]
 exact h
def Done(o u B:Nat)(U:List OS)(T:List (Int×Nat))(b:Nat)(gs:List Int)(d:D):Prop :=
 (∃fl c,(fl=flT\/fl=flN)/\fG [.obj u,d] U=some (fl,U)/\cG [.obj o,d] U=some (fl,U++[.exc c])) \/
 (fG [.obj u,d] U=some (.non,U)/\∃U1 U2 U3 L' T' X' S' M',cG [.obj o,d] U=some (.non,U1)/\gr [.obj u,d] U1=some (.non,U2)/\fQ [.obj u,.lst (gs.map D.int)] U2=some (.non,U3) /\
  Sd o u B U3 L' T' X' S' M' (b+2)/\Ch o u T U U3/\∀j∈T'.map (·.2),j∈T.map (·.2)\/U.length<=j)
theorem KY(h:Sd o u B U L T X S M b)(hb:b<=380)(hu:u+4<=B)(ou:o+4<=u)(gs:List Int){n l:Int}(n0:0<=n)(n1:n<32)(hl:0<=l):Done o u B U T b gs (deT n l):=by
 have hB:=h.w.bg
 have e1:=Pr h.ow n l
 cases hn:aH L n with
 | some x =>
  rw[hn] at e1
  exact .inl ⟨flT,"Tied",.inl rfl,e1,BL h.w n0 n1 hn l⟩
 | none =>
  rw[hn] at e1
  have w1:=h.w.tie hn l
  have eT:=Ij h.w (by omega) hn l
  have len:=Eo (o:=o) (U:=U) (L:=L) (T:=T) (n:=n) (l:=l)
  have o1:Ow u (jQ o U L T n l) L S M b:=h.ow.of_eq (Nat.le_refl _) fun j h1 h2=>qp (by omega) (by omega) (by omega)
  have eD:=KJ o1 (by omega) n l
  have o2:Ow u ((jQ o U L T n l).set (u+1) (.dK (mpA iK D.int (bA L n l)))) (bA L n l) S M (b+1) :=
   ⟨by rw[List.getElem?_set_ne (by omega)];exact o1.p4,jA o1.p5,by rw[List.getElem?_set_ne (by omega)];exact o1.p6,by rw[List.getElem?_set_ne (by omega)];exact o1.p7,o1.nd,lJ o1.kn _ _,Nat.le_succ_of_le o1.bS,Nat.le_trans (oR _ _ _) (Nat.succ_le_succ o1.bL),Nat.le_succ_of_le o1.bM,o1.mn⟩
  have w2:Wy o B ((jQ o U L T n l).set (u+1) (.dK (mpA iK D.int (bA L n l)))) (bA L n l) (bA T n U.length) (upX X n []) M (b+1):=w1.of_eq (by rw[List.length_set];exact Nat.le_refl _) fun j hj hc=>List.getElem?_set_ne fun z=>by
   rcases hc with hc |hc
   ·omega
   ·have:=w1.T8 hc
    omega
  have lk2:Lnk (bA L n l) (upX X n []) S:=by
   refine⟨fun g m x hm=>?_,fun g m hm=>?_⟩
   ·unfold upX
    by_cases e:m=n
    ·subst e
     rw[if_pos rfl,h.lk.k2 g m hn]
     rfl
    ·rw[if_neg e]
     rw[fL,if_neg e] at hm
     exact h.lk.k1 g m x hm
   ·rw[fL] at hm
    split at hm
    ·cases hm
    ·exact h.lk.k2 g m hm
  have iv2:∀g,IV (bA L n l) (upX X n []) M g:=fun g m x num f hm hx=>by
   unfold upX at hx
   by_cases e:m=n
   ·rw[if_pos e] at hx;cases hx
   ·rw[if_neg e] at hx
    rw[fL,if_neg e] at hm
    exact h.iv g m x num f hm hx
  have eM:=rB (mD o2 lk2 (by omega) iv2 (.dat (.lst (gs.map D.int))) gs .und .und .und)
  refine .inr ⟨e1,_,_,_,_,_,_,_,_,eT,eD,eM,⟨w2.mono (by omega),o2.of_eq (by omega) fun _ _ _=>rfl,lk2,iv2,fun m x hm=>?_⟩,⟨by rw[List.length_set,len];omega,fun j hj h1 h2 h3=>?_⟩,fun j hj=>?_⟩
  ·rw[fL] at hm
   split at hm
   ·cases hm;exact hl
   ·exact h.l0 m x hm
  ·rw[List.getElem?_set_ne (by omega),qp hj (by omega) (by omega)]
  ·obtain⟨p,hp,rfl⟩:=List.mem_map.mp hj
   rcases Ks hp with z |z
   ·exact .inl (List.mem_map.mpr ⟨_,z,rfl⟩)
   ·rw[z];exact .inr (Nat.le_refl _)
theorem Pu(h:Sd o u B U L T X S M b)(hb:b<=380)(hu:u+4<=B)(ou:o+4<=u)(gs:List Int){n:Int}(n0:0<=n)(n1:n<32):Done o u B U T b gs (deU n):=by
 have hB:=h.w.bg
 have e1:=RN h.ow n
 cases hn:aH L n with
 | none =>
  rw[hn] at e1
  exact .inl ⟨flN,"NotTied",.inr rfl,e1,CT h.w n0 n1 hn⟩
 | some x =>
  rw[hn] at e1
  have w1:=h.w.untie n
  have eT:=KC h.w hn
  have len:(unU o U L T n).length=U.length:=by unfold unU;simp
  have o1:Ow u (unU o U L T n) L S M b:=h.ow.of_eq (Nat.le_refl _) fun j h1 h2=>sY (by omega) (by omega)
  obtain⟨S',eD,hS,nS,lS⟩:=Pq o1 hn
  have a6:((unU o U L T n).set (u+1) (.dK (mpA iK D.int (cJ L n))))[u+2]? = some (.dT (mpA pK tlD S)):=by rw[List.getElem?_set_ne (by omega)];exact o1.p6
  have o2:Ow u (((unU o U L T n).set (u+1) (.dK (mpA iK D.int (cJ L n)))).set (u+2) (.dT (mpA pK tlD S'))) (cJ L n) S' M b :=
   ⟨by rw[List.getElem?_set_ne (by omega),List.getElem?_set_ne (by omega)];exact o1.p4,by rw[List.getElem?_set_ne (by omega)];exact jA o1.p5,jA a6,by rw[List.getElem?_set_ne (by omega),List.getElem?_set_ne (by omega)];exact o1.p7,nS,q_ o1.kn _,Nat.le_trans lS o1.bS,Nat.le_trans (vf _ _) o1.bL,o1.bM,o1.mn⟩
  have w2:Wy o B (((unU o U L T n).set (u+1) (.dK (mpA iK D.int (cJ L n)))).set (u+2) (.dT (mpA pK tlD S'))) (cJ L n) (cJ T n) X M b:=w1.of_eq (by rw[List.length_set,List.length_set];exact Nat.le_refl _) fun j hj hc=>by
   have:j≠u+1/\j≠u+2:=by
    rcases hc with hc |hc
    ·omega
    ·have:=w1.T8 hc
     omega
   rw[List.getElem?_set_ne (by omega),List.getElem?_set_ne (by omega)]
  have lk2:Lnk (cJ L n) X S':=by
   refine⟨fun g m x hm=>?_,fun g m hm=>?_⟩
   ·rw[l_] at hm
    split at hm
    ·cases hm
    ·rename_i e
     rw[hS,if_neg e]
     exact h.lk.k1 g m x hm
   ·rw[l_] at hm
    rw[hS]
    split at hm
    ·rename_i e;rw[if_pos e]
    ·rename_i e;rw[if_neg e];exact h.lk.k2 g m hm
  have iv2:∀g,IV (cJ L n) X M g:=fun g m x num f hm hx=>by
   rw[l_] at hm
   split at hm
   ·cases hm
   ·exact h.iv g m x num f hm hx
  have eM:=rB (mD o2 lk2 (by omega) iv2 (.dat (.lst (gs.map D.int))) gs .und .und .und)
  refine .inr ⟨e1,_,_,_,_,_,_,_,_,eT,eD,eM,⟨w2.mono (by omega),o2.of_eq (by omega) fun _ _ _=>rfl,lk2,iv2,fun m x hm=>?_⟩,⟨by rw[List.length_set,List.length_set,len];exact Nat.le_refl _,fun j hj h1 h2 h3=>?_⟩,fun j hj=>?_⟩
  ·rw[l_] at hm
   split at hm
   ·cases hm
   ·exact h.l0 m x hm
  ·rw[List.getElem?_set_ne (by omega),List.getElem?_set_ne (by omega),sY (by omega) (by omega)]
  ·obtain⟨p,hp,rfl⟩:=List.mem_map.mp hj
   exact .inl (List.mem_map.mpr ⟨p,(List.mem_filter.mp hp).1,rfl⟩)
theorem Px(h:Sd o u B U L T X S M b)(hb:b<=380)(hu:u+4<=B)(ou:o+4<=u){gs:List Int}{n g num:Int}{f:Option Int}(n0:0<=n)(n1:n<32)(hg:g∈gs):Done o u B U T b gs (deH n g num f):=by
 have hB:=h.w.bg
 have e1:=RP h.ow n g num f
 cases hn:aH L n with
 | none =>
  rw[hn] at e1
  exact .inl ⟨flN,"NotTied",.inr rfl,e1,CV h.w n0 n1 hn g num f⟩
 | some x =>
  rw[hn] at e1
  obtain⟨U1,M',eH,w1,fr,hM⟩:=Kv h.w (by omega) hn g num f
  have eT:=KD h.w eH
  have o1:Ow u U1 L S M b:=h.ow.of_eq (Nat.le_refl _) fun j h1 h2=>fr.2 j (by omega) (by omega) (by omega) (by omega) fun z=>by
   have:=h.w.T8 z
   omega
  have eD:=Pn o1 (by omega) n g num f
  have o2:Ow u (U1.set (u+2) (.dT (mpA pK tlD (bA S (g,n) (num,f))))) L (bA S (g,n) (num,f)) M (b+1) :=
   ⟨by rw[List.getElem?_set_ne (by omega)];exact o1.p4,by rw[List.getElem?_set_ne (by omega)];exact o1.p5,jA o1.p6,by rw[List.getElem?_set_ne (by omega)];exact o1.p7,lJ o1.nd _ _,o1.kn,Nat.le_trans (oR _ _ _) (Nat.succ_le_succ o1.bS),Nat.le_succ_of_le o1.bL,Nat.le_succ_of_le o1.bM,o1.mn⟩
  have lk2:Lnk L (upX X n (bA (X n) g (num,f))) (bA S (g,n) (num,f)):=by
   refine⟨fun g' m y hm=>?_,fun g' m hm=>?_⟩
   ·rw[fL]
    unfold upX
    by_cases e:m=n
    ·subst e
     rw[if_pos rfl,fL]
     by_cases e2:g'=g
     ·subst e2
      rw[if_pos rfl,if_pos rfl]
     ·rw[if_neg e2,if_neg (fun z=>e2 (congrArg Prod.fst z))]
      exact h.lk.k1 g' m y hm
    ·rw[if_neg e,if_neg (fun z=>e (congrArg Prod.snd z))]
     exact h.lk.k1 g' m y hm
   ·rw[fL,if_neg (fun z=>by
     have:m=n:=congrArg Prod.snd z
     rw[this,hn] at hm
     cases hm)]
    exact h.lk.k2 g' m hm
  obtain⟨iv2,_⟩:=Pj h.w.kn h.l0 h.iv hM
  have ivo:∀g',g'≠g->IV L (upX X n (bA (X n) g (num,f))) M g':=fun g' ne m y nu fa hm hx=>by
   unfold upX at hx
   by_cases e:m=n
   ·subst e
    rw[if_pos rfl,fL,if_neg ne] at hx
    exact h.iv g' m y nu fa hm hx
   ·rw[if_neg e] at hx
    exact h.iv g' m y nu fa hm hx
  have lM:M'.length<=b+1+1:=w1.bM
  have nM:(M'.map (·.1)).Nodup:=by
   rcases hM with⟨_,z⟩ |⟨v,_,z⟩
   ·rw[z];exact o1.mn
   ·rw[z];exact lJ o1.mn _ _
  have eM:=rB (wW o2 lk2 (by omega) ivo iv2 lM hM (.dat (.lst (gs.map D.int))) gs .und .und .und hg)
  have w2:Wy o B ((U1.set (u+2) (.dT (mpA pK tlD (bA S (g,n) (num,f))))).set (u+3) (.dK (mpA iK mkD M'))) L T (upX X n (bA (X n) g (num,f))) M' (b+2):=w1.of_eq (by rw[List.length_set,List.length_set];exact Nat.le_refl _) fun j hj hc=>by
   have:j≠u+2/\j≠u+3:=by
    rcases hc with hc |hc
    ·omega
    ·have:=w1.T8 hc
     omega
   rw[List.getElem?_set_ne (by omega),List.getElem?_set_ne (by omega)]
  refine .inr ⟨e1,_,_,_,_,_,_,_,_,eT,eD,eM,⟨w2,o2.setM (Nat.le_succ _) nM lM,lk2,iv2,h.l0⟩,⟨by rw[List.length_set,List.length_set];exact fr.1,fun j hj h1 h2 h3=>?_⟩,fun j hj=>.inl hj⟩
  rw[List.getElem?_set_ne (by omega),List.getElem?_set_ne (by omega)]
  exact fr.2 j hj (by omega) (by omega) (by omega) h3
theorem KZ(h:Sd o u B U L T X S M b)(hb:b<=380)(hu:u+4<=B)(ou:o+4<=u){gs:List Int}{d:D}(hd:lN gs d):Done o u B U T b gs d:=by
 rcases hd with⟨n,l,n0,n1,hl,rfl⟩ |⟨n,n0,n1,rfl⟩ |⟨n,g,num,f,n0,n1,hg,rfl⟩
 ·exact KY h hb hu ou gs n0 n1 hl
 ·exact Pu h hb hu ou gs n0 n1
 ·exact Px h hb hu ou n0 n1 hg
end
end Law
namespace Law
open PySem DL
theorem zp(i:Int)(U:List OS):dW [.int i] U=some (.bl true,U):=by
 refine bh rfl ?_
 simp[gH,tyD]
theorem Il(i:Int)(U:List OS):bW [.int i,.int i] U=some (.bl true,U):=by
 have hw:=zp i U
 refine bh rfl ((aN (Y':=[.dat (.int i),.dat (.int i)]) (U':=U) (by simp[isD,isNone])).trans ?_)
 refine(aN (Y':=[.dat (.int i),.dat (.int i)]) (U':=U) (by simp[jx,tyD])).trans ?_
 simp[hw]
theorem Py(i:Int)(U:List OS):cI [.int i,.int i] U=some (.bl true,U):=by
 have hw:=zp i U
 refine bh rfl ((aN (Y':=[.dat (.int i),.dat (.int i)]) (U':=U) (by simp[isD,isNone])).trans ?_)
 refine(aN (Y':=[.dat (.int i),.dat (.int i)]) (U':=U) (by simp[jx,tyD])).trans ?_
 simp[hw]
theorem Et(U:List OS):cI [.non,.non] U=some (.bl true,U):=by
 refine bh rfl (eG ?_)
 simp[isD,isNone]
theorem Mh{α:Type}:∀ks:List α,qM (ks.map fun _=>D.bl true)=some (ks.map fun _=>true)
 | []=>rfl
 | k::ks=>by
  rw[List.map_cons,List.map_cons]
  unfold qM
  rw[Mh ks]
theorem zR{α:Type}(ks:List α):j_ [.lst (ks.map fun _=>D.bl true)]=some (.bl true):=by
 show(match qM (ks.map fun _=>D.bl true) with |some bs=>some (D.bl (bs.all id)) |none=>none)=_
 rw[Mh]
 simp
theorem BR(U:List OS):∀(ks:List Int) (x y:Sl),gw (jj [0,1]) cN (aJ bW (ao (aj 0) (ao (aj 1) aA))) (List.zipWith pairD (ks.map D.int) (ks.map D.int)) [x,y] U=some (ks.map fun _=>D.bl true,U)
 | [],x,y=>rfl
 | k::ks,x,y=>by
  have ih:=BR U ks (.dat (.int k)) (.dat (.int k))
  have e:=Il k U
  rw[List.map_cons,List.zipWith_cons_cons,mO,show jj [0,1] (pairD (.int k) (.int k)) [x,y]=some [.dat (.int k),.dat (.int k)] from rfl]
  generalize List.zipWith pairD (ks.map D.int) (ks.map D.int)=zs at ih ⊢
  simp[e,ih]
theorem zq{i:Nat}{os:List D}{U:List OS}(hi:U[i]? = some (.mls os)):∀(ks:List Int) (x y:Sl),mC i os (jj [0,1]) cN (aJ bW (ao (aj 0) (ao (aj 1) aA))) (List.zipWith pairD (ks.map D.int) (ks.map D.int)) [x,y] U=some (ks.map fun _=>D.bl true,U)
 | [],x,y=>by
  show grd (U[i]? = some (.mls os)) (some ([],U))=_
  rw[gD hi]
  rfl
 | k::ks,x,y=>by
  have ih:=zq hi ks (.dat (.int k)) (.dat (.int k))
  have e:=Il k U
  rw[List.map_cons,List.zipWith_cons_cons]
  unfold mC
  rw[gD hi,show jj [0,1] (pairD (.int k) (.int k)) [x,y]=some [.dat (.int k),.dat (.int k)] from rfl]
  generalize List.zipWith pairD (ks.map D.int) (ks.map D.int)=zs at ih ⊢
  simp[e,ih]
theorem Eu{ks:List Int}(hl:ks.length<=1000)(U:List OS):cI [.tup (ks.map D.int),.tup (ks.map D.int)] U=some (.bl true,U):=by
 have ec:=BR U ks .und .und
 have ea:=zR ks
 have hz:(List.zipWith pairD (ks.map D.int) (ks.map D.int)).length<=100000:=by simp;omega
 refine bh rfl ((aN (Y':=[.dat (.tup (ks.map D.int)),.dat (.tup (ks.map D.int))]) (U':=U) (by simp[isD,isNone])).trans (eG ?_))
 have t1:gT (gUn (jx ["tuple","list"]) (aj 1)) [.dat (.tup (ks.map D.int)),.dat (.tup (ks.map D.int))] U=some (true,U):=by simp[jx,tyD]
 rw[mL,t1]
 dsimp only
 refine(aN (Y':=[.dat (.tup (ks.map D.int)),.dat (.tup (ks.map D.int))]) (U':=U) (by simp[gH,tyD])).trans ?_
 have eg:dF [none,none] (gh sO (ao (aj 0) (ao (aj 1) aA))) (jj [0,1]) cN (aJ bW (ao (aj 0) (ao (aj 1) aA))) [.dat (.tup (ks.map D.int)),.dat (.tup (ks.map D.int))] U=some (.lst (ks.map fun _=>D.bl true),U):=by
  rw[nJ,show gh sO (ao (aj 0) (ao (aj 1) aA)) [.dat (.tup (ks.map D.int)),.dat (.tup (ks.map D.int))] U=some (List.zipWith pairD (ks.map D.int) (ks.map D.int),U) from rfl,show cU [none,none] [Sl.dat (.tup (ks.map D.int)),.dat (.tup (ks.map D.int))]=[.und,.und] from rfl]
  dsimp only
  rw[if_pos hz,ec]
 have e2:gCB j_ (ao (dF [none,none] (gh sO (ao (aj 0) (ao (aj 1) aA))) (jj [0,1]) cN (aJ bW (ao (aj 0) (ao (aj 1) aA)))) aA) [.dat (.tup (ks.map D.int)),.dat (.tup (ks.map D.int))] U=some (.bl true,U):=by
  rw[zM,eN,eg]
  dsimp only
  rw[mK]
  dsimp only
  rw[ea]
 rw[jR,DK,show gOp (eqD false) (gCB lu (ao (aj 0) aA)) (gCB lu (ao (aj 1) aA)) [.dat (.tup (ks.map D.int)),.dat (.tup (ks.map D.int))] U=some (.bl true,U) by simp]
 generalize gCB j_ (ao (dF [none,none] (gh sO (ao (aj 0) (ao (aj 1) aA))) (jj [0,1]) cN (aJ bW (ao (aj 0) (ao (aj 1) aA)))) aA)=Zoo at e2 ⊢
 simp[e2]
theorem RQ{i:Nat}{ks:List Int}{U:List OS}(hi:U[i]? = some (.mls (ks.map D.int)))(hl:ks.length<=1000):fK [.obj i,.lst (ks.map D.int)] U=some (.bl true,U):=by
 have ec:=zq hi ks .und .und
 have ea:=zR ks
 have hz:(ks.map D.int).length<=big:=by have:big=100000:=rfl;simp;omega
 refine bh rfl ((aN (Y':=[.dat (.obj i),.dat (.lst (ks.map D.int))]) (U':=U) (by simp[isD,isNone])).trans (eG ?_))
 have t1:gT (gUn (jx ["tuple","list"]) (aj 1)) [.dat (.obj i),.dat (.lst (ks.map D.int))] U=some (true,U):=by simp[jx,tyD]
 rw[mL,t1]
 dsimp only
 have g1:ue (aj 0) [.dat (.obj i),.dat (.lst (ks.map D.int))] U=some (.bl false,U):=by
  unfold ue
  simp[hi,gY,iz]
 have g2:wK (aj 0) [.dat (.obj i),.dat (.lst (ks.map D.int))] U=some (.bl true,U):=by
  unfold wK
  simp[hi,gY,iz]
 have g3:wL (aj 0) [.dat (.obj i),.dat (.lst (ks.map D.int))] U=some (.int ks.length,U):=by
  unfold wL
  simp[hi,gY,iz]
 refine(aN (Y':=[.dat (.obj i),.dat (.lst (ks.map D.int))]) (U':=U) (by simp[gH,tyD,g1,g2])).trans ?_
 have eg:nQ [none,none] (ao (aj 0) (ao (aj 1) aA)) (jj [0,1]) cN (aJ bW (ao (aj 0) (ao (aj 1) aA))) [.dat (.obj i),.dat (.lst (ks.map D.int))] U=some (.lst (ks.map fun _=>D.bl true),U):=by
  unfold nQ
  rw[show cU [none,none] [Sl.dat (.obj i),.dat (.lst (ks.map D.int))]=[.und,.und] from rfl]
  simp only[eN,oA,mK,List.getElem?_cons_zero,List.getElem?_cons_succ,Option.bind_some,gY,hi,iz,mz,hz,if_true,ec]
 have e2:gCB j_ (ao (nQ [none,none] (ao (aj 0) (ao (aj 1) aA)) (jj [0,1]) cN (aJ bW (ao (aj 0) (ao (aj 1) aA)))) aA) [.dat (.obj i),.dat (.lst (ks.map D.int))] U=some (.bl true,U):=by
  rw[zM,eN,eg]
  dsimp only
  rw[mK]
  dsimp only
  rw[ea]
 rw[jR,DK,show gOp (eqD false) (wL (aj 0)) (gCB lu (ao (aj 1) aA)) [.dat (.obj i),.dat (.lst (ks.map D.int))] U=some (.bl true,U) by simp[g3]]
 generalize gCB j_ (ao (nQ [none,none] (ao (aj 0) (ao (aj 1) aA)) (jj [0,1]) cN (aJ bW (ao (aj 0) (ao (aj 1) aA)))) aA)=Zoo at e2 ⊢
 simp[e2]
theorem BV{β:Type}(f:β->D):∀xs:List (Int×β),wN (mpA iK f xs)=some (xs.map (·.1))
 | []=>rfl
 | (k,v)::xs=>by
  show(wN (mpA iK f xs)).bind (fun is=>some (k::is))=_
  rw[BV f xs]
  rfl
theorem nH{β:Type}{f:β->D}{xs:List (Int×β)}{g:Den}{Y:List Sl}{U:List OS}{n:Nat}(hg:g Y U=some (.obj n,U))(hn:U[n]? = some (.dK (mpA iK f xs)))(hl:xs.length<64):kE g Y U=some (.lst ((lE (xs.map (·.1))).map D.int),U):=by
 have e:=BV f xs
 unfold kE
 simp only[hg,Option.bind_some,gY,hn,dKO,e,FZ,hl,if_true]
theorem BW(ns:List Int):(lE ns).length=ns.length:=List.length_mergeSort ns
section
variable {o B:Nat} {U:List OS} {L:List (Int×Int)} {T:List (Int×Nat)} {X:Int->List (Int×Tl)} {M:List (Int×(Int×Int))} {b:Nat}
theorem Tv{o:Nat}:List.lookup ("neighbours":Str) (fM o)=none:=lkn (by decide +kernel) (by decide +kernel) (by decide +kernel)
theorem Pz{o:Nat}:List.lookup ("goals":Str) (fM o)=none:=lkn (by decide +kernel) (by decide +kernel) (by decide +kernel)
theorem Gd{o:Nat}:List.lookup ("length":Str) (fM o)=none:=lkn (by decide +kernel) (by decide +kernel) (by decide +kernel)
theorem PB(h:Wy o B U L T X M b)(hb:b<64):cD [.obj o] U=some (.obj U.length,U++[.mls ((lE (L.map (·.1))).map D.int)]):=by
 have e:=nH (g:=fJ "Ways" "length_by" (aj 0)) (Y:=[.dat (.obj o)]) (U:=U) (n:=o+1) (by simp[h.o0,lk1]) h.o1 (by have:=h.bL;omega)
 refine bh rfl ?_
 show a_ (qX (gLs _)) [.dat (.obj o)] U=_
 rw[jR]
 unfold qX gLs
 rw[e]
 rfl
theorem Im(h:Wy o B U L T X M b)(hb:b<64):du [.obj o] U=some (.obj U.length,U++[.mls ((lE (M.map (·.1))).map D.int)]):=by
 have e:=nH (g:=fJ "Ways" "mark_of" (aj 0)) (Y:=[.dat (.obj o)]) (U:=U) (n:=o+3) (by simp[h.o0,lk3]) h.o3 (by have:=h.bM;omega)
 refine bh rfl ?_
 show a_ (qX (gLs _)) [.dat (.obj o)] U=_
 rw[jR]
 unfold qX gLs
 rw[e]
 rfl
theorem PJ(h:Wy o B U L T X M b){n l:Int}(hn:aH L n=some l):cA [.obj o,.int n] U=some (.int l,U):=by
 have hy:=vq h hn
 refine bh rfl ((aN (Y':=[.dat (.obj o),.dat (.int n)]) (U':=U) (by simp[h.o0,lK,hy])).trans ?_)
 simp[h.o0,lk1,h.o1,vL,hn]
theorem RT(h:Wy o B U L T X M b){n:Int}(n0:0<=n)(n1:n<32)(hn:aH L n=none):gF [.obj o,.int n] U=some (.bl true,U):=by
 have hy:=yh h hn
 have hr:=BK h n0 n1 hn
 have e1:cA [.obj o,.int n] U=none:=by
  refine wQ rfl ?_
  simp[h.o0,lK,hy]
 have e2:dg [.obj o,.int n] U=some (("NotTied":Str),U):=by
  refine um (Y:=[.dat (.obj o),.dat (.int n)]) rfl ?_
  simp[h.o0,lK,hr]
 refine bh rfl (eG ?_)
 show wM (eV (cP "Ways" "length" cA [] (aj 0) (ao (aj 1) aA))) (rE (jM "Ways" "length" dg [] (aj 0) (ao (aj 1) aA))) gZ (a_ (gC (.bl true))) [.dat (.obj o),.dat (.int n)] U=some (.rt (.bl true) U)
 unfold wM
 rw[show eV (cP "Ways" "length" cA [] (aj 0) (ao (aj 1) aA)) [.dat (.obj o),.dat (.int n)] U=none by simp[h.o0,Gd,e1]]
 dsimp only
 have e3:rE (jM "Ways" "length" dg [] (aj 0) (ao (aj 1) aA)) [.dat (.obj o),.dat (.int n)] U=some (("NotTied":Str),[.dat (.obj o),.dat (.int n)],U):=by simp[h.o0,Gd,e2]
 have e4:gZ "NotTied" = true:=by simp[gZ]
 rw[e3]
 dsimp only
 rw[if_pos e4]
 rfl
end
end Law
namespace Law
open PySem DL
def prD(e:Nat×List Int):D:=.lst [.obj e.1,.lst (e.2.map D.int)]
structure Hl(h:Nat)(U:List OS)(es:List (Nat×List Int)):Prop where
 hh:U[h]? = some (.mls (es.map prD))
 hi:∀e∈es,U[e.1]? = some (.mls (e.2.map D.int))
 nd:(es.map (·.1)).Nodup
 nh:h∉es.map (·.1)
 bk:∀e∈es,e.2.length<=1000
def Eh(h:Nat)(U U':List OS):Prop:=U.length<=U'.length/\∀j,j<U.length->j≠h->U'[j]? = U[j]?
theorem Eh.refl(h:Nat)(U:List OS):Eh h U U:=⟨Nat.le_refl _,fun _ _ _=>rfl⟩
theorem Eh.trans{h:Nat}{U U' U'':List OS}(a:Eh h U U')(b:Eh h U' U''):Eh h U U'':=⟨Nat.le_trans a.1 b.1,fun j hj hn=>(b.2 j (Nat.lt_of_lt_of_le hj a.1) hn).trans (a.2 j hj hn)⟩
theorem Sd.of_eh{o u B h:Nat}{U U':List OS}{L T X S M b}(s:Sd o u B U L T X S M b)(e:Eh h U U')(ou:o+4<=u)(uB:u+4<=B)(hh:u+4<=h)(hT:h∉T.map (·.2)):Sd o u B U' L T X S M b:=by
 have hB:=s.w.bg
 refine⟨s.w.of_eq e.1 fun j hj hc=>e.2 j hj fun z=>?_,s.ow.of_eq (Nat.le_refl _) fun j h1 h2=>e.2 j (by omega) (by omega),s.lk,s.iv,s.l0⟩
 subst z
 rcases hc with hc |hc
 ·omega
 ·exact hT hc
theorem PL{α:Type}(xs:List α)(x:α):L2.atI (xs++[x]) (-1)=some x:=L2.Jo xs x
section
variable {h:Nat} {U:List OS} {es:List (Nat×List Int)} {ks:List Int}
def hUq(h:Nat)(U:List OS)(es:List (Nat×List Int))(ks:List Int):List OS:=(U++[OS.mls (ks.map D.int)]).set h (OS.mls ((es++[(U.length,ks)]).map prD))
theorem Hl.lt(H:Hl h U es):h<U.length:=(List.getElem?_eq_some_iff.mp H.hh).1
theorem Ge:Eh h U (hUq h U es ks):=⟨by unfold hUq;simp,fun j hj hn=>by
 unfold hUq
 rw[List.getElem?_set_ne (fun z=>hn z.symm),List.getElem?_append_left hj]⟩
theorem Hl.app(H:Hl h U es)(hk:ks.length<=1000):Hl h (hUq h U es ks) (es++[(U.length,ks)]):=by
 have lt:=H.lt
 have lts:∀e∈es,e.1<U.length:=fun e he=>(List.getElem?_eq_some_iff.mp (H.hi e he)).1
 refine⟨?_,fun e he=>?_,?_,?_,fun e he=>?_⟩
 ·unfold hUq
  rw[List.getElem?_set_self (by simp;omega)]
 ·rcases List.mem_append.mp he with z |z
  ·rw[Ge.2 e.1 (lts e z) (fun q=>H.nh (List.mem_map.mpr ⟨e,z,q⟩))]
   exact H.hi e z
  ·rw[List.mem_singleton.mp z]
   unfold hUq
   dsimp only
   rw[List.getElem?_set_ne (by omega),List.getElem?_append_right (Nat.le_refl _)]
   simp
 ·rw[List.map_append,List.nodup_append]
  refine⟨H.nd,by simp,fun a ha c hc z=>?_⟩
  obtain⟨e,he,rfl⟩:=List.mem_map.mp ha
  have:=lts e he
  simp at hc
  omega
 ·rw[List.map_append]
  intro z
  rcases List.mem_append.mp z with z |z
  ·exact H.nh z
  ·simp at z
   omega
 ·rcases List.mem_append.mp he with z |z
  ·exact H.bk e z
  ·rw[List.mem_singleton.mp z];exact hk
theorem BX(H:Hl h U es)(hl:es.length<1000)(hk:ks.length<=1000){g:Den}{Y:List Sl}(h5:Y[5]? = some (.dat (.obj h)))(hg:g Y U=some (prD (U.length,ks),U++[OS.mls (ks.map D.int)])) :
  aK (pC (aj 5) g) (a_ (aJ fK (ao (gOp ixD (oK (aj 5) (jl (gC (.int 1)))) (gC (.int 0))) (ao (gOp ixD (oK (aj 5) (jl (gC (.int 1)))) (gC (.int 1))) aA)))) Y U=some (.rt (.bl true) (hUq h U es ks)):=by
 have lt:=H.lt
 have H':=H.app (ks:=ks) hk
 have hh':(U++[OS.mls (ks.map D.int)])[h]? = some (.mls (es.map prD)):=by rw[List.getElem?_append_left lt];exact H.hh
 have hb:(es.map prD).length<big:=by have:big=100000:=rfl;simp;omega
 refine(aN (Y':=Y) (U':=hUq h U es ks) ?_).trans ?_
 ·unfold pC
  simp only[oA,h5,Option.bind_some,gY,H.hh,iz,hg,hh',hb,if_true]
  unfold hUq
  rw[List.map_append]
  rfl
 ·have em:oK (aj 5) (jl (gC (.int 1))) Y (hUq h U es ks)=some (prD (U.length,ks),hUq h U es ks):=by
   have hx:=H'.hh
   rw[List.map_append] at hx
   have hn:jl (gC (.int 1)) Y (hUq h U es ks)=some (.int (-1),hUq h U es ks):=rfl
   unfold oK
   simp only[oA,h5,Option.bind_some,gY,hn,FT,hx,iz,List.map_cons,List.map_nil,PL]
  have ea:=RQ (H'.hi (U.length,ks) (by simp)) hk
  have e0:gOp ixD (oK (aj 5) (jl (gC (.int 1)))) (gC (.int 0)) Y (hUq h U es ks)=some (.obj U.length,hUq h U es ks):=by
   rw[Lz,em]
   rfl
  have e1:gOp ixD (oK (aj 5) (jl (gC (.int 1)))) (gC (.int 1)) Y (hUq h U es ks)=some (.lst (ks.map D.int),hUq h U es ks):=by
   rw[Lz,em]
   rfl
  rw[jR,pZ,eN,e0]
  dsimp only
  rw[eN,e1]
  dsimp only
  rw[mK]
  dsimp only
  rw[ea]
end
end Law
namespace Law
open PySem DL
theorem Io{g:Den}{rest:List Sl}{U:List OS}:∀(ks:List Int) (x:Sl),(∀k∈ks,g (.dat (.int k)::rest) U=some (.bl true,U))->gw (bF 0) cN g (ks.map D.int) (x::rest) U=some (ks.map fun _=>D.bl true,U)
 | [],x,_=>rfl
 | k::ks,x,h=>by
  have ih:=Io ks (.dat (.int k)) fun z hz=>h z (List.mem_cons_of_mem _ hz)
  have e:=h k List.mem_cons_self
  rw[List.map_cons,mO,show bF 0 (.int k) (x::rest)=some (.dat (.int k)::rest) from rfl]
  dsimp only
  rw[show cN (.dat (.int k)::rest) U=some (true,U) from rfl]
  dsimp only
  rw[e]
  dsimp only
  rw[ih]
  rfl
theorem BZ{g:Den}{μ:List (Option Nat)}{s:Nat}{Y rest:List Sl}{U:List OS}{ks:List Int}(hs:Y[s]? = some (.dat (.lst (ks.map D.int))))(hμ:cU μ Y=.und::rest)(hl:ks.length<=1000)(h:∀k∈ks,g (.dat (.int k)::rest) U=some (.bl true,U)):a_ (gCB j_ (ao (dF μ (jk (aj s)) (bF 0) cN g) aA)) Y U=some (.rt (.bl true) U):=by
 have ec:=Io ks .und h
 have ea:=zR ks
 rw[jR,zM,eN,nJ,Ho,oA,hs]
 simp only[Nu,hμ,List.length_map]
 rw[if_pos (by omega),ec]
 dsimp only
 rw[mK]
 dsimp only
 rw[ea]
def LR(o u:Nat)(hs gs:List Int)(w:Int)(h:Nat)(x6:Sl):List Sl:=[.dat (.obj o),.dat (.obj u),.dat (.lst (hs.map D.int)),.dat (.lst (gs.map D.int)),.dat (.int w),.dat (.obj h),x6]
def lnB:aU:=(aK (sIf (jn (gT (jm false (aj 6) (bu (aj 1) (gC (.str "lengths"))))) (my (gT (aJ cI (ao (cP "Ways" "length" cA [] (aj 0) (ao (aj 6) aA)) (ao (bu (bu (aj 1) (gC (.str "lengths"))) (aj 6)) aA)))))) (a_ (gC (.bl false))) aX) (sIf (jn (gT (jm true (aj 6) (bu (aj 1) (gC (.str "lengths"))))) (my (gT (aJ gF (ao (aj 0) (ao (aj 6) aA)))))) (a_ (gC (.bl false))) aX))
section
variable {o u B h:Nat} {U:List OS} {L:List (Int×Int)} {T:List (Int×Nat)} {X:Int->List (Int×Tl)} {S:List ((Int×Int)×Tl)} {M:List (Int×(Int×Int))} {b:Nat} {hs gs:List Int} {es:List (Nat×List Int)}
theorem B_(s:Sd o u B U L T X S M b)(w:Int):∀(ks:List Int) (x6:Sl),(∀k∈ks,0<=k/\k<32)->∃y6,eF (bF 6) lnB (ks.map D.int) (LR o u hs gs w h x6) U=some (.nx (LR o u hs gs w h y6) U)
 | [],x6,_=>⟨x6,rfl⟩
 | n::ks,x6,hk=>by
  obtain⟨y6,ih⟩:=B_ s w ks (.dat (.int n)) fun k z=>hk k (List.mem_cons_of_mem _ z)
  obtain⟨n0,n1⟩:=hk n List.mem_cons_self
  refine⟨y6,?_⟩
  rw[List.map_cons,i_,show bF 6 (.int n) (LR o u hs gs w h x6)=some (LR o u hs gs w h (.dat (.int n))) from rfl]
  dsimp only
  have e:lnB (LR o u hs gs w h (.dat (.int n))) U=some (.nx (LR o u hs gs w h (.dat (.int n))) U):=by
   unfold lnB
   cases hn:aH L n with
   | none =>
    have e1:=RT s.w n0 n1 hn
    refine(aN (Y':=LR o u hs gs w h (.dat (.int n))) (U':=U) (by simp[LR,s.ow.p4,ov1,s.ow.p5,vL,hn])).trans ?_
    simp[LR,s.ow.p4,ov1,s.ow.p5,vL,hn,e1]
   | some l =>
    have e1:=PJ s.w hn
    have e2:=Py l U
    refine(aN (Y':=LR o u hs gs w h (.dat (.int n))) (U':=U) (by simp[LR,s.ow.p4,ov1,s.ow.p5,vL,hn,s.w.o0,Gd,e1,e2])).trans ?_
    simp[LR,s.ow.p4,ov1,s.ow.p5,vL,hn]
  rw[e]
  exact ih
theorem K_(s:Sd o u B U L T X S M b)(hb:b<64)(ou:o+4<=u)(uB:u+4<=B)(H:Hl h U es)(hl:es.length<1000)(hg:gs.length<=1000)(hh:∀k∈hs,0<=k/\k<32)(hhl:hs.length<=1000)(w:Int) :
  ∃U' es',jy [.obj o,.obj u,.lst (hs.map D.int),.lst (gs.map D.int),.int w,.obj h] U=some (.bl true,U')/\Hl h U' es'/\Eh h U U'/\es'.length<=es.length+1/\∀e∈es',e∈es\/U.length<=e.1:=by
 have hB:=s.w.bg
 have lenL:=s.w.bL
 have lenM:=s.w.bM
 have skip:∀{c:Int} {a t:aU} {r:Option Out},w≠c->t (LR o u hs gs w h .und) U=r->aK (sIf (gT (gOp (eqD false) (aj 4) (gC (.int c)))) a aX) t (LR o u hs gs w h .und) U=r:=fun hne ht=>(aN (Y':=LR o u hs gs w h .und) (U':=U) (by simp[LR,hne])).trans ht
 have take:∀{c:Int} {a t:aU} {d:D} {U':List OS},w=c->a (LR o u hs gs w h .und) U=some (.rt d U')->aK (sIf (gT (gOp (eqD false) (aj 4) (gC (.int c)))) a aX) t (LR o u hs gs w h .und) U=some (.rt d U'):=fun he ha=>eG (by
  rw[mL,show gT (gOp (eqD false) (aj 4) (gC (.int _))) (LR o u hs gs w h .und) U=some (true,U) by simp[LR,he]]
  exact ha)
 have nw:∀ks:List Int,ks.length<=1000->∀e∈es++[(U.length,ks)],e∈es\/U.length<=e.1:=fun ks _ e he=>by
  rcases List.mem_append.mp he with z |z
  ·exact .inl z
  ·rw[List.mem_singleton.mp z];exact .inr (Nat.le_refl _)
 have rd:∀{U':List OS},Eh h U U'->True:=fun _=>trivial
 by_cases w0:w=0
 ·have hk:(lE (L.map (·.1))).length<=1000:=by rw[BW,List.length_map];omega
  refine⟨_,_,bh rfl (take w0 (BX H hl hk rfl ?_)),H.app hk,Ge,by simp,nw _ hk⟩
  have e1:=PB s.w hb
  have e2:=nH (g:=bu (aj 1) (gC (.str "lengths"))) (Y:=LR o u hs gs w h .und) (U:=U++[OS.mls ((lE (L.map (·.1))).map D.int)]) (n:=u+1) (f:=D.int) (xs:=L) (by
   have:(U++[OS.mls ((lE (L.map (·.1))).map D.int)])[u]? = some (.dK (fO u)):=by rw[List.getElem?_append_left (by omega)];exact s.ow.p4
   simp[LR,this,ov1]) (by rw[List.getElem?_append_left (by omega)];exact s.ow.p5) (by omega)
  rw[vY,eN,show cP "Ways" "neighbours" cD [] (aj 0) aA (LR o u hs gs w h .und) U=some (.obj U.length,U++[OS.mls ((lE (L.map (·.1))).map D.int)]) by simp[LR,s.w.o0,Tv,e1]]
  dsimp only
  rw[eN,e2]
  rfl
 by_cases w1:w=1
 ·have hk:(lE (M.map (·.1))).length<=1000:=by rw[BW,List.length_map];omega
  refine⟨_,_,bh rfl (skip w0 (take w1 (BX H hl hk rfl ?_))),H.app hk,Ge,by simp,nw _ hk⟩
  have e1:=Im s.w hb
  have e2:=nH (g:=bu (aj 1) (gC (.str "marks"))) (Y:=LR o u hs gs w h .und) (U:=U++[OS.mls ((lE (M.map (·.1))).map D.int)]) (n:=u+3) (f:=mkD) (xs:=M) (by
   have:(U++[OS.mls ((lE (M.map (·.1))).map D.int)])[u]? = some (.dK (fO u)):=by rw[List.getElem?_append_left (by omega)];exact s.ow.p4
   simp[LR,this,ov3]) (by rw[List.getElem?_append_left (by omega)];exact s.ow.p7) (by omega)
  rw[vY,eN,show cP "Ways" "goals" du [] (aj 0) aA (LR o u hs gs w h .und) U=some (.obj U.length,U++[OS.mls ((lE (M.map (·.1))).map D.int)]) by simp[LR,s.w.o0,Pz,e1]]
  dsimp only
  rw[eN,e2]
  rfl
 by_cases w2:w=2
 ·refine⟨U,es,bh rfl (skip w0 (skip w1 (take w2 (BZ (rest:=[.dat (.obj o),.dat (.obj u)]) (s:=3) (ks:=gs) rfl rfl hg fun k _=>?_)))),H,Eh.refl _ _,by omega,fun e he=>.inl he⟩
  have e1:=rm s.w k
  have ea:cI [mOD (aH M k),mOD (aH M k)] U=some (.bl true,U):=by
   cases aH M k with
   | none=>exact Et U
   | some p=>exact Eu (ks:=[p.1,p.2]) (by simp) U
  have em:(Option.map mkD (aH M k)).getD .non=mOD (aH M k):=rfl
  simp[s.w.o0,wR,e1,s.ow.p4,ov3,s.ow.p7,vM,em,ea]
 by_cases w3':w=3
 ·refine⟨U,es,bh rfl (skip w0 (skip w1 (skip w2 (take w3' (BZ (rest:=[.dat (.obj u),.dat (.obj o)]) (s:=3) (ks:=gs) rfl rfl hg fun k _=>?_))))),H,Eh.refl _ _,by omega,fun e he=>.inl he⟩
  have e1:=RL s.w (by omega) k
  have e2:=ym s.ow s.lk (by omega) k
  have ea:cI [rA (Us L X (aH M k) k),rA (Us L X (aH M k) k)] U=some (.bl true,U):=by
   rcases yp (Us L X (aH M k) k) with⟨_,e⟩ |⟨v,_,e⟩
   ·rw[e];exact Et U
   ·rw[e];exact Eu (ks:=[v.1,v.2.1,v.2.2]) (by simp) U
  simp[s.w.o0,Mf,e1,e2,ea]
 ·obtain⟨y6,e⟩:=B_ (gs:=gs) (h:=h) s w hs .und hh
  refine⟨U,es,bh rfl (skip w0 (skip w1 (skip w2 (skip w3' ?_)))),H,Eh.refl _ _,by omega,fun e he=>.inl he⟩
  refine(aN (Y':=LR o u hs gs w h y6) (U':=U) ?_).trans (by simp)
  show n_ (jk (aj 2)) _ lnB (LR o u hs gs w h .und) U=_
  rw[rW,show jk (aj 2) (LR o u hs gs w h .und) U=some (hs.map D.int,U) from rfl]
  exact e
theorem looks(ou:o+4<=u)(uB:u+4<=B)(hb:b<64)(uh:u+4<=h)(hT:h∉T.map (·.2))(hg:gs.length<=1000)(hh:∀k∈hs,0<=k/\k<32)(hhl:hs.length<=1000):∀(ws:List Int) (U:List OS) (es:List (Nat×List Int)) (x:Sl),Sd o u B U L T X S M b->Hl h U es->es.length+ws.length<=1000 ->
  ∃U' es',gw (bF 0) cN (aJ jy (ao (aj 1) (ao (aj 2) (ao (aj 3) (ao (aj 4) (ao (aj 0) (ao (aj 5) aA))))))) (ws.map D.int) [x,.dat (.obj o),.dat (.obj u),.dat (.lst (hs.map D.int)),.dat (.lst (gs.map D.int)),.dat (.obj h)] U=some (ws.map fun _=>D.bl true,U') /\
   Sd o u B U' L T X S M b/\Hl h U' es'/\Eh h U U'/\es'.length<=es.length+ws.length/\∀e∈es',e∈es\/U.length<=e.1
 | [],U,es,x,s,H,_=>⟨U,es,rfl,s,H,Eh.refl _ _,Nat.le_refl _,fun e he=>.inl he⟩
 | w::ws,U,es,x,s,H,hl=>by
  rw[List.length_cons] at hl
  obtain⟨U1,es1,e1,H1,E1,l1,n1⟩:=K_ s hb ou uB H (by omega) hg hh hhl w
  obtain⟨U2,es2,e2,s2,H2,E2,l2,n2⟩:=looks ou uB hb uh hT hg hh hhl ws U1 es1 (.dat (.int w)) (s.of_eh E1 ou uB uh hT) H1 (by omega)
  refine⟨U2,es2,?_,s2,H2,E1.trans E2,by rw[List.length_cons];omega,fun e he=>?_⟩
  ·rw[List.map_cons,mO,show bF 0 (.int w) [x,.dat (.obj o),.dat (.obj u),.dat (.lst (hs.map D.int)),.dat (.lst (gs.map D.int)),.dat (.obj h)]=some [.dat (.int w),.dat (.obj o),.dat (.obj u),.dat (.lst (hs.map D.int)),.dat (.lst (gs.map D.int)),.dat (.obj h)] from rfl]
   dsimp only
   rw[show cN [.dat (.int w),.dat (.obj o),.dat (.obj u),.dat (.lst (hs.map D.int)),.dat (.lst (gs.map D.int)),.dat (.obj h)] U=some (true,U) from rfl]
   dsimp only
   rw[show aJ jy (ao (aj 1) (ao (aj 2) (ao (aj 3) (ao (aj 4) (ao (aj 0) (ao (aj 5) aA)))))) [.dat (.int w),.dat (.obj o),.dat (.obj u),.dat (.lst (hs.map D.int)),.dat (.lst (gs.map D.int)),.dat (.obj h)] U=jy [.obj o,.obj u,.lst (hs.map D.int),.lst (gs.map D.int),.int w,.obj h] U from rfl,e1]
   dsimp only
   rw[e2]
   rfl
  ·rcases n2 e he with z |z
   ·exact n1 e z
   ·exact .inr (Nat.le_trans E1.1 z)
theorem zr(ou:o+4<=u)(uB:u+4<=B)(hb:b<64)(uh:u+4<=h)(hT:h∉T.map (·.2))(hg:gs.length<=1000)(hh:∀k∈hs,0<=k/\k<32)(hhl:hs.length<=1000)(s:Sd o u B U L T X S M b)(H:Hl h U es)(hl:es.length<=900)(c:Int) :
  ∃U' es',dX [.obj o,.obj u,.lst (hs.map D.int),.lst (gs.map D.int),.int c,.obj h] U=some (.bl true,U') /\
   Sd o u B U' L T X S M b/\Hl h U' es'/\Eh h U U'/\es'.length<=es.length+5/\∀e∈es',e∈es\/U.length<=e.1:=by
 obtain⟨ws,hws⟩:∃ws:List Int,ws=[0,1,2,3,4].map fun k:Int=>(c / 5+k*(1+c%4))%5:=⟨_,rfl⟩
 have lw:ws.length=5:=by rw[hws];rfl
 obtain⟨U',es',e,s',H',E',l',n'⟩:=looks ou uB hb uh hT hg hh hhl ws U es .und s H (by omega)
 refine⟨U',es',bh rfl ?_,s',H',E',by omega,n'⟩
 have r5:jP [.int 5]=some [.int 0,.int 1,.int 2,.int 3,.int 4]:=by rw[zN (by decide) (by decide)];rfl
 have ml:∀k:Int,0<=k->k<=4->cR (.int k) (.int (1+c%4))=some (.int (k*(1+c%4))):=fun k h1 h2=>ph (.inl ⟨by omega,by omega⟩)
 have ec:gw (bF 0) cN (gOp bT (gOp bY (gOp k_ (aj 1) (gC (.int 5))) (gOp cR (aj 0) (gOp bY (gC (.int 1)) (gOp bT (aj 1) (gC (.int 4)))))) (gC (.int 5))) [.int 0,.int 1,.int 2,.int 3,.int 4] [.und,.dat (.int c)] U=some (ws.map D.int,U):=by
  have st:∀(k:Int),0<=k->k<=4->gOp bT (gOp bY (gOp k_ (aj 1) (gC (.int 5))) (gOp cR (aj 0) (gOp bY (gC (.int 1)) (gOp bT (aj 1) (gC (.int 4)))))) (gC (.int 5)) [.dat (.int k),.dat (.int c)] U=some (.int ((c / 5+k*(1+c%4))%5),U):=fun k h1 h2=>by
   have:=ml k h1 h2
   simp[this]
  have s0:=st 0 (by decide) (by decide)
  have s1:=st 1 (by decide) (by decide)
  have s2:=st 2 (by decide) (by decide)
  have s3:=st 3 (by decide) (by decide)
  have s4:=st 4 (by decide) (by decide)
  generalize gOp bT (gOp bY (gOp k_ (aj 1) (gC (.int 5))) (gOp cR (aj 0) (gOp bY (gC (.int 1)) (gOp bT (aj 1) (gC (.int 4)))))) (gC (.int 5))=G at *
  rw[hws]
  simp only[mO,JN,JM,List.set_cons_zero,Nt,s0,s1,s2,s3,s4,List.map_cons,List.map_nil]
 refine(aN (Y':=[.dat (.obj o),.dat (.obj u),.dat (.lst (hs.map D.int)),.dat (.lst (gs.map D.int)),.dat (.int c),.dat (.obj h),.dat (.lst (ws.map D.int))]) (U':=U) ?_).trans ?_
 ·show bD 6 (dF [none,some 4] _ _ _ _) [.dat (.obj o),.dat (.obj u),.dat (.lst (hs.map D.int)),.dat (.lst (gs.map D.int)),.dat (.int c),.dat (.obj h),.und] U=_
  refine vZ ?_
  rw[nJ,show gh jP (ao (gC (.int 5)) aA) [.dat (.obj o),.dat (.obj u),.dat (.lst (hs.map D.int)),.dat (.lst (gs.map D.int)),.dat (.int c),.dat (.obj h),.und] U=some ([.int 0,.int 1,.int 2,.int 3,.int 4],U) by
   rw[Hq]
   show(match jP [.int 5] with |some es=>some (es,U) |none=>none)=_
   rw[r5]]
  dsimp only
  rw[if_pos (by decide),show cU [none,some 4] [Sl.dat (.obj o),.dat (.obj u),.dat (.lst (hs.map D.int)),.dat (.lst (gs.map D.int)),.dat (.int c),.dat (.obj h),.und]=[.und,.dat (.int c)] from rfl,ec]
 ·have ea:=zR ws
  show a_ (gCB j_ (ao (dF [none,some 0,some 1,some 2,some 3,some 5] (jk (aj 6)) (bF 0) cN _) aA)) [.dat (.obj o),.dat (.obj u),.dat (.lst (hs.map D.int)),.dat (.lst (gs.map D.int)),.dat (.int c),.dat (.obj h),.dat (.lst (ws.map D.int))] U=_
  rw[jR,zM,eN,nJ,show jk (aj 6) [.dat (.obj o),.dat (.obj u),.dat (.lst (hs.map D.int)),.dat (.lst (gs.map D.int)),.dat (.int c),.dat (.obj h),.dat (.lst (ws.map D.int))] U=some (ws.map D.int,U) from rfl]
  dsimp only
  rw[if_pos (by rw[List.length_map];omega),show cU [none,some 0,some 1,some 2,some 3,some 5] [Sl.dat (.obj o),.dat (.obj u),.dat (.lst (hs.map D.int)),.dat (.lst (gs.map D.int)),.dat (.int c),.dat (.obj h),.dat (.lst (ws.map D.int))]=[.und,.dat (.obj o),.dat (.obj u),.dat (.lst (hs.map D.int)),.dat (.lst (gs.map D.int)),.dat (.obj h)] from rfl,e]
  dsimp only
  rw[mK]
  dsimp only
  rw[ea]
end
end Law
namespace Law
open PySem DL
theorem uq{g:Den}{rest:List Sl}{P:Int->Prop}(U:List OS):∀(ks:List Int) (x:Sl),(∀k∈ks,∃v,P v/\g (.dat (.int k)::rest) U=some (.int v,U))->∃vs:List Int,vs.length=ks.length/\(∀v∈vs,P v)/\gw (bF 0) cN g (ks.map D.int) (x::rest) U=some (vs.map D.int,U)
 | [],x,_=>⟨[],rfl,fun _ h=>(nomatch h),rfl⟩
 | k::ks,x,h=>by
  obtain⟨v,hv,e⟩:=h k List.mem_cons_self
  obtain⟨vs,h1,h2,h3⟩:=uq U ks (.dat (.int k)) fun k' hk'=>h k' (List.mem_cons_of_mem _ hk')
  refine⟨v::vs,by simp[h1],fun u hu=>?_,?_⟩
  ·rcases List.mem_cons.mp hu with rfl |hu
   ·exact hv
   ·exact h2 u hu
  ·rw[List.map_cons,mO]
   simp[e,h3]
theorem vA(lo:Int)(n:Nat):upD lo n=((List.range n).map fun(k:Nat)=>lo+(k:Int)).map D.int:=by simp[upD]
theorem Gf{xs:List Int}(hx:48<=xs.length)(U:List OS):∃hs:List Int,hs≠[]/\hs.length<=1000/\(∀n∈hs,0<=n/\n<32)/\lF [.lst (xs.map D.int)] U=some (.lst (hs.map D.int),U):=by
 have e0:=vg (xs:=xs) (k:=0) (by omega) U
 have e0':b_ [.lst (xs.map D.int),.int 0] U=some (.int xs[0],U):=e0
 generalize xs[0]=c at *
 have s1:∀{t:aU},aK (bD 1 (aJ b_ (ao (aj 0) (ao (gC (.int 0)) aA)))) t [.dat (.lst (xs.map D.int)),.und] U=t [.dat (.lst (xs.map D.int)),.dat (.int c)] U:=aN (by simp[e0'])
 by_cases h12:c%12=0
 ·obtain⟨hs,h1,h2,h3⟩:=uq (g:=aj 0) (rest:=[]) (P:=fun n=>0<=n/\n<32) U ((List.range 32).map fun(k:Nat)=>0+(k:Int)) .und fun k hk=>⟨k,by
   obtain⟨j,hj,rfl⟩:=List.mem_map.mp hk
   have:=List.mem_range.mp hj
   omega,rfl⟩
  rw[<-vA] at h3
  have er:jP [.int 32]=some (upD 0 32):=zN (by decide) (by decide)
  have ei:cU [none] [Sl.dat (.lst (xs.map D.int)),.dat (.int c)]=[.und]:=rfl
  refine⟨hs,fun z=>by rw[z] at h1;simp at h1,by rw[h1];simp,h2,bh rfl (s1.trans (eG ?_))⟩
  simp[h12,er,ei,h3]
 ·obtain⟨m,hm⟩:∃m:Nat,(m:Int)=3+c / 11904%3:=⟨(3+c / 11904%3).toNat,by omega⟩
  obtain⟨a,ha⟩:∃a,a=1+c / 384%31:=⟨_,rfl⟩
  have em:∀k:Int,cR (.int k) (.int a)=some (.int (k*a)):=fun k=>ph (.inr ⟨by omega,by omega⟩)
  obtain⟨hs,h1,h2,h3⟩:=uq (g:=(gOp bT (gOp bY (gOp k_ (aj 1) (gC (.int 12))) (gOp cR (aj 0) (gOp bY (gC (.int 1)) (gOp bT (gOp k_ (aj 1) (gC (.int 384))) (gC (.int 31)))))) (gC (.int 32)))) (rest:=[.dat (.int c)]) (P:=fun n=>0<=n/\n<32) U ((List.range m).map fun(k:Nat)=>0+(k:Int)) .und fun k hk=>⟨(c / 12+k*a)%32,⟨Int.emod_nonneg _ (by decide),Int.emod_lt_of_pos _ (by decide)⟩,by
   have:=em k
   rw[ha] at this ⊢
   simp[this]⟩
  rw[<-vA] at h3
  have er:jP [.int (3+c / 11904%3)]=some (upD 0 m):=by
   rw[<-hm,zN (by omega) (by omega)];rfl
  have ei:cU [none,some 1] [Sl.dat (.lst (xs.map D.int)),.dat (.int c)]=[.und,.dat (.int c)]:=rfl
  have hml:m<=100000:=by omega
  refine⟨hs,fun z=>by rw[z] at h1;simp at h1;omega,by rw[h1];simp;omega,h2,bh rfl (s1.trans ((aN (Y':=[.dat (.lst (xs.map D.int)),.dat (.int c)]) (U':=U) (by simp[h12])).trans ?_))⟩
  rw[jR,nJ]
  have eγ:gh jP (ao (gOp bY (gC (.int 3)) (gOp bT (gOp k_ (aj 1) (gC (.int 11904))) (gC (.int 3)))) aA) [.dat (.lst (xs.map D.int)),.dat (.int c)] U=some (upD 0 m,U):=by simp[er]
  rw[eγ,ei]
  dsimp only
  rw[if_pos (by simpa using hml),h3]
theorem PN{xs:List Int}(hx:48<=xs.length)(a0 a2:Sl)(U:List OS)(r:List Sl):∃gs:List Int,gs.length=3/\dF [none,some 1] (gh jP (ao (gC (.int 3)) aA)) (bF 0) cN (gOp bT (aJ bI (ao (aJ b_ (ao (aj 1) (ao (gC (.int 1)) aA))) (ao (aj 0) aA))) (gC (.int 32))) (a0 :: .dat (.lst (xs.map D.int))::r) U=some (.lst (gs.map D.int),U):=by
 have e1:=vg (xs:=xs) (k:=1) (by omega) U
 have e1':b_ [.lst (xs.map D.int),.int 1] U=some (.int xs[1],U):=e1
 generalize xs[1]=c at *
 obtain⟨gs,h1,_,h3⟩:=uq (g:=(gOp bT (aJ bI (ao (aJ b_ (ao (aj 1) (ao (gC (.int 1)) aA))) (ao (aj 0) aA))) (gC (.int 32)))) (rest:=[.dat (.lst (xs.map D.int))]) (P:=fun _=>True) U ((List.range 3).map fun(k:Nat)=>0+(k:Int)) .und fun k hk=>by
  obtain⟨j,hj,rfl⟩:=List.mem_map.mp hk
  have:=List.mem_range.mp hj
  obtain⟨x,_,e⟩:=fH (c:=c) (k:=0+(j:Int)) (by omega) (by omega) U
  exact⟨x%32,trivial,by simp only[Int.zero_add] at e ⊢;simp[e1',e]⟩
 rw[<-vA] at h3
 have er:jP [.int 3]=some (upD 0 3):=zN (by decide) (by decide)
 have ei:cU [none,some 1] (a0 :: .dat (.lst (xs.map D.int))::r)=[.und,.dat (.lst (xs.map D.int))]:=rfl
 refine⟨gs,by simpa using h1,?_⟩
 rw[nJ]
 have eγ:gh jP (ao (gC (.int 3)) aA) (a0 :: .dat (.lst (xs.map D.int))::r) U=some (upD 0 3,U):=by simp[er]
 rw[eγ,ei]
 dsimp only
 rw[if_pos (by simp),h3]
theorem f12:¬(("length_by":Str) = "tellings_by"):=by decide +kernel
theorem f13:¬(("length_by":Str) = "mark_of"):=by decide +kernel
theorem f23:¬(("tellings_by":Str) = "mark_of"):=by decide +kernel
def blk(o:Nat):List OS:=[.ins "Ways" (fM o),.dK [],.dK [],.dK []]
theorem RV(U:List OS)(a:OS)(l:List OS):(U++a::l)[U.length]? = some a:=by simp
theorem Mi(U:List OS)(a a':OS)(l:List OS):(U++a::l).set U.length a'=U++a'::l:=by simp[List.set_append]
theorem La(U:List OS):cX [.obj U.length] (U++[.ins "Ways" []])=some (.non,U++blk U.length):=by
 have st:∀(f:Str) (fs:List (Str×D)) (l:List OS) (hf:fs.length<1000) {t:aU},aK (nC "Ways" f (aj 0) jJ) t [.dat (.obj U.length)] (U ++ .ins "Ways" fs::l)=t [.dat (.obj U.length)] (U ++ .ins "Ways" (jq f (.obj (U.length+l.length+1)) fs)::(l++[.dK []])):=fun f fs l hf t=>aN (by
  have e1:(U ++ .ins "Ways" fs::l)++[OS.dK []]=U ++ .ins "Ways" fs::(l++[.dK []]):=by simp
  have e2:(U ++ .ins "Ways" fs::l).length=U.length+l.length+1:=by simp;omega
  have e3:=RV U (.ins "Ways" fs) (l++[OS.dK []])
  have e4:=Mi U (.ins "Ways" fs) (.ins "Ways" (jq f (.obj (U.length+l.length+1)) fs)) (l++[OS.dK []])
  simp only[Ob,xR,oA,List.getElem?_cons_zero,e1,e2,e3,e4,hf,and_self,if_true])
 have st':∀(f:Str) (fs:List (Str×D)) (l:List OS) (hf:fs.length<1000),nC "Ways" f (aj 0) jJ [.dat (.obj U.length)] (U ++ .ins "Ways" fs::l)=some (.nx [.dat (.obj U.length)] (U ++ .ins "Ways" (jq f (.obj (U.length+l.length+1)) fs)::(l++[.dK []]))):=fun f fs l hf=>by
  have:=st f fs l hf (t:=aX)
  rw[tY] at this
  cases z:nC "Ways" f (aj 0) jJ [.dat (.obj U.length)] (U ++ .ins "Ways" fs::l) with
  | none=>rw[z] at this;cases this
  | some o =>
   rw[z] at this
   cases o with
   | nx Y' U'=>exact this
   | _=>cases this
 refine lL (Y':=[.dat (.obj U.length)]) rfl ?_
 have pl:∀(f:Str) (v:D) (fs:List (Str×D)),(jq f v fs).length<=fs.length+1:=fun f v fs=>by
  induction fs with
  | nil=>simp[jq]
  | cons p fs ih =>
   obtain⟨g,x⟩:=p
   unfold jq
   split
   ·simp
   ·simp;exact ih
 have p1:=pl "length_by" (.obj (U.length+([]:List OS).length+1)) []
 have p2:=pl "tellings_by" (.obj (U.length+([OS.dK []]:List OS).length+1)) (jq "length_by" (.obj (U.length+([]:List OS).length+1)) [])
 simp only[List.length_nil] at p1
 refine(st _ [] [] (by simp)).trans ((st _ _ _ (by simp only[List.length_nil];omega)).trans ((st' _ _ _ ?_).trans ?_))
 ·simp only[List.length_nil,List.nil_append] at p2 ⊢
  omega
 simp[jq,f12,f13,f23,blk,fM]
theorem Cd(Y:List Sl)(U:List OS):qJ "Ways" cX [] aA Y U=some (.obj U.length,U++blk U.length):=by
 have e:=La U
 simp[e]
theorem zu(U:List OS):iI [] U=some (.obj U.length,U++[.dK (fO U.length),.dK [],.dT [],.dK []]):=by
 refine bh rfl ?_
 have e:wI [("lengths",jJ),("told",zO),("marks",jJ)] [] U=some (.obj U.length,U++[.dK (fO U.length),.dK [],.dT [],.dK []]):=by
  have em:sS [] [((.inr "lengths":L2.Key),D.obj (U.length+1)),(.inr "told",.obj (U.length+2)),(.inr "marks",.obj (U.length+3))]=fO U.length:=by simp[sS,putD,fO,s12,s13,s23]
  have a1:=RV U (OS.dK []) [OS.dK [],.dT [],.dK []]
  have a2:=Mi U (OS.dK []) (OS.dK (fO U.length)) [OS.dK [],.dT [],.dK []]
  unfold wI jN jN jN jN
  simp only[xR,N_,List.append_assoc,List.cons_append,List.nil_append,List.length_append,List.length_cons,List.length_nil,Nat.zero_add,Nat.reduceAdd,Nat.add_assoc,a1,em,a2]
 rw[jR]
 exact(congrArg (fun z=>match z with |some (d,U')=>some (Out.rt d U') |none=>none) e).trans rfl
def Pl(o u o2 u2:Nat):Prop:=(o=0/\u=8/\o2=4/\u2=12)\/(o=4/\u=12/\o2=0/\u2=8)
theorem Pl.swap{o u o2 u2:Nat}(h:Pl o u o2 u2):Pl o2 u2 o u:=by
 rcases h with⟨rfl,rfl,rfl,rfl⟩ |⟨rfl,rfl,rfl,rfl⟩
 ·exact .inr ⟨rfl,rfl,rfl,rfl⟩
 ·exact .inl ⟨rfl,rfl,rfl,rfl⟩
def Wk(o u o2 u2:Nat)(U:List OS)(b:Nat)(es:List (Nat×List Int)):Prop:=∃L T X S M L2 T2 X2 S2 M2,Sd o u 17 U L T X S M b/\Sd o2 u2 17 U L2 T2 X2 S2 M2 b/\Hl 16 U es/\(∀j∈T.map (·.2),j∉T2.map (·.2))/\∀e∈es,17<=e.1/\e.1∉T.map (·.2)/\e.1∉T2.map (·.2)
theorem Wk.swap{o u o2 u2:Nat}{U b es}(h:Wk o u o2 u2 U b es):Wk o2 u2 o u U b es:=by
 obtain⟨L,T,X,S,M,L2,T2,X2,S2,M2,a,c,H,dj,de⟩:=h
 exact⟨L2,T2,X2,S2,M2,L,T,X,S,M,c,a,H,fun j h1 h2=>dj j h2 h1,fun e he=>⟨(de e he).1,(de e he).2.2,(de e he).2.1⟩⟩
theorem Sd.mono{o u B:Nat}{U L T X S M b b'}(s:Sd o u B U L T X S M b)(hb:b<=b'):Sd o u B U L T X S M b':=⟨s.w.mono hb,s.ow.of_eq hb fun _ _ _=>rfl,s.lk,s.iv,s.l0⟩
theorem Wk.mono{o u o2 u2:Nat}{U b b' es}(h:Wk o u o2 u2 U b es)(hb:b<=b'):Wk o u o2 u2 U b' es:=by
 obtain⟨L,T,X,S,M,L2,T2,X2,S2,M2,a,c,H,dj,de⟩:=h
 exact⟨L,T,X,S,M,L2,T2,X2,S2,M2,a.mono hb,c.mono hb,H,dj,de⟩
theorem Ce{o u:Nat}{U L T X S M b}(s:Sd o u 17 U L T X S M b):16∉T.map (·.2):=fun z=>by
 have:=s.w.T8 z
 omega
theorem Cg{o u:Nat}{U L T X S M b}(s:Sd o u 17 U L T X S M b){j:Nat}(hj:j∈T.map (·.2)):j<U.length:=by
 obtain⟨p,hp,rfl⟩:=List.mem_map.mp hj
 exact s.w.lt hp
theorem Wk.app{o u o2 u2:Nat}{U b es}(h:Wk o u o2 u2 U b es)(P:Pl o u o2 u2)(x:OS):Wk o u o2 u2 (U++[x]) b es:=by
 obtain⟨L,T,X,S,M,L2,T2,X2,S2,M2,a,c,H,dj,de⟩:=h
 have E:Eh 16 U (U++[x]):=⟨by simp,fun j hj _=>List.getElem?_append_left hj⟩
 unfold Pl at P
 refine⟨L,T,X,S,M,L2,T2,X2,S2,M2,a.of_eh E (by omega) (by omega) (by omega) (Ce a),c.of_eh E (by omega) (by omega) (by omega) (Ce c),⟨?_,fun e he=>?_,H.nd,H.nh,H.bk⟩,dj,de⟩
 ·rw[List.getElem?_append_left H.lt];exact H.hh
 ·have:=H.hi e he
  rw[List.getElem?_append_left (List.getElem?_eq_some_iff.mp this).1];exact this
theorem Wk.deed{o u o2 u2:Nat}{U b es}(h:Wk o u o2 u2 U b es)(P:Pl o u o2 u2)(hb:b<=380){gs:List Int}{d:D}(hd:lN gs d) :
  (∃fl c,(fl=flT\/fl=flN)/\fG [.obj u,d] U=some (fl,U)/\cG [.obj o,d] U=some (fl,U++[.exc c])) \/
  (fG [.obj u,d] U=some (.non,U)/\∃U1 U2 U3,cG [.obj o,d] U=some (.non,U1)/\gr [.obj u,d] U1=some (.non,U2)/\fQ [.obj u,.lst (gs.map D.int)] U2=some (.non,U3)/\Wk o u o2 u2 U3 (b+2) es):=by
 obtain⟨L,T,X,S,M,L2,T2,X2,S2,M2,a,c,H,dj,de⟩:=h
 have P':=P
 unfold Pl at P'
 have hB:=a.w.bg
 rcases KZ a hb (by omega) (by omega) hd with z |⟨z1,U1,U2,U3,L',T',X',S',M',z2,z3,z4,s',ch,nt⟩
 ·exact .inl z
 refine .inr ⟨z1,U1,U2,U3,z2,z3,z4,⟨L',T',X',S',M',L2,T2,X2,S2,M2,s',?_,⟨?_,fun e he=>?_,H.nd,H.nh,H.bk⟩,fun j h1 h2=>?_,fun e he=>⟨(de e he).1,fun z=>?_,(de e he).2.2⟩⟩⟩
 ·refine Sd.mono (b:=b) ⟨c.w.of_eq ch.1 fun j hj hc=>ch.2 j hj ?_ ?_ fun z=>?_,c.ow.of_eq (Nat.le_refl _) fun j h1 h2=>ch.2 j (by omega) (by omega) (by omega) fun z=>?_,c.lk,c.iv,c.l0⟩ (by omega)
  ·rcases hc with hc |hc
   ·omega
   ·have:=c.w.T8 hc
    omega
  ·rcases hc with hc |hc
   ·omega
   ·have:=c.w.T8 hc
    omega
  ·rcases hc with hc |hc
   ·have:=a.w.T8 z
    omega
   ·exact dj j z hc
  ·have:=a.w.T8 z
   omega
 ·rw[ch.2 16 H.lt (by omega) (by omega) (Ce a)];exact H.hh
 ·have e1:=H.hi e he
  have:=(de e he)
  rw[ch.2 e.1 (List.getElem?_eq_some_iff.mp e1).1 (by omega) (by omega) this.2.1];exact e1
 ·rcases nt j h1 with q |q
  ·exact dj j q h2
  ·have:=Cg c h2
   omega
 ·rcases nt e.1 z with q |q
  ·exact(de e he).2.1 q
  ·have:=(List.getElem?_eq_some_iff.mp (H.hi e he)).1
   omega
theorem Wk.right{o u o2 u2:Nat}{U b es}(h:Wk o u o2 u2 U b es)(P:Pl o u o2 u2)(hb:b<64){hs gs:List Int}(hg:gs.length<=1000)(hh:∀k∈hs,0<=k/\k<32)(hhl:hs.length<=1000)(hl:es.length<=900)(c:Int) :
  ∃U' es',dX [.obj o,.obj u,.lst (hs.map D.int),.lst (gs.map D.int),.int c,.obj 16] U=some (.bl true,U')/\Wk o u o2 u2 U' b es'/\es'.length<=es.length+5:=by
 obtain⟨L,T,X,S,M,L2,T2,X2,S2,M2,a,c',H,dj,de⟩:=h
 unfold Pl at P
 obtain⟨U',es',e,s',H',E',l',n'⟩:=zr (by omega) (by omega) hb (by omega) (Ce a) hg hh hhl a H hl c
 refine⟨U',es',e,⟨L,T,X,S,M,L2,T2,X2,S2,M2,s',c'.of_eh E' (by omega) (by omega) (by omega) (Ce c'),H',dj,fun e he=>?_⟩,l'⟩
 rcases n' e he with z |z
 ·exact de e z
 ·have hB:=a.w.bg
  exact⟨by omega,fun q=>by have:=Cg a q;omega,fun q=>by have:=Cg c' q;omega⟩
theorem zx{o u:Nat}{U L T X S M b}(a:Sd o u 17 U L T X S M b)(ou:o+4<=u)(uB:u+4<=17)(hb:b<64){hs gs:List Int}(hg:gs.length<=1000)(hh:∀k∈hs,0<=k/\k<32)(hhl:hs.length<=1000)(c:Int) :
  ∃U',dX [.obj o,.obj u,.lst (hs.map D.int),.lst (gs.map D.int),.int c,.obj U.length] (U++[.mls []])=some (.bl true,U')/\Eh U.length U U':=by
 have hT:U.length∉T.map (·.2):=fun z=>Nat.lt_irrefl _ (Cg a z)
 have hB:=a.w.bg
 have E:Eh U.length U (U++[OS.mls []]):=⟨by simp,fun j hj _=>List.getElem?_append_left hj⟩
 have a1:=a.of_eh E ou uB (by omega) hT
 have H0:Hl U.length (U++[OS.mls []]) []:=⟨by simp,fun e he=>(nomatch he),List.nodup_nil,fun z=>(nomatch z),fun e he=>(nomatch he)⟩
 obtain⟨U',es',e,s',H',E',l',n'⟩:=zr ou uB hb (by omega) hT hg hh hhl a1 H0 (by simp) c
 exact⟨U',e,E.trans E'⟩
end Law
namespace Law
open PySem DL
def tE:aU:=aK (sIf (gT (gOp gtD (gOp bT (aJ bI (ao (gOp ixD (aj 1) (aj 7)) (ao (gC (.int 11)) aA))) (gC (.int 3))) (gC (.int 0)))) Kp aX) (sIf (my (gT (aJ dX (ao (gOp ixD (aj 4) (aj 8)) (ao (gOp ixD (aj 5) (aj 8)) (ao (aj 2) (ao (aj 3) (ao (aJ bI (ao (gOp ixD (aj 1) (aj 7)) (ao (gC (.int 10)) aA))) (ao (aj 6) aA))))))))) (a_ (gC (.bl false))) aX)
def tR:aU:=aK (bD 9 (aJ gJ (ao (gOp ixD (aj 5) (aj 8)) (ao (aj 2) (ao (aj 3) (ao (gOp ixD (aj 1) (aj 7)) aA)))))) (aK (bD 10 (aJ fG (ao (gOp ixD (aj 5) (aj 8)) (ao (aj 9) aA)))) (aK (sIf (gT (gOp (eqD true) (aJ cG (ao (gOp ixD (aj 4) (aj 8)) (ao (aj 9) aA))) (aj 10))) (a_ (gC (.bl false))) aX) (aK (sIf (gT (gOp (isD false) (aj 10) (gC .non))) (aK (eV (aJ gr (ao (gOp ixD (aj 5) (aj 8)) (ao (aj 9) aA)))) (eV (aJ fQ (ao (gOp ixD (aj 5) (aj 8)) (ao (aj 3) aA))))) aX) tE)))
def tB:aU:=aK (bD 8 (gOp k_ (gOp bT (aJ bI (ao (gOp ixD (aj 1) (aj 7)) (ao (gC (.int 0)) aA))) (gC (.int 5))) (gC (.int 4)))) tR
def eB:aU:=aK (sIf (gT (qY true (gOp ixD (aj 11) (gC (.int 0))) (gOp ixD (aj 11) (gC (.int 1))))) (a_ (gC (.bl false))) aX) (pC (gOp ixD (aj 11) (gC (.int 0))) (gC (.int 99)))
abbrev TR(x0:Sl)(xs hs gs:List Int)(x7 x8 x9 x10 x11:Sl):List Sl:=[x0,.dat (.lst (xs.map D.int)),.dat (.lst (hs.map D.int)),.dat (.lst (gs.map D.int)),.dat (.lst [.obj 0,.obj 4]),.dat (.lst [.obj 8,.obj 12]),.dat (.obj 16),x7,x8,x9,x10,x11]
theorem Tw(lo:Int)(n:Nat):upD lo (n+1)=D.int lo::upD (lo+1) n:=by
 unfold upD
 rw[List.range_succ_eq_map,List.map_cons,List.map_map]
 congr 1
 ·simp
 ·apply List.map_congr_left
  intro k _
  simp
  omega
section
variable {o u o2 u2:Nat} {U:List OS} {b:Nat} {es:List (Nat×List Int)} {xs hs gs:List Int} {k:Nat} {sd:Int}
theorem Ir(h:Wk o u o2 u2 U b es)(P:Pl o u o2 u2)(hb:b<64)(hg:gs.length<=1000)(hh:∀k∈hs,0<=k/\k<32)(hhl:hs.length<=1000)(hl:es.length<=900)(hk:k<xs.length)(hO:L2.atI [D.obj 0,D.obj 4] sd=some (.obj o))(hU:L2.atI [D.obj 8,D.obj 12] sd=some (.obj u))(x0 x9 x10 x11:Sl) :
  ∃U' es',Wk o u o2 u2 U' b es'/\es'.length<=es.length+5/\(tE (TR x0 xs hs gs (.dat (.int k)) (.dat (.int sd)) x9 x10 x11) U=some (.nx (TR x0 xs hs gs (.dat (.int k)) (.dat (.int sd)) x9 x10 x11) U')\/tE (TR x0 xs hs gs (.dat (.int k)) (.dat (.int sd)) x9 x10 x11) U=some (.ct (TR x0 xs hs gs (.dat (.int k)) (.dat (.int sd)) x9 x10 x11) U')):=by
 have h2:L2.atI (xs.map D.int) (k:Int)=some (.int xs[k]):=by rw[tZ,gj _ _ hk];rfl
 obtain⟨m,_,em⟩:=fH (c:=xs[k]) (k:=11) (by omega) (by omega) U
 by_cases h3:m%3>0
 ·refine⟨U,es,h,by omega,.inr ?_⟩
  unfold tE
  rw[tY,mL,show gT (gOp gtD (gOp bT (aJ bI (ao (gOp ixD (aj 1) (aj 7)) (ao (gC (.int 11)) aA))) (gC (.int 3))) (gC (.int 0))) (TR x0 xs hs gs (.dat (.int k)) (.dat (.int sd)) x9 x10 x11) U=some (true,U) by simp[h2,em];omega]
  rfl
 ·obtain⟨m2,_,em2⟩:=fH (c:=xs[k]) (k:=10) (by omega) (by omega) U
  obtain⟨U',es',e,w',l'⟩:=h.right P hb hg hh hhl hl m2
  refine⟨U',es',w',l',.inl ?_⟩
  unfold tE
  refine(aN (Y':=TR x0 xs hs gs (.dat (.int k)) (.dat (.int sd)) x9 x10 x11) (U':=U) ?_).trans ?_
  ·rw[mL,show gT (gOp gtD (gOp bT (aJ bI (ao (gOp ixD (aj 1) (aj 7)) (ao (gC (.int 11)) aA))) (gC (.int 3))) (gC (.int 0))) (TR x0 xs hs gs (.dat (.int k)) (.dat (.int sd)) x9 x10 x11) U=some (false,U) by simp[h2,em];omega]
   rfl
  ·simp[h2,em2,hO,hU,e]
theorem Iu(h:Wk o u o2 u2 U b es)(P:Pl o u o2 u2)(hb:b<=60)(hs0:hs≠[])(gs0:gs≠[])(hg:gs.length<=1000)(hh:∀k∈hs,0<=k/\k<32)(hhl:hs.length<=1000)(hl:es.length<=900)(hk:k<xs.length)(hO:L2.atI [D.obj 0,D.obj 4] sd=some (.obj o))(hU:L2.atI [D.obj 8,D.obj 12] sd=some (.obj u))(x0 x9 x10 x11:Sl) :
  ∃U' es' y9 y10,Wk o u o2 u2 U' (b+2) es'/\es'.length<=es.length+5/\(tR (TR x0 xs hs gs (.dat (.int k)) (.dat (.int sd)) x9 x10 x11) U=some (.nx (TR x0 xs hs gs (.dat (.int k)) (.dat (.int sd)) y9 y10 x11) U')\/tR (TR x0 xs hs gs (.dat (.int k)) (.dat (.int sd)) x9 x10 x11) U=some (.ct (TR x0 xs hs gs (.dat (.int k)) (.dat (.int sd)) y9 y10 x11) U')):=by
 have h2:L2.atI (xs.map D.int) (k:Int)=some (.int xs[k]):=by rw[tZ,gj _ _ hk];rfl
 obtain⟨d,hd,ed⟩:∃d,lN gs d/\gJ [.obj u,.lst (hs.map D.int),.lst (gs.map D.int),.int xs[k]] U=some (d,U):=by
  obtain⟨L,T,X,S,M,L2,T2,X2,S2,M2,a,c,H,dj,de⟩:=h
  exact Ik a.ow a.lk (by omega) hs0 hh gs0 xs[k]
 have s1:∀{t:aU},aK (bD 9 (aJ gJ (ao (gOp ixD (aj 5) (aj 8)) (ao (aj 2) (ao (aj 3) (ao (gOp ixD (aj 1) (aj 7)) aA)))))) t (TR x0 xs hs gs (.dat (.int k)) (.dat (.int sd)) x9 x10 x11) U=t (TR x0 xs hs gs (.dat (.int k)) (.dat (.int sd)) (.dat d) x10 x11) U:=aN (by simp[h2,hU,ed])
 rcases h.deed P (by omega) hd with⟨fl,c,hf,e1,e2⟩ |⟨e1,U1,U2,U3,e2,e3,e4,w'⟩
 ·obtain⟨f1,f2⟩:=Tu fl hf
  obtain⟨U',es',w',l',ee⟩:=Ir (h.app P (.exc c)) P (by omega) hg hh hhl hl hk hO hU x0 (.dat d) (.dat fl) x11
  have s2:∀{t:aU},aK (bD 10 (aJ fG (ao (gOp ixD (aj 5) (aj 8)) (ao (aj 9) aA)))) t (TR x0 xs hs gs (.dat (.int k)) (.dat (.int sd)) (.dat d) x10 x11) U=t (TR x0 xs hs gs (.dat (.int k)) (.dat (.int sd)) (.dat d) (.dat fl) x11) U:=aN (by simp[hU,e1])
  have s3:∀{t:aU},aK (sIf (gT (gOp (eqD true) (aJ cG (ao (gOp ixD (aj 4) (aj 8)) (ao (aj 9) aA))) (aj 10))) (a_ (gC (.bl false))) aX) t (TR x0 xs hs gs (.dat (.int k)) (.dat (.int sd)) (.dat d) (.dat fl) x11) U=t (TR x0 xs hs gs (.dat (.int k)) (.dat (.int sd)) (.dat d) (.dat fl) x11) (U++[.exc c]):=aN (by simp[hO,e2,f1])
  have s4:∀{t a:aU},aK (sIf (gT (gOp (isD false) (aj 10) (gC .non))) a aX) t (TR x0 xs hs gs (.dat (.int k)) (.dat (.int sd)) (.dat d) (.dat fl) x11) (U++[.exc c])=t (TR x0 xs hs gs (.dat (.int k)) (.dat (.int sd)) (.dat d) (.dat fl) x11) (U++[.exc c]):=aN (by simp[f2])
  refine⟨U',es',.dat d,.dat fl,w'.mono (by omega),l',?_⟩
  unfold tR
  rw[s1,s2,s3,s4]
  exact ee
 ·obtain⟨U',es',w2,l',ee⟩:=Ir w' P (by omega) hg hh hhl hl hk hO hU x0 (.dat d) (.dat .non) x11
  have en:eqD true .non .non=some (.bl false):=qL true (by simp[pl]) (by simp[dep])
  have s2:∀{t:aU},aK (bD 10 (aJ fG (ao (gOp ixD (aj 5) (aj 8)) (ao (aj 9) aA)))) t (TR x0 xs hs gs (.dat (.int k)) (.dat (.int sd)) (.dat d) x10 x11) U=t (TR x0 xs hs gs (.dat (.int k)) (.dat (.int sd)) (.dat d) (.dat .non) x11) U:=aN (by simp[hU,e1])
  have s3:∀{t:aU},aK (sIf (gT (gOp (eqD true) (aJ cG (ao (gOp ixD (aj 4) (aj 8)) (ao (aj 9) aA))) (aj 10))) (a_ (gC (.bl false))) aX) t (TR x0 xs hs gs (.dat (.int k)) (.dat (.int sd)) (.dat d) (.dat .non) x11) U=t (TR x0 xs hs gs (.dat (.int k)) (.dat (.int sd)) (.dat d) (.dat .non) x11) U1:=aN (by simp[hO,e2,en])
  have s4:∀{t:aU},aK (sIf (gT (gOp (isD false) (aj 10) (gC .non))) (aK (eV (aJ gr (ao (gOp ixD (aj 5) (aj 8)) (ao (aj 9) aA)))) (eV (aJ fQ (ao (gOp ixD (aj 5) (aj 8)) (ao (aj 3) aA))))) aX) t (TR x0 xs hs gs (.dat (.int k)) (.dat (.int sd)) (.dat d) (.dat .non) x11) U1=t (TR x0 xs hs gs (.dat (.int k)) (.dat (.int sd)) (.dat d) (.dat .non) x11) U3:=aN (by
   rw[mL,show gT (gOp (isD false) (aj 10) (gC .non)) (TR x0 xs hs gs (.dat (.int k)) (.dat (.int sd)) (.dat d) (.dat .non) x11) U1=some (true,U1) by simp[isD,isNone]]
   dsimp only
   refine(aN (Y':=TR x0 xs hs gs (.dat (.int k)) (.dat (.int sd)) (.dat d) (.dat .non) x11) (U':=U2) (by simp[hU,e3])).trans ?_
   simp[hU,e4])
  refine⟨U',es',.dat d,.dat .non,w2,l',?_⟩
  unfold tR
  rw[s1,s2,s3,s4]
  exact ee
theorem RW(h:Wk 0 8 4 12 U b es)(hb:b<=60)(hs0:hs≠[])(gs0:gs≠[])(hg:gs.length<=1000)(hh:∀k∈hs,0<=k/\k<32)(hhl:hs.length<=1000)(hl:es.length<=900)(hk:k<xs.length)(x0 x8 x9 x10 x11:Sl) :
  ∃U' es' y8 y9 y10,Wk 0 8 4 12 U' (b+2) es'/\es'.length<=es.length+5/\(tB (TR x0 xs hs gs (.dat (.int k)) x8 x9 x10 x11) U=some (.nx (TR x0 xs hs gs (.dat (.int k)) y8 y9 y10 x11) U')\/tB (TR x0 xs hs gs (.dat (.int k)) x8 x9 x10 x11) U=some (.ct (TR x0 xs hs gs (.dat (.int k)) y8 y9 y10 x11) U')):=by
 have h2:L2.atI (xs.map D.int) (k:Int)=some (.int xs[k]):=by rw[tZ,gj _ _ hk];rfl
 obtain⟨m,_,em⟩:=fH (c:=xs[k]) (k:=0) (by omega) (by omega) U
 have s1:∀{t:aU},aK (bD 8 (gOp k_ (gOp bT (aJ bI (ao (gOp ixD (aj 1) (aj 7)) (ao (gC (.int 0)) aA))) (gC (.int 5))) (gC (.int 4)))) t (TR x0 xs hs gs (.dat (.int k)) x8 x9 x10 x11) U=t (TR x0 xs hs gs (.dat (.int k)) (.dat (.int (m%5 / 4))) x9 x10 x11) U:=aN (by simp[h2,em])
 unfold tB
 simp only[s1]
 rcases (by omega:m%5 / 4=0\/m%5 / 4=1) with z |z
 ·rw[z]
  obtain⟨U',es',y9,y10,w',l',e⟩:=Iu h (.inl ⟨rfl,rfl,rfl,rfl⟩) hb hs0 gs0 hg hh hhl hl hk (sd:=0) rfl rfl x0 x9 x10 x11
  exact⟨U',es',_,y9,y10,w',l',e⟩
 ·rw[z]
  obtain⟨U',es',y9,y10,w',l',e⟩:=Iu h.swap (.inr ⟨rfl,rfl,rfl,rfl⟩) hb hs0 gs0 hg hh hhl hl hk (sd:=1) rfl rfl x0 x9 x10 x11
  exact⟨U',es',_,y9,y10,w'.swap,l',e⟩
theorem turns(hs0:hs≠[])(gs0:gs≠[])(hg:gs.length<=1000)(hh:∀k∈hs,0<=k/\k<32)(hhl:hs.length<=1000)(x0 x11:Sl):∀(n k:Nat) (U:List OS) (b:Nat) (es:List (Nat×List Int)) (x7 x8 x9 x10:Sl),k+n<=xs.length->Wk 0 8 4 12 U b es->b+2*n<=62->es.length+5*n<=900 ->
  ∃U' es' y7 y8 y9 y10,Wk 0 8 4 12 U' (b+2*n) es'/\es'.length<=es.length+5*n/\eF (bF 7) tB (upD k n) (TR x0 xs hs gs x7 x8 x9 x10 x11) U=some (.nx (TR x0 xs hs gs y7 y8 y9 y10 x11) U')
 | 0,k,U,b,es,x7,x8,x9,x10,_,w,_,_=>⟨U,es,x7,x8,x9,x10,w,Nat.le_refl _,rfl⟩
 | n+1,k,U,b,es,x7,x8,x9,x10,hk,w,hb,hl=>by
  obtain⟨U1,es1,y8,y9,y10,w1,l1,e1⟩:=RW w (by omega) hs0 gs0 hg hh hhl (by omega) (xs:=xs) (k:=k) (by omega) x0 x8 x9 x10 x11
  obtain⟨U2,es2,z7,z8,z9,z10,w2,l2,e2⟩:=turns hs0 gs0 hg hh hhl x0 x11 n (k+1) U1 (b+2) es1 (.dat (.int k)) y8 y9 y10 (by omega) w1 (by omega) (by omega)
  refine⟨U2,es2,z7,z8,z9,z10,by rw[show b+2*(n+1)=b+2+2*n by omega];exact w2,by omega,?_⟩
  rw[Tw,i_,show bF 7 (.int k) (TR x0 xs hs gs x7 x8 x9 x10 x11)=some (TR x0 xs hs gs (.dat (.int k)) x8 x9 x10 x11) from rfl]
  dsimp only
  rw[show((k:Int)+1)=((k+1:Nat):Int) by omega]
  rcases e1 with e1 |e1
  ·rw[e1];exact e2
  ·rw[e1];exact e2
end
end Law
namespace Law
open PySem DL
theorem Ci{x0 x7 x8 x9 x10:Sl}{xs hs gs:List Int}{ds:List D}:∀(rest:List (Nat×List Int)) (U:List OS) (x11:Sl),U[16]? = some (.mls ds)->(∀e∈rest,U[e.1]? = some (.mls (e.2.map D.int)))->(rest.map (·.1)).Nodup->16∉rest.map (·.1)->(∀e∈rest,e.2.length<=1000) ->
  ∃U' y11,DL.forM (bF 11) eB 16 ds (rest.map prD) (TR x0 xs hs gs x7 x8 x9 x10 x11) U=some (.nx (TR x0 xs hs gs x7 x8 x9 x10 y11) U')/\U'.length=U.length/\∀j,j∉rest.map (·.1)->U'[j]? = U[j]?
 | [],U,x11,h16,_,_,_,_=>⟨U,x11,by
   rw[List.map_nil]
   unfold DL.forM
   rw[gD h16],rfl,fun _ _=>rfl⟩
 | (i,ks)::rest,U,x11,h16,hi,nd,n16,bk=>by
  rw[List.map_cons,List.nodup_cons] at nd
  have ei:=hi (i,ks) List.mem_cons_self
  have bi:=bk (i,ks) List.mem_cons_self
  dsimp only at ei bi
  have ni:i≠16:=fun z=>n16 (by rw[List.map_cons,z];exact List.mem_cons_self)
  obtain⟨U',y11,e,l,k⟩:=Ci (x0:=x0) (x7:=x7) (x8:=x8) (x9:=x9) (x10:=x10) (xs:=xs) (hs:=hs) (gs:=gs) (ds:=ds) rest (U.set i (.mls (ks.map D.int++[.int 99]))) (.dat (prD (i,ks))) (by rw[List.getElem?_set_ne ni];exact h16)
   (fun e he=>by
    rw[List.getElem?_set_ne (fun z=>nd.1 (List.mem_map.mpr ⟨e,he,z.symm⟩))]
    exact hi e (List.mem_cons_of_mem _ he)) nd.2 (fun z=>n16 (List.mem_cons_of_mem _ z)) (fun e he=>bk e (List.mem_cons_of_mem _ he))
  refine⟨U',y11,?_,by rw[l,List.length_set],fun j hj=>?_⟩
  ·have eE:eB (TR x0 xs hs gs x7 x8 x9 x10 (.dat (prD (i,ks)))) U=some (.nx (TR x0 xs hs gs x7 x8 x9 x10 (.dat (prD (i,ks)))) (U.set i (.mls (ks.map D.int++[.int 99])))):=by
    have g0:gOp ixD (aj 11) (gC (.int 0)) (TR x0 xs hs gs x7 x8 x9 x10 (.dat (prD (i,ks)))) U=some (.obj i,U):=rfl
    have g1:gOp ixD (aj 11) (gC (.int 1)) (TR x0 xs hs gs x7 x8 x9 x10 (.dat (prD (i,ks)))) U=some (.lst (ks.map D.int),U):=rfl
    have eq:=Nx true ks ks
    have gm:qY true (gOp ixD (aj 11) (gC (.int 0))) (gOp ixD (aj 11) (gC (.int 1))) (TR x0 xs hs gs x7 x8 x9 x10 (.dat (prD (i,ks)))) U=some (.bl false,U):=by
     unfold qY
     simp only[g0,g1,Option.bind_some,gY,ei,iz,eq,if_true,decide_true,Bool.not_true]
    have hb:(ks.map D.int).length<big:=by have:big=100000:=rfl;simp;omega
    unfold eB
    refine(aN (Y':=TR x0 xs hs gs x7 x8 x9 x10 (.dat (prD (i,ks)))) (U':=U) ?_).trans ?_
    ·rw[mL]
     generalize qY true (gOp ixD (aj 11) (gC (.int 0))) (gOp ixD (aj 11) (gC (.int 1)))=Zoo at gm ⊢
     simp[gm]
    ·unfold pC
     simp only[g0,Option.bind_some,gY,ei,iz,Up,hb,if_true]
   rw[List.map_cons]
   unfold DL.forM
   rw[gD h16,show bF 11 (prD (i,ks)) (TR x0 xs hs gs x7 x8 x9 x10 x11)=some (TR x0 xs hs gs x7 x8 x9 x10 (.dat (prD (i,ks)))) from rfl]
   dsimp only
   rw[eE]
   exact e
  ·rw[List.map_cons,List.mem_cons,not_or] at hj
   rw[k j hj.2,List.getElem?_set_ne (fun z=>hj.1 z.symm)]
def U0:List OS:=[.ins "Ways" (fM 0),.dK [],.dK [],.dK [],.ins "Ways" (fM 4),.dK [],.dK [],.dK [],.dK (fO 8),.dK [],.dT [],.dK [],.dK (fO 12),.dK [],.dT [],.dK [],.mls []]
theorem wk0:Wk 0 8 4 12 U0 0 []:=by
 have lk:Lnk [] (fun _=>[]) []:=⟨fun g n l h=>(nomatch h),fun g n h=>rfl⟩
 have iv:∀g,IV [] (fun _=>[]) [] g:=fun g n l num f h=>(nomatch h)
 have l0:∀n l,aH ([]:List (Int×Int)) n=some l->0<=l:=fun n l h=>(nomatch h)
 refine⟨[],[],fun _=>[],[],[],[],[],fun _=>[],[],[],⟨⟨rfl,rfl,rfl,rfl,fun n i h=>(nomatch h),List.nodup_nil,rfl,List.nodup_nil,Nat.le_refl _,Nat.le_refl _,fun _=>Nat.le_refl _,by decide,by decide⟩,⟨rfl,rfl,rfl,rfl,List.nodup_nil,List.nodup_nil,Nat.le_refl _,Nat.le_refl _,Nat.le_refl _,List.nodup_nil⟩,lk,iv,l0⟩,⟨⟨rfl,rfl,rfl,rfl,fun n i h=>(nomatch h),List.nodup_nil,rfl,List.nodup_nil,Nat.le_refl _,Nat.le_refl _,fun _=>Nat.le_refl _,by decide,by decide⟩,⟨rfl,rfl,rfl,rfl,List.nodup_nil,List.nodup_nil,Nat.le_refl _,Nat.le_refl _,Nat.le_refl _,List.nodup_nil⟩,lk,iv,l0⟩,⟨rfl,fun e he=>(nomatch he),List.nodup_nil,fun z=>(nomatch z),fun e he=>(nomatch he)⟩,fun j hj=>(nomatch hj),fun e he=>(nomatch he)⟩
theorem Sd.of_held{o u:Nat}{U U':List OS}{L T X S M b}{es:List (Nat×List Int)}(s:Sd o u 17 U L T X S M b)(ou:o+4<=u)(uB:u+4<=17)(hl:U'.length=U.length)(de:∀e∈es,17<=e.1/\e.1∉T.map (·.2))(k:∀j,j∉es.map (·.1)->U'[j]? = U[j]?):Sd o u 17 U' L T X S M b:=by
 refine⟨s.w.of_eq (Nat.le_of_eq hl.symm) fun j hj hc=>k j fun z=>?_,s.ow.of_eq (Nat.le_refl _) fun j h1 h2=>k j fun z=>?_,s.lk,s.iv,s.l0⟩
 ·obtain⟨e,he,rfl⟩:=List.mem_map.mp z
  have:=de e he
  rcases hc with hc |hc
  ·omega
  ·exact this.2 hc
 ·obtain⟨e,he,rfl⟩:=List.mem_map.mp z
  have:=de e he
  omega
theorem holds(ns:List Int)(hn:ns.length<=63):∃U,uf [.scr ns] []=some (.bl true,U):=by
 obtain⟨xs,l1,l2,hx,ex⟩:=Ie hn []
 obtain⟨hs,hs0,hsl,hsb,eh⟩:=Gf (xs:=xs) (by omega) []
 obtain⟨gs,gl,eg⟩:=PN (xs:=xs) (by omega) (.dat (.scr ns)) .und [] [.dat (.lst (hs.map D.int)),.und,.und,.und,.und,.und,.und,.und,.und,.und]
 have gs0:gs≠[]:=fun z=>by rw[z] at gl;cases gl
 have ec:∀U,b_ [.lst (xs.map D.int),.int 1] U=some (.int xs[1],U):=fun U=>vg (k:=1) (by omega) U
 obtain⟨c,hc⟩:∃c,xs[1]=c:=⟨_,rfl⟩
 simp only[hc] at ec
 obtain⟨n,hn',hn2⟩:∃n:Nat,(n:Int)=8+c%15-2/\n<=20:=⟨(8+c%15-2).toNat,by omega,by omega⟩
 obtain⟨U1,es,y7,y8,y9,y10,w1,le,e1⟩:=turns hs0 gs0 (by omega) hsb hsl (.dat (.scr ns)) .und n 2 U0 0 [] .und .und .und .und (xs:=xs) (by omega) wk0 (by omega) (by simp;omega)
 obtain⟨L,T,X,S,M,L2,T2,X2,S2,M2,a,c',H,dj,de⟩:=w1
 obtain⟨U2,y11,e2,l2',k2⟩:=Ci (x0:=.dat (.scr ns)) (x7:=y7) (x8:=y8) (x9:=y9) (x10:=y10) (xs:=xs) (hs:=hs) (gs:=gs) es U1 .und H.hh H.hi H.nd H.nh H.bk
 have a2:=a.of_held (by omega) (by omega) l2' (fun e he=>⟨(de e he).1,(de e he).2.1⟩) k2
 have c2:=c'.of_held (by omega) (by omega) l2' (fun e he=>⟨(de e he).1,(de e he).2.2⟩) k2
 obtain⟨U3,e3,E3⟩:=zx a2 (by omega) (by omega) (by omega) (gs:=gs) (by omega) hsb hsl 7
 have c3:=c2.of_eh E3 (by omega) (by omega) (by have:=c2.w.bg;omega) (fun z=>Nat.lt_irrefl _ (Cg c2 z))
 obtain⟨U4,e4,_⟩:=zx c3 (by omega) (by omega) (by omega) (gs:=gs) (by omega) hsb hsl 12
 refine⟨U4,bh rfl ?_⟩
 refine(aN (Y':=[.dat (.scr ns),.dat (.lst (xs.map D.int)),.und,.und,.und,.und,.und,.und,.und,.und,.und,.und]) (U':=[]) (by simp[ex])).trans ?_
 refine(aN (Y':=[.dat (.scr ns),.dat (.lst (xs.map D.int)),.dat (.lst (hs.map D.int)),.und,.und,.und,.und,.und,.und,.und,.und,.und]) (U':=[]) (by simp[eh])).trans ?_
 refine(aN (vZ eg)).trans ?_
 have m1:=fun Y=>Cd Y []
 have m2:=fun Y=>Cd Y ([]++blk 0)
 refine(aN (Y':=[.dat (.scr ns),.dat (.lst (xs.map D.int)),.dat (.lst (hs.map D.int)),.dat (.lst (gs.map D.int)),.dat (.lst [.obj 0,.obj 4]),.und,.und,.und,.und,.und,.und,.und]) (U':=[]++blk 0++blk 4) ?_).trans ?_
 ·refine vZ ?_
  rw[vY,eN,m1]
  dsimp only
  rw[eN]
  have:=m2 [.dat (.scr ns),.dat (.lst (xs.map D.int)),.dat (.lst (hs.map D.int)),.dat (.lst (gs.map D.int)),.und,.und,.und,.und,.und,.und,.und,.und]
  rw[show([]:List OS).length=0 from rfl]
  exact(congrArg (fun z=>match(match z with |some (d,U')=>(match aA [] U' with |some (ds,U2)=>some (d::ds,U2) |none=>none) |none=>none) with |some (ds,U2)=>(if(D.obj 0::ds).length<=100000 then some (D.lst (D.obj 0::ds),U2) else none) |none=>none) this).trans rfl
 have b1:iI [] ([]++blk 0++blk 4)=some (.obj 8,[]++blk 0++blk 4++[.dK (fO 8),.dK [],.dT [],.dK []]):=zu _
 have b2:iI [] ([]++blk 0++blk 4++[.dK (fO 8),.dK [],.dT [],.dK []])=some (.obj 12,[]++blk 0++blk 4++[.dK (fO 8),.dK [],.dT [],.dK []]++[.dK (fO 12),.dK [],.dT [],.dK []]):=zu _
 refine(aN (Y':=[.dat (.scr ns),.dat (.lst (xs.map D.int)),.dat (.lst (hs.map D.int)),.dat (.lst (gs.map D.int)),.dat (.lst [.obj 0,.obj 4]),.dat (.lst [.obj 8,.obj 12]),.und,.und,.und,.und,.und,.und]) (U':=[]++blk 0++blk 4++[.dK (fO 8),.dK [],.dT [],.dK []]++[.dK (fO 12),.dK [],.dT [],.dK []]) ?_).trans ?_
 ·refine vZ ?_
  rw[vY,eN,pZ,mK]
  dsimp only
  rw[b1]
  dsimp only
  rw[eN,pZ,mK]
  dsimp only
  rw[b2]
  rfl
 refine(aN (Y':=TR (.dat (.scr ns)) xs hs gs .und .und .und .und .und) (U':=U0) rfl).trans ?_
 refine(aN (Y':=TR (.dat (.scr ns)) xs hs gs y7 y8 y9 y10 .und) (U':=U1) ?_).trans ?_
 ·show n_ _ _ tB (TR (.dat (.scr ns)) xs hs gs .und .und .und .und .und) U0=_
  have r2:=Te (i:=2) (j:=8+c%15) (by omega) (by omega) (by omega) (by omega)
  rw[show(8+c%15-2).toNat=n by omega] at r2
  rw[rW,show gh Ao (ao (gC (.int 2)) (ao (gOp bY (gC (.int 8)) (gOp bT (aJ b_ (ao (aj 1) (ao (gC (.int 1)) aA))) (gC (.int 15)))) aA)) (TR (.dat (.scr ns)) xs hs gs .und .und .und .und .und) U0=some (upD 2 n,U0) by
   rw[Hq]
   simp[ec,r2]]
  exact e1
 refine(aN (Y':=TR (.dat (.scr ns)) xs hs gs y7 y8 y9 y10 y11) (U':=U2) ?_).trans ?_
 ·show zQ (aj 6) (bF 11) eB (TR (.dat (.scr ns)) xs hs gs y7 y8 y9 y10 .und) U1=_
  have h16:=H.hh
  unfold zQ
  simp only[oA,List.getElem?_cons_zero,List.getElem?_cons_succ,Option.bind_some,gY,h16,iz]
  exact e2
 refine(aN (Y':=TR (.dat (.scr ns)) xs hs gs y7 y8 y9 y10 y11) (U':=U3) ?_).trans ?_
 ·have ga:ao (gOp ixD (aj 4) (gC (.int 0))) (ao (gOp ixD (aj 5) (gC (.int 0))) (ao (aj 2) (ao (aj 3) (ao (gC (.int 7)) (ao (pB aA) aA))))) (TR (.dat (.scr ns)) xs hs gs y7 y8 y9 y10 y11) U2=some ([.obj 0,.obj 8,.lst (hs.map D.int),.lst (gs.map D.int),.int 7,.obj U2.length],U2++[.mls []]):=rfl
  have gc:aJ dX (ao (gOp ixD (aj 4) (gC (.int 0))) (ao (gOp ixD (aj 5) (gC (.int 0))) (ao (aj 2) (ao (aj 3) (ao (gC (.int 7)) (ao (pB aA) aA)))))) (TR (.dat (.scr ns)) xs hs gs y7 y8 y9 y10 y11) U2=some (.bl true,U3):=by
   rw[pZ,ga]
   exact e3
  generalize aJ dX (ao (gOp ixD (aj 4) (gC (.int 0))) (ao (gOp ixD (aj 5) (gC (.int 0))) (ao (aj 2) (ao (aj 3) (ao (gC (.int 7)) (ao (pB aA) aA))))))=Zoo at gc ⊢
  simp[gc]
 ·have ga:ao (gOp ixD (aj 4) (gC (.int 1))) (ao (gOp ixD (aj 5) (gC (.int 1))) (ao (aj 2) (ao (aj 3) (ao (gC (.int 12)) (ao (pB aA) aA))))) (TR (.dat (.scr ns)) xs hs gs y7 y8 y9 y10 y11) U3=some ([.obj 4,.obj 12,.lst (hs.map D.int),.lst (gs.map D.int),.int 12,.obj U3.length],U3++[.mls []]):=rfl
  rw[jR,pZ,ga]
  dsimp only
  rw[e4]
end Law
namespace Law
open PySem PySem.Spec PyProof.Rows L2 DL
set_option maxHeartbeats 4000000
seal PD PDA PDS PDB PDT PDI PDG RD RDS RDB PV
def top(i:Nat):Stmt:=PySem.Challenge.pw_posthouse_k16_ways_deed_by_deed.main.body.getD i (.Pass ⟨0,0,0,0⟩)
abbrev iJ:Stmt:=top 18
abbrev fW:Stmt:=top 19
abbrev eY:Stmt:=top 29
abbrev iM:Stmt:=top 21
abbrev dM:Stmt:=top 22
abbrev dh:Stmt:=top 22
abbrev cF:Stmt:=inClass (top 16) 6
abbrev dw:Stmt:=inClass (top 16) 7
abbrev dN:Stmt:=top 22
abbrev cY:Stmt:=inClass (top 16) 1
abbrev dZ:Stmt:=inClass (top 16) 5
abbrev d_:Stmt:=top 33
abbrev h_:Stmt:=inClass (top 16) 8
abbrev dD:Stmt:=top 15
abbrev jC:Stmt:=top 11
abbrev iQ:Stmt:=top 12
abbrev jd:Stmt:=inClass (top 16) 9
abbrev gM:Stmt:=top 23
abbrev kJ:Stmt:=top 24
abbrev kO:Stmt:=top 26
abbrev ie:Stmt:=top 34
abbrev fX:Stmt:=top 35
abbrev dO:Stmt:=inClass (top 16) 0
abbrev iR:Stmt:=top 25
abbrev kW:Stmt:=top 20
abbrev iT:Stmt:=top 30
abbrev kY:Stmt:=top 32
abbrev gP:Stmt:=inClass (top 16) 2
abbrev fu:Stmt:=inClass (top 16) 3
abbrev gQ:Stmt:=top 13
abbrev fY:Stmt:=inClass (top 16) 4
abbrev iV:Stmt:=top 31
abbrev jD:Stmt:=top 28
abbrev gR:Stmt:=top 27
abbrev lO:Stmt:=top 36
abbrev yq:List Value:=[.type "ValueError",.type "Exception",.type "BaseException",.type "object"]
section
variable {P:Program} {w:World} {K:PySem.W.Frag} {mg:Str->Option Value} {base:Heap} {C:Cl}
theorem Lb:∀t∈["NoneType","bool","int","str","tuple","list"],PySem.W.kitOne K (.type t) (.type "bool")=some (decide (t = "bool") || (decide (t = "bool") && decide ("bool" = "int"))):=by
 intro t ht
 simp only[List.mem_cons,List.not_mem_nil,or_false] at ht
 rcases ht with rfl |rfl |rfl |rfl |rfl |rfl<;>rfl
theorem PQ:∀t∈["NoneType","bool","int","str","tuple","list"],PySem.W.kitOne K (.type t) (.type "int")=some (decide (t = "int") || (decide (t = "bool") && decide ("int" = "int"))):=by
 intro t ht
 simp only[List.mem_cons,List.not_mem_nil,or_false] at ht
 rcases ht with rfl |rfl |rfl |rfl |rfl |rfl<;>rfl
theorem mj:∀t∈["NoneType","bool","int","str","tuple","list"],PySem.W.kitOne K (.type t) (.type "list")=some (decide (t = "list") || (decide (t = "bool") && decide ("list" = "int"))):=by
 intro t ht
 simp only[List.mem_cons,List.not_mem_nil,or_false] at ht
 rcases ht with rfl |rfl |rfl |rfl |rfl |rfl<;>rfl
theorem kit_tuple:∀t∈["NoneType","bool","int","str","tuple","list"],PySem.W.kitOne K (.type t) (.type "tuple")=some (decide (t = "tuple") || (decide (t = "bool") && decide ("tuple" = "int"))):=by
 intro t ht
 simp only[List.mem_cons,List.not_mem_nil,or_false] at ht
 rcases ht with rfl |rfl |rfl |rfl |rfl |rfl<;>rfl
theorem lQ:∀t∈["NoneType","bool","int","str","tuple","list"],PySem.W.kitAny K (.type t) (["tuple","list"].map Value.type)=some (["tuple","list"].any fun T=>decide (t=T) || (decide (t = "bool") && decide (T = "int"))):=by
 intro t ht
 simp only[List.mem_cons,List.not_mem_nil,or_false] at ht
 rcases ht with rfl |rfl |rfl |rfl |rfl |rfl<;>rfl
theorem wX:FnScope ["_law_script","_law_found","_law_more","_law_cell"] ["_law_script"] (au iJ):=⟨rfl,rfl,rfl,by decide +kernel,rfl,by decide +kernel,by decide +kernel⟩
theorem Gg(T:TF K mg "_law_mixed" iJ)(aas:mg "len" = none):Fn P w K mg base C 1 "_law_mixed" mQ :=
 fP T wX rfl rfl (fun _ _ _ _ _ _ us hl=>sJ us hl (fun _=>rfl)) fun f cdv A outer sh H E hr =>
  have nd:(bG CX0 P w K mg base ["_law_script","_law_found","_law_more","_law_cell"] "_law_mixed" (au iJ) f cdv A outer sh H E).nox.N.Nodup:=wX.nd
  (aF (xO (i:=1) nd rfl (by first |exact Or.inl rfl |exact Or.inr rfl) aB) (aF (bC (i:=2) nd rfl (by first |exact Or.inl rfl |exact Or.inr rfl) az) (aF (pY PassesOwn.never rfl (jY (ak (pv 0))) (di nd rfl (by first |exact Or.inl rfl |exact Or.inr rfl)) (aF (bC (i:=2) nd rfl (by first |exact Or.inl rfl |exact Or.inr rfl) (aV bU (aV cu (aV cu (aV fB (ak (pv 2)) az) (ak (pv 3))) az) az)) (aG (tX (pv 1) (ak (pv 2)))))) (aF (Hi 1000 PassesOwn.never (aZ rO (Rm rfl aas PySem.boot_len (Oc (pv 1))) az (aR _)) (aF (bC (i:=2) nd rfl (by first |exact Or.inl rfl |exact Or.inr rfl) (aV bU (aV cu (aV fB (ak (pv 2)) az) az) az)) (aG (tX (pv 1) (ak (pv 2)))))) (rR (rT 1) (aG (aQ (ak (pv 1)))))))))
theorem sZ:FnScope ["_law_cells","_law_k"] ["_law_cells","_law_k"] (au fW):=⟨rfl,rfl,rfl,by decide +kernel,rfl,by decide +kernel,by decide +kernel⟩
theorem Cj(T:TF K mg "_law_cell_at" fW)(aas:mg "len" = none):Fn P w K mg base C 1 "_law_cell_at" b_ :=
 fP T sZ rfl rfl (fun _ _ _ _ _ _ us hl=>jb us hl (fun _ _=>rfl)) fun f cdv A outer sh H E hr =>
  have nd:(bG CX0 P w K mg base ["_law_cells","_law_k"] "_law_cell_at" (au fW) f cdv A outer sh H E).nox.N.Nodup:=sZ.nd
  (aF (bj (aZ rO (ak (pv 1)) (cM iG rfl aas PySem.boot_len (aq (ak (pv 0)) aB)) (aR _)) (aG (aQ (aL (ak (pv 0)) (ak (pv 1))))) bf) (aG (aQ (aV fB (aV fB (aV cu (ak (pv 1)) az) (aV cu (ak (pv 1)) az)) az))))
theorem uE:FnScope ["_law_cells","_law_cell"] ["_law_cells"] (au eY):=⟨rfl,rfl,rfl,by decide +kernel,rfl,by decide +kernel,by decide +kernel⟩
theorem CZ(T:TF K mg "_law_houses" eY)(aa9:mg "range" = none)(aad:Fn P w K mg base C 1 "_law_cell_at" b_):Fn P w K mg base C 2 "_law_houses" lF :=
 fP T uE rfl rfl (fun _ _ _ _ _ _ us hl=>sJ us hl (fun _=>rfl)) fun f cdv A outer sh H E hr =>
  have nd:(bG CX0 P w K mg base ["_law_cells","_law_cell"] "_law_houses" (au eY) f cdv A outer sh H E).nox.N.Nodup:=uE.nd
  (aF (bC (i:=1) nd rfl (by first |exact Or.inl rfl |exact Or.inr rfl) (aO aad (hr.mono (by decide)) rfl (aq (ak (pv 0)) (aq az aB)))) (aF (bj (aZ (cC hr.units) (aV bU (ak (pv 1)) az) az (aR _)) (aG (aQ (jZ rfl (fU (oN:=["_law_cells","_law_cell"]) (osc:=au eY) (N:=["_law_k"]) (μ:=[none]) rfl rfl (by decide +kernel)) (mZ rfl aa9 (aq az aB)) (fun _ _ _ _=>(di (show List.Nodup (["_law_k"]:List Str) by decide +kernel) rfl (by first |exact Or.inl rfl |exact Or.inr rfl))) (fun _ _ _ _=>gW) (fun _ _ _ _=>(ak (pv 0)))))) bf) (aG (aQ (jZ rfl (fU (oN:=["_law_cells","_law_cell"]) (osc:=au eY) (N:=["_law_k","_law_cell"]) (μ:=[none,some 1]) rfl rfl (by decide +kernel)) (mZ rfl aa9 (aq (aV cu az (aV bU (aV pR (ak (pv 1)) az) az)) aB)) (fun _ _ _ _=>(di (show List.Nodup (["_law_k","_law_cell"]:List Str) by decide +kernel) rfl (by first |exact Or.inl rfl |exact Or.inr rfl))) (fun _ _ _ _=>gW) (fun _ _ _ _=>(aV bU (aV cu (aV pR (ak (pv 1)) az) (aV fB (ak (pv 0)) (aV cu az (aV bU (aV pR (ak (pv 1)) az) az)))) az)))))))
theorem wY:FnScope ["_law_found"] ["_law_found"] (au iM):=⟨rfl,rfl,rfl,by decide +kernel,rfl,by decide +kernel,by decide +kernel⟩
theorem Gh(T:TF K mg "_law_whole" iM)(akX:mg "bool" = none)(ak2:mg "int" = none)(d9:mg "isinstance" = none):Fn P w K mg base C 1 "_law_whole" dW :=
 fP T wY rfl rfl (fun _ _ _ _ _ _ us hl=>sJ us hl (fun _=>rfl)) fun f cdv A outer sh H E hr =>
  have nd:(bG CX0 P w K mg base ["_law_found"] "_law_whole" (au iM) f cdv A outer sh H E).nox.N.Nodup:=wY.nd
  (aG (aQ (lq (dR (ak (pv 0)) (cL rfl ak2 boot_int rfl) rfl d9 boot_isinstance PQ) (jf (Rc (dR (ak (pv 0)) (cL rfl akX boot_bool rfl) rfl d9 boot_isinstance Lb))))))
theorem rF:FnScope ["_law_found","_law_due_here"] ["_law_found","_law_due_here"] (au dM):=⟨rfl,rfl,rfl,by decide +kernel,rfl,by decide +kernel,by decide +kernel⟩
theorem zH(T:TF K mg "_law_alike" dM)(abk:mg "all" = none)(d9:mg "isinstance" = none)(aas:mg "len" = none)(aag:mg "list" = none)(aah:mg "tuple" = none)(afr:mg "zip" = none)(o9:Fn P w K mg base C 1 "_law_whole" dW):Fn P w K mg base C 2 "_law_alike" bW :=
 fP T rF rfl rfl (fun _ _ _ _ _ _ us hl=>jb us hl (fun _ _=>rfl)) fun f cdv A outer sh H E hr =>
  have nd:(bG CX0 P w K mg base ["_law_found","_law_due_here"] "_law_alike" (au dM) f cdv A outer sh H E).nox.N.Nodup:=rF.nd
  (aF (bj (aZ je (ak (pv 1)) dz (aR _)) (aG (aQ (dJ je (ak (pv 0)) dz (aR _)))) bf) (aF (bj (jF (qQ (Ts:=["tuple","list"]) (ak (pv 1)) (bR (cL (v:=.ty "tuple") rfl aah boot_tuple rfl) (bR (cL (v:=.ty "list") rfl aag boot_list rfl) dH)) (fun _ _ _ q=>q) (by show 2<=sizeLine;rw[sizeLine_eq];decide) rfl d9 boot_isinstance lQ)) (aF (bj (PDW.pt (rQ (aZ (lg hr.units) (dR (ak (pv 1)) (cL rfl aah boot_tuple rfl) rfl d9 boot_isinstance kit_tuple) (dR (ak (pv 0)) (cL rfl aah boot_tuple rfl) rfl d9 boot_isinstance kit_tuple) (aR _)) (pU (aZ (lg hr.units) (dR (ak (pv 1)) (cL rfl aag boot_list rfl) rfl d9 boot_isinstance mj) (dR (ak (pv 0)) (cL rfl aag boot_list rfl) rfl d9 boot_isinstance mj) (aR _))))) (aG (aQ eQ)) bf) (aG (aQ (lq (dJ (cC hr.units) (cM iG rfl aas PySem.boot_len (aq (ak (pv 0)) aB)) (cM iG rfl aas PySem.boot_len (aq (ak (pv 1)) aB)) (aR _)) (jf (cM (km hr.hd) rfl abk boot_all (aq (jZ rfl (fU (oN:=["_law_found","_law_due_here"]) (osc:=au dM) (N:=["_law_one","_law_other"]) (μ:=[none,none]) rfl rfl (by decide +kernel)) (Ed rfl afr (aq (ak (pv 0)) (aq (ak (pv 1)) aB))) (fun _ _ _ _=>(tW rfl (iH (i:=0) (show List.Nodup (["_law_one","_law_other"]:List Str) by decide +kernel) rfl (by first |exact Or.inl rfl |exact Or.inr rfl) (iH (i:=1) (show List.Nodup (["_law_one","_law_other"]:List Str) by decide +kernel) rfl (by first |exact Or.inl rfl |exact Or.inr rfl) qH)))) (fun _ _ _ _=>gW) (fun _ _ _ _=>Tj)) aB))))))) bf) (aG (aQ (lq (dJ (cC hr.units) (aO o9 (hr.mono (by decide)) rfl (aq (ak (pv 0)) aB)) (aO o9 (hr.mono (by decide)) rfl (aq (ak (pv 1)) aB)) (aR _)) (jf (dJ (cC hr.units) (ak (pv 0)) (ak (pv 1)) (aR _))))))))
theorem qu:FnScope ["_law_found","_law_due_here"] ["_law_found","_law_due_here"] (au dh):=⟨rfl,rfl,rfl,by decide +kernel,rfl,by decide +kernel,by decide +kernel⟩
theorem yr(T:TF K mg "_law_alike" dh)(abk:mg "all" = none)(d9:mg "isinstance" = none)(aas:mg "len" = none)(aag:mg "list" = none)(aah:mg "tuple" = none)(afr:mg "zip" = none)(aai:Fn P w K mg base C 2 "_law_alike" bW)(o9:Fn P w K mg base C 1 "_law_whole" dW):Fn P w K mg base C 3 "_law_alike" fK :=
 fP T qu rfl rfl (fun _ _ _ _ _ _ us hl=>jb us hl (fun _ _=>rfl)) fun f cdv A outer sh H E hr =>
  have nd:(bG CX0 P w K mg base ["_law_found","_law_due_here"] "_law_alike" (au dh) f cdv A outer sh H E).nox.N.Nodup:=qu.nd
  (aF (bj (aZ je (ak (pv 1)) dz (aR _)) (aG (aQ (dJ je (ak (pv 0)) dz (aR _)))) bf) (aF (bj (jF (qQ (Ts:=["tuple","list"]) (ak (pv 1)) (bR (cL (v:=.ty "tuple") rfl aah boot_tuple rfl) (bR (cL (v:=.ty "list") rfl aag boot_list rfl) dH)) (fun _ _ _ q=>q) (by show 2<=sizeLine;rw[sizeLine_eq];decide) rfl d9 boot_isinstance lQ)) (aF (bj (PDW.pt (rQ (aZ (lg hr.units) (dR (ak (pv 1)) (cL rfl aah boot_tuple rfl) rfl d9 boot_isinstance kit_tuple) (HY (ak (pv 0)) (cL (v:=.ty "tuple") rfl aah boot_tuple rfl) rfl d9 boot_isinstance kit_tuple) (aR _)) (pU (aZ (lg hr.units) (dR (ak (pv 1)) (cL rfl aag boot_list rfl) rfl d9 boot_isinstance mj) (Km (ak (pv 0)) (cL (v:=.ty "list") rfl aag boot_list rfl) rfl d9 boot_isinstance mj) (aR _))))) (aG (aQ eQ)) bf) (aG (aQ (lq (dJ (cC hr.units) (Oz rfl aas PySem.boot_len (ak (pv 0))) (cM iG rfl aas PySem.boot_len (aq (ak (pv 1)) aB)) (aR _)) (jf (cM (km hr.hd) rfl abk boot_all (aq (Ia rfl (fU (oN:=["_law_found","_law_due_here"]) (osc:=au dh) (N:=["_law_one","_law_other"]) (μ:=[none,none]) rfl rfl (by decide +kernel)) rfl afr (aq (ak (pv 0)) (aq (ak (pv 1)) aB)) (fun _ _ _ _=>(tW rfl (iH (i:=0) (show List.Nodup (["_law_one","_law_other"]:List Str) by decide +kernel) rfl (by first |exact Or.inl rfl |exact Or.inr rfl) (iH (i:=1) (show List.Nodup (["_law_one","_law_other"]:List Str) by decide +kernel) rfl (by first |exact Or.inl rfl |exact Or.inr rfl) qH)))) (fun _ _ _ _=>gW) (fun _ _ _ _=>(aO aai (hr.mono (by decide)) rfl (aq (ak (pv 0)) (aq (ak (pv 1)) aB))))) aB))))))) bf) (aG (aQ (lq (dJ (cC hr.units) (aO o9 (hr.mono (by decide)) rfl (aq (ak (pv 0)) aB)) (aO o9 (hr.mono (by decide)) rfl (aq (ak (pv 1)) aB)) (aR _)) (jf (Rw hr.units (ak (pv 0)) (ak (pv 1)) (aR _))))))))
theorem jV:FnScope ["self"] ["self"] (au cF):=⟨rfl,rfl,rfl,by decide +kernel,rfl,by decide +kernel,by decide +kernel⟩
theorem pI{dV:Value}{f:Addr}{fd:FuncData}(F:FunV K "neighbours" "Ways.neighbours" cF dV f fd)(j0:ClD K C "Ways")(d8:NoA K C "Ways" "length_by")(aba:mg "sorted" = none):FnOk P w K mg base CX0 1 f fd ["self"] (spD K C cD) :=
 wu F jV rfl rfl fun cdv A outer sh H E hr =>
  have nd:(bG CX0 P w K mg base ["self"] "Ways.neighbours" (au cF) f cdv A outer sh H E).nox.N.Nodup:=jV.nd
  (aG (aQ (El (wO hr rfl aba boot_sorted (fj j0 d8 (ak (pv 0)))))))
theorem mW:FnScope ["self"] ["self"] (au dw):=⟨rfl,rfl,rfl,by decide +kernel,rfl,by decide +kernel,by decide +kernel⟩
theorem uw{dV:Value}{f:Addr}{fd:FuncData}(F:FunV K "goals" "Ways.goals" dw dV f fd)(j0:ClD K C "Ways")(j6:NoA K C "Ways" "mark_of")(aba:mg "sorted" = none):FnOk P w K mg base CX0 1 f fd ["self"] (spD K C du) :=
 wu F mW rfl rfl fun cdv A outer sh H E hr =>
  have nd:(bG CX0 P w K mg base ["self"] "Ways.goals" (au dw) f cdv A outer sh H E).nox.N.Nodup:=mW.nd
  (aG (aQ (El (wO hr rfl aba boot_sorted (fj j0 j6 (ak (pv 0)))))))
theorem rG:FnScope ["_law_found","_law_due_here"] ["_law_found","_law_due_here"] (au dN):=⟨rfl,rfl,rfl,by decide +kernel,rfl,by decide +kernel,by decide +kernel⟩
theorem zJ(T:TF K mg "_law_alike" dN)(abk:mg "all" = none)(d9:mg "isinstance" = none)(aas:mg "len" = none)(aag:mg "list" = none)(aah:mg "tuple" = none)(afr:mg "zip" = none)(aai:Fn P w K mg base C 2 "_law_alike" bW)(o9:Fn P w K mg base C 1 "_law_whole" dW):Fn P w K mg base C 3 "_law_alike" cI :=
 fP T rG rfl rfl (fun _ _ _ _ _ _ us hl=>jb us hl (fun _ _=>rfl)) fun f cdv A outer sh H E hr =>
  have nd:(bG CX0 P w K mg base ["_law_found","_law_due_here"] "_law_alike" (au dN) f cdv A outer sh H E).nox.N.Nodup:=rG.nd
  (aF (bj (aZ je (ak (pv 1)) dz (aR _)) (aG (aQ (dJ je (ak (pv 0)) dz (aR _)))) bf) (aF (bj (jF (qQ (Ts:=["tuple","list"]) (ak (pv 1)) (bR (cL (v:=.ty "tuple") rfl aah boot_tuple rfl) (bR (cL (v:=.ty "list") rfl aag boot_list rfl) dH)) (fun _ _ _ q=>q) (by show 2<=sizeLine;rw[sizeLine_eq];decide) rfl d9 boot_isinstance lQ)) (aF (bj (PDW.pt (rQ (aZ (lg hr.units) (dR (ak (pv 1)) (cL rfl aah boot_tuple rfl) rfl d9 boot_isinstance kit_tuple) (dR (ak (pv 0)) (cL rfl aah boot_tuple rfl) rfl d9 boot_isinstance kit_tuple) (aR _)) (pU (aZ (lg hr.units) (dR (ak (pv 1)) (cL rfl aag boot_list rfl) rfl d9 boot_isinstance mj) (dR (ak (pv 0)) (cL rfl aag boot_list rfl) rfl d9 boot_isinstance mj) (aR _))))) (aG (aQ eQ)) bf) (aG (aQ (lq (dJ (cC hr.units) (cM iG rfl aas PySem.boot_len (aq (ak (pv 0)) aB)) (cM iG rfl aas PySem.boot_len (aq (ak (pv 1)) aB)) (aR _)) (jf (cM (km hr.hd) rfl abk boot_all (aq (jZ rfl (fU (oN:=["_law_found","_law_due_here"]) (osc:=au dN) (N:=["_law_one","_law_other"]) (μ:=[none,none]) rfl rfl (by decide +kernel)) (Ed rfl afr (aq (ak (pv 0)) (aq (ak (pv 1)) aB))) (fun _ _ _ _=>(tW rfl (iH (i:=0) (show List.Nodup (["_law_one","_law_other"]:List Str) by decide +kernel) rfl (by first |exact Or.inl rfl |exact Or.inr rfl) (iH (i:=1) (show List.Nodup (["_law_one","_law_other"]:List Str) by decide +kernel) rfl (by first |exact Or.inl rfl |exact Or.inr rfl) qH)))) (fun _ _ _ _=>gW) (fun _ _ _ _=>(aO aai (hr.mono (by decide)) rfl (aq (ak (pv 0)) (aq (ak (pv 1)) aB))))) aB))))))) bf) (aG (aQ (lq (dJ (cC hr.units) (aO o9 (hr.mono (by decide)) rfl (aq (ak (pv 0)) aB)) (aO o9 (hr.mono (by decide)) rfl (aq (ak (pv 1)) aB)) (aR _)) (jf (dJ (cC hr.units) (ak (pv 0)) (ak (pv 1)) (aR _))))))))
theorem kh:FnScope ["self","neighbour"] ["self","neighbour"] (au cY):=⟨rfl,rfl,rfl,by decide +kernel,rfl,by decide +kernel,by decide +kernel⟩
theorem vB{dV:Value}{f:Addr}{fd:FuncData}(F:FunV K "need_tie" "Ways.need_tie" cY dV f fd)(j0:ClD K C "Ways")(d8:NoA K C "Ways" "length_by"){b7:Addr}(j9:C "NotTied" = some b7)(adQ:OwnCls "NotTied" b7 yq "ValueError.__new__" mg base):FnOk P w K mg base (CXr P w) 1 f fd ["self","neighbour"] (spX K C bJ bZ) :=
 wF F kh rfl rfl (fun cdv A outer sh H E hr =>
  have nd:(bG (CXr P w) P w K mg base ["self","neighbour"] "Ways.need_tie" (au cY) f cdv A outer sh H E).nox.N.Nodup:=kh.nd
  (aG (bj (nq (bc hr) (ak (pv 1)) (fj j0 d8 (ak (pv 0)))) (aG yK) bf)))
  fun cdv A outer sh H E hr =>
  have nd:(bG (CXr P w) P w K mg base ["self","neighbour"] "Ways.need_tie" (au cY) f cdv A outer sh H E).N.Nodup:=kh.nd
  (jL (wD (nq (bc hr) (ak (pv 1)) (fj j0 d8 (ak (pv 0)))) (jL (wG uA j9 adQ PySem.F.excBase_ValueError hr.hd rfl (LQ (ak (pv 1))))) yW))
theorem mq:FnScope ["self","neighbour"] ["self","neighbour"] (au dZ):=⟨rfl,rfl,rfl,by decide +kernel,rfl,by decide +kernel,by decide +kernel⟩
theorem yt{dV:Value}{f:Addr}{fd:FuncData}(F:FunV K "length" "Ways.length" dZ dV f fd)(j0:ClD K C "Ways")(d8:NoA K C "Ways" "length_by")(j5:MtX P w K mg base C 1 "Ways" "need_tie" bJ bZ []):FnOk P w K mg base (CXr P w) 2 f fd ["self","neighbour"] (spX K C cA dg) :=
 wF F mq rfl rfl (fun cdv A outer sh H E hr =>
  have nd:(bG (CXr P w) P w K mg base ["self","neighbour"] "Ways.length" (au dZ) f cdv A outer sh H E).nox.N.Nodup:=mq.nd
  (aF (gU (jw j5 (hr.mono (by decide)) (ak (pv 0)) (aq (ak (pv 1)) aB))) (aG (aQ (bH (bc hr) (fj j0 d8 (ak (pv 0))) (ak (pv 1)) (fun _ _=>rfl))))))
  fun cdv A outer sh H E hr =>
  have nd:(bG (CXr P w) P w K mg base ["self","neighbour"] "Ways.length" (au dZ) f cdv A outer sh H E).N.Nodup:=mq.nd
  (qN (qO (lZ sI j5 (hr.mono (by decide)) (ak (pv 0)) (aq (ak (pv 1)) aB))))
theorem qw:FnScope ["_law_ways","_law_neighbour"] ["_law_ways","_law_neighbour"] (au d_):=⟨rfl,rfl,rfl,by decide +kernel,rfl,by decide +kernel,by decide +kernel⟩
theorem yu(T:TF K mg "_law_no_length" d_)(o8:MtX P w K mg base C 2 "Ways" "length" cA dg []){b7:Addr}(adR:mg "NotTied" = some (.ref b7))(ac1:∀c,gZ c=true->∃Ca,C c=some Ca/\PySem.W.exmOne K (.ref Ca) (.ref b7)=some true):Fn P w K mg base C 3 "_law_no_length" gF :=
 fP T qw rfl rfl (fun _ _ _ _ _ _ us hl=>jb us hl (fun _ _=>rfl)) fun f cdv A outer sh H E hr =>
  have nd:(bG CX0 P w K mg base ["_law_ways","_law_neighbour"] "_law_no_length" (au d_) f cdv A outer sh H E).nox.N.Nodup:=qw.nd
  (aF (Kq (fun pn E=>(aG (gU (jw o8 (hr.mono (by decide)) (ak (pv 0)) (aq (ak (pv 1)) aB))))) (fun pn E XW hX=>(jL (qO (lZ hX o8 (hr.mono (by decide)) (ak (pv 0)) (aq (ak (pv 1)) aB))))) (fun v pn=>(aG (aQ eQ))) ac1 rfl rfl rfl adR) (aG (aQ eQ)))
theorem tu:FnScope ["self","goal"] ["self","goal"] (au h_):=⟨rfl,rfl,rfl,by decide +kernel,rfl,by decide +kernel,by decide +kernel⟩
theorem Ck{dV:Value}{f:Addr}{fd:FuncData}(F:FunV K "mark" "Ways.mark" h_ dV f fd)(j0:ClD K C "Ways")(j6:NoA K C "Ways" "mark_of"):FnOk P w K mg base CX0 1 f fd ["self","goal"] (spD K C dG) :=
 wu F tu rfl rfl fun cdv A outer sh H E hr =>
  have nd:(bG CX0 P w K mg base ["self","goal"] "Ways.mark" (au h_) f cdv A outer sh H E).nox.N.Nodup:=tu.nd
  (aG (aQ (oF (bc hr) (fj j0 j6 (ak (pv 0))) (ak (pv 1)) ⟨rfl,rfl,rfl,rfl⟩)))
theorem pD:FnScope ["way"] ["way"] (au dD):=⟨rfl,rfl,rfl,by decide +kernel,rfl,by decide +kernel,by decide +kernel⟩
theorem wZ(T:TF K mg "place_of_way" dD):Fn P w K mg base C 1 "place_of_way" fZ :=
 fP T pD rfl rfl (fun _ _ _ _ _ _ us hl=>sJ us hl (fun _=>rfl)) fun f cdv A outer sh H E hr =>
  have nd:(bG CX0 P w K mg base ["way"] "place_of_way" (au dD) f cdv A outer sh H E).nox.N.Nodup:=pD.nd
  (aG (aQ (dC (aq (mJ (aL (ak (pv 0)) az)) (aq (aL (ak (pv 0)) az) (aq (aL (ak (pv 0)) az) aB))))))
theorem zy:FnScope ["one","other"] ["one","other"] (au jC):=⟨rfl,rfl,rfl,by decide +kernel,rfl,by decide +kernel,by decide +kernel⟩
theorem Iv(T:TF K mg "better" jC):Fn P w K mg base C 1 "better" oM :=
 fP T zy rfl rfl (fun _ _ _ _ _ _ us hl=>jb us hl (fun _ _=>rfl)) fun f cdv A outer sh H E hr =>
  have nd:(bG CX0 P w K mg base ["one","other"] "better" (au jC) f cdv A outer sh H E).nox.N.Nodup:=zy.nd
  (aF (bj (aZ (lg hr.units) (aL (ak (pv 0)) az) (aL (ak (pv 1)) az) (aR _)) (aG (aQ (dJ rP (aL (ak (pv 0)) az) (aL (ak (pv 1)) az) (aR _)))) bf) (aG (aQ (dJ rO (aL (ak (pv 0)) az) (aL (ak (pv 1)) az) (aR _)))))
theorem xg:FnScope ["mark","number","far"] ["mark","number","far"] (au iQ):=⟨rfl,rfl,rfl,by decide +kernel,rfl,by decide +kernel,by decide +kernel⟩
theorem Gi(T:TF K mg "may_use" iQ)(aeJ:Fn P w K mg base C 1 "better" oM):Fn P w K mg base C 2 "may_use" kI :=
 fP T xg rfl rfl (fun _ _ _ _ _ _ us hl=>Bm us hl (fun _ _ _=>rfl)) fun f cdv A outer sh H E hr =>
  have nd:(bG CX0 P w K mg base ["mark","number","far"] "may_use" (au iQ) f cdv A outer sh H E).nox.N.Nodup:=xg.nd
  (aF (bj (aZ je (ak (pv 2)) dz (aR _)) (aG (aQ eQ)) bf) (aG (aQ (Fl (dJ je (ak (pv 0)) dz (aR _)) (jf (aO aeJ (hr.mono (by decide)) rfl (aq (dC (aq (ak (pv 1)) (aq (ak (pv 2)) aB))) (aq (ak (pv 0)) aB))))))))
theorem uF:FnScope ["self","goal","mark","usable","neighbour","telling"] ["self","goal"] (au jd):=⟨rfl,rfl,rfl,by decide +kernel,rfl,by decide +kernel,by decide +kernel⟩
theorem C_{dV:Value}{f:Addr}{fd:FuncData}(F:FunV K "way" "Ways.way" jd dV f fd)(j0:ClD K C "Ways")(d8:NoA K C "Ways" "length_by")(f9:NoA K C "Ways" "tellings_by")(n8:Mt P w K mg base C 1 "Ways" "mark" dG [])(ac2:mg "min" = none)(adS:Fn P w K mg base C 2 "may_use" kI)(abb:Fn P w K mg base C 1 "place_of_way" fZ):FnOk P w K mg base CX0 4 f fd ["self","goal"] (spD K C eX) :=
 wu F uF rfl rfl fun cdv A outer sh H E hr =>
  have nd:(bG CX0 P w K mg base ["self","goal","mark","usable","neighbour","telling"] "Ways.way" (au jd) f cdv A outer sh H E).nox.N.Nodup:=uF.nd
  (aF (bC (i:=2) nd rfl (by first |exact Or.inl rfl |exact Or.inr rfl) (qg n8 (hr.mono (by decide)) (ak (pv 0)) (aq (ak (pv 1)) aB))) (aF (xO (i:=3) nd rfl (by first |exact Or.inl rfl |exact Or.inr rfl) aB) (aF (Bq PassesOwn.never rfl (fj j0 f9 (ak (pv 0))) (di nd rfl (by first |exact Or.inl rfl |exact Or.inr rfl)) (aF (bC (i:=5) nd rfl (by first |exact Or.inl rfl |exact Or.inr rfl) (oF (bc hr) (bH (bc hr) (fj j0 f9 (ak (pv 0))) (ak (pv 4)) (fun _ _=>rfl)) (ak (pv 1)) ⟨rfl,rfl,rfl,rfl⟩)) (aG (bj (PDW.pt (lW (aZ mH (ak (pv 5)) dz (aR _)) (lV (jF (aO adS (hr.mono (by decide)) rfl (aq (ak (pv 2)) (aq (aL (ak (pv 5)) az) (aq (aL (ak (pv 5)) az) aB)))))))) (aG (tX (pv 3) (dC (aq (aL (ak (pv 5)) az) (aq (aV cu (aL (ak (pv 5)) az) (bH (bc hr) (fj j0 d8 (ak (pv 0))) (ak (pv 4)) (fun _ _=>rfl))) (aq (ak (pv 4)) aB)))))) bf)))) (rR (rT 3) (aG (aQ (Ot abb (hr.mono (by decide)) rfl rfl ac2 boot_min (ak (pv 3)))))))))
theorem uG:FnScope ["_law_one","_law_other"] ["_law_one","_law_other"] (au gM):=⟨rfl,rfl,rfl,by decide +kernel,rfl,by decide +kernel,by decide +kernel⟩
theorem Dc(T:TF K mg "_law_better" gM):Fn P w K mg base C 1 "_law_better" lG :=
 fP T uG rfl rfl (fun _ _ _ _ _ _ us hl=>jb us hl (fun _ _=>rfl)) fun f cdv A outer sh H E hr =>
  have nd:(bG CX0 P w K mg base ["_law_one","_law_other"] "_law_better" (au gM) f cdv A outer sh H E).nox.N.Nodup:=uG.nd
  (aG (aQ (Fl (dJ rP (aL (ak (pv 0)) az) (aL (ak (pv 1)) az) (aR _)) (jf (lq (dJ (cC hr.units) (aL (ak (pv 0)) az) (aL (ak (pv 1)) az) (aR _)) (jf (dJ rO (aL (ak (pv 0)) az) (aL (ak (pv 1)) az) (aR _))))))))
theorem Cm:FnScope ["_law_mark","_law_number","_law_far"] ["_law_mark","_law_number","_law_far"] (au kJ):=⟨rfl,rfl,rfl,by decide +kernel,rfl,by decide +kernel,by decide +kernel⟩
theorem Ld(T:TF K mg "_law_may" kJ)(ac3:Fn P w K mg base C 1 "_law_better" lG):Fn P w K mg base C 2 "_law_may" nR :=
 fP T Cm rfl rfl (fun _ _ _ _ _ _ us hl=>Bm us hl (fun _ _ _=>rfl)) fun f cdv A outer sh H E hr =>
  have nd:(bG CX0 P w K mg base ["_law_mark","_law_number","_law_far"] "_law_may" (au kJ) f cdv A outer sh H E).nox.N.Nodup:=Cm.nd
  (aG (aQ (lq (dJ mH (ak (pv 2)) dz (aR _)) (jf (Fl (dJ je (ak (pv 0)) dz (aR _)) (jf (aO ac3 (hr.mono (by decide)) rfl (aq (dC (aq (ak (pv 1)) (aq (ak (pv 2)) aB))) (aq (ak (pv 0)) aB)))))))))
theorem Cp:FnScope ["_law_own","_law_goal","_law_found","_law_neighbour","_law_number","_law_far","_law_lowest"] ["_law_own","_law_goal"] (au kO):=⟨rfl,rfl,rfl,by decide +kernel,rfl,by decide +kernel,by decide +kernel⟩
theorem Le(T:TF K mg "_law_way" kO)(ac2:mg "min" = none)(afM:Fn P w K mg base C 2 "_law_may" nR):Fn P w K mg base C 3 "_law_way" iB :=
 fP T Cp rfl rfl (fun _ _ _ _ _ _ us hl=>jb us hl (fun _ _=>rfl)) fun f cdv A outer sh H E hr =>
  have nd:(bG CX0 P w K mg base ["_law_own","_law_goal","_law_found","_law_neighbour","_law_number","_law_far","_law_lowest"] "_law_way" (au kO) f cdv A outer sh H E).nox.N.Nodup:=Cp.nd
  (aF (xO (i:=2) nd rfl (by first |exact Or.inl rfl |exact Or.inr rfl) aB) (aF (Bq PassesOwn.never rfl (bH (bc hr) (ak (pv 0)) bN (fun _ _=>rfl)) (di nd rfl (by first |exact Or.inl rfl |exact Or.inr rfl)) (aG (bj (nP (bc hr) (dC (aq (ak (pv 1)) (aq (ak (pv 3)) aB))) (bH (bc hr) (ak (pv 0)) bN (fun _ _=>rfl))) (aF (Np (bH (bc hr) (bH (bc hr) (ak (pv 0)) bN (fun _ _=>rfl)) (dC (aq (ak (pv 1)) (aq (ak (pv 3)) aB))) (fun _ _=>rfl)) (tW rfl (iH (i:=4) nd rfl (by first |exact Or.inl rfl |exact Or.inr rfl) (iH (i:=5) nd rfl (by first |exact Or.inl rfl |exact Or.inr rfl) qH)))) (aG (bj (jF (aO afM (hr.mono (by decide)) rfl (aq (oF (bc hr) (bH (bc hr) (ak (pv 0)) bN (fun _ _=>rfl)) (ak (pv 1)) ⟨rfl,rfl,rfl,rfl⟩) (aq (ak (pv 4)) (aq (ak (pv 5)) aB))))) (aG (tX (pv 2) (dC (aq (mJ (ak (pv 4))) (aq (aV cu (ak (pv 5)) (bH (bc hr) (bH (bc hr) (ak (pv 0)) bN (fun _ _=>rfl)) (ak (pv 3)) (fun _ _=>rfl))) (aq (ak (pv 3)) aB)))))) bf))) bf))) (rR (rT 2) (aF (bj (aZ (cC hr.units) (ak (pv 2)) (gf aB) (aR _)) (aG (aQ dz)) bf) (aF (bC (i:=6) nd rfl (by first |exact Or.inl rfl |exact Or.inr rfl) (Rr hr rfl ac2 boot_min (ak (pv 2)))) (aG (aQ (dC (aq (mJ (aL (ak (pv 6)) az)) (aq (aL (ak (pv 6)) az) (aq (aL (ak (pv 6)) az) aB)))))))))))
theorem zA:FnScope ["_law_ways","_law_own","_law_houses_here","_law_goals","_law_way_here","_law_held","_law_house"] ["_law_ways","_law_own","_law_houses_here","_law_goals","_law_way_here","_law_held"] (au ie):=⟨rfl,rfl,rfl,by decide +kernel,rfl,by decide +kernel,by decide +kernel⟩
theorem Iw(T:TF K mg "_law_look" ie)(v7:Mt P w K mg base C 1 "Ways" "neighbours" cD [])(aax:Mt P w K mg base C 1 "Ways" "goals" du [])(n8:Mt P w K mg base C 1 "Ways" "mark" dG [])(aaj:Mt P w K mg base C 4 "Ways" "way" eX [])(o8:MtX P w K mg base C 2 "Ways" "length" cA dg [])(abk:mg "all" = none)(aba:mg "sorted" = none)(aaK:Fn P w K mg base C 3 "_law_alike" fK)(aay:Fn P w K mg base C 3 "_law_alike" cI)(aaB:Fn P w K mg base C 3 "_law_way" iB)(abo:Fn P w K mg base C 3 "_law_no_length" gF):Fn P w K mg base C 5 "_law_look" jy :=
 fP T zA rfl rfl (fun _ _ _ _ _ _ us hl=>Rp us hl (fun _ _ _ _ _ _=>rfl)) fun f cdv A outer sh H E hr =>
  have nd:(bG CX0 P w K mg base ["_law_ways","_law_own","_law_houses_here","_law_goals","_law_way_here","_law_held","_law_house"] "_law_look" (au ie) f cdv A outer sh H E).nox.N.Nodup:=zA.nd
  (aF (bj (aZ (cC hr.units) (ak (pv 4)) az (aR _)) (aF (uQ (ak (pv 5)) (gf (aq (Ba v7 (hr.mono (by decide)) (ak (pv 0))) (aq (zf hr rfl aba boot_sorted (bH (bc hr) (ak (pv 1)) bN (fun _ _=>rfl))) aB)))) (aG (aQ (aO aaK (hr.mono (by decide)) rfl (aq (aL (wJ (ak (pv 5)) (mJ az)) az) (aq (aL (wJ (ak (pv 5)) (mJ az)) az) aB)))))) bf) (aF (bj (aZ (cC hr.units) (ak (pv 4)) az (aR _)) (aF (uQ (ak (pv 5)) (gf (aq (Ba aax (hr.mono (by decide)) (ak (pv 0))) (aq (zf hr rfl aba boot_sorted (bH (bc hr) (ak (pv 1)) bN (fun _ _=>rfl))) aB)))) (aG (aQ (aO aaK (hr.mono (by decide)) rfl (aq (aL (wJ (ak (pv 5)) (mJ az)) az) (aq (aL (wJ (ak (pv 5)) (mJ az)) az) aB)))))) bf) (aF (bj (aZ (cC hr.units) (ak (pv 4)) az (aR _)) (aG (aQ (cM (km hr.hd) rfl abk boot_all (aq (jZ rfl (fU (oN:=["_law_ways","_law_own","_law_houses_here","_law_goals","_law_way_here","_law_held","_law_house"]) (osc:=au ie) (N:=["_law_goal","_law_ways","_law_own"]) (μ:=[none,some 0,some 1]) rfl rfl (by decide +kernel)) (jY (ak (pv 3))) (fun _ _ _ _=>(di (show List.Nodup (["_law_goal","_law_ways","_law_own"]:List Str) by decide +kernel) rfl (by first |exact Or.inl rfl |exact Or.inr rfl))) (fun _ _ _ _=>gW) (fun _ _ _ _=>(aO aay (hr.mono (by decide)) rfl (aq (qg n8 (hr.mono (by decide)) (ak (pv 1)) (aq (ak (pv 0)) aB)) (aq (oF (bc hr) (bH (bc hr) (ak (pv 2)) bN (fun _ _=>rfl)) (ak (pv 0)) ⟨rfl,rfl,rfl,rfl⟩) aB))))) aB)))) bf) (aF (bj (aZ (cC hr.units) (ak (pv 4)) az (aR _)) (aG (aQ (cM (km hr.hd) rfl abk boot_all (aq (jZ rfl (fU (oN:=["_law_ways","_law_own","_law_houses_here","_law_goals","_law_way_here","_law_held","_law_house"]) (osc:=au ie) (N:=["_law_goal","_law_own","_law_ways"]) (μ:=[none,some 1,some 0]) rfl rfl (by decide +kernel)) (jY (ak (pv 3))) (fun _ _ _ _=>(di (show List.Nodup (["_law_goal","_law_own","_law_ways"]:List Str) by decide +kernel) rfl (by first |exact Or.inl rfl |exact Or.inr rfl))) (fun _ _ _ _=>gW) (fun _ _ _ _=>(aO aay (hr.mono (by decide)) rfl (aq (qg aaj (hr.mono (by decide)) (ak (pv 2)) (aq (ak (pv 0)) aB)) (aq (aO aaB (hr.mono (by decide)) rfl (aq (ak (pv 1)) (aq (ak (pv 0)) aB))) aB))))) aB)))) bf) (aF (pY PassesOwn.never rfl (jY (ak (pv 2))) (di nd rfl (by first |exact Or.inl rfl |exact Or.inr rfl)) (aF (bj (PDW.pt (lW (nP (bc hr) (ak (pv 6)) (bH (bc hr) (ak (pv 1)) bN (fun _ _=>rfl))) (lV (tO (jF (aO aay (hr.mono (by decide)) rfl (aq (jw o8 (hr.mono (by decide)) (ak (pv 0)) (aq (ak (pv 6)) aB)) (aq (bH (bc hr) (bH (bc hr) (ak (pv 1)) bN (fun _ _=>rfl)) (ak (pv 6)) (fun _ _=>rfl)) aB)))))))) (aG (aQ eQ)) bf) (aG (bj (PDW.pt (lW (nq (bc hr) (ak (pv 6)) (bH (bc hr) (ak (pv 1)) bN (fun _ _=>rfl))) (lV (tO (jF (aO abo (hr.mono (by decide)) rfl (aq (ak (pv 0)) (aq (ak (pv 6)) aB)))))))) (aG (aQ eQ)) bf)))) (aG (aQ eQ)))))))
theorem xj:FnScope ["_law_ways","_law_own","_law_houses_here","_law_goals","_law_cell","_law_held","_law_looks"] ["_law_ways","_law_own","_law_houses_here","_law_goals","_law_cell","_law_held"] (au fX):=⟨rfl,rfl,rfl,by decide +kernel,rfl,by decide +kernel,by decide +kernel⟩
theorem Gj(T:TF K mg "_law_right" fX)(abk:mg "all" = none)(aa9:mg "range" = none)(aeK:Fn P w K mg base C 5 "_law_look" jy):Fn P w K mg base C 6 "_law_right" dX :=
 fP T xj rfl rfl (fun _ _ _ _ _ _ us hl=>Rp us hl (fun _ _ _ _ _ _=>rfl)) fun f cdv A outer sh H E hr =>
  have nd:(bG CX0 P w K mg base ["_law_ways","_law_own","_law_houses_here","_law_goals","_law_cell","_law_held","_law_looks"] "_law_right" (au fX) f cdv A outer sh H E).nox.N.Nodup:=xj.nd
  (aF (yO (i:=6) nd rfl (by first |exact Or.inl rfl |exact Or.inr rfl) rfl (fU (oN:=["_law_ways","_law_own","_law_houses_here","_law_goals","_law_cell","_law_held","_law_looks"]) (osc:=au fX) (N:=["_law_turn","_law_cell"]) (μ:=[none,some 4]) rfl rfl (by decide +kernel)) (mZ rfl aa9 (aq az aB)) (fun _ _ _ _=>(di (show List.Nodup (["_law_turn","_law_cell"]:List Str) by decide +kernel) rfl (by first |exact Or.inl rfl |exact Or.inr rfl))) (fun _ _ _ _=>gW) (fun _ _ _ _=>(aV bU (aV cu (aV pR (ak (pv 1)) az) (aV fB (ak (pv 0)) (aV cu az (aV bU (ak (pv 1)) az)))) az))) (aG (aQ (cM (km hr.hd) rfl abk boot_all (aq (jZ rfl (fU (oN:=["_law_ways","_law_own","_law_houses_here","_law_goals","_law_cell","_law_held","_law_looks"]) (osc:=au fX) (N:=["_law_look_here","_law_ways","_law_own","_law_houses_here","_law_goals","_law_held"]) (μ:=[none,some 0,some 1,some 2,some 3,some 5]) rfl rfl (by decide +kernel)) (jY (ak (pv 6))) (fun _ _ _ _=>(di (show List.Nodup (["_law_look_here","_law_ways","_law_own","_law_houses_here","_law_goals","_law_held"]:List Str) by decide +kernel) rfl (by first |exact Or.inl rfl |exact Or.inr rfl))) (fun _ _ _ _=>gW) (fun _ _ _ _=>(aO aeK (hr.mono (by decide)) rfl (aq (ak (pv 1)) (aq (ak (pv 2)) (aq (ak (pv 3)) (aq (ak (pv 4)) (aq (ak (pv 0)) (aq (ak (pv 5)) aB))))))))) aB)))))
theorem oV:FnScope ["self"] ["self"] (au dO):=⟨rfl,rfl,rfl,by decide +kernel,rfl,by decide +kernel,by decide +kernel⟩
theorem vC{dV:Value}{f:Addr}{fd:FuncData}(F:FunV K "__init__" "Ways.__init__" dO dV f fd)(j0:ClD K C "Ways")(d8:NoA K C "Ways" "length_by")(j6:NoA K C "Ways" "mark_of")(f9:NoA K C "Ways" "tellings_by"):FnOk P w K mg base CX0 1 f fd ["self"] (spD K C cX) :=
 wu F oV rfl rfl fun cdv A outer sh H E hr =>
  have nd:(bG CX0 P w K mg base ["self"] "Ways.__init__" (au dO) f cdv A outer sh H E).nox.N.Nodup:=oV.nd
  (aF (xQ j0 d8 (ak (pv 0)) nO) (aF (xQ j0 f9 (ak (pv 0)) nO) (aG (xQ j0 j6 (ak (pv 0)) nO))))
theorem xm:FnScope [] [] (au iR):=⟨rfl,rfl,rfl,by decide +kernel,rfl,by decide +kernel,by decide +kernel⟩
theorem Gk(T:TF K mg "_law_begun" iR):Fn P w K mg base C 1 "_law_begun" iI :=
 fP T xm rfl rfl (fun _ _ _ _ _ _ us hl=>len0 us hl (rfl)) fun f cdv A outer sh H E hr =>
  have nd:(bG CX0 P w K mg base [] "_law_begun" (au iR) f cdv A outer sh H E).nox.N.Nodup:=xm.nd
  (aG (aQ (Ou (PDP.cons nO (PDP.cons Nz (PDP.cons nO PDP.nil))) (by intro z;cases z) (Nat.le_of_ble_eq_true rfl))))
theorem Cq:FnScope ["_law_cell","_law_k","_law_x"] ["_law_cell","_law_k"] (au kW):=⟨rfl,rfl,rfl,by decide +kernel,rfl,by decide +kernel,by decide +kernel⟩
theorem Lf(T:TF K mg "_law_mix" kW):Fn P w K mg base C 1 "_law_mix" bI :=
 fP T Cq rfl rfl (fun _ _ _ _ _ _ us hl=>jb us hl (fun _ _=>rfl)) fun f cdv A outer sh H E hr =>
  have nd:(bG CX0 P w K mg base ["_law_cell","_law_k","_law_x"] "_law_mix" (au kW) f cdv A outer sh H E).nox.N.Nodup:=Cq.nd
  (aF (bC (i:=2) nd rfl (by first |exact Or.inl rfl |exact Or.inr rfl) (aV bU (aV cu (aV cu (ak (pv 0)) (aV fB az (ak (pv 1)))) (aV fB (aV fB az (ak (pv 1))) (ak (pv 1)))) az)) (aG (aQ (aV bU (aV fB (aV bU (aV fB (ak (pv 2)) (ak (pv 2))) az) az) az))))
theorem xq:FnScope ["_law_own","_law_houses_here","_law_goals","_law_cell","_law_neighbour","_law_goal","_law_way_here","_law_best","_law_mark","_law_number","_law_far"] ["_law_own","_law_houses_here","_law_goals","_law_cell"] (au iT):=⟨rfl,rfl,rfl,by decide +kernel,rfl,by decide +kernel,by decide +kernel⟩
theorem Gm(T:TF K mg "_law_drawn" iT)(aas:mg "len" = none)(akO:mg "max" = none)(j8:Fn P w K mg base C 1 "_law_mix" bI)(aaB:Fn P w K mg base C 3 "_law_way" iB):Fn P w K mg base C 4 "_law_drawn" gJ :=
 fP T xq rfl rfl (fun _ _ _ _ _ _ us hl=>Rn us hl (fun _ _ _ _=>rfl)) fun f cdv A outer sh H E hr =>
  have nd:(bG CX0 P w K mg base ["_law_own","_law_houses_here","_law_goals","_law_cell","_law_neighbour","_law_goal","_law_way_here","_law_best","_law_mark","_law_number","_law_far"] "_law_drawn" (au iT) f cdv A outer sh H E).nox.N.Nodup:=xq.nd
  (aF (bC (i:=4) nd rfl (by first |exact Or.inl rfl |exact Or.inr rfl) (aL (ak (pv 1)) (aV bU (aO j8 (hr.mono (by decide)) rfl (aq (ak (pv 3)) (aq az aB))) (cM iG rfl aas PySem.boot_len (aq (ak (pv 1)) aB))))) (aF (bC (i:=5) nd rfl (by first |exact Or.inl rfl |exact Or.inr rfl) (aL (ak (pv 2)) (aV bU (aO j8 (hr.mono (by decide)) rfl (aq (ak (pv 3)) (aq az aB))) (cM iG rfl aas PySem.boot_len (aq (ak (pv 2)) aB))))) (aF (bC (i:=6) nd rfl (by first |exact Or.inl rfl |exact Or.inr rfl) (aV bU (aO j8 (hr.mono (by decide)) rfl (aq (ak (pv 3)) (aq az aB))) az)) (aF (bj (aZ rO (ak (pv 6)) az (aR _)) (aG (aQ (dC (aq bN (aq (ak (pv 4)) (aq (aL (gf (aq (aV cu az (aV bU (aO j8 (hr.mono (by decide)) rfl (aq (ak (pv 3)) (aq az aB))) az)) (aq (aV cu az (aV bU (aO j8 (hr.mono (by decide)) rfl (aq (ak (pv 3)) (aq az aB))) az)) aB))) (aV bU (aO j8 (hr.mono (by decide)) rfl (aq (ak (pv 3)) (aq az aB))) az)) aB)))))) bf) (aF (bj (aZ (cC hr.units) (ak (pv 6)) az (aR _)) (aG (aQ (dC (aq bN (aq (ak (pv 4)) aB))))) bf) (aF (bC (i:=7) nd rfl (by first |exact Or.inl rfl |exact Or.inr rfl) (aO aaB (hr.mono (by decide)) rfl (aq (ak (pv 0)) (aq (ak (pv 5)) aB)))) (aF (bj (PDW.pt (lW (aZ mH (ak (pv 7)) dz (aR _)) (lW (nP (bc hr) (ak (pv 4)) (bH (bc hr) (ak (pv 0)) bN (fun _ _=>rfl))) (lV (aZ (cC hr.units) (aV bU (aO j8 (hr.mono (by decide)) rfl (aq (ak (pv 3)) (aq az aB))) az) az (aR _)))))) (aG (aQ (dC (aq bN (aq (ak (pv 4)) (aq (ak (pv 5)) (aq (aL (ak (pv 7)) az) (aq (cM (yJ rfl) rfl akO boot_max (aq az (aq (aV Dt (aL (ak (pv 7)) az) (bH (bc hr) (bH (bc hr) (ak (pv 0)) bN (fun _ _=>rfl)) (ak (pv 4)) (fun _ _=>rfl))) aB))) aB)))))))) bf) (aF (bC (i:=8) nd rfl (by first |exact Or.inl rfl |exact Or.inr rfl) (JP (bc hr) (bH (bc hr) (ak (pv 0)) bN (fun _ _=>rfl)) (ak (pv 5)) (dC (aq az (aq az aB))) ⟨rfl,rfl,rfl,rfl⟩)) (aF (bC (i:=9) nd rfl (by first |exact Or.inl rfl |exact Or.inr rfl) (cM (yJ rfl) rfl akO boot_max (aq az (aq (aV cu (aL (ak (pv 8)) az) (aL (gf (aq az (aq az (aq az (aq az (aq (mJ az) (aq az aB))))))) (aV bU (aO j8 (hr.mono (by decide)) rfl (aq (ak (pv 3)) (aq az aB))) az))) aB)))) (aF (bC (i:=10) nd rfl (by first |exact Or.inl rfl |exact Or.inr rfl) (aL (gf (aq (aV bU (aO j8 (hr.mono (by decide)) rfl (aq (ak (pv 3)) (aq az aB))) az) (aq (aL (ak (pv 8)) az) (aq (aV Dt (aL (ak (pv 8)) az) az) (aq (aV cu (aL (ak (pv 8)) az) az) aB))))) (aV bU (aO j8 (hr.mono (by decide)) rfl (aq (ak (pv 3)) (aq az aB))) az))) (aF (bj (aZ (cC hr.units) (aV bU (aO j8 (hr.mono (by decide)) rfl (aq (ak (pv 3)) (aq az aB))) az) az (aR _)) (aF (bC (i:=9) nd rfl (by first |exact Or.inl rfl |exact Or.inr rfl) (aV cu az (aV fB (aO j8 (hr.mono (by decide)) rfl (aq (ak (pv 3)) (aq az aB))) az))) (aG (bC (i:=10) nd rfl (by first |exact Or.inl rfl |exact Or.inr rfl) (aO j8 (hr.mono (by decide)) rfl (aq (ak (pv 3)) (aq az aB)))))) bf) (aF (bj (aZ (cC hr.units) (aV bU (aO j8 (hr.mono (by decide)) rfl (aq (ak (pv 3)) (aq az aB))) az) az (aR _)) (aG (bC (i:=10) nd rfl (by first |exact Or.inl rfl |exact Or.inr rfl) dz)) bf) (aG (aQ (dC (aq bN (aq (ak (pv 4)) (aq (ak (pv 5)) (aq (ak (pv 9)) (aq (ak (pv 10)) aB))))))))))))))))))))
theorem Cr:FnScope ["_law_own","_law_deed"] ["_law_own","_law_deed"] (au kY):=⟨rfl,rfl,rfl,by decide +kernel,rfl,by decide +kernel,by decide +kernel⟩
theorem Lg(T:TF K mg "_law_due" kY):Fn P w K mg base C 1 "_law_due" fG :=
 fP T Cr rfl rfl (fun _ _ _ _ _ _ us hl=>jb us hl (fun _ _=>rfl)) fun f cdv A outer sh H E hr =>
  have nd:(bG CX0 P w K mg base ["_law_own","_law_deed"] "_law_due" (au kY) f cdv A outer sh H E).nox.N.Nodup:=Cr.nd
  (aF (bj (PDW.pt (lW (aZ (cC hr.units) (aL (ak (pv 1)) az) bN (aR _)) (lV (nP (bc hr) (aL (ak (pv 1)) az) (bH (bc hr) (ak (pv 0)) bN (fun _ _=>rfl)))))) (aG (aQ (aV cu (gf (aq eQ (aq eQ (aq eQ aB)))) (aV fB (gf (aq eQ aB)) az)))) bf) (aF (bj (PDW.pt (lW (aZ (lg hr.units) (aL (ak (pv 1)) az) bN (aR _)) (lV (nq (bc hr) (aL (ak (pv 1)) az) (bH (bc hr) (ak (pv 0)) bN (fun _ _=>rfl)))))) (aG (aQ (aV cu (gf (aq eQ (aq eQ (aq eQ aB)))) (aV fB (gf (aq eQ aB)) az)))) bf) (aG (aQ dz))))
theorem pJ:FnScope ["self","neighbour","length"] ["self","neighbour","length"] (au gP):=⟨rfl,rfl,rfl,by decide +kernel,rfl,by decide +kernel,by decide +kernel⟩
theorem Dd{dV:Value}{f:Addr}{fd:FuncData}(F:FunV K "tie" "Ways.tie" gP dV f fd)(j0:ClD K C "Ways")(d8:NoA K C "Ways" "length_by")(f9:NoA K C "Ways" "tellings_by"){b8:Addr}(u6:C "Tied" = some b8)(ag0:OwnCls "Tied" b8 yq "ValueError.__new__" mg base):FnOk P w K mg base (CXr P w) 1 f fd ["self","neighbour","length"] (spX K C jc jO) :=
 wF F pJ rfl rfl (fun cdv A outer sh H E hr =>
  have nd:(bG (CXr P w) P w K mg base ["self","neighbour","length"] "Ways.tie" (au gP) f cdv A outer sh H E).nox.N.Nodup:=pJ.nd
  (aF (bj (nP (bc hr) (ak (pv 1)) (fj j0 d8 (ak (pv 0)))) (aG yK) bf) (aF (ju (bc hr) (fj j0 d8 (ak (pv 0))) (ak (pv 1)) (ak (pv 2))) (aG (ju (bc hr) (fj j0 f9 (ak (pv 0))) (ak (pv 1)) nO)))))
  fun cdv A outer sh H E hr =>
  have nd:(bG (CXr P w) P w K mg base ["self","neighbour","length"] "Ways.tie" (au gP) f cdv A outer sh H E).N.Nodup:=pJ.nd
  (qN (wD (nP (bc hr) (ak (pv 1)) (fj j0 d8 (ak (pv 0)))) (jL (wG uA u6 ag0 PySem.F.excBase_ValueError hr.hd rfl (LQ (ak (pv 1))))) yW))
theorem mV:FnScope ["self","neighbour"] ["self","neighbour"] (au fu):=⟨rfl,rfl,rfl,by decide +kernel,rfl,by decide +kernel,by decide +kernel⟩
theorem zK{dV:Value}{f:Addr}{fd:FuncData}(F:FunV K "untie" "Ways.untie" fu dV f fd)(j0:ClD K C "Ways")(d8:NoA K C "Ways" "length_by")(f9:NoA K C "Ways" "tellings_by")(j5:MtX P w K mg base C 1 "Ways" "need_tie" bJ bZ []):FnOk P w K mg base (CXr P w) 2 f fd ["self","neighbour"] (spX K C gq iC) :=
 wF F mV rfl rfl (fun cdv A outer sh H E hr =>
  have nd:(bG (CXr P w) P w K mg base ["self","neighbour"] "Ways.untie" (au fu) f cdv A outer sh H E).nox.N.Nodup:=mV.nd
  (aF (gU (jw j5 (hr.mono (by decide)) (ak (pv 0)) (aq (ak (pv 1)) aB))) (aF (gU (ud (bc hr) (fj j0 d8 (ak (pv 0))) (ak (pv 1)) ⟨rfl,rfl,rfl,rfl⟩)) (aG (gU (ud (bc hr) (fj j0 f9 (ak (pv 0))) (ak (pv 1)) ⟨rfl,rfl,rfl,rfl⟩))))))
  fun cdv A outer sh H E hr =>
  have nd:(bG (CXr P w) P w K mg base ["self","neighbour"] "Ways.untie" (au fu) f cdv A outer sh H E).N.Nodup:=mV.nd
  (qN (qO (lZ sI j5 (hr.mono (by decide)) (ak (pv 0)) (aq (ak (pv 1)) aB))))
theorem uH:FnScope ["mark","number","length"] ["mark","number","length"] (au gQ):=⟨rfl,rfl,rfl,by decide +kernel,rfl,by decide +kernel,by decide +kernel⟩
theorem De(T:TF K mg "bettered" gQ)(ac2:mg "min" = none):Fn P w K mg base C 1 "bettered" lH :=
 fP T uH rfl rfl (fun _ _ _ _ _ _ us hl=>Bm us hl (fun _ _ _=>rfl)) fun f cdv A outer sh H E hr =>
  have nd:(bG CX0 P w K mg base ["mark","number","length"] "bettered" (au gQ) f cdv A outer sh H E).nox.N.Nodup:=uH.nd
  (aF (bj (PDW.pt (rQ (aZ je (ak (pv 0)) dz (aR _)) (pU (aZ rP (ak (pv 1)) (aL (ak (pv 0)) az) (aR _))))) (aG (aQ (dC (aq (ak (pv 1)) (aq (ak (pv 2)) aB))))) bf) (aG (aQ (dC (aq (ak (pv 1)) (aq (cM (yI rfl) rfl ac2 boot_min (aq (aL (ak (pv 0)) az) (aq (ak (pv 2)) aB))) aB))))))
theorem oW:FnScope ["self","neighbour","goal","number","far","way"] ["self","neighbour","goal","number","far"] (au fY):=⟨rfl,rfl,rfl,by decide +kernel,rfl,by decide +kernel,by decide +kernel⟩
theorem Cu{dV:Value}{f:Addr}{fd:FuncData}(F:FunV K "hear" "Ways.hear" fY dV f fd)(j0:ClD K C "Ways")(j6:NoA K C "Ways" "mark_of")(f9:NoA K C "Ways" "tellings_by")(j5:MtX P w K mg base C 1 "Ways" "need_tie" bJ bZ [])(aaj:Mt P w K mg base C 4 "Ways" "way" eX [])(n8:Mt P w K mg base C 1 "Ways" "mark" dG [])(ac4:Fn P w K mg base C 1 "bettered" lH):FnOk P w K mg base (CXr P w) 5 f fd ["self","neighbour","goal","number","far"] (spX K C fV jh) :=
 wF F oW rfl rfl (fun cdv A outer sh H E hr =>
  have nd:(bG (CXr P w) P w K mg base ["self","neighbour","goal","number","far","way"] "Ways.hear" (au fY) f cdv A outer sh H E).nox.N.Nodup:=oW.nd
  (aF (gU (jw j5 (hr.mono (by decide)) (ak (pv 0)) (aq (ak (pv 1)) aB))) (aF (ju (bc hr) (bH (bc hr) (fj j0 f9 (ak (pv 0))) (ak (pv 1)) (fun _ _=>rfl)) (ak (pv 2)) (dC (aq (ak (pv 3)) (aq (ak (pv 4)) aB)))) (aF (bC (i:=5) nd rfl (by first |exact Or.inl rfl |exact Or.inr rfl) (qg aaj (hr.mono (by decide)) (ak (pv 0)) (aq (ak (pv 2)) aB))) (aG (bj (aZ mH (ak (pv 5)) dz (aR _)) (aG (ju (bc hr) (fj j0 j6 (ak (pv 0))) (ak (pv 2)) (aO ac4 (hr.mono (by decide)) rfl (aq (qg n8 (hr.mono (by decide)) (ak (pv 0)) (aq (ak (pv 2)) aB)) (aq (aL (ak (pv 5)) az) (aq (aL (ak (pv 5)) az) aB)))))) bf))))))
  fun cdv A outer sh H E hr =>
  have nd:(bG (CXr P w) P w K mg base ["self","neighbour","goal","number","far","way"] "Ways.hear" (au fY) f cdv A outer sh H E).N.Nodup:=oW.nd
  (qN (qO (lZ sI j5 (hr.mono (by decide)) (ak (pv 0)) (aq (ak (pv 1)) aB))))
theorem xr:FnScope ["_law_ways","_law_deed","_law_found","e","_law_some"] ["_law_ways","_law_deed"] (au iV):=⟨rfl,rfl,rfl,by decide +kernel,rfl,by decide +kernel,by decide +kernel⟩
theorem Gn(T:TF K mg "_law_tried" iV)(aaW:MtX P w K mg base C 1 "Ways" "tie" jc jO [])(aaC:MtX P w K mg base C 2 "Ways" "untie" gq iC [])(aaL:MtX P w K mg base C 5 "Ways" "hear" fV jh []){aap aaq aar aaz aaU b7 aaV aae b8:Addr}(ajA:mg "BadDeed" = some (.ref aap))(ajB:mg "BadText" = some (.ref aaq))(ajC:mg "NoHouse" = some (.ref aar))(akd:mg "NoNote" = some (.ref aaz))(akQ:mg "NoRow" = some (.ref aaU))(adR:mg "NotTied" = some (.ref b7))(akR:mg "Owned" = some (.ref aaV))(ahB:mg "PostError" = some (.ref aae))(akY:mg "Tied" = some (.ref b8))(abN:∀c,dU c=true->∃Ca,C c=some Ca/\PySem.W.exmOne K (.ref Ca) (.ref aae)=some true)(x_0:∀c Ca b,uT c=some b->C c=some Ca->PySem.W.ExcLook K Ca/\PySem.W.kitOne K (.ref Ca) (.ref aar)=some b)(x_1:∀c Ca b,uU c=some b->C c=some Ca->PySem.W.ExcLook K Ca/\PySem.W.kitOne K (.ref Ca) (.ref aaV)=some b)(x_2:∀c Ca b,uV c=some b->C c=some Ca->PySem.W.ExcLook K Ca/\PySem.W.kitOne K (.ref Ca) (.ref aaU)=some b)(x_3:∀c Ca b,uW c=some b->C c=some Ca->PySem.W.ExcLook K Ca/\PySem.W.kitOne K (.ref Ca) (.ref aaq)=some b)(x_4:∀c Ca b,uX c=some b->C c=some Ca->PySem.W.ExcLook K Ca/\PySem.W.kitOne K (.ref Ca) (.ref aap)=some b)(x_5:∀c Ca b,uY c=some b->C c=some Ca->PySem.W.ExcLook K Ca/\PySem.W.kitOne K (.ref Ca) (.ref aaz)=some b)(x_6:∀c Ca b,uZ c=some b->C c=some Ca->PySem.W.ExcLook K Ca/\PySem.W.kitOne K (.ref Ca) (.type "ValueError")=some b)(x_7:∀c Ca b,u_ c=some b->C c=some Ca->PySem.W.ExcLook K Ca/\PySem.W.kitOne K (.ref Ca) (.ref b7)=some b)(x_8:∀c Ca b,vd c=some b->C c=some Ca->PySem.W.ExcLook K Ca/\PySem.W.kitOne K (.ref Ca) (.ref b8)=some b)(ag1:mg "ValueError" = none)(d9:mg "isinstance" = none):Fn P w K mg base C 6 "_law_tried" cG :=
 fP T xr rfl rfl (fun _ _ _ _ _ _ us hl=>jb us hl (fun _ _=>rfl)) fun f cdv A outer sh H E hr =>
  have nd:(bG CX0 P w K mg base ["_law_ways","_law_deed","_law_found","e","_law_some"] "_law_tried" (au iV) f cdv A outer sh H E).nox.N.Nodup:=xr.nd
  (aF (Ke (i:=3) (fun pn E=>(aG (bj (aZ (cC hr.units) (aL (ak (pv 1)) az) bN (aR _)) (aG (bC (i:=2) nd rfl (by first |exact Or.inl rfl |exact Or.inr rfl) (jw aaW (hr.mono (by decide)) (ak (pv 0)) (aq (aL (ak (pv 1)) az) (aq (aL (ak (pv 1)) az) aB))))) (aG (bj (aZ (cC hr.units) (aL (ak (pv 1)) az) bN (aR _)) (aG (bC (i:=2) nd rfl (by first |exact Or.inl rfl |exact Or.inr rfl) (jw aaC (hr.mono (by decide)) (ak (pv 0)) (aq (aL (ak (pv 1)) az) aB)))) (aG (bC (i:=2) nd rfl (by first |exact Or.inl rfl |exact Or.inr rfl) (jw aaL (hr.mono (by decide)) (ak (pv 0)) (aq (aL (ak (pv 1)) az) (aq (aL (ak (pv 1)) az) (aq (aL (ak (pv 1)) az) (aq (aL (ak (pv 1)) az) aB)))))))))))) (fun pn E XW hX=>(jL (wD (aZ (cC hr.units) (aL (ak (pv 1)) az) bN (aR _)) (jL (xY (i:=2) nd rfl (by first |exact Or.inl rfl |exact Or.inr rfl) (lZ hX aaW (hr.mono (by decide)) (ak (pv 0)) (aq (aL (ak (pv 1)) az) (aq (aL (ak (pv 1)) az) aB))))) (jL (wD (aZ (cC hr.units) (aL (ak (pv 1)) az) bN (aR _)) (jL (xY (i:=2) nd rfl (by first |exact Or.inl rfl |exact Or.inr rfl) (lZ hX aaC (hr.mono (by decide)) (ak (pv 0)) (aq (aL (ak (pv 1)) az) aB)))) (jL (xY (i:=2) nd rfl (by first |exact Or.inl rfl |exact Or.inr rfl) (lZ hX aaL (hr.mono (by decide)) (ak (pv 0)) (aq (aL (ak (pv 1)) az) (aq (aL (ak (pv 1)) az) (aq (aL (ak (pv 1)) az) (aq (aL (ak (pv 1)) az) aB)))))))))))) (fun v pn=>(aF (bC (i:=4) nd rfl (by first |exact Or.inl rfl |exact Or.inr rfl) (gf (aq (lC (ak (pv 3)) (jE (v:=.ref aaq) rfl ajB rfl) (fun u h=>h) rfl d9 boot_isinstance x_3) (aq (lC (ak (pv 3)) (jE (v:=.ref aaU) rfl akQ rfl) (fun u h=>h) rfl d9 boot_isinstance x_2) (aq (lC (ak (pv 3)) (jE (v:=.ref aaV) rfl akR rfl) (fun u h=>h) rfl d9 boot_isinstance x_1) (aq (lC (ak (pv 3)) (jE (v:=.ref aar) rfl ajC rfl) (fun u h=>h) rfl d9 boot_isinstance x_0) aB)))))) (aF (bC (i:=4) nd rfl (by first |exact Or.inl rfl |exact Or.inr rfl) (aV cu (ak (pv 4)) (gf (aq (lC (ak (pv 3)) (jE (v:=.ref aaz) rfl akd rfl) (fun u h=>h) rfl d9 boot_isinstance x_5) (aq (lC (ak (pv 3)) (jE (v:=.ref aap) rfl ajA rfl) (fun u h=>h) rfl d9 boot_isinstance x_4) aB))))) (aG (aQ (aV cu (gf (aq (lC (ak (pv 3)) (jE (v:=.ref b8) rfl akY rfl) (fun u h=>h) rfl d9 boot_isinstance x_8) (aq (lC (ak (pv 3)) (jE (v:=.ref b7) rfl adR rfl) (fun u h=>h) rfl d9 boot_isinstance x_7) (aq (lC (ak (pv 3)) (cL (v:=.ty "ValueError") rfl ag1 (by decide +kernel) rfl) (fun u h=>h) rfl d9 boot_isinstance x_6) aB)))) (ak (pv 4)))))))) abN rfl rfl rfl ahB nd rfl rfl rfl) (aG (aQ (ak (pv 2)))))
theorem zB:FnScope ["_law_own","_law_deed","_law_key"] ["_law_own","_law_deed"] (au jD):=⟨rfl,rfl,rfl,by decide +kernel,rfl,by decide +kernel,by decide +kernel⟩
theorem Iz(T:TF K mg "_law_done" jD)(aag:mg "list" = none):Fn P w K mg base C 1 "_law_done" gr :=
 fP T zB rfl rfl (fun _ _ _ _ _ _ us hl=>jb us hl (fun _ _=>rfl)) fun f cdv A outer sh H E hr =>
  have nd:(bG CX0 P w K mg base ["_law_own","_law_deed","_law_key"] "_law_done" (au jD) f cdv A outer sh H E).nox.N.Nodup:=zB.nd
  (aG (bj (aZ (cC hr.units) (aL (ak (pv 1)) az) bN (aR _)) (aG (ju (bc hr) (bH (bc hr) (ak (pv 0)) bN (fun _ _=>rfl)) (aL (ak (pv 1)) az) (aL (ak (pv 1)) az))) (aG (bj (aZ (cC hr.units) (aL (ak (pv 1)) az) bN (aR _)) (aF (gU (ud (bc hr) (bH (bc hr) (ak (pv 0)) bN (fun _ _=>rfl)) (aL (ak (pv 1)) az) ⟨rfl,rfl,rfl,rfl⟩)) (aG (pY PassesOwn.never rfl (jY (JT hr.hd rfl aag boot_list (bH (bc hr) (ak (pv 0)) bN (fun _ _=>rfl)))) (di nd rfl (by first |exact Or.inl rfl |exact Or.inr rfl)) (aG (bj (aZ (cC hr.units) (aL (ak (pv 2)) az) (aL (ak (pv 1)) az) (aR _)) (aG (gU (ud (bc hr) (bH (bc hr) (ak (pv 0)) bN (fun _ _=>rfl)) (ak (pv 2)) ⟨rfl,rfl,rfl,rfl⟩))) bf))))) (aG (ju (bc hr) (bH (bc hr) (ak (pv 0)) bN (fun _ _=>rfl)) (dC (aq (aL (ak (pv 1)) az) (aq (aL (ak (pv 1)) az) aB))) (dC (aq (aL (ak (pv 1)) az) (aq (aL (ak (pv 1)) az) aB)))))))))
theorem uI:FnScope ["_law_own","_law_goals","_law_goal","_law_way_here","_law_mark"] ["_law_own","_law_goals"] (au gR):=⟨rfl,rfl,rfl,by decide +kernel,rfl,by decide +kernel,by decide +kernel⟩
theorem Df(T:TF K mg "_law_marked" gR)(ac2:mg "min" = none)(aaB:Fn P w K mg base C 3 "_law_way" iB):Fn P w K mg base C 4 "_law_marked" fQ :=
 fP T uI rfl rfl (fun _ _ _ _ _ _ us hl=>jb us hl (fun _ _=>rfl)) fun f cdv A outer sh H E hr =>
  have nd:(bG CX0 P w K mg base ["_law_own","_law_goals","_law_goal","_law_way_here","_law_mark"] "_law_marked" (au gR) f cdv A outer sh H E).nox.N.Nodup:=uI.nd
  (aG (pY PassesOwn.never rfl (jY (ak (pv 1))) (di nd rfl (by first |exact Or.inl rfl |exact Or.inr rfl)) (aF (bC (i:=3) nd rfl (by first |exact Or.inl rfl |exact Or.inr rfl) (aO aaB (hr.mono (by decide)) rfl (aq (ak (pv 0)) (aq (ak (pv 2)) aB)))) (aG (bj (aZ mH (ak (pv 3)) dz (aR _)) (aF (bC (i:=4) nd rfl (by first |exact Or.inl rfl |exact Or.inr rfl) (oF (bc hr) (bH (bc hr) (ak (pv 0)) bN (fun _ _=>rfl)) (ak (pv 2)) ⟨rfl,rfl,rfl,rfl⟩)) (aG (bj (PDW.pt (rQ (aZ je (ak (pv 4)) dz (aR _)) (pU (aZ rP (aL (ak (pv 3)) az) (aL (ak (pv 4)) az) (aR _))))) (aG (ju (bc hr) (bH (bc hr) (ak (pv 0)) bN (fun _ _=>rfl)) (ak (pv 2)) (dC (aq (aL (ak (pv 3)) az) (aq (aL (ak (pv 3)) az) aB))))) (aG (ju (bc hr) (bH (bc hr) (ak (pv 0)) bN (fun _ _=>rfl)) (ak (pv 2)) (dC (aq (aL (ak (pv 4)) az) (aq (cM (yI rfl) rfl ac2 boot_min (aq (aL (ak (pv 4)) az) (aq (aL (ak (pv 3)) az) aB))) aB)))))))) bf)))))
theorem IK:FnScope ["_law_script","_law_cells","_law_houses_here","_law_goals","_law_both","_law_owns","_law_held","_law_k","_law_side","_law_deed","_law_due_here","_law_pair"] ["_law_script"] (au lO):=⟨rfl,rfl,rfl,by decide +kernel,rfl,by decide +kernel,by decide +kernel⟩
end
theorem Cw{P:Program}{w:World}{K:PySem.W.Frag}{mg:Str->Option Value}{base:Heap}{C:Cl}{f:Addr}{fd:FuncData}(F:Fun K "law" "law" lO f fd)(afs:MkD P w K mg base C 1 "Ways" cX [])(aa9:mg "range" = none)(adT:Fn P w K mg base C 1 "_law_mixed" mQ)(ac5:Fn P w K mg base C 2 "_law_houses" lF)(j8:Fn P w K mg base C 1 "_law_mix" bI)(aad:Fn P w K mg base C 1 "_law_cell_at" b_)(ab5:Fn P w K mg base C 1 "_law_begun" iI)(adU:Fn P w K mg base C 4 "_law_drawn" gJ)(afN:Fn P w K mg base C 1 "_law_due" fG)(adV:Fn P w K mg base C 6 "_law_tried" cG)(aeL:Fn P w K mg base C 1 "_law_done" gr)(ac6:Fn P w K mg base C 4 "_law_marked" fQ)(abm:Fn P w K mg base C 6 "_law_right" dX):FnOk P w K mg base CX0 7 f fd ["_law_script"] (spD K C uf) :=
 Rf F IK rfl rfl fun cdv A outer sh H E hr =>
  have nd:(bG CX0 P w K mg base ["_law_script","_law_cells","_law_houses_here","_law_goals","_law_both","_law_owns","_law_held","_law_k","_law_side","_law_deed","_law_due_here","_law_pair"] "law" (au lO) f cdv A outer sh H E).nox.N.Nodup:=IK.nd
  (aF (bC (i:=1) nd rfl (by first |exact Or.inl rfl |exact Or.inr rfl) (aO adT (hr.mono (by decide)) rfl (aq (ak (pv 0)) aB))) (aF (bC (i:=2) nd rfl (by first |exact Or.inl rfl |exact Or.inr rfl) (aO ac5 (hr.mono (by decide)) rfl (aq (ak (pv 1)) aB))) (aF (yO (i:=3) nd rfl (by first |exact Or.inl rfl |exact Or.inr rfl) rfl (fU (oN:=["_law_script","_law_cells","_law_houses_here","_law_goals","_law_both","_law_owns","_law_held","_law_k","_law_side","_law_deed","_law_due_here","_law_pair"]) (osc:=au lO) (N:=["_law_k","_law_cells"]) (μ:=[none,some 1]) rfl rfl (by decide +kernel)) (mZ rfl aa9 (aq az aB)) (fun _ _ _ _=>(di (show List.Nodup (["_law_k","_law_cells"]:List Str) by decide +kernel) rfl (by first |exact Or.inl rfl |exact Or.inr rfl))) (fun _ _ _ _=>gW) (fun _ _ _ _=>(aV bU (aO j8 (hr.mono (by decide)) rfl (aq (aO aad (hr.mono (by decide)) rfl (aq (ak (pv 1)) (aq az aB))) (aq (ak (pv 0)) aB))) az))) (aF (bC (i:=4) nd rfl (by first |exact Or.inl rfl |exact Or.inr rfl) (gf (aq (Bb afs (hr.mono (by decide)) rfl) (aq (Bb afs (hr.mono (by decide)) rfl) aB)))) (aF (bC (i:=5) nd rfl (by first |exact Or.inl rfl |exact Or.inr rfl) (gf (aq (za ab5 (hr.mono (by decide)) rfl) (aq (za ab5 (hr.mono (by decide)) rfl) aB)))) (aF (bC (i:=6) nd rfl (by first |exact Or.inl rfl |exact Or.inr rfl) (yd aB)) (aF (pY PassesOwn.never rfl (Fq rfl aa9 (aq az (aq (aV cu az (aV bU (aO aad (hr.mono (by decide)) rfl (aq (ak (pv 1)) (aq az aB))) az)) aB))) (di nd rfl (by first |exact Or.inl rfl |exact Or.inr rfl)) (aF (bC (i:=8) nd rfl (by first |exact Or.inl rfl |exact Or.inr rfl) (aV pR (aV bU (aO j8 (hr.mono (by decide)) rfl (aq (aL (ak (pv 1)) (ak (pv 7))) (aq az aB))) az) az)) (aF (bC (i:=9) nd rfl (by first |exact Or.inl rfl |exact Or.inr rfl) (aO adU (hr.mono (by decide)) rfl (aq (aL (ak (pv 5)) (ak (pv 8))) (aq (ak (pv 2)) (aq (ak (pv 3)) (aq (aL (ak (pv 1)) (ak (pv 7))) aB)))))) (aF (bC (i:=10) nd rfl (by first |exact Or.inl rfl |exact Or.inr rfl) (aO afN (hr.mono (by decide)) rfl (aq (aL (ak (pv 5)) (ak (pv 8))) (aq (ak (pv 9)) aB)))) (aF (bj (aZ (lg hr.units) (aO adV (hr.mono (by decide)) rfl (aq (aL (ak (pv 4)) (ak (pv 8))) (aq (ak (pv 9)) aB))) (ak (pv 10)) (aR _)) (aG (aQ eQ)) bf) (aF (bj (aZ je (ak (pv 10)) dz (aR _)) (aF (gU (aO aeL (hr.mono (by decide)) rfl (aq (aL (ak (pv 5)) (ak (pv 8))) (aq (ak (pv 9)) aB)))) (aG (gU (aO ac6 (hr.mono (by decide)) rfl (aq (aL (ak (pv 5)) (ak (pv 8))) (aq (ak (pv 3)) aB)))))) bf) (aF (bj (aZ rP (aV bU (aO j8 (hr.mono (by decide)) rfl (aq (aL (ak (pv 1)) (ak (pv 7))) (aq az aB))) az) az (aR _)) (aG O_) bf) (aG (bj (tO (jF (aO abm (hr.mono (by decide)) rfl (aq (aL (ak (pv 4)) (ak (pv 8))) (aq (aL (ak (pv 5)) (ak (pv 8))) (aq (ak (pv 2)) (aq (ak (pv 3)) (aq (aO j8 (hr.mono (by decide)) rfl (aq (aL (ak (pv 1)) (ak (pv 7))) (aq az aB))) (aq (ak (pv 6)) aB))))))))) (aG (aQ eQ)) bf))))))))) (aF (Kh PassesOwn.never rfl (ak (pv 6)) (di nd rfl (by first |exact Or.inl rfl |exact Or.inr rfl)) (aF (bj (Ox hr.units (aL (ak (pv 11)) az) (aL (ak (pv 11)) az) (aR _)) (aG (aQ eQ)) bf) (aG (uQ (aL (ak (pv 11)) az) az)))) (aF (bj (tO (jF (aO abm (hr.mono (by decide)) rfl (aq (aL (ak (pv 4)) az) (aq (aL (ak (pv 5)) az) (aq (ak (pv 2)) (aq (ak (pv 3)) (aq az (aq (yd aB) aB))))))))) (aG (aQ eQ)) bf) (aG (aQ (aO abm (hr.mono (by decide)) rfl (aq (aL (ak (pv 4)) az) (aq (aL (ak (pv 5)) az) (aq (ak (pv 2)) (aq (ak (pv 3)) (aq az (aq (yd aB) aB))))))))))))))))))
theorem all_mk{P:Program}{w:World}{K:PySem.W.Frag}{h:Heap}{mg:Str->Option Value}{fa ab6 abl abJ ab7 aaX aaM n6 p8 aaY t6 v8 aaN aau aaD ac7 ab8 aaE abK aeq aer ac8 ab9 t7 aca aes acb aet aaF aak abL aav acd ac9 abM ait c7 aap aaq aar aaz aaU b7 aaV aae b8:Addr}(X:K.In h)(G:h.Ns mainGlobals mg)(hfa:mg "law" = some (.ref fa))
  {aiu aiv:Option Addr} {aiw:Array (Option Value)} {aix aiy aiz aiA aft aiB:Value}
  {ag2 ag3:Option Addr} {ag4:Array (Option Value)} {ag5 ag6 ag7 ag8 adW ag9:Value}
  {ahC ahD:Option Addr} {ahE:Array (Option Value)} {ahF ahG ahH ahI aeD ahJ:Value}
  {aiC aiD:Option Addr} {aiE:Array (Option Value)} {aiF aiG aiH aiI afu aiJ:Value}
  {agx agy:Option Addr} {agz:Array (Option Value)} {agA agB agC agD adN agE:Value}
  {afO afP:Option Addr} {afQ:Array (Option Value)} {afR afS afT afU acU afV:Value}
  {ach aci:Option Addr} {acj:Array (Option Value)} {ack acn aco acp aaJ acq:Value}
  {aev aew:Option Addr} {aex:Array (Option Value)} {aey aez aeA aeB abI aeC:Value}
  {agF agG:Option Addr} {agH:Array (Option Value)} {agI agJ agK agL adO agM:Value}
  {aeM aeN:Option Addr} {aeO:Array (Option Value)} {aeP aeQ aeR aeS abO aeT:Value}
  {afW afX:Option Addr} {afY:Array (Option Value)} {afZ af0 af1 af2 acV af3:Value}
  {af4 af5:Option Addr} {af6:Array (Option Value)} {af7 af8 af9 aga acW agb:Value}
  {aha ahb:Option Addr} {ahc:Array (Option Value)} {ahd ahe ahf ahg adX ahh:Value}
  {afv afw:Option Addr} {afx:Array (Option Value)} {afy afz afA afB ace afC:Value}
  {ajD ajE:Option Addr} {ajF:Array (Option Value)} {ajG ajH ajI ajJ agu ajK:Value}
  {aiK aiL:Option Addr} {aiM:Array (Option Value)} {aiN aiO aiP aiQ afD aiR:Value}
  {ahK ahL:Option Addr} {ahM:Array (Option Value)} {ahN ahO ahP ahQ aeE ahR:Value}
  {ahS ahT:Option Addr} {ahU:Array (Option Value)} {ahV ahW ahX ahY aeF ahZ:Value}
  {ake akf:Option Addr} {akg:Array (Option Value)} {akh aki akj akk ahi akl:Value}
  {akm akn:Option Addr} {ako:Array (Option Value)} {akp akq akr aks ahj akt:Value}
  {ajL ajM:Option Addr} {ajN:Array (Option Value)} {ajO ajP ajQ ajR agv ajS:Value}
  {aiS aiT:Option Addr} {aiU:Array (Option Value)} {aiV aiW aiX aiY afE aiZ:Value}
  {aeU aeV:Option Addr} {aeW:Array (Option Value)} {aeX aeY aeZ ae0 abP ae1:Value}
  {ai0 ai1:Option Addr} {ai2:Array (Option Value)} {ai3 ai4 ai5 ai6 afF ai7:Value}
  {aku akv:Option Addr} {akx:Array (Option Value)} {aky akz akA akB ahk akC:Value}
  {ai8 ai9:Option Addr} {aja:Array (Option Value)} {ajb ajc ajd aje afG ajf:Value}
  {akD akE:Option Addr} {akF:Array (Option Value)} {akG akH akI akJ ahl akK:Value}
  {ah0 ah1:Option Addr} {ah2:Array (Option Value)} {ah3 ah4 ah5 ah6 aeG ah7:Value}
  {agN agO:Option Addr} {agP:Array (Option Value)} {agQ agR agS agT adP agU:Value}
  {ah8 ah9:Option Addr} {aia:Array (Option Value)} {aib aic aid aie aeH aif:Value}
  {ahm ahn:Option Addr} {aho:Array (Option Value)} {ahp ahq ahr ahs adY aht:Value}
  {ajg ajh:Option Addr} {aji:Array (Option Value)} {ajj ajk ajl ajm afH ajn:Value}
  {ajT ajU:Option Addr} {ajV:Array (Option Value)} {ajW ajX ajY ajZ agw aj0:Value}
  {aih aii:Option Addr} {aij:Array (Option Value)} {aik ail aim ain aeI aio:Value}
  {akZ aj1:Option Addr} {ak0:Array (Option Value)} {ak1 aj2 aj3 aj4 ahu aj5:Value}
  (adZ:PySem.W.nsIn K mainGlobals "_law_mixed" = some (some (.ref ab6)))
  (ad0:K.lookup ab6=some ⟨aix,aiu,.func (PySem.W.fnOf "_law_mixed" "_law_mixed" (aY iJ) (aW iJ) (au iJ) .none aiy aiz aiA aiv aft aiB),aiw⟩) (ada:PySem.W.codeIn K aft "_law_mixed" = true) (ad1:PySem.W.keepIn K (.ref ab6)=true)
  (acr:PySem.W.nsIn K mainGlobals "_law_cell_at" = some (some (.ref abl)))
  (acs:K.lookup abl=some ⟨ag5,ag2,.func (PySem.W.fnOf "_law_cell_at" "_law_cell_at" (aY fW) (aW fW) (au fW) .none ag6 ag7 ag8 ag3 adW ag9),ag4⟩) (abQ:PySem.W.codeIn K adW "_law_cell_at" = true) (acu:PySem.W.keepIn K (.ref abl)=true)
  (adb:PySem.W.nsIn K mainGlobals "_law_houses" = some (some (.ref abJ)))
  (ade:K.lookup abJ=some ⟨ahF,ahC,.func (PySem.W.fnOf "_law_houses" "_law_houses" (aY eY) (aW eY) (au eY) .none ahG ahH ahI ahD aeD ahJ),ahE⟩) (acv:PySem.W.codeIn K aeD "_law_houses" = true) (adf:PySem.W.keepIn K (.ref abJ)=true)
  (ad2:PySem.W.nsIn K mainGlobals "_law_whole" = some (some (.ref ab7)))
  (ad3:K.lookup ab7=some ⟨aiF,aiC,.func (PySem.W.fnOf "_law_whole" "_law_whole" (aY iM) (aW iM) (au iM) .none aiG aiH aiI aiD afu aiJ),aiE⟩) (adg:PySem.W.codeIn K afu "_law_whole" = true) (ad4:PySem.W.keepIn K (.ref ab7)=true)
  (abR:PySem.W.nsIn K mainGlobals "_law_alike" = some (some (.ref aaX)))
  (abS:K.lookup aaX=some ⟨agA,agx,.func (PySem.W.fnOf "_law_alike" "_law_alike" (aY dM) (aW dM) (au dM) .none agB agC agD agy adN agE),agz⟩) (abp:PySem.W.codeIn K adN "_law_alike" = true) (abT:PySem.W.keepIn K (.ref aaX)=true)
  (abq:PySem.W.nsIn K mainGlobals "_law_alike" = some (some (.ref aaM)))
  (abr:K.lookup aaM=some ⟨afR,afO,.func (PySem.W.fnOf "_law_alike" "_law_alike" (aY dh) (aW dh) (au dh) .none afS afT afU afP acU afV),afQ⟩) (abd:PySem.W.codeIn K acU "_law_alike" = true) (abt:PySem.W.keepIn K (.ref aaM)=true)
  (aal:PySem.W.findIn K (.ref c7) "neighbours" = some (some (.ref n6))) (aam:PySem.W.isFn K (.ref n6)=true)
  (aan:K.lookup n6=some ⟨ack,ach,.func (PySem.W.fnOf "neighbours" "Ways.neighbours" (aY cF) (aW cF) (au cF) .none acn aco acp aci aaJ acq),acj⟩) (aaf:PySem.W.codeIn K aaJ "Ways.neighbours" = true) (aao:PySem.W.keepIn K (.ref n6)=true)
  (aaO:PySem.W.findIn K (.ref c7) "goals" = some (some (.ref p8))) (aaP:PySem.W.isFn K (.ref p8)=true)
  (aaQ:K.lookup p8=some ⟨aey,aev,.func (PySem.W.fnOf "goals" "Ways.goals" (aY dw) (aW dw) (au dw) .none aez aeA aeB aew abI aeC),aex⟩) (aaG:PySem.W.codeIn K abI "Ways.goals" = true) (aaR:PySem.W.keepIn K (.ref p8)=true)
  (abU:PySem.W.nsIn K mainGlobals "_law_alike" = some (some (.ref aaY)))
  (abV:K.lookup aaY=some ⟨agI,agF,.func (PySem.W.fnOf "_law_alike" "_law_alike" (aY dN) (aW dN) (au dN) .none agJ agK agL agG adO agM),agH⟩) (abu:PySem.W.codeIn K adO "_law_alike" = true) (abW:PySem.W.keepIn K (.ref aaY)=true)
  (aaZ:PySem.W.findIn K (.ref c7) "need_tie" = some (some (.ref t6))) (aa0:PySem.W.isFn K (.ref t6)=true)
  (aa1:K.lookup t6=some ⟨aeP,aeM,.func (PySem.W.fnOf "need_tie" "Ways.need_tie" (aY cY) (aW cY) (au cY) .none aeQ aeR aeS aeN abO aeT),aeO⟩) (aaS:PySem.W.codeIn K abO "Ways.need_tie" = true) (aa2:PySem.W.keepIn K (.ref t6)=true)
  (abv:PySem.W.findIn K (.ref c7) "length" = some (some (.ref v8))) (abw:PySem.W.isFn K (.ref v8)=true)
  (abx:K.lookup v8=some ⟨afZ,afW,.func (PySem.W.fnOf "length" "Ways.length" (aY dZ) (aW dZ) (au dZ) .none af0 af1 af2 afX acV af3),afY⟩) (abe:PySem.W.codeIn K acV "Ways.length" = true) (aby:PySem.W.keepIn K (.ref v8)=true)
  (abz:PySem.W.nsIn K mainGlobals "_law_no_length" = some (some (.ref aaN)))
  (abA:K.lookup aaN=some ⟨af7,af4,.func (PySem.W.fnOf "_law_no_length" "_law_no_length" (aY d_) (aW d_) (au d_) .none af8 af9 aga af5 acW agb),af6⟩) (abf:PySem.W.codeIn K acW "_law_no_length" = true) (abB:PySem.W.keepIn K (.ref aaN)=true)
  (acw:PySem.W.findIn K (.ref c7) "mark" = some (some (.ref aau))) (acx:PySem.W.isFn K (.ref aau)=true)
  (acy:K.lookup aau=some ⟨ahd,aha,.func (PySem.W.fnOf "mark" "Ways.mark" (aY h_) (aW h_) (au h_) .none ahe ahf ahg ahb adX ahh),ahc⟩) (abX:PySem.W.codeIn K adX "Ways.mark" = true) (acz:PySem.W.keepIn K (.ref aau)=true)
  (abg:PySem.W.nsIn K mainGlobals "place_of_way" = some (some (.ref aaD)))
  (abh:K.lookup aaD=some ⟨afy,afv,.func (PySem.W.fnOf "place_of_way" "place_of_way" (aY dD) (aW dD) (au dD) .none afz afA afB afw ace afC),afx⟩) (aa3:PySem.W.codeIn K ace "place_of_way" = true) (abi:PySem.W.keepIn K (.ref aaD)=true)
  (ae2:PySem.W.nsIn K mainGlobals "better" = some (some (.ref ac7)))
  (ae3:K.lookup ac7=some ⟨ajG,ajD,.func (PySem.W.fnOf "better" "better" (aY jC) (aW jC) (au jC) .none ajH ajI ajJ ajE agu ajK),ajF⟩) (ad5:PySem.W.codeIn K agu "better" = true) (ae4:PySem.W.keepIn K (.ref ac7)=true)
  (ad6:PySem.W.nsIn K mainGlobals "may_use" = some (some (.ref ab8)))
  (ad7:K.lookup ab8=some ⟨aiN,aiK,.func (PySem.W.fnOf "may_use" "may_use" (aY iQ) (aW iQ) (au iQ) .none aiO aiP aiQ aiL afD aiR),aiM⟩) (adh:PySem.W.codeIn K afD "may_use" = true) (ad8:PySem.W.keepIn K (.ref ab8)=true)
  (adi:PySem.W.findIn K (.ref c7) "way" = some (some (.ref aaE))) (adk:PySem.W.isFn K (.ref aaE)=true)
  (adl:K.lookup aaE=some ⟨ahN,ahK,.func (PySem.W.fnOf "way" "Ways.way" (aY jd) (aW jd) (au jd) .none ahO ahP ahQ ahL aeE ahR),ahM⟩) (acA:PySem.W.codeIn K aeE "Ways.way" = true) (adm:PySem.W.keepIn K (.ref aaE)=true)
  (adn:PySem.W.nsIn K mainGlobals "_law_better" = some (some (.ref abK)))
  (ado:K.lookup abK=some ⟨ahV,ahS,.func (PySem.W.fnOf "_law_better" "_law_better" (aY gM) (aW gM) (au gM) .none ahW ahX ahY ahT aeF ahZ),ahU⟩) (acB:PySem.W.codeIn K aeF "_law_better" = true) (adp:PySem.W.keepIn K (.ref abK)=true)
  (agc:PySem.W.nsIn K mainGlobals "_law_may" = some (some (.ref aeq)))
  (agd:K.lookup aeq=some ⟨akh,ake,.func (PySem.W.fnOf "_law_may" "_law_may" (aY kJ) (aW kJ) (au kJ) .none aki akj akk akf ahi akl),akg⟩) (ae5:PySem.W.codeIn K ahi "_law_may" = true) (age:PySem.W.keepIn K (.ref aeq)=true)
  (agf:PySem.W.nsIn K mainGlobals "_law_way" = some (some (.ref aer)))
  (agg:K.lookup aer=some ⟨akp,akm,.func (PySem.W.fnOf "_law_way" "_law_way" (aY kO) (aW kO) (au kO) .none akq akr aks akn ahj akt),ako⟩) (ae6:PySem.W.codeIn K ahj "_law_way" = true) (agh:PySem.W.keepIn K (.ref aer)=true)
  (ae7:PySem.W.nsIn K mainGlobals "_law_look" = some (some (.ref ac8)))
  (ae8:K.lookup ac8=some ⟨ajO,ajL,.func (PySem.W.fnOf "_law_look" "_law_look" (aY ie) (aW ie) (au ie) .none ajP ajQ ajR ajM agv ajS),ajN⟩) (ad9:PySem.W.codeIn K agv "_law_look" = true) (ae9:PySem.W.keepIn K (.ref ac8)=true)
  (aea:PySem.W.nsIn K mainGlobals "_law_right" = some (some (.ref ab9)))
  (aeb:K.lookup ab9=some ⟨aiV,aiS,.func (PySem.W.fnOf "_law_right" "_law_right" (aY fX) (aW fX) (au fX) .none aiW aiX aiY aiT afE aiZ),aiU⟩) (adq:PySem.W.codeIn K afE "_law_right" = true) (aec:PySem.W.keepIn K (.ref ab9)=true)
  (aa4:PySem.W.findIn K (.ref c7) "__init__" = some (some (.ref t7))) (aa5:PySem.W.isFn K (.ref t7)=true)
  (aa6:K.lookup t7=some ⟨aeX,aeU,.func (PySem.W.fnOf "__init__" "Ways.__init__" (aY dO) (aW dO) (au dO) .none aeY aeZ ae0 aeV abP ae1),aeW⟩) (aaT:PySem.W.codeIn K abP "Ways.__init__" = true) (acf:PySem.W.keepIn K (.ref t7)=true)
  (aed:PySem.W.nsIn K mainGlobals "_law_begun" = some (some (.ref aca)))
  (aee:K.lookup aca=some ⟨ai3,ai0,.func (PySem.W.fnOf "_law_begun" "_law_begun" (aY iR) (aW iR) (au iR) .none ai4 ai5 ai6 ai1 afF ai7),ai2⟩) (adt:PySem.W.codeIn K afF "_law_begun" = true) (aef:PySem.W.keepIn K (.ref aca)=true)
  (agi:PySem.W.nsIn K mainGlobals "_law_mix" = some (some (.ref aes)))
  (agj:K.lookup aes=some ⟨aky,aku,.func (PySem.W.fnOf "_law_mix" "_law_mix" (aY kW) (aW kW) (au kW) .none akz akA akB akv ahk akC),akx⟩) (afa:PySem.W.codeIn K ahk "_law_mix" = true) (agk:PySem.W.keepIn K (.ref aes)=true)
  (aeg:PySem.W.nsIn K mainGlobals "_law_drawn" = some (some (.ref acb)))
  (aeh:K.lookup acb=some ⟨ajb,ai8,.func (PySem.W.fnOf "_law_drawn" "_law_drawn" (aY iT) (aW iT) (au iT) .none ajc ajd aje ai9 afG ajf),aja⟩) (adu:PySem.W.codeIn K afG "_law_drawn" = true) (aei:PySem.W.keepIn K (.ref acb)=true)
  (agl:PySem.W.nsIn K mainGlobals "_law_due" = some (some (.ref aet)))
  (agm:K.lookup aet=some ⟨akG,akD,.func (PySem.W.fnOf "_law_due" "_law_due" (aY kY) (aW kY) (au kY) .none akH akI akJ akE ahl akK),akF⟩) (afb:PySem.W.codeIn K ahl "_law_due" = true) (agn:PySem.W.keepIn K (.ref aet)=true)
  (adv:PySem.W.findIn K (.ref c7) "tie" = some (some (.ref aaF))) (adw:PySem.W.isFn K (.ref aaF)=true)
  (adx:K.lookup aaF=some ⟨ah3,ah0,.func (PySem.W.fnOf "tie" "Ways.tie" (aY gP) (aW gP) (au gP) .none ah4 ah5 ah6 ah1 aeG ah7),ah2⟩) (acC:PySem.W.codeIn K aeG "Ways.tie" = true) (ady:PySem.W.keepIn K (.ref aaF)=true)
  (abY:PySem.W.findIn K (.ref c7) "untie" = some (some (.ref aak))) (abZ:PySem.W.isFn K (.ref aak)=true)
  (ab0:K.lookup aak=some ⟨agQ,agN,.func (PySem.W.fnOf "untie" "Ways.untie" (aY fu) (aW fu) (au fu) .none agR agS agT agO adP agU),agP⟩) (abC:PySem.W.codeIn K adP "Ways.untie" = true) (ab1:PySem.W.keepIn K (.ref aak)=true)
  (adz:PySem.W.nsIn K mainGlobals "bettered" = some (some (.ref abL)))
  (adA:K.lookup abL=some ⟨aib,ah8,.func (PySem.W.fnOf "bettered" "bettered" (aY gQ) (aW gQ) (au gQ) .none aic aid aie ah9 aeH aif),aia⟩) (acD:PySem.W.codeIn K aeH "bettered" = true) (adB:PySem.W.keepIn K (.ref abL)=true)
  (acE:PySem.W.findIn K (.ref c7) "hear" = some (some (.ref aav))) (acF:PySem.W.isFn K (.ref aav)=true)
  (acG:K.lookup aav=some ⟨ahp,ahm,.func (PySem.W.fnOf "hear" "Ways.hear" (aY fY) (aW fY) (au fY) .none ahq ahr ahs ahn adY aht),aho⟩) (ab2:PySem.W.codeIn K adY "Ways.hear" = true) (acH:PySem.W.keepIn K (.ref aav)=true)
  (aej:PySem.W.nsIn K mainGlobals "_law_tried" = some (some (.ref acd)))
  (aek:K.lookup acd=some ⟨ajj,ajg,.func (PySem.W.fnOf "_law_tried" "_law_tried" (aY iV) (aW iV) (au iV) .none ajk ajl ajm ajh afH ajn),aji⟩) (adC:PySem.W.codeIn K afH "_law_tried" = true) (ael:PySem.W.keepIn K (.ref acd)=true)
  (afc:PySem.W.nsIn K mainGlobals "_law_done" = some (some (.ref ac9)))
  (afd:K.lookup ac9=some ⟨ajW,ajT,.func (PySem.W.fnOf "_law_done" "_law_done" (aY jD) (aW jD) (au jD) .none ajX ajY ajZ ajU agw aj0),ajV⟩) (aem:PySem.W.codeIn K agw "_law_done" = true) (afe:PySem.W.keepIn K (.ref ac9)=true)
  (adD:PySem.W.nsIn K mainGlobals "_law_marked" = some (some (.ref abM)))
  (adE:K.lookup abM=some ⟨aik,aih,.func (PySem.W.fnOf "_law_marked" "_law_marked" (aY gR) (aW gR) (au gR) .none ail aim ain aii aeI aio),aij⟩) (acI:PySem.W.codeIn K aeI "_law_marked" = true) (adF:PySem.W.keepIn K (.ref abM)=true)
  (ajo:PySem.W.nsIn K mainGlobals "law" = some (some (.ref ait)))
  (ajp:K.lookup ait=some ⟨ak1,akZ,.func (PySem.W.fnOf "law" "law" (aY lO) (aW lO) (au lO) .none aj2 aj3 aj4 aj1 ahu aj5),ak0⟩) (ahv:PySem.W.codeIn K ahu "law" = true) (ajq:PySem.W.keepIn K (.ref ait)=true)
  (ahw:PySem.W.nsIn K mainGlobals "Ways" = some (some (.ref c7))) (v9:PySem.W.plainGet K c7 Str.empty=true) (w6:PySem.W.hasDictIn K c7=true) (aaa:PySem.W.plainOver K c7=true) (aab:PySem.W.findIn K (.ref c7) "__setattr__" = some (some (.builtin "object.__setattr__"))) (ago:PySem.W.makesIn K c7=true) (agp:PySem.W.keepIn K (.ref c7)=true)
  (aen:PySem.W.nsIn K mainGlobals "BadDeed" = some (some (.ref aap)))
  (aeo:PySem.W.nsIn K mainGlobals "BadText" = some (some (.ref aaq)))
  (aep:PySem.W.nsIn K mainGlobals "NoHouse" = some (some (.ref aar)))
  (afg:PySem.W.nsIn K mainGlobals "NoNote" = some (some (.ref aaz)))
  (agq:PySem.W.nsIn K mainGlobals "NoRow" = some (some (.ref aaU)))
  (abn:PySem.W.nsIn K mainGlobals "NotTied" = some (some (.ref b7)))
  (agr:PySem.W.nsIn K mainGlobals "Owned" = some (some (.ref aaV)))
  (acJ:PySem.W.nsIn K mainGlobals "PostError" = some (some (.ref aae)))
  (afI:PySem.W.nsIn K mainGlobals "Tied" = some (some (.ref b8)))
  (agY:PySem.W.specialIn K (.builtin "object.__class__") "__get__" = some (some (.builtin "getset_descriptor.__get__")))
  (agZ:PySem.W.takesIn K (.builtin "object.__class__")=some true)
  (adG:ownIn K b7 yq "ValueError.__new__" = true)
  (abD:(PySem.W.clsIn K b7).isSome=true)
  (abE:PySem.W.findIn K (.ref b7) "__getattribute__" = some (some (.builtin "BaseException.__getattribute__")))
  (abF:PySem.W.findIn K (.ref b7) "__getattr__" = some none)
  (abj:PySem.W.subIn K (.ref b7) (.type "BaseException")=some true)
  (abG:PySem.W.findIn K (.ref b7) "__class__" = some (some (.builtin "object.__class__")))
  (abH:PySem.W.mroIn K b7 (.type "object")=some true)
  (aaA:PySem.W.exmOne K (.ref b7) (.ref b7)=some true)
  (aat:PySem.W.exmOne K (.ref b7) (.ref aae)=some true)
  (acK:PySem.W.kitOne K (.ref b7) (.ref aar)=some false)
  (acL:PySem.W.kitOne K (.ref b7) (.ref aaV)=some false)
  (acM:PySem.W.kitOne K (.ref b7) (.ref aaU)=some false)
  (acN:PySem.W.kitOne K (.ref b7) (.ref aaq)=some false)
  (acO:PySem.W.kitOne K (.ref b7) (.ref aap)=some false)
  (acP:PySem.W.kitOne K (.ref b7) (.ref aaz)=some false)
  (acQ:PySem.W.kitOne K (.ref b7) (.type "ValueError")=some true)
  (acR:PySem.W.kitOne K (.ref b7) (.ref b7)=some true)
  (acS:PySem.W.kitOne K (.ref b7) (.ref b8)=some false)
  (ags:ownIn K b8 yq "ValueError.__new__" = true)
  (adH:(PySem.W.clsIn K b8).isSome=true)
  (adI:PySem.W.findIn K (.ref b8) "__getattribute__" = some (some (.builtin "BaseException.__getattribute__")))
  (adJ:PySem.W.findIn K (.ref b8) "__getattr__" = some none)
  (acT:PySem.W.subIn K (.ref b8) (.type "BaseException")=some true)
  (adK:PySem.W.findIn K (.ref b8) "__class__" = some (some (.builtin "object.__class__")))
  (adL:PySem.W.mroIn K b8 (.type "object")=some true)
  (aaH:PySem.W.exmOne K (.ref b8) (.ref aae)=some true)
  (afh:PySem.W.kitOne K (.ref b8) (.ref aar)=some false)
  (afi:PySem.W.kitOne K (.ref b8) (.ref aaV)=some false)
  (afj:PySem.W.kitOne K (.ref b8) (.ref aaU)=some false)
  (afk:PySem.W.kitOne K (.ref b8) (.ref aaq)=some false)
  (afl:PySem.W.kitOne K (.ref b8) (.ref aap)=some false)
  (afm:PySem.W.kitOne K (.ref b8) (.ref aaz)=some false)
  (afn:PySem.W.kitOne K (.ref b8) (.type "ValueError")=some true)
  (afo:PySem.W.kitOne K (.ref b8) (.ref b7)=some false)
  (afp:PySem.W.kitOne K (.ref b8) (.ref b8)=some true)
  (aaI:PySem.W.findIn K (.ref c7) "length_by" = some none)
  (aa7:PySem.W.findIn K (.ref c7) "mark_of" = some none)
  (aaw:PySem.W.findIn K (.ref c7) "tellings_by" = some none)
  (ab3:PySem.W.nsIn K mainGlobals "ValueError" = some none)
  (adM:PySem.W.nsIn K mainGlobals "all" = some none)
  (ahx:PySem.W.nsIn K mainGlobals "bool" = some none)
  (ajr:PySem.W.nsIn K mainGlobals "int" = some none)
  (u9:PySem.W.nsIn K mainGlobals "isinstance" = some none)
  (acg:PySem.W.nsIn K mainGlobals "len" = some none)
  (acX:PySem.W.nsIn K mainGlobals "list" = some none)
  (ajs:PySem.W.nsIn K mainGlobals "max" = some none)
  (aeu:PySem.W.nsIn K mainGlobals "min" = some none)
  (acY:PySem.W.nsIn K mainGlobals "range" = some none)
  (ab4:PySem.W.nsIn K mainGlobals "sorted" = some none)
  (acZ:PySem.W.nsIn K mainGlobals "tuple" = some none)
  (afJ:PySem.W.nsIn K mainGlobals "zip" = some none) :
  ∃fd:FuncData,(∀(s:Shared) (v:Value),BindsTo s fd ⟨[v],[]⟩ [("_law_script",v)])/\∀base:Heap,K.In base->base.Ns mainGlobals mg->FnOk P w K mg base CX0 7 fa fd ["_law_script"] (spC K uf):=by
 have e:=hfa.symm.trans (PySem.W.mg_of X G ajo)
 cases e
 have j9:(aC (aC (aC C0 "Ways" c7) "NotTied" b7) "Tied" b8) "NotTied" = some b7:=(uP (by decide +kernel) qK)
 have aac:PySem.W.ExcLook K b7:=⟨abD,abE,abF,abj,abG,agY,agZ,abH⟩
 have u6:(aC (aC (aC C0 "Ways" c7) "NotTied" b7) "Tied" b8) "Tied" = some b8:=qK
 have aa8:PySem.W.ExcLook K b8:=⟨adH,adI,adJ,acT,adK,agY,agZ,adL⟩
 have ac1:∀c,gZ c=true->∃Ca,(aC (aC (aC C0 "Ways" c7) "NotTied" b7) "Tied" b8) c=some Ca/\PySem.W.exmOne K (.ref Ca) (.ref b7)=some true:=fun c hc=>by
  simp only[gZ,Bool.or_eq_true,decide_eq_true_eq] at hc
  rcases hc with rfl
  ·exact⟨b7,j9,aaA⟩
 have abN:∀c,dU c=true->∃Ca,(aC (aC (aC C0 "Ways" c7) "NotTied" b7) "Tied" b8) c=some Ca/\PySem.W.exmOne K (.ref Ca) (.ref aae)=some true:=fun c hc=>by
  simp only[dU,Bool.or_eq_true,decide_eq_true_eq] at hc
  rcases hc with rfl |rfl
  ·exact⟨b7,j9,aat⟩
  ·exact⟨b8,u6,aaH⟩
 have x_0:∀c Ca b,uT c=some b->(aC (aC (aC C0 "Ways" c7) "NotTied" b7) "Tied" b8) c=some Ca->PySem.W.ExcLook K Ca/\PySem.W.kitOne K (.ref Ca) (.ref aar)=some b:=fun c Ca b h1 h2=>by
  unfold uT at h1
  by_cases j4:c = "NotTied"
  ·subst j4;rw[if_pos rfl] at h1;cases h1;rw[j9] at h2;cases h2;exact⟨aac,acK⟩
  rw[if_neg j4] at h1
  by_cases j7:c = "Tied"
  ·subst j7;rw[if_pos rfl] at h1;cases h1;rw[u6] at h2;cases h2;exact⟨aa8,afh⟩
  rw[if_neg j7] at h1
  cases h1
 have x_1:∀c Ca b,uU c=some b->(aC (aC (aC C0 "Ways" c7) "NotTied" b7) "Tied" b8) c=some Ca->PySem.W.ExcLook K Ca/\PySem.W.kitOne K (.ref Ca) (.ref aaV)=some b:=fun c Ca b h1 h2=>by
  unfold uU at h1
  by_cases j4:c = "NotTied"
  ·subst j4;rw[if_pos rfl] at h1;cases h1;rw[j9] at h2;cases h2;exact⟨aac,acL⟩
  rw[if_neg j4] at h1
  by_cases j7:c = "Tied"
  ·subst j7;rw[if_pos rfl] at h1;cases h1;rw[u6] at h2;cases h2;exact⟨aa8,afi⟩
  rw[if_neg j7] at h1
  cases h1
 have x_2:∀c Ca b,uV c=some b->(aC (aC (aC C0 "Ways" c7) "NotTied" b7) "Tied" b8) c=some Ca->PySem.W.ExcLook K Ca/\PySem.W.kitOne K (.ref Ca) (.ref aaU)=some b:=fun c Ca b h1 h2=>by
  unfold uV at h1
  by_cases j4:c = "NotTied"
  ·subst j4;rw[if_pos rfl] at h1;cases h1;rw[j9] at h2;cases h2;exact⟨aac,acM⟩
  rw[if_neg j4] at h1
  by_cases j7:c = "Tied"
  ·subst j7;rw[if_pos rfl] at h1;cases h1;rw[u6] at h2;cases h2;exact⟨aa8,afj⟩
  rw[if_neg j7] at h1
  cases h1
 have x_3:∀c Ca b,uW c=some b->(aC (aC (aC C0 "Ways" c7) "NotTied" b7) "Tied" b8) c=some Ca->PySem.W.ExcLook K Ca/\PySem.W.kitOne K (.ref Ca) (.ref aaq)=some b:=fun c Ca b h1 h2=>by
  unfold uW at h1
  by_cases j4:c = "NotTied"
  ·subst j4;rw[if_pos rfl] at h1;cases h1;rw[j9] at h2;cases h2;exact⟨aac,acN⟩
  rw[if_neg j4] at h1
  by_cases j7:c = "Tied"
  ·subst j7;rw[if_pos rfl] at h1;cases h1;rw[u6] at h2;cases h2;exact⟨aa8,afk⟩
  rw[if_neg j7] at h1
  cases h1
 have x_4:∀c Ca b,uX c=some b->(aC (aC (aC C0 "Ways" c7) "NotTied" b7) "Tied" b8) c=some Ca->PySem.W.ExcLook K Ca/\PySem.W.kitOne K (.ref Ca) (.ref aap)=some b:=fun c Ca b h1 h2=>by
  unfold uX at h1
  by_cases j4:c = "NotTied"
  ·subst j4;rw[if_pos rfl] at h1;cases h1;rw[j9] at h2;cases h2;exact⟨aac,acO⟩
  rw[if_neg j4] at h1
  by_cases j7:c = "Tied"
  ·subst j7;rw[if_pos rfl] at h1;cases h1;rw[u6] at h2;cases h2;exact⟨aa8,afl⟩
  rw[if_neg j7] at h1
  cases h1
 have x_5:∀c Ca b,uY c=some b->(aC (aC (aC C0 "Ways" c7) "NotTied" b7) "Tied" b8) c=some Ca->PySem.W.ExcLook K Ca/\PySem.W.kitOne K (.ref Ca) (.ref aaz)=some b:=fun c Ca b h1 h2=>by
  unfold uY at h1
  by_cases j4:c = "NotTied"
  ·subst j4;rw[if_pos rfl] at h1;cases h1;rw[j9] at h2;cases h2;exact⟨aac,acP⟩
  rw[if_neg j4] at h1
  by_cases j7:c = "Tied"
  ·subst j7;rw[if_pos rfl] at h1;cases h1;rw[u6] at h2;cases h2;exact⟨aa8,afm⟩
  rw[if_neg j7] at h1
  cases h1
 have x_6:∀c Ca b,uZ c=some b->(aC (aC (aC C0 "Ways" c7) "NotTied" b7) "Tied" b8) c=some Ca->PySem.W.ExcLook K Ca/\PySem.W.kitOne K (.ref Ca) (.type "ValueError")=some b:=fun c Ca b h1 h2=>by
  unfold uZ at h1
  by_cases j4:c = "NotTied"
  ·subst j4;rw[if_pos rfl] at h1;cases h1;rw[j9] at h2;cases h2;exact⟨aac,acQ⟩
  rw[if_neg j4] at h1
  by_cases j7:c = "Tied"
  ·subst j7;rw[if_pos rfl] at h1;cases h1;rw[u6] at h2;cases h2;exact⟨aa8,afn⟩
  rw[if_neg j7] at h1
  cases h1
 have x_7:∀c Ca b,u_ c=some b->(aC (aC (aC C0 "Ways" c7) "NotTied" b7) "Tied" b8) c=some Ca->PySem.W.ExcLook K Ca/\PySem.W.kitOne K (.ref Ca) (.ref b7)=some b:=fun c Ca b h1 h2=>by
  unfold u_ at h1
  by_cases j4:c = "NotTied"
  ·subst j4;rw[if_pos rfl] at h1;cases h1;rw[j9] at h2;cases h2;exact⟨aac,acR⟩
  rw[if_neg j4] at h1
  by_cases j7:c = "Tied"
  ·subst j7;rw[if_pos rfl] at h1;cases h1;rw[u6] at h2;cases h2;exact⟨aa8,afo⟩
  rw[if_neg j7] at h1
  cases h1
 have x_8:∀c Ca b,vd c=some b->(aC (aC (aC C0 "Ways" c7) "NotTied" b7) "Tied" b8) c=some Ca->PySem.W.ExcLook K Ca/\PySem.W.kitOne K (.ref Ca) (.ref b8)=some b:=fun c Ca b h1 h2=>by
  unfold vd at h1
  by_cases j4:c = "NotTied"
  ·subst j4;rw[if_pos rfl] at h1;cases h1;rw[j9] at h2;cases h2;exact⟨aac,acS⟩
  rw[if_neg j4] at h1
  by_cases j7:c = "Tied"
  ·subst j7;rw[if_pos rfl] at h1;cases h1;rw[u6] at h2;cases h2;exact⟨aa8,afp⟩
  rw[if_neg j7] at h1
  cases h1
 have u5:(aC (aC (aC C0 "Ways" c7) "NotTied" b7) "Tied" b8) "Ways" = some c7:=(uP (by decide +kernel) (uP (by decide +kernel) qK))
 have j0:ClD K (aC (aC (aC C0 "Ways" c7) "NotTied" b7) "Tied" b8) "Ways":=⟨c7,u5,⟨v9,w6,aaa,aab⟩⟩
 have d8:NoA K (aC (aC (aC C0 "Ways" c7) "NotTied" b7) "Tied" b8) "Ways" "length_by":=Bc u5 aaI
 have j6:NoA K (aC (aC (aC C0 "Ways" c7) "NotTied" b7) "Tied" b8) "Ways" "mark_of":=Bc u5 aa7
 have f9:NoA K (aC (aC (aC C0 "Ways" c7) "NotTied" b7) "Tied" b8) "Ways" "tellings_by":=Bc u5 aaw
 have aj6:TF K mg "_law_mixed" iJ:=⟨ab6,_,PySem.W.mg_of X G adZ,cH (st:=iJ) ad0 ada ad1⟩
 have aip:TF K mg "_law_cell_at" fW:=⟨abl,_,PySem.W.mg_of X G acr,cH (st:=fW) acs abQ acu⟩
 have ajt:TF K mg "_law_houses" eY:=⟨abJ,_,PySem.W.mg_of X G adb,cH (st:=eY) ade acv adf⟩
 have aj7:TF K mg "_law_whole" iM:=⟨ab7,_,PySem.W.mg_of X G ad2,cH (st:=iM) ad3 adg ad4⟩
 have ahy:TF K mg "_law_alike" dM:=⟨aaX,_,PySem.W.mg_of X G abR,cH (st:=dM) abS abp abT⟩
 have agV:TF K mg "_law_alike" dh:=⟨aaM,_,PySem.W.mg_of X G abq,cH (st:=dh) abr abd abt⟩
 have ahz:TF K mg "_law_alike" dN:=⟨aaY,_,PySem.W.mg_of X G abU,cH (st:=dN) abV abu abW⟩
 have agW:TF K mg "_law_no_length" d_:=⟨aaN,_,PySem.W.mg_of X G abz,cH (st:=d_) abA abf abB⟩
 have agt:TF K mg "place_of_way" dD:=⟨aaD,_,PySem.W.mg_of X G abg,cH (st:=dD) abh aa3 abi⟩
 have akL:TF K mg "better" jC:=⟨ac7,_,PySem.W.mg_of X G ae2,cH (st:=jC) ae3 ad5 ae4⟩
 have aj8:TF K mg "may_use" iQ:=⟨ab8,_,PySem.W.mg_of X G ad6,cH (st:=iQ) ad7 adh ad8⟩
 have aju:TF K mg "_law_better" gM:=⟨abK,_,PySem.W.mg_of X G adn,cH (st:=gM) ado acB adp⟩
 have akS:TF K mg "_law_may" kJ:=⟨aeq,_,PySem.W.mg_of X G agc,cH (st:=kJ) agd ae5 age⟩
 have akT:TF K mg "_law_way" kO:=⟨aer,_,PySem.W.mg_of X G agf,cH (st:=kO) agg ae6 agh⟩
 have akM:TF K mg "_law_look" ie:=⟨ac8,_,PySem.W.mg_of X G ae7,cH (st:=ie) ae8 ad9 ae9⟩
 have aj9:TF K mg "_law_right" fX:=⟨ab9,_,PySem.W.mg_of X G aea,cH (st:=fX) aeb adq aec⟩
 have aka:TF K mg "_law_begun" iR:=⟨aca,_,PySem.W.mg_of X G aed,cH (st:=iR) aee adt aef⟩
 have akU:TF K mg "_law_mix" kW:=⟨aes,_,PySem.W.mg_of X G agi,cH (st:=kW) agj afa agk⟩
 have akb:TF K mg "_law_drawn" iT:=⟨acb,_,PySem.W.mg_of X G aeg,cH (st:=iT) aeh adu aei⟩
 have akV:TF K mg "_law_due" kY:=⟨aet,_,PySem.W.mg_of X G agl,cH (st:=kY) agm afb agn⟩
 have ajv:TF K mg "bettered" gQ:=⟨abL,_,PySem.W.mg_of X G adz,cH (st:=gQ) adA acD adB⟩
 have akc:TF K mg "_law_tried" iV:=⟨acd,_,PySem.W.mg_of X G aej,cH (st:=iV) aek adC ael⟩
 have akN:TF K mg "_law_done" jD:=⟨ac9,_,PySem.W.mg_of X G afc,cH (st:=jD) afd aem afe⟩
 have ajw:TF K mg "_law_marked" gR:=⟨abM,_,PySem.W.mg_of X G adD,cH (st:=gR) adE acI adF⟩
 refine⟨PySem.W.fnOf "law" "law" (aY lO) (aW lO) (au lO) .none aj2 aj3 aj4 aj1 ahu aj5,fun s v=>.of_eq rfl,fun base KB _=>?_⟩
 have adQ:OwnCls "NotTied" b7 yq "ValueError.__new__" mg base:=HB KB adG (PySem.W.mg_of X G abn)
 have ag0:OwnCls "Tied" b8 yq "ValueError.__new__" mg base:=HB KB ags (PySem.W.mg_of X G afI)
 have adT:Fn P w K mg base (aC (aC (aC C0 "Ways" c7) "NotTied" b7) "Tied" b8) 1 "_law_mixed" mQ:=Gg aj6 (PySem.W.mg_none_of X G acg)
 have aad:Fn P w K mg base (aC (aC (aC C0 "Ways" c7) "NotTied" b7) "Tied" b8) 1 "_law_cell_at" b_:=Cj aip (PySem.W.mg_none_of X G acg)
 have ac5:Fn P w K mg base (aC (aC (aC C0 "Ways" c7) "NotTied" b7) "Tied" b8) 2 "_law_houses" lF:=CZ ajt (PySem.W.mg_none_of X G acY) aad
 have o9:Fn P w K mg base (aC (aC (aC C0 "Ways" c7) "NotTied" b7) "Tied" b8) 1 "_law_whole" dW:=Gh aj7 (PySem.W.mg_none_of X G ahx) (PySem.W.mg_none_of X G ajr) (PySem.W.mg_none_of X G u9)
 have aai:Fn P w K mg base (aC (aC (aC C0 "Ways" c7) "NotTied" b7) "Tied" b8) 2 "_law_alike" bW:=zH ahy (PySem.W.mg_none_of X G adM) (PySem.W.mg_none_of X G u9) (PySem.W.mg_none_of X G acg) (PySem.W.mg_none_of X G acX) (PySem.W.mg_none_of X G acZ) (PySem.W.mg_none_of X G afJ) o9
 have aaK:Fn P w K mg base (aC (aC (aC C0 "Ways" c7) "NotTied" b7) "Tied" b8) 3 "_law_alike" fK:=yr agV (PySem.W.mg_none_of X G adM) (PySem.W.mg_none_of X G u9) (PySem.W.mg_none_of X G acg) (PySem.W.mg_none_of X G acX) (PySem.W.mg_none_of X G acZ) (PySem.W.mg_none_of X G afJ) aai o9
 have ac0:FnOk P w K mg base CX0 1 n6 _ ["self"] (spD K (aC (aC (aC C0 "Ways" c7) "NotTied" b7) "Tied" b8) cD):=pI (jg (st:=cF) aan aaf) j0 d8 (PySem.W.mg_none_of X G ab4)
 have v7:Mt P w K mg base (aC (aC (aC C0 "Ways" c7) "NotTied" b7) "Tied" b8) 1 "Ways" "neighbours" cD []:=⟨c7,n6,_,_,[],[],u5,⟨v9,w6,aaa,aab⟩,⟨aal,aam,aao⟩,(jT (ps:=["self"]) fun us hl=>sJ us hl (fun _=>rfl)),.nil,fun _ _=>.nil,ac0⟩
 have afq:FnOk P w K mg base CX0 1 p8 _ ["self"] (spD K (aC (aC (aC C0 "Ways" c7) "NotTied" b7) "Tied" b8) du):=uw (jg (st:=dw) aaQ aaG) j0 j6 (PySem.W.mg_none_of X G ab4)
 have aax:Mt P w K mg base (aC (aC (aC C0 "Ways" c7) "NotTied" b7) "Tied" b8) 1 "Ways" "goals" du []:=⟨c7,p8,_,_,[],[],u5,⟨v9,w6,aaa,aab⟩,⟨aaO,aaP,aaR⟩,(jT (ps:=["self"]) fun us hl=>sJ us hl (fun _=>rfl)),.nil,fun _ _=>.nil,afq⟩
 have aay:Fn P w K mg base (aC (aC (aC C0 "Ways" c7) "NotTied" b7) "Tied" b8) 3 "_law_alike" cI:=zJ ahz (PySem.W.mg_none_of X G adM) (PySem.W.mg_none_of X G u9) (PySem.W.mg_none_of X G acg) (PySem.W.mg_none_of X G acX) (PySem.W.mg_none_of X G acZ) (PySem.W.mg_none_of X G afJ) aai o9
 have afK:FnOk P w K mg base (CXr P w) 1 t6 _ ["self","neighbour"] (spX K (aC (aC (aC C0 "Ways" c7) "NotTied" b7) "Tied" b8) bJ bZ):=vB (jg (st:=cY) aa1 aaS) j0 d8 j9 adQ
 have j5:MtX P w K mg base (aC (aC (aC C0 "Ways" c7) "NotTied" b7) "Tied" b8) 1 "Ways" "need_tie" bJ bZ []:=⟨c7,t6,_,_,[],[],u5,⟨v9,w6,aaa,aab⟩,⟨aaZ,aa0,aa2⟩,(jT (ps:=["self","neighbour"]) fun us hl=>jb us hl (fun _ _=>rfl)),.nil,fun _ _=>.nil,afK⟩
 have agX:FnOk P w K mg base (CXr P w) 2 v8 _ ["self","neighbour"] (spX K (aC (aC (aC C0 "Ways" c7) "NotTied" b7) "Tied" b8) cA dg):=yt (jg (st:=dZ) abx abe) j0 d8 j5
 have o8:MtX P w K mg base (aC (aC (aC C0 "Ways" c7) "NotTied" b7) "Tied" b8) 2 "Ways" "length" cA dg []:=⟨c7,v8,_,_,[],[],u5,⟨v9,w6,aaa,aab⟩,⟨abv,abw,aby⟩,(jT (ps:=["self","neighbour"]) fun us hl=>jb us hl (fun _ _=>rfl)),.nil,fun _ _=>.nil,agX⟩
 have abo:Fn P w K mg base (aC (aC (aC C0 "Ways" c7) "NotTied" b7) "Tied" b8) 3 "_law_no_length" gF:=yu agW o8 (PySem.W.mg_of X G abn) ac1
 have aiq:FnOk P w K mg base CX0 1 aau _ ["self","goal"] (spD K (aC (aC (aC C0 "Ways" c7) "NotTied" b7) "Tied" b8) dG):=Ck (jg (st:=h_) acy abX) j0 j6
 have n8:Mt P w K mg base (aC (aC (aC C0 "Ways" c7) "NotTied" b7) "Tied" b8) 1 "Ways" "mark" dG []:=⟨c7,aau,_,_,[],[],u5,⟨v9,w6,aaa,aab⟩,⟨acw,acx,acz⟩,(jT (ps:=["self","goal"]) fun us hl=>jb us hl (fun _ _=>rfl)),.nil,fun _ _=>.nil,aiq⟩
 have abb:Fn P w K mg base (aC (aC (aC C0 "Ways" c7) "NotTied" b7) "Tied" b8) 1 "place_of_way" fZ:=wZ agt
 have aeJ:Fn P w K mg base (aC (aC (aC C0 "Ways" c7) "NotTied" b7) "Tied" b8) 1 "better" oM:=Iv akL
 have adS:Fn P w K mg base (aC (aC (aC C0 "Ways" c7) "NotTied" b7) "Tied" b8) 2 "may_use" kI:=Gi aj8 aeJ
 have ajx:FnOk P w K mg base CX0 4 aaE _ ["self","goal"] (spD K (aC (aC (aC C0 "Ways" c7) "NotTied" b7) "Tied" b8) eX):=C_ (jg (st:=jd) adl acA) j0 d8 f9 n8 (PySem.W.mg_none_of X G aeu) adS abb
 have aaj:Mt P w K mg base (aC (aC (aC C0 "Ways" c7) "NotTied" b7) "Tied" b8) 4 "Ways" "way" eX []:=⟨c7,aaE,_,_,[],[],u5,⟨v9,w6,aaa,aab⟩,⟨adi,adk,adm⟩,(jT (ps:=["self","goal"]) fun us hl=>jb us hl (fun _ _=>rfl)),.nil,fun _ _=>.nil,ajx⟩
 have ac3:Fn P w K mg base (aC (aC (aC C0 "Ways" c7) "NotTied" b7) "Tied" b8) 1 "_law_better" lG:=Dc aju
 have afM:Fn P w K mg base (aC (aC (aC C0 "Ways" c7) "NotTied" b7) "Tied" b8) 2 "_law_may" nR:=Ld akS ac3
 have aaB:Fn P w K mg base (aC (aC (aC C0 "Ways" c7) "NotTied" b7) "Tied" b8) 3 "_law_way" iB:=Le akT (PySem.W.mg_none_of X G aeu) afM
 have aeK:Fn P w K mg base (aC (aC (aC C0 "Ways" c7) "NotTied" b7) "Tied" b8) 5 "_law_look" jy:=Iw akM v7 aax n8 aaj o8 (PySem.W.mg_none_of X G adM) (PySem.W.mg_none_of X G ab4) aaK aay aaB abo
 have abm:Fn P w K mg base (aC (aC (aC C0 "Ways" c7) "NotTied" b7) "Tied" b8) 6 "_law_right" dX:=Gj aj9 (PySem.W.mg_none_of X G adM) (PySem.W.mg_none_of X G acY) aeK
 have afL:FnOk P w K mg base CX0 1 t7 _ ["self"] (spD K (aC (aC (aC C0 "Ways" c7) "NotTied" b7) "Tied" b8) cX):=vC (jg (st:=dO) aa6 aaT) j0 d8 j6 f9
 have afs:MkD P w K mg base (aC (aC (aC C0 "Ways" c7) "NotTied" b7) "Tied" b8) 1 "Ways" cX []:=⟨c7,t7,_,_,[],[],u5,PySem.W.mg_of X G ahw,⟨ago,aa4,aa5,agp⟩,(jT (ps:=["self"]) fun us hl=>sJ us hl (fun _=>rfl)),.nil,fun _ _=>.nil,afL⟩
 have ab5:Fn P w K mg base (aC (aC (aC C0 "Ways" c7) "NotTied" b7) "Tied" b8) 1 "_law_begun" iI:=Gk aka
 have j8:Fn P w K mg base (aC (aC (aC C0 "Ways" c7) "NotTied" b7) "Tied" b8) 1 "_law_mix" bI:=Lf akU
 have adU:Fn P w K mg base (aC (aC (aC C0 "Ways" c7) "NotTied" b7) "Tied" b8) 4 "_law_drawn" gJ:=Gm akb (PySem.W.mg_none_of X G acg) (PySem.W.mg_none_of X G ajs) j8 aaB
 have afN:Fn P w K mg base (aC (aC (aC C0 "Ways" c7) "NotTied" b7) "Tied" b8) 1 "_law_due" fG:=Lg akV
 have ajy:FnOk P w K mg base (CXr P w) 1 aaF _ ["self","neighbour","length"] (spX K (aC (aC (aC C0 "Ways" c7) "NotTied" b7) "Tied" b8) jc jO):=Dd (jg (st:=gP) adx acC) j0 d8 f9 u6 ag0
 have aaW:MtX P w K mg base (aC (aC (aC C0 "Ways" c7) "NotTied" b7) "Tied" b8) 1 "Ways" "tie" jc jO []:=⟨c7,aaF,_,_,[],[],u5,⟨v9,w6,aaa,aab⟩,⟨adv,adw,ady⟩,(jT (ps:=["self","neighbour","length"]) fun us hl=>Bm us hl (fun _ _ _=>rfl)),.nil,fun _ _=>.nil,ajy⟩
 have ahA:FnOk P w K mg base (CXr P w) 2 aak _ ["self","neighbour"] (spX K (aC (aC (aC C0 "Ways" c7) "NotTied" b7) "Tied" b8) gq iC):=zK (jg (st:=fu) ab0 abC) j0 d8 f9 j5
 have aaC:MtX P w K mg base (aC (aC (aC C0 "Ways" c7) "NotTied" b7) "Tied" b8) 2 "Ways" "untie" gq iC []:=⟨c7,aak,_,_,[],[],u5,⟨v9,w6,aaa,aab⟩,⟨abY,abZ,ab1⟩,(jT (ps:=["self","neighbour"]) fun us hl=>jb us hl (fun _ _=>rfl)),.nil,fun _ _=>.nil,ahA⟩
 have ac4:Fn P w K mg base (aC (aC (aC C0 "Ways" c7) "NotTied" b7) "Tied" b8) 1 "bettered" lH:=De ajv (PySem.W.mg_none_of X G aeu)
 have air:FnOk P w K mg base (CXr P w) 5 aav _ ["self","neighbour","goal","number","far"] (spX K (aC (aC (aC C0 "Ways" c7) "NotTied" b7) "Tied" b8) fV jh):=Cu (jg (st:=fY) acG ab2) j0 j6 f9 j5 aaj n8 ac4
 have aaL:MtX P w K mg base (aC (aC (aC C0 "Ways" c7) "NotTied" b7) "Tied" b8) 5 "Ways" "hear" fV jh []:=⟨c7,aav,_,_,[],[],u5,⟨v9,w6,aaa,aab⟩,⟨acE,acF,acH⟩,(jT (ps:=["self","neighbour","goal","number","far"]) fun us hl=>Ro us hl (fun _ _ _ _ _=>rfl)),.nil,fun _ _=>.nil,air⟩
 have adV:Fn P w K mg base (aC (aC (aC C0 "Ways" c7) "NotTied" b7) "Tied" b8) 6 "_law_tried" cG:=Gn akc aaW aaC aaL (PySem.W.mg_of X G aen) (PySem.W.mg_of X G aeo) (PySem.W.mg_of X G aep) (PySem.W.mg_of X G afg) (PySem.W.mg_of X G agq) (PySem.W.mg_of X G abn) (PySem.W.mg_of X G agr) (PySem.W.mg_of X G acJ) (PySem.W.mg_of X G afI) abN x_0 x_1 x_2 x_3 x_4 x_5 x_6 x_7 x_8 (PySem.W.mg_none_of X G ab3) (PySem.W.mg_none_of X G u9)
 have aeL:Fn P w K mg base (aC (aC (aC C0 "Ways" c7) "NotTied" b7) "Tied" b8) 1 "_law_done" gr:=Iz akN (PySem.W.mg_none_of X G acX)
 have ac6:Fn P w K mg base (aC (aC (aC C0 "Ways" c7) "NotTied" b7) "Tied" b8) 4 "_law_marked" fQ:=Df ajw (PySem.W.mg_none_of X G aeu) aaB
 exact(Cw (C:=(aC (aC (aC C0 "Ways" c7) "NotTied" b7) "Tied" b8)) (cH (st:=lO) ajp ahv ajq) afs (PySem.W.mg_none_of X G acY) adT ac5 j8 aad ab5 adU afN adV aeL ac6 abm).imp fun vs H Q E h=>h _
theorem walk{l:PySem.W.OpenLaw}{q:Program}{loose:List Str}{XP:(Str->Option Value)->Heap->Prop}{YP:World->Heap->Prop}{d:DefRec}{K:Params->PySem.W.Frag}(hn:l.most=some 63)(hdf:d.params.defaults=[])
  (hY:∀(w:World) (h:Heap),YP w h->(K w.params).In h) (holds:∀ns:List Int,ns.length<=63->∃U,uf [.scr ns] []=some (.bl true,U))
  (F:∀(w:World) (mg:Str->Option Value) (fa:Addr) (h:Heap),(K w.params).In h->h.Ns mainGlobals mg->mg d.name=some (.ref fa) ->
   ∃fd:FuncData,(∀(s:Shared) (u:Value),BindsTo s fd ⟨[u],[]⟩ [("_law_script",u)])/\∀base:Heap,(K w.params).In base->base.Ns mainGlobals mg->FnOk l.prog w (K w.params) mg base CX0 7 fa fd ["_law_script"] (spC (K w.params) uf)) :
  PySem.W.WalkO q loose XP YP l.row.toRowW d [] (fun f vs=>PySem.call f vs) :=
 L2.Dq (n:=63) (k:=7) (x:="_law_script") (CX:=fun _=>CX0) (sp:=fun w=>spC (K w.params) uf) hn (by decide) hdf ⟨rfl,by decide,by decide,rfl⟩ hY F (fun _ _ a ns hl _ hS=>NZ hS (holds ns hl)) fun _ _ _ _ _ z=>z
end Law
end
namespace PySem.W.Fast
theorem tw10037439997662606062:True:=⟨⟩
theorem tw10113524269439883337:True:=⟨⟩
theorem tw10638938933590562103:True:=⟨⟩
theorem tw10792500274099582765:True:=⟨⟩
theorem tw10910554011981257923:True:=⟨⟩
theorem tw10996815380439387028:True:=⟨⟩
theorem tw11001828425444664960:True:=⟨⟩
theorem tw11107298568932896744:True:=⟨⟩
theorem tw11346473514989672835:True:=⟨⟩
theorem tw11368376782211785160:True:=⟨⟩
theorem tw11497796333022118868:True:=⟨⟩
theorem tw11529069921874237240:True:=⟨⟩
theorem tw11586576917659212562:True:=⟨⟩
theorem tw11593137350538305818:True:=⟨⟩
theorem tw11668030720411093904:True:=⟨⟩
theorem tw11776540860092305810:True:=⟨⟩
theorem tw11903305783896275001:True:=⟨⟩
theorem tw11994436076332504842:True:=⟨⟩
theorem tw12008229614879881891:True:=⟨⟩
theorem tw12020044841823313226:True:=⟨⟩
theorem tw12068836488451079307:True:=⟨⟩
theorem tw12070488786922849551:True:=⟨⟩
theorem tw12123782713712267166:True:=⟨⟩
theorem tw12203052607220647316:True:=⟨⟩
theorem tw12344854573374087715:True:=⟨⟩
theorem tw12484145917763142882:True:=⟨⟩
theorem tw12506376722739270456:True:=⟨⟩
theorem tw12507546519960381682:True:=⟨⟩
theorem tw12742700834928974260:True:=⟨⟩
theorem tw12845506798887641696:True:=⟨⟩
theorem tw12855476388427242475:True:=⟨⟩
theorem tw12935740683516582096:True:=⟨⟩
theorem tw12967352965241236608:True:=⟨⟩
theorem tw13155029014554575706:True:=⟨⟩
theorem tw13173659736224049253:True:=⟨⟩
theorem tw13205484391707746144:True:=⟨⟩
theorem tw13298850302949270794:True:=⟨⟩
theorem tw13319418672988397753:True:=⟨⟩
theorem tw13362438802461903143:True:=⟨⟩
theorem tw13506768759317075053:True:=⟨⟩
theorem tw13560427692213177496:True:=⟨⟩
theorem tw13667927871881435898:True:=⟨⟩
theorem tw13771756016485356781:True:=⟨⟩
theorem tw13875659703390198411:True:=⟨⟩
theorem tw13952356124382123520:True:=⟨⟩
theorem tw13985142525065832543:True:=⟨⟩
theorem tw14203885849136143911:True:=⟨⟩
theorem tw14515345112980743910:True:=⟨⟩
theorem tw14596500308489004673:True:=⟨⟩
theorem tw14600622520061451706:True:=⟨⟩
theorem tw14819244429399582759:True:=⟨⟩
theorem tw15124184011351921275:True:=⟨⟩
theorem tw15203044397375236043:True:=⟨⟩
theorem tw15682968227266529492:True:=⟨⟩
theorem tw16074867218835718289:True:=⟨⟩
theorem tw16333046424257932651:True:=⟨⟩
theorem tw16558753199357175283:True:=⟨⟩
theorem tw16764832931815533594:True:=⟨⟩
theorem tw16876933810908309770:True:=⟨⟩
theorem tw16962600210595395505:True:=⟨⟩
theorem tw17306660697242012968:True:=⟨⟩
theorem tw17463088002917790188:True:=⟨⟩
theorem tw17779751341792806766:True:=⟨⟩
theorem tw18128625378178713327:True:=⟨⟩
theorem tw18316242793939260224:True:=⟨⟩
theorem tw18342541214243174874:True:=⟨⟩
theorem tw1875485262700043527:True:=⟨⟩
theorem tw1906078563485261197:True:=⟨⟩
theorem tw1921394983663621817:True:=⟨⟩
theorem tw2232162481157923674:True:=⟨⟩
theorem tw2360302657007405190:True:=⟨⟩
theorem tw2475419630253969103:True:=⟨⟩
theorem tw2536906459205251151:True:=⟨⟩
theorem tw2584100385553476002:True:=⟨⟩
theorem tw2755287936058599246:True:=⟨⟩
theorem tw2768844161386662078:True:=⟨⟩
theorem tw2912361631822616415:True:=⟨⟩
theorem tw3262688336873226367:True:=⟨⟩
theorem tw3414845885734504380:True:=⟨⟩
theorem tw3524130873310934035:True:=⟨⟩
theorem tw352746287292038606:True:=⟨⟩
theorem tw3555376384587978309:True:=⟨⟩
theorem tw3745772164320375785:True:=⟨⟩
theorem tw3774491701643619668:True:=⟨⟩
theorem tw3995310481278635178:True:=⟨⟩
theorem tw3996260496435165672:True:=⟨⟩
theorem tw469384751890871323:True:=⟨⟩
theorem tw4790174824043999787:True:=⟨⟩
theorem tw4801179196228664089:True:=⟨⟩
theorem tw4854430099109215460:True:=⟨⟩
theorem tw4877075698525544585:True:=⟨⟩
theorem tw50191786210416345:True:=⟨⟩
theorem tw5037057393430006204:True:=⟨⟩
theorem tw5091777626773411896:True:=⟨⟩
theorem tw5526147267826318815:True:=⟨⟩
theorem tw5554238553136926491:True:=⟨⟩
theorem tw5733150142743500499:True:=⟨⟩
theorem tw5800115922174234081:True:=⟨⟩
theorem tw600275697985942693:True:=⟨⟩
theorem tw6016133179533109275:True:=⟨⟩
theorem tw6274838409031693907:True:=⟨⟩
theorem tw6358771841355148478:True:=⟨⟩
theorem tw6615426592587813960:True:=⟨⟩
theorem tw6678699239536351803:True:=⟨⟩
theorem tw6971519043986609044:True:=⟨⟩
theorem tw7142270846097484097:True:=⟨⟩
theorem tw715654632301482951:True:=⟨⟩
theorem tw7331699789756535733:True:=⟨⟩
theorem tw7386714338905888127:True:=⟨⟩
theorem tw7509102704298726984:True:=⟨⟩
theorem tw753113219297993136:True:=⟨⟩
theorem tw7912457185508562602:True:=⟨⟩
theorem tw7965011342809599494:True:=⟨⟩
theorem tw8241092023333397715:True:=⟨⟩
theorem tw8881346712078380050:True:=⟨⟩
theorem tw8908060027277005595:True:=⟨⟩
theorem tw8964034032444805906:True:=⟨⟩
theorem tw8997079817919270624:True:=⟨⟩
theorem tw910073762586857320:True:=⟨⟩
theorem tw910567314830189859:True:=⟨⟩
theorem tw9169707925631843519:True:=⟨⟩
theorem tw922528556405952541:True:=⟨⟩
theorem tw9407623755820086177:True:=⟨⟩
theorem tw9764557189159560497:True:=⟨⟩
theorem tw9937568775683891631:True:=⟨⟩
theorem tw9995024260540108261:True:=⟨⟩
end PySem.W.Fast
open PySem PySem.W PyProof.Rows
set_option maxRecDepth 100000 in
set_option maxHeartbeats 0 in
theorem PySem.Challenge.cw_posthouse_k16_ways_deed_by_deed_holds : PySem.Challenge.rw_posthouse_k16_ways_deed_by_deed.Holds := by
 w_on;o_law;k_head;(case hw=>w_witness2)
 k_fill
 refine Law.walk (l:=PySem.Challenge.rw_posthouse_k16_ways_deed_by_deed) rfl rfl (fun w h Yoo=>PySem.W.kIn_of Yoo) Law.holds ?F
 case F =>
  intro w mg fa h KX G hmg
  refine' Law.all_mk KX G hmg ?adZ ?ad0 ?ada ?ad1 ?acr ?acs ?abQ ?acu ?adb ?ade ?acv ?adf ?ad2 ?ad3 ?adg ?ad4 ?abR ?abS ?abp ?abT ?abq ?abr ?abd ?abt ?aal ?aam ?aan ?aaf ?aao ?aaO ?aaP ?aaQ ?aaG ?aaR ?abU ?abV ?abu ?abW ?aaZ ?aa0 ?aa1 ?aaS ?aa2 ?abv ?abw ?abx ?abe ?aby ?abz ?abA ?abf ?abB ?acw ?acx ?acy ?abX ?acz ?abg ?abh ?aa3 ?abi ?ae2 ?ae3 ?ad5 ?ae4 ?ad6 ?ad7 ?adh ?ad8 ?adi ?adk ?adl ?acA ?adm ?adn ?ado ?acB ?adp ?agc ?agd ?ae5 ?age ?agf ?agg ?ae6 ?agh ?ae7 ?ae8 ?ad9 ?ae9 ?aea ?aeb ?adq ?aec ?aa4 ?aa5 ?aa6 ?aaT ?acf ?aed ?aee ?adt ?aef ?agi ?agj ?afa ?agk ?aeg ?aeh ?adu ?aei ?agl ?agm ?afb ?agn ?adv ?adw ?adx ?acC ?ady ?abY ?abZ ?ab0 ?abC ?ab1 ?adz ?adA ?acD ?adB ?acE ?acF ?acG ?ab2 ?acH ?aej ?aek ?adC ?ael ?afc ?afd ?aem ?afe ?adD ?adE ?acI ?adF ?ajo ?ajp ?ahv ?ajq ?ahw ?v9 ?w6 ?aaa ?aab ?ago ?agp ?aen ?aeo ?aep ?afg ?agq ?abn ?agr ?acJ ?afI ?agY ?agZ ?adG ?abD ?abE ?abF ?abj ?abG ?abH ?aaA ?aat ?acK ?acL ?acM ?acN ?acO ?acP ?acQ ?acR ?acS ?ags ?adH ?adI ?adJ ?acT ?adK ?adL ?aaH ?afh ?afi ?afj ?afk ?afl ?afm ?afn ?afo ?afp ?aaI ?aa7 ?aaw ?ab3 ?adM ?ahx ?ajr ?u9 ?acg ?acX ?ajs ?aeu ?acY ?ab4 ?acZ ?afJ
  (case ahw=>k_is)
  (case aen=>k_is)
  (case aeo=>k_is)
  (case aep=>k_is)
  (case afg=>k_is)
  (case agq=>k_is)
  (case abn=>k_is)
  (case agr=>k_is)
  (case acJ=>k_is)
  (case afI=>k_is)
  (case adZ=>k_is)
  (case ad0=>k_is)
  (case ada=>k_is)
  (case ad1=>k_is)
  (case acr=>k_is)
  (case acs=>k_is)
  (case abQ=>k_is)
  (case acu=>k_is)
  (case adb=>k_is)
  (case ade=>k_is)
  (case acv=>k_is)
  (case adf=>k_is)
  (case ad2=>k_is)
  (case ad3=>k_is)
  (case adg=>k_is)
  (case ad4=>k_is)
  (case abR=>k_is)
  (case abS=>k_is)
  (case abp=>k_is)
  (case abT=>k_is)
  (case abq=>k_is)
  (case abr=>k_is)
  (case abd=>k_is)
  (case abt=>k_is)
  (case aal=>k_is)
  (case aam=>k_is)
  (case aan=>k_is)
  (case aaf=>k_is)
  (case aao=>k_is)
  (case aaO=>k_is)
  (case aaP=>k_is)
  (case aaQ=>k_is)
  (case aaG=>k_is)
  (case aaR=>k_is)
  (case abU=>k_is)
  (case abV=>k_is)
  (case abu=>k_is)
  (case abW=>k_is)
  (case aaZ=>k_is)
  (case aa0=>k_is)
  (case aa1=>k_is)
  (case aaS=>k_is)
  (case aa2=>k_is)
  (case abv=>k_is)
  (case abw=>k_is)
  (case abx=>k_is)
  (case abe=>k_is)
  (case aby=>k_is)
  (case abz=>k_is)
  (case abA=>k_is)
  (case abf=>k_is)
  (case abB=>k_is)
  (case acw=>k_is)
  (case acx=>k_is)
  (case acy=>k_is)
  (case abX=>k_is)
  (case acz=>k_is)
  (case abg=>k_is)
  (case abh=>k_is)
  (case aa3=>k_is)
  (case abi=>k_is)
  (case ae2=>k_is)
  (case ae3=>k_is)
  (case ad5=>k_is)
  (case ae4=>k_is)
  (case ad6=>k_is)
  (case ad7=>k_is)
  (case adh=>k_is)
  (case ad8=>k_is)
  (case adi=>k_is)
  (case adk=>k_is)
  (case adl=>k_is)
  (case acA=>k_is)
  (case adm=>k_is)
  (case adn=>k_is)
  (case ado=>k_is)
  (case acB=>k_is)
  (case adp=>k_is)
  (case agc=>k_is)
  (case agd=>k_is)
  (case ae5=>k_is)
  (case age=>k_is)
  (case agf=>k_is)
  (case agg=>k_is)
  (case ae6=>k_is)
  (case agh=>k_is)
  (case ae7=>k_is)
  (case ae8=>k_is)
  (case ad9=>k_is)
  (case ae9=>k_is)
  (case aea=>k_is)
  (case aeb=>k_is)
  (case adq=>k_is)
  (case aec=>k_is)
  (case aa4=>k_is)
  (case aa5=>k_is)
  (case aa6=>k_is)
  (case aaT=>k_is)
  (case acf=>k_is)
  (case aed=>k_is)
  (case aee=>k_is)
  (case adt=>k_is)
  (case aef=>k_is)
  (case agi=>k_is)
  (case agj=>k_is)
  (case afa=>k_is)
  (case agk=>k_is)
  (case aeg=>k_is)
  (case aeh=>k_is)
  (case adu=>k_is)
  (case aei=>k_is)
  (case agl=>k_is)
  (case agm=>k_is)
  (case afb=>k_is)
  (case agn=>k_is)
  (case adv=>k_is)
  (case adw=>k_is)
  (case adx=>k_is)
  (case acC=>k_is)
  (case ady=>k_is)
  (case abY=>k_is)
  (case abZ=>k_is)
  (case ab0=>k_is)
  (case abC=>k_is)
  (case ab1=>k_is)
  (case adz=>k_is)
  (case adA=>k_is)
  (case acD=>k_is)
  (case adB=>k_is)
  (case acE=>k_is)
  (case acF=>k_is)
  (case acG=>k_is)
  (case ab2=>k_is)
  (case acH=>k_is)
  (case aej=>k_is)
  (case aek=>k_is)
  (case adC=>k_is)
  (case ael=>k_is)
  (case afc=>k_is)
  (case afd=>k_is)
  (case aem=>k_is)
  (case afe=>k_is)
  (case adD=>k_is)
  (case adE=>k_is)
  (case acI=>k_is)
  (case adF=>k_is)
  (case ajo=>k_is)
  (case ajp=>k_is)
  (case ahv=>k_is)
  (case ajq=>k_is)
  (case v9=>k_is)
  (case w6=>k_is)
  (case aaa=>k_is)
  (case aab=>k_is)
  (case ago=>k_is)
  (case agp=>k_is)
  (case agY=>k_is)
  (case agZ=>k_is)
  (case adG=>kernel_rfl)
  (case abD=>kernel_rfl)
  (case abE=>k_is)
  (case abF=>k_is)
  (case abj=>k_is)
  (case abG=>k_is)
  (case abH=>k_is)
  (case aaA=>kernel_rfl)
  (case aat=>kernel_rfl)
  (case acK=>kernel_rfl)
  (case acL=>kernel_rfl)
  (case acM=>kernel_rfl)
  (case acN=>kernel_rfl)
  (case acO=>kernel_rfl)
  (case acP=>kernel_rfl)
  (case acQ=>kernel_rfl)
  (case acR=>kernel_rfl)
  (case acS=>kernel_rfl)
  (case ags=>kernel_rfl)
  (case adH=>kernel_rfl)
  (case adI=>k_is)
  (case adJ=>k_is)
  (case acT=>k_is)
  (case adK=>k_is)
  (case adL=>k_is)
  (case aaH=>kernel_rfl)
  (case afh=>kernel_rfl)
  (case afi=>kernel_rfl)
  (case afj=>kernel_rfl)
  (case afk=>kernel_rfl)
  (case afl=>kernel_rfl)
  (case afm=>kernel_rfl)
  (case afn=>kernel_rfl)
  (case afo=>kernel_rfl)
  (case afp=>kernel_rfl)
  (case aaI=>k_is)
  (case aa7=>k_is)
  (case aaw=>k_is)
  (case ab3=>k_is)
  (case adM=>k_is)
  (case ahx=>k_is)
  (case ajr=>k_is)
  (case u9=>k_is)
  (case acg=>k_is)
  (case acX=>k_is)
  (case ajs=>k_is)
  (case aeu=>k_is)
  (case acY=>k_is)
  (case ab4=>k_is)
  (case acZ=>k_is)
  (case afJ=>k_is)

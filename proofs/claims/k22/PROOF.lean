import PyProof.Rows.All
import Wide.All
import OpenK.AllK
import Wide.FinOn
import Lean
import PyProof.EqAt
import PyProof.EqKinds
import PyProof.TupleCall
import PyProof.NeKinds
import PyProof.Rows.SetFrom
import PyProof.SetRoads
import PyProof.FactsAll.dict_keyiterator
import PyProof.DictIter
import PyProof.DictWalks
import KE.KDictSum
import PyProof.InstEq
import KE.KFmtOwn
import PyProof.ZipIter
import PyProof.Rows.ZipGen
import KE.KRevSl
import PyProof.SumWalk
import PySem.Challenge.RW_roomward_k22_rooms_come_to
set_option Elab.async false
set_option linter.all false
set_option maxRecDepth 100000
set_option maxHeartbeats 4000000
noncomputable section
namespace L2
open PySem PySem.Spec PyProof.Rows

abbrev Key:=Sum Int Str
def qE:Key->Value->Bool
 | .inl k,v=>Value.isInt k v
 | .inr x,v=>Value.isStrOf x v
def aQh (w:World):Key->Int
 | .inl k=>hashInt k
 | .inr x=>hashStr w x
theorem dG:∀ {k:Key}{v:Value},qE k v=true->(∃ i t,k=Sum.inl i∧v=Value.int i t)∨(∃ x t,k=Sum.inr x∧v=Value.str x t)
 | .inl i,v,h=>by
  obtain⟨t,e⟩:=Value.isInt_shape (k:=i) (v:=v) h;exact .inl ⟨i,t,rfl,e⟩
 | .inr x,v,h=>by
  obtain⟨t,e⟩:=Value.isStrOf_shape (x:=x) (v:=v) h;exact .inr ⟨x,t,rfl,e⟩
theorem aDd (i:Int) (t:Tok):qE (.inl i) (.int i t)=true:=by simp[qE,Value.isInt]
theorem aDc (x:Str) (t:Tok):qE (.inr x) (.str x t)=true:=by simp[qE,Value.isStrOf]
theorem aLz (a b:Int):decide ((Sum.inl a:Key)=Sum.inl b)=(a==b):=by
 by_cases e:a=b
 ·subst e; simp
 ·have h:¬ (Sum.inl a:Key)=Sum.inl b:=fun q=>e (Sum.inl.inj q);rw[decide_eq_false h];exact (beq_eq_false_iff_ne.mpr e).symm
theorem aLw (a b:Str):decide ((Sum.inr a:Key)=Sum.inr b)=decide (a=b):=by
 by_cases e:a=b
 ·subst e; simp
 ·have h:¬ (Sum.inr a:Key)=Sum.inr b:=fun q=>e (Sum.inr.inj q);rw[decide_eq_false h,decide_eq_false e]
theorem aLy (a:Int) (b:Str):decide ((Sum.inl a:Key)=Sum.inr b)=false:=decide_eq_false (fun q=>nomatch q)
theorem aLx (a:Str) (b:Int):decide ((Sum.inr a:Key)=Sum.inl b)=false:=decide_eq_false (fun q=>nomatch q)

def dD (prog:Program) (w:World):PySem.KeyKind prog w Key where
 is:=qE
 hash:=aQh w
 inj:=fun v a b ha hb=>by
  rcases dG ha with⟨i,t,rfl,rfl⟩ | ⟨x,t,rfl,rfl⟩
  ·rcases dG hb with⟨j,u,rfl,e⟩ | ⟨y,u,rfl,e⟩
   ·injection e with e1 _; rw[e1]
   ·exact nomatch e
  ·rcases dG hb with⟨j,u,rfl,e⟩ | ⟨y,u,rfl,e⟩
   ·exact nomatch e
   ·injection e with e1 _; rw[e1]
 byValue:=fun k v h=>by
  rcases dG h with⟨i,t,rfl,rfl⟩ | ⟨x,t,rfl,rfl⟩ <;> rfl
 pyHash:=fun hv h=>by
  rcases dG hv with⟨i,t,rfl,rfl⟩ | ⟨x,t,rfl,rfl⟩
  ·exact wpAny_pyHash_int h
  ·exact wpAny_pyHash_str h
 eqBool:=fun hu hv h=>by
  rcases dG hu with⟨i,t,rfl,rfl⟩ | ⟨x,t,rfl,rfl⟩
  ·rcases dG hv with⟨j,u,rfl,rfl⟩ | ⟨y,u,rfl,rfl⟩
   ·rw[aLz] at h; exact wpAny_eqBool_int h
   ·rw[aLy] at h; exact SeqAt.EqAt.int_str i t y u _ _ _ _ h
  ·rcases dG hv with⟨j,u,rfl,rfl⟩ | ⟨y,u,rfl,rfl⟩
   ·rw[aLx] at h; exact SeqAt.EqAt.str_int x t j u _ _ _ _ h
   ·rw[aLw] at h; exact wpAny_eqBool_str h
 «strs»:=fun k x t v h=>by
  rcases dG h with⟨i,u,rfl,e⟩ | ⟨y,u,rfl,e⟩
  ·exact nomatch e
  ·injection e with e1 _;subst e1;cases v <;> rfl

theorem xJ (prog:Program) (w:World) (i:Int) (t:Tok):(dD prog w).is (.inl i) (.int i t)=true:=aDd i t
theorem xI (prog:Program) (w:World) (x:Str) (t:Tok):(dD prog w).is (.inr x) (.str x t)=true:=aDc x t
end L2

namespace L2
open PySem PySem.Spec PyProof.Rows

inductive V where
 | non | bl (b:Bool) | int (i:Int) | str (x:Str) | byt (b:Array UInt8) | flt (b:UInt64) | ref (a:Addr) | ty (n:String)
 deriving DecidableEq

def cE:V->Value->Prop
 | .non,u=>u=Value.none
 | .bl b,u=>u=Value.bool b
 | .int i,u=>∃ t,u=Value.int i t
 | .str x,u=>∃ t,u=Value.str x t
 | .byt b,u=>∃ t,u=Value.bytes b t
 | .flt b,u=>∃ t,u=Value.float b t
 | .ref a,u=>u=Value.ref a
 | .ty n,u=>u=Value.type n

abbrev bY:List V->List Value->Prop:=Paired cE
theorem bY.length {xs:List V}{us:List Value}(r:bY xs us):xs.length=us.length:=Paired.length r
theorem bY.get:∀ {xs:List V}{us:List Value}{i:Nat}{x:V},bY xs us->xs[i]?=some x->∃ u,us[i]?=some u∧cE x u
 | _,_,_,_,.nil,e=>by simp at e
 | _,_,0,_,.cons r _,e=>by simp at e; subst e; exact⟨_,rfl,r⟩
 | _,_,i+1,x,.cons _ t,e=>by
  obtain⟨u,h1,h2⟩:=bY.get (i:=i) (x:=x) t (by simpa using e);exact⟨u,by simpa using h1,h2⟩
theorem bY.append:∀ {xs ys:List V}{us ws:List Value},bY xs us->bY ys ws->bY (xs++ys) (us++ws)
 | _,_,_,_,.nil,s=>s
 | _,_,_,_,.cons r t,s=>.cons r (bY.append t s)
theorem bY.take:∀ {xs:List V}{us:List Value}(n:Nat),bY xs us->bY (xs.take n) (us.take n)
 | _,_,0,_=>.nil
 | _,_,_+1,.nil=>.nil
 | _,_,n+1,.cons r t=>.cons r (bY.take n t)
theorem bY.drop:∀ {xs:List V}{us:List Value}(n:Nat),bY xs us->bY (xs.drop n) (us.drop n)
 | _,_,0,r=>r
 | _,_,_+1,.nil=>.nil
 | _,_,n+1,.cons _ t=>bY.drop n t

def jX:Option V->Option Value->Prop
 | some v,some u=>cE v u
 | none,none=>True
 | _,_=>False
def KV {κ:Type}:List (κ×V)->List (κ×Value)->Prop:=Paired fun (p:κ×V) (q:κ×Value)=>p.1=q.1∧cE p.2 q.2

def kV:Key->V
 | .inl i=>.int i
 | .inr x=>.str x

inductive HO where
  | lst (xs:List V)
  | tup (xs:List V)
  | dK (kvs:List (Key×V)) | dT (kvs:List (List Key×V))
  | set (S:Int->Bool) (n:Nat)
  | ins (C dx:Addr) (fs:List (Str×V))
  | own (x:Addr)
  | xd (fs:List (Str×V))
  | met (f x:Addr)
  | rng (lo hi:Int)
  | frz (o:Obj) (u:HO)
  | tbl (ps:Array Value)
  | ext (φ:Heap->Prop)

abbrev Hp:=Addr->Option HO
def upd (H:Hp) (a:Addr) (o:HO):Hp:=fun b=>if b=a then some o else H b
theorem aD {H:Hp}{a:Addr}{o:HO}:upd H a o a=some o:=by unfold upd; rw[if_pos rfl]
theorem aI {H:Hp}{a b:Addr}{o:HO}(h:b≠a):upd H a o b=H b:=by unfold upd; rw[if_neg h]
theorem jC {H:Hp}{a b:Addr}{o u:HO}(h:H a=some o) (h':H b=some u) (d:o≠u):a≠b:=by
 intro e; subst e; rw[h] at h'; exact d (Option.some.inj h')
theorem aF {H:Hp}{a b:Addr}{o:HO}(h:H a=some o) (h':H b=none):a≠b:=by
 intro e; subst e; rw[h] at h'; cases h'

section
variable (P:Program) (w:World)
def dE (H:Hp) (h:Heap) (a:Addr):HO->Prop
 | .lst xs=>xs.length<=sizeLine∧∃ (its:List Value) (n:Nat),bY xs its∧h.get? a=some { cls:=.type "list",data:=.seq its.toArray n }
 | .tup xs=>xs.length<=sizeLine∧∃ its:List Value,bY xs its∧IsTup h a its.toArray
 | .dK kvs=>kvs.length<=sizeLine∧(a==sysModules)=false∧∃ vs,KV kvs vs∧h.DictOf (dD P w) a vs
 | .dT kvs=>kvs.length<=sizeLine∧(a==sysModules)=false∧∃ xs:List (List Key×Addr×Value),
   Paired (fun (p:List Key×V) (q:List Key×Addr×Value)=>p.1=q.1∧H q.2.1=some (.tup (p.1.map kV))∧cE p.2 q.2.2) kvs xs ∧
   ∃ o es ep,h.get? a=some o∧o.ExactDict∧o.data=.dict es ep∧es.toList=xs.map (entryOfKey (tupleKind (dD P w)))∧(xs.map (·.1)).Nodup
 | .set S n=>h.SetOf (intKind P w) a S n
 | .ins C dx fs=>H dx=some (.own a)∧fs.length<=1000∧dx≠a∧h.get? a=some (PySem.W.instObj C dx) ∧
   ∃ mA,h.Ns1 dx mA∧(∀ f,jX (fs.lookup f) (mA f))∧PySem.Within mA (fs.map (·.1))
 | .own _=>∃ o,h.get? a=some o
 | .xd fs=>∃ mA,h.Ns1 a mA∧∀ f,jX (fs.lookup f) (mA f)
 | .rng lo hi=>∃ t u v,h.get? a=some { cls:=.type "range",data:=.fields #[.int lo t,.int hi u,.int 1 v] }
 | .frz o u=>h.get? a=some o∧dE H h a u
 | .tbl ps=>h.get? a=some { cls:=.none,data:=.fields ps }
 | .met f x=>h.get? a=some (PySem.W.methodObj (.ref f) (.ref x))
 | .ext φ=>φ h∧(∃ o,h.get? a=some o)∧∀ h1 h2:Heap,φ h1->(∀ o,h1.get? a=some o->h2.get? a=some o)->φ h2
def HOk (H:Hp) (h:Heap):Prop:=∀ a o,H a=some o->dE P w H h a o
end

section
variable {P:Program}{w:World}{H H':Hp}{h h':Heap}{a:Addr}{o:HO}
theorem dE.lt (x:dE P w H h a o):a<h.objs.size:=by
 cases o with
 | lst xs=>obtain⟨_,_,_,_,e⟩:=x; exact Heap.lt_size e
 | tup xs=>obtain⟨_,_,_,p⟩:=x; exact p.lt
 | dK kvs=>obtain⟨_,_,_,_,o,_,_,e,_⟩:=x; exact Heap.lt_size e
 | dT kvs=>obtain⟨_,_,_,_,o,_,_,e,_⟩:=x; exact Heap.lt_size e
 | set S n=>obtain⟨o,_,_,_,e,_⟩:=x; exact Heap.lt_size e
 | ins C dx fs=>obtain⟨_,_,_,e,_⟩:=x; exact Heap.lt_size e
 | own y=>obtain⟨_,e⟩:=x; exact Heap.lt_size e
 | xd fs=>obtain⟨_,⟨_,_,_,e,_⟩,_⟩:=x; exact Heap.lt_size e
 | rng lo hi=>obtain⟨_,_,_,e⟩:=x; exact Heap.lt_size e
 | frz ob u=>obtain⟨e,_⟩:=x; exact Heap.lt_size e
 | tbl ps=>exact Heap.lt_size (show h.get? a=some _ from x)
 | met f y=>exact Heap.lt_size (show h.get? a=some _ from x)
 | ext φ=>obtain⟨_,⟨_,e⟩,_⟩:=x; exact Heap.lt_size e
theorem Paired.mapP {α β:Type}{F G:α->β->Prop}:∀ {l₁:List α}{l₂:List β},Paired F l₁ l₂->(∀ a b,F a b->G a b)->Paired G l₁ l₂
 | _,_,.nil,_=>.nil
 | _,_,.cons r t,f=>.cons (f _ _ r) (Paired.mapP t f)
theorem dE.stay (x:dE P w H h a o) (k:∀ b u,(b=a∨H b=some (.own a))->h.get? b=some u->h'.get? b=some u)
  (ho:∀ b,H b=some (.own a)->H' b=some (.own a)) (ht:∀ b xs,H b=some (.tup xs)->H' b=some (.tup xs)):dE P w H' h' a o:=by
 induction o with
 | lst xs=>obtain⟨z,its,n,r,e⟩:=x; exact⟨z,its,n,r,k _ _ (.inl rfl) e⟩
 | tup xs=>obtain⟨z,its,r,ob,e,c⟩:=x; exact⟨z,its,r,ob,k _ _ (.inl rfl) e,c⟩
 | dK kvs=>obtain⟨z,y,vs,r,ob,es,ep,e,c⟩:=x; exact⟨z,y,vs,r,ob,es,ep,k _ _ (.inl rfl) e,c⟩
 | dT kvs=>
  obtain⟨z,y,xs,r,ob,es,ep,e,c⟩:=x;exact⟨z,y,xs,Paired.mapP r fun p q z=>⟨z.1,ht _ _ z.2.1,z.2.2⟩,ob,es,ep,k _ _ (.inl rfl) e,c⟩
 | set S n=>obtain⟨ob,es,ep,t,e,c⟩:=x; exact⟨ob,es,ep,t,k _ _ (.inl rfl) e,c⟩
 | ins C dx fs=>
  obtain⟨d,z,ne,e,mA,⟨od,es,ep,e2,c⟩,r⟩:=x;exact⟨ho _ d,z,ne,k _ _ (.inl rfl) e,mA,⟨od,es,ep,k _ _ (.inr d) e2,c⟩,r⟩
 | own y=>obtain⟨ob,e⟩:=x; exact⟨ob,k _ _ (.inl rfl) e⟩
 | xd fs=>obtain⟨mA,⟨od,es,ep,e,c⟩,r⟩:=x; exact⟨mA,⟨od,es,ep,k _ _ (.inl rfl) e,c⟩,r⟩
 | rng lo hi=>obtain⟨t,u,v,e⟩:=x; exact⟨t,u,v,k _ _ (.inl rfl) e⟩
 | frz ob u ih=>obtain⟨e,q⟩:=x; exact⟨k _ _ (.inl rfl) e,ih q⟩
 | tbl ps=>
  have e:h.get? a=some { cls:=.none,data:=.fields ps }:=x;show h'.get? a=some { cls:=.none,data:=.fields ps };exact k a _ (.inl rfl) e
 | met f y=>
  have e:h.get? a=some (PySem.W.methodObj (.ref f) (.ref y)):=x;show h'.get? a=some (PySem.W.methodObj (.ref f) (.ref y));exact k a _ (.inl rfl) e
 | ext φ=>obtain⟨p,⟨o,e⟩,st⟩:=x; exact⟨st _ _ p fun o q=>k _ _ (.inl rfl) q,⟨o,k _ _ (.inl rfl) e⟩,st⟩
theorem HOk.lt (x:HOk P w H h) (e:H a=some o):a<h.objs.size:=(x a o e).lt
theorem HOk.fresh (x:HOk P w H h) (e:h.objs.size<=a):H a=none:=by
 cases q:H a with
 | none=>rfl
 | some u=>exact absurd (Nat.lt_of_lt_of_le (x.lt q) e) (Nat.lt_irrefl _)
theorem HOk.kept (x:HOk P w H h) (k:∀ b u,h.get? b=some u->h'.get? b=some u):HOk P w H h':=fun a o e=>
 (x a o e).stay (fun b u _ q=>k b u q) (fun _ q=>q) fun _ _ q=>q
theorem HOk.laid (x:HOk P w H h) (k:∀ b u,h.get? b=some u->h'.get? b=some u) (hp:h.objs.size<=a) (new:dE P w (upd H a o) h' a o):HOk P w (upd H a o) h':=fun b u e=>by
 have hn:=x.fresh hp
 by_cases hb:b=a
 ·subst hb; rw[aD] at e; cases e; exact new
 ·rw[aI hb] at e;exact (x b u e).stay (fun c v _ q=>k c v q) (fun c q=>by rw[aI (aF q hn)]; exact q) fun c xs q=>by rw[aI (aF q hn)]; exact q
end

def Rd (H:Hp) (a:Addr) (u:HO):Prop:=H a=some u∨∃ o,H a=some (.frz o u)
theorem Rd.ok {P:Program}{w:World}{H:Hp}{h:Heap}{a:Addr}{u:HO}(r:Rd H a u) (x:HOk P w H h):dE P w H h a u:=by
 rcases r with r | ⟨o,r⟩
 ·exact x a u r
 ·obtain⟨_,q⟩:=x a _ r;exact q
def Mut:Option HO->Prop
 | some (.lst _)=>True
 | some (.dK _)=>True
 | some (.dT _)=>True
 | some (.set _ _)=>True
 | some (.ins _ _ _)=>True
 | some (.ext _)=>True
 | _=>False
section
variable {P:Program}{w:World}{H:Hp}{h h':Heap}{x e:Addr}{o':HO}
theorem HOk.write (ok:HOk P w H h) (mu:Mut (H x)) (he:e=x∨H e=some (.own x)) (k:∀ b u,b≠e->h.get? b=some u->h'.get? b=some u) (heo:∃ u,h'.get? e=some u)
  (new:dE P w (upd H x o') h' x o'):HOk P w (upd H x o') h':=fun b u q=>by
 have nown:∀ c y,H c=some (.own y)->c≠x:=fun c y r z=>by subst z; rw[r] at mu; exact mu
 have ntup:∀ c xs,H c=some (.tup xs)->c≠x:=fun c xs r z=>by subst z; rw[r] at mu; exact mu
 by_cases hb:b=x
 ·subst hb; rw[aD] at q; cases q; exact new
 ·rw[aI hb] at q
  by_cases hbe:b=e
  ·have q':H b=some (.own x):=by
    rcases he with z | z
    ·exact absurd (hbe.trans z) hb
    ·rw[hbe]; exact z
   rw[q] at q'; cases q';obtain⟨v,hv⟩:=heo;exact⟨v,by rw[hbe]; exact hv⟩
  ·refine (ok b u q).stay (fun c v hc r=>k c v ?_ r) (fun c r=>by rw[aI (nown c b r)]; exact r) fun c xs r=>by rw[aI (ntup c xs r)]; exact r
   rcases hc with rfl | hc
   ·exact hbe
   ·rintro rfl;rcases he with z | z
    ·exact nown c b hc z
    ·rw[hc] at z; cases z; exact hb rfl
end

structure Un (fs ex:List Addr) (H H':Hp) (h h':Heap):Prop where
 keep:∀ b o,h.get? b=some o->H b=none->b∉fs->b∉ex->h'.get? b=some o
 slot:∀ b o,h.get? b=some o->H b=none->b∈fs->b∉ex->∃ sl,h'.get? b=some { o with slots:=sl }
 free:∀ b o,h.get? b=some o->H b=none->b∉ex->H' b=none
 there:∀ b o,h.get? b=some o->b∉ex->∃ o',h'.get? b=some o'
 tups:∀ b xs,H b=some (.tup xs)->H' b=some (.tup xs)
 frzs:∀ b o u,H b=some (.frz o u)->H' b=some (.frz o u)
 tbls:∀ b ps,H b=some (.tbl ps)->∃ more,H' b=some (.tbl (ps++more))
section
variable {fs fs' ex ex':List Addr}{H H1 H2:Hp}{h h1 h2 h':Heap}{a x e:Addr}{o:HO}
theorem Un.any (u:Un fs ex H H1 h h1){b:Addr}{ob:Obj}(q:h.get? b=some ob) (n:H b=none) (hx:b∉ex):∃ sl,h1.get? b=some { ob with slots:=sl }:=by
 by_cases hb:b∈fs
 ·exact u.slot b ob q n hb hx
 ·exact⟨ob.slots,u.keep b ob q n hb hx⟩
theorem Un.kept (k:∀ b u,h.get? b=some u->h'.get? b=some u):Un fs ex H H h h':=
 ⟨fun b ob q _ _ _=>k b ob q,fun b ob q _ _ _=>⟨ob.slots,k b ob q⟩,fun _ _ _ n _=>n,fun b ob q _=>⟨ob,k b ob q⟩,fun _ _ q=>q,fun _ _ _ q=>q,fun _ ps q=>⟨#[],by rw[q]; simp⟩⟩
theorem Un.refl:Un fs ex H H h h:=Un.kept fun _ _ q=>q
theorem Un.laid (k:∀ b u,h.get? b=some u->h'.get? b=some u) (hp:h.objs.size<=a) (hn:H a=none):Un fs ex H (upd H a o) h h' where
 keep:=fun b u q _ _ _=>k b u q
 slot:=fun b u q _ _ _=>⟨u.slots,k b u q⟩
 free:=fun b u q n _=>by rw[aI (Nat.ne_of_lt (Nat.lt_of_lt_of_le (Heap.lt_size q) hp))]; exact n
 there:=fun b u q _=>⟨u,k b u q⟩
 tups:=fun b xs q=>by rw[aI (aF q hn)]; exact q
 frzs:=fun b u xs q=>by rw[aI (aF q hn)]; exact q
 tbls:=fun b ps q=>⟨#[],by rw[aI (aF q hn),q]; simp⟩
theorem Un.write (mu:Mut (H x)) (he:e=x∨H e=some (.own x)) (k:∀ b u,b≠e->h.get? b=some u->h'.get? b=some u) (heo:∃ u,h'.get? e=some u):Un fs ex H (upd H x o) h h':=by
 have hx:∀ b,H b=none->b≠x:=fun b n z=>by subst z; rw[n] at mu; exact mu
 have hb:∀ b,H b=none->b≠e:=fun b n z=>by
  subst z;rcases he with r | r
  ·exact hx b n r
  ·rw[n] at r; cases r
 have hm:∀ b u,H b=some u->¬ Mut (some u)->b≠x:=fun b u q nm z=>by subst z; rw[q] at mu; exact nm mu
 refine⟨fun b u q n _ _=>k b u (hb b n) q,fun b u q n _ _=>⟨u.slots,k b u (hb b n) q⟩,fun b u q n _=>by rw[aI (hx b n)]; exact n,fun b u q _=>?_,
  fun b xs q=>by rw[aI (hm b _ q fun z=>z)]; exact q,fun b u xs q=>by rw[aI (hm b _ q fun z=>z)]; exact q,fun b ps q=>⟨#[],by rw[aI (hm b _ q fun z=>z),q]; simp⟩⟩
 by_cases hbe:b=e
 ·subst hbe; exact heo
 ·exact⟨u,k b u hbe q⟩
end

def trk (h:Heap) (H:Hp):List Addr:=(List.range h.objs.size).filter fun a=>(H a).isSome
def vN (h:Heap) (H:Hp):Heap:=PySem.W.hideAll h (trk h H)
theorem aDf (h:Heap) (H:Hp):(vN h H).objs.size=h.objs.size:=PySem.W.hideAll_size _ _
theorem rT {h:Heap}{H:Hp}{b:Addr}{o:Obj}(e:h.get? b=some o) (n:H b=none):(vN h H).get? b=some o:=
 PySem.W.hideAll_get _ e fun hm=>by
  have q:(H b).isSome=true:=(List.mem_filter.mp hm).2;rw[n] at q; simp at q
theorem aIs {h:Heap}{H:Hp}{b:Addr}{o:Obj}(e:(vN h H).get? b=some o):h.get? b=some o∧H b=none:=by
 have e':h.get? b=some o:=PySem.W.of_hideAll (trk h H) e;refine⟨e',?_⟩;cases q:H b with
 | none=>rfl
 | some x=>
  have hm:b∈trk h H:=List.mem_filter.mpr ⟨List.mem_range.mpr (Heap.lt_size e'),by simp[q]⟩;have z:(vN h H).get? b=none:=PySem.W.hideAll_none (trk h H) hm;rw[z] at e; cases e

end L2

namespace L2
open PySem PySem.Spec PyProof.Rows

structure Mod (K:PySem.W.Frag) (mg:Str->Option Value) (base:Heap):Prop where
 kin:K.In base
 glob:base.Ns mainGlobals mg
 blt:∃ mb,base.Ns builtinsNs mb∧∀ x:Str,x≠"__name__" -> mb x=bootBuiltins x
 nolimit:base.NoLimit

structure Cx where
 prog:Program
 w:World
 K:PySem.W.Frag
 mg:Str->Option Value
 base:Heap
 A:Around
 N:List Str
 s₀:Shared
 H₀:Hp
 env:Env
 outer:List Env
 stack:List Env
 ex:List Addr
 fn:Str->Bool
 calm:Bool
 pn:List (Addr×Obj)
 xe:Value->Shared->Prop
def frs (l:List Env):List Addr:=l.filterMap (·.frame)
abbrev Cx.fs (X:Cx):List Addr:=frs X.outer

def Vis (sc:Scope) (x:Str):Prop:=sc.names.lookup x=some .local∨sc.names.lookup x=some .cell∨sc.names.lookup x=some .free
def Loc (sc:Scope) (x:Str):Prop:=sc.names.lookup x=some .local∨sc.names.lookup x=some .cell
def aQq (env:Env) (h:Heap) (m:Str->Option Value) (x:Str) (u:Value):Prop:=
 (env.kindOf x=some .local∧m x=some u)∨((env.kindOf x=some .cell∨env.kindOf x=some .free)∧∃ c,env.cells.lookup x=some c∧h.IsCell c (some u))

structure Cx.Ok (X:Cx):Prop where
 mod:Mod X.K X.mg X.base
 kind:X.env.scope.kind=.function
 glob:X.env.globals=mainGlobals
 blt:X.env.builtins=builtinsNs
 above:X.s₀.heap.objs.size<=X.env.locals
 inj:∀ x y c,X.env.cells.lookup x=some c->X.env.cells.lookup y=some c->x=y
 has:∀ x,(X.env.kindOf x=some .cell∨X.env.kindOf x=some .free)->∃ c,X.env.cells.lookup x=some c
 cab:∀ x c,X.fn x=true->X.env.cells.lookup x=some c->X.s₀.heap.objs.size<=c
 hd:X.calm=true->X.A.handled=none
 frames:X.A.frames=some X.stack
 stk:X.stack=X.outer∨(X.stack=X.env::X.outer∧X.env.frame=some X.env.locals)
 exf:∀ b∈X.ex,b≠X.env.locals∧∀ x c,X.env.cells.lookup x=some c->c≠b
 bs:∀ b o,X.base.get? b=some o->X.s₀.heap.get? b=some o∧X.H₀ b=none
 bsz:X.base.objs.size<=X.s₀.heap.objs.size
 noex:∀ b o,X.base.get? b=some o->b∉X.ex
 exfs:∀ b∈X.ex,b∉X.fs
 funs:X.s₀.heap.FunFrames X.base X.outer
 frf:∀ b∈X.fs,X.H₀ b=none

structure Inv (X:Cx) (pins:List (Addr×Obj)) (σ:List (Option V)) (H:Hp) (s:Shared):Prop where
 ok:X.Ok
 os:s.os=X.s₀.os
 bare:AllBare s.gens
 base:Un X.fs X.ex X.H₀ H X.s₀.heap s.heap
 loc:∃ m,s.heap.Ns X.env.locals m∧∀ (i:Nat) (x:Str) (v:V),X.N[i]?=some x->σ[i]?=some (some v)->Vis X.env.scope x->∃ u,cE v u∧aQq X.env s.heap m x u
 cell:∀ x c,X.env.cells.lookup x=some c->∃ v,s.heap.IsCell c v
 free:H X.env.locals=none
 freeC:∀ x c,X.env.cells.lookup x=some c->H c=none
 pin:∀ p∈X.pn++pins,s.heap.get? p.1=some p.2∧H p.1=none∧p.1≠X.env.locals∧p.1∉X.fs∧∀ v,p.2.data≠.cell v
 hok:HOk X.prog X.w H s.heap
 len:σ.length=X.N.length

section
variable {X:Cx}{pins:List (Addr×Obj)}{σ:List (Option V)}{H H':Hp}{s:Shared}{h':Heap}

theorem Cx.Ok.nofr (ok:X.Ok){b:Addr}{o:Obj}(e:X.base.get? b=some o):b∉X.fs:=fun hb=>by
 have:=(ok.funs.mem hb).1
 rw[e] at this; cases this
theorem Inv.bs (I:Inv X pins σ H s):∀ b o,X.base.get? b=some o->s.heap.get? b=some o∧H b=none:=fun b o e=>
 ⟨I.base.keep b o (I.ok.bs b o e).1 (I.ok.bs b o e).2 (I.ok.nofr e) (I.ok.noex b o e),I.base.free b o (I.ok.bs b o e).1 (I.ok.bs b o e).2 (I.ok.noex b o e)⟩
theorem Inv.bk (I:Inv X pins σ H s):∀ b o,X.base.get? b=some o->s.heap.get? b=some o:=fun b o e=>(I.bs b o e).1
theorem Inv.mod (I:Inv X pins σ H s):Mod X.K X.mg X.base:=I.ok.mod
theorem Inv.kIn (I:Inv X pins σ H s):X.K.In s.heap:=I.ok.mod.kin.keeps I.bk
theorem Inv.nolimit (I:Inv X pins σ H s):s.heap.NoLimit:=I.ok.mod.nolimit.keeps I.bk
theorem Inv.lt (I:Inv X pins σ H s):X.env.locals<s.heap.objs.size:=let ⟨_,hn,_⟩:=I.loc; hn.lt
theorem Inv.sz (I:Inv X pins σ H s):X.s₀.heap.objs.size<=s.heap.objs.size:=Nat.le_trans I.ok.above (Nat.le_of_lt I.lt)
theorem Inv.nofs (I:Inv X pins σ H s){a:Addr}(h:s.heap.objs.size<=a):a∉X.fs:=fun hb=>by
 obtain⟨_,o,ho,_⟩:=I.ok.funs.mem hb;exact absurd (Nat.lt_of_lt_of_le (Heap.lt_size ho) (Nat.le_trans I.sz h)) (Nat.lt_irrefl _)
theorem Inv.cne (I:Inv X pins σ H s):∀ x c,X.env.cells.lookup x=some c->c≠X.env.locals:=fun x c e z=>by
 obtain⟨v,o,ho,hd⟩:=I.cell x c e;obtain⟨m,⟨o',es,ep,ho',hd',_⟩,_⟩:=I.loc;rw[z,ho'] at ho; cases ho; rw[hd'] at hd; cases hd
theorem Inv.funs (I:Inv X pins σ H s):s.heap.FunFrames X.base X.outer:=by
 have all:∀ (l:List Env),(∀ b∈frs l,b∈X.fs)->X.s₀.heap.FunFrames X.base l->s.heap.FunFrames X.base l:=by
  intro l
  induction l with
  | nil=>intro _ _; trivial
  | cons env r ih=>
   intro hs hl;obtain⟨hk,⟨L,o,hf,hn,ho,hd⟩,hr⟩:=hl;have hL:L∈X.fs:=hs L (by unfold frs; rw[List.filterMap_cons,hf]; exact List.mem_cons_self);obtain⟨sl,e⟩:=I.base.slot L o ho (I.ok.frf L hL) hL fun z=>I.ok.exfs L z hL;exact⟨hk,⟨L,_,hf,hn,e,hd⟩,ih (fun b hb=>hs b (by unfold frs; rw[List.filterMap_cons,hf]; exact List.mem_cons_of_mem _ hb)) hr⟩
 exact all X.outer (fun _ hb=>hb) I.ok.funs

theorem Inv.stack (I:Inv X pins σ H s):s.heap.FunFrames X.base X.stack:=by
 rcases I.ok.stk with e | ⟨e,hf⟩
 ·rw[e]; exact I.funs
 ·rw[e];obtain⟨m,hn,_⟩:=I.loc;refine .cons (by rw[I.ok.kind]; decide) hf hn ?_ I.funs;exact Heap.get?_none_of_le (Nat.le_trans I.ok.bsz I.ok.above)
theorem Inv.stkSub (I:Inv X pins σ H s):∀ b∈frs X.stack,b∈X.env.locals::X.fs:=fun b hb=>by
 rcases I.ok.stk with e | ⟨e,hf⟩
 ·rw[e] at hb; exact List.mem_cons_of_mem _ hb
 ·rw[e] at hb;unfold frs at hb;rw[List.filterMap_cons,hf] at hb;exact hb
theorem Inv.stkFree (I:Inv X pins σ H s):∀ b∈frs X.stack,H b=none:=fun b hb=>by
 rcases List.mem_cons.mp (I.stkSub b hb) with e | hb
 ·rw[e]; exact I.free
 ·obtain⟨_,o,ho,_⟩:=I.ok.funs.mem hb;exact I.base.free b o ho (I.ok.frf b hb) fun z=>I.ok.exfs b z hb

theorem Inv.step {g':Array GenState}{t':Nat}{d':Drawn}{ch:List Addr}(I:Inv X pins σ H s)
  (hch:∀ b∈ch,(b∈X.ex∨X.s₀.heap.objs.size<=b)∧b≠X.env.locals∧(∀ x c,X.env.cells.lookup x=some c->c≠b)∧∀ p∈X.pn++pins,p.1≠b)
  (keep:∀ b o,b≠X.env.locals->b∉X.fs->b∉ch->s.heap.get? b=some o->H b=none->h'.get? b=some o)
  (slot:∀ b o,b≠X.env.locals->b∈X.fs->b∉ch->s.heap.get? b=some o->H b=none->∃ sl,h'.get? b=some { o with slots:=sl }) (free:∀ b o,b∉ch->s.heap.get? b=some o->H b=none->H' b=none)
  (there:∀ b o,b∉ch->s.heap.get? b=some o->∃ o',h'.get? b=some o')
  (tups:∀ b xs,H b=some (.tup xs)->H' b=some (.tup xs)) (frzs:∀ b o u,H b=some (.frz o u)->H' b=some (.frz o u)) (tbls:∀ b ps,H b=some (.tbl ps)->∃ more,H' b=some (.tbl (ps++more)))
  (ns:∀ m,s.heap.Ns X.env.locals m->h'.Ns X.env.locals m) (hok:HOk X.prog X.w H' h') (hg:AllBare g') :
  Inv X pins σ H' { s with heap:=h',gens:=g',drawn:=d',toks:=t' }:=by
 have neL:∀ b o,X.s₀.heap.get? b=some o->b≠X.env.locals:=fun b o e=>Nat.ne_of_lt (Nat.lt_of_lt_of_le (Heap.lt_size e) I.ok.above)
 have neC:∀ b o,X.s₀.heap.get? b=some o->b∉X.ex->b∉ch:=fun b o e hx hb=>by
  rcases (hch b hb).1 with z | z
  ·exact hx z
  ·exact absurd (Nat.lt_of_lt_of_le (Heap.lt_size e) z) (Nat.lt_irrefl _)
 have cellK:∀ x c,X.env.cells.lookup x=some c->∀ v,s.heap.IsCell c v->h'.IsCell c v:=fun x c e v ⟨o,ho,hd⟩=>by
  have nch:c∉ch:=fun z=>(hch c z).2.2.1 x c e rfl
  by_cases hc:c∈X.fs
  ·obtain⟨sl,q⟩:=slot c o (I.cne x c e) hc nch ho (I.freeC x c e);exact⟨_,q,hd⟩
  ·exact⟨o,keep c o (I.cne x c e) hc nch ho (I.freeC x c e),hd⟩
 refine⟨I.ok,I.os,hg,⟨fun b o e n hb hx=>?_,fun b o e n hb hx=>?_,fun b o e n hx=>?_,fun b o e hx=>?_,fun b xs e=>tups b xs (I.base.tups b xs e),fun b o xs e=>frzs b o xs (I.base.frzs b o xs e),fun b ps e=>?_⟩,?_,fun x c e=>?_,?_,fun x c e=>?_,fun p hp=>?_,hok,I.len⟩
 ·exact keep b o (neL b o e) hb (neC b o e hx) (I.base.keep b o e n hb hx) (I.base.free b o e n hx)
 ·obtain⟨sl,e1⟩:=I.base.slot b o e n hb hx;obtain⟨sl',e2⟩:=slot b _ (neL b o e) hb (neC b o e hx) e1 (I.base.free b o e n hx);exact⟨sl',e2⟩
 ·obtain⟨o',e1⟩:=I.base.there b o e hx;exact free b o' (neC b o e hx) e1 (I.base.free b o e n hx)
 ·obtain⟨o',e1⟩:=I.base.there b o e hx;exact there b o' (neC b o e hx) e1
 ·obtain⟨m1,e1⟩:=I.base.tbls b ps e;obtain⟨m2,e2⟩:=tbls b _ e1;exact⟨m1++m2,by rw[e2,Array.append_assoc]⟩
 ·obtain⟨m,hn,hl⟩:=I.loc;refine⟨m,ns m hn,fun i x v e1 e2 e3=>?_⟩;obtain⟨u,r,l⟩:=hl i x v e1 e2 e3;refine⟨u,r,?_⟩;rcases l with l | ⟨k,c,e,z⟩
  ·exact .inl l
  ·exact .inr ⟨k,c,e,cellK x c e _ z⟩
 ·obtain⟨v,z⟩:=I.cell x c e;exact⟨v,cellK x c e v z⟩
 ·obtain⟨m,⟨o,_,_,ho,_⟩,_⟩:=I.loc;exact free _ o (fun z=>(hch _ z).2.1 rfl) ho I.free
 ·obtain⟨v,o,ho,hd⟩:=I.cell x c e;exact free c o (fun z=>(hch c z).2.2.1 x c e rfl) ho (I.freeC x c e)
 ·obtain⟨e,n,ne,nf,d⟩:=I.pin p hp;have nch:p.1∉ch:=fun z=>(hch p.1 z).2.2.2 p hp rfl;exact⟨keep p.1 p.2 ne nf nch e n,free p.1 p.2 nch e n,ne,nf,d⟩
theorem Inv.un {t':Nat}(I:Inv X pins σ H s) (u:Un X.fs [] H H' s.heap h') (hok:HOk X.prog X.w H' h'):Inv X pins σ H' { s with heap:=h',toks:=t' }:=by
 obtain⟨m,⟨o,es,ep,ho,r⟩,_⟩:=id I.loc;obtain⟨sl,hL⟩:=u.any ho I.free (by simp)
 exact I.step (g':=s.gens) (d':=s.drawn) (ch:=[]) (fun _ z=>nomatch z) (fun b o _ hb _ e n=>u.keep b o e n hb (by simp)) (fun b o _ hb _ e n=>u.slot b o e n hb (by simp)) (fun b o _ e n=>u.free b o e n (by simp)) (fun b o _ e=>u.there b o e (by simp)) u.tups u.frzs u.tbls (fun m' hm=>by
  obtain⟨o',es',ep',ho',r'⟩:=hm;rw[ho] at ho'; cases ho';exact⟨_,es',ep',hL,r'⟩) hok I.bare
theorem Inv.call {g':Array GenState}{t':Nat}{d':Drawn}{ch:List Addr}(I:Inv X pins σ H s) (u:Un (frs X.stack) ch H H' s.heap h') (hok:HOk X.prog X.w H' h') (hg:AllBare g')
  (hch:∀ b∈ch,(b∈X.ex∨X.s₀.heap.objs.size<=b)∧b≠X.env.locals∧(∀ x c,X.env.cells.lookup x=some c->c≠b)∧∀ p∈X.pn++pins,p.1≠b) :
  Inv X pins σ H' { s with heap:=h',gens:=g',drawn:=d',toks:=t' }:=by
 obtain⟨m,⟨o,es,ep,ho,r⟩,_⟩:=id I.loc;obtain⟨sl,hL⟩:=u.any ho I.free fun z=>(hch _ z).2.1 rfl
 exact I.step (ch:=ch) hch (fun b o hL hb hc e n=>u.keep b o e n (fun z=>(List.mem_cons.mp (I.stkSub b z)).elim hL hb) hc) (fun b o _ _ hc e n=>u.any e n hc) (fun b o hc e n=>u.free b o e n hc) (fun b o hc e=>u.there b o e hc) u.tups u.frzs u.tbls (fun m' hm=>by
  obtain⟨o',es',ep',ho',r'⟩:=hm;rw[ho] at ho'; cases ho';exact⟨_,es',ep',hL,r'⟩) hok hg
theorem Inv.turned {t':Nat}{it:Addr}(I:Inv X pins σ H s) (k:∀ b o,b≠it->s.heap.get? b=some o->h'.get? b=some o) (hn:H it=none) (hL:it≠X.env.locals)
  (h1:it∈X.ex∨X.s₀.heap.objs.size<=it) (h2:∀ x c,X.env.cells.lookup x=some c->c≠it) (h3:∀ p∈X.pn++pins,p.1≠it):Inv X pins σ H { s with heap:=h',toks:=t' }:=by
 have nit:∀ b u,H b=some u->b≠it:=fun b u e z=>by rw[z,hn] at e; cases e
 refine I.step (g':=s.gens) (d':=s.drawn) (ch:=[it]) (fun b hb=>?_) (fun b o _ _ hc e _=>k b o (fun z=>hc (by simp[z])) e) (fun b o _ _ hc e _=>⟨o.slots,k b o (fun z=>hc (by simp[z])) e⟩) (fun _ _ _ _ n=>n)
  (fun b o hc e=>⟨o,k b o (fun z=>hc (by simp[z])) e⟩) (fun _ _ e=>e) (fun _ _ _ e=>e) (fun b ps e=>⟨#[],by rw[e]; simp⟩) (fun m hm=>?_) (fun b u e=>?_) I.bare
 ·have e:b=it:=by simpa using hb
  subst e;exact⟨h1,hL,h2,h3⟩
 ·obtain⟨o,es,ep,ho,r⟩:=hm;exact⟨o,es,ep,k _ o (Ne.symm hL) ho,r⟩
 ·refine (I.hok b u e).stay (fun c v hc q=>k c v ?_ q) (fun _ q=>q) fun _ _ q=>q;rcases hc with z | z
  ·rw[z]; exact nit b u e
  ·exact nit c _ z
theorem Inv.tok (I:Inv X pins σ H s) (t:Nat):Inv X pins σ H { s with toks:=t }:=I.un (h':=s.heap) (t':=t) Un.refl I.hok
theorem Inv.kept {t':Nat}(I:Inv X pins σ H s) (k:∀ b u,s.heap.get? b=some u->h'.get? b=some u):Inv X pins σ H { s with heap:=h',toks:=t' }:=I.un (Un.kept k) (I.hok.kept k)
theorem Inv.laid {a:Addr}{o:HO}{t':Nat}(I:Inv X pins σ H s) (k:∀ b u,s.heap.get? b=some u->h'.get? b=some u) (hp:s.heap.objs.size<=a) (new:dE X.prog X.w (upd H a o) h' a o) :
  Inv X pins σ (upd H a o) { s with heap:=h',toks:=t' }:=I.un (Un.laid k hp (I.hok.fresh hp)) (I.hok.laid k hp new)
theorem Inv.write {x e:Addr}{o:HO}{t':Nat}(I:Inv X pins σ H s) (mu:Mut (H x)) (he:e=x∨H e=some (.own x)) (k:∀ b u,b≠e->s.heap.get? b=some u->h'.get? b=some u) (heo:∃ u,h'.get? e=some u)
  (new:dE X.prog X.w (upd H x o) h' x o):Inv X pins σ (upd H x o) { s with heap:=h',toks:=t' }:=I.un (Un.write mu he k heo) (I.hok.write mu he k heo new)
theorem Inv.pins_of {pins':List (Addr×Obj)}(I:Inv X pins σ H s) (h:∀ p∈pins',s.heap.get? p.1=some p.2∧H p.1=none∧p.1≠X.env.locals∧p.1∉X.fs∧∀ v,p.2.data≠.cell v):Inv X pins' σ H s:=
 ⟨I.ok,I.os,I.bare,I.base,I.loc,I.cell,I.free,I.freeC,fun p hp=>(List.mem_append.mp hp).elim (fun z=>I.pin p (List.mem_append_left _ z)) (h p),I.hok,I.len⟩

theorem xF {N:List Str}(hN:N.Nodup){i j:Nat}{x:Str}(a:N[i]?=some x) (b:N[j]?=some x):i=j:=by
 obtain⟨h1,e1⟩:=List.getElem?_eq_some_iff.mp a;obtain⟨h2,e2⟩:=List.getElem?_eq_some_iff.mp b;exact (List.getElem_inj hN).mp (e1.trans e2.symm)

theorem tJ {M:Model}{A:Around}{E:Value->Shared->Prop}{i:Nat}{x:Str}{v:V}{u:Value}{Q:Unit->Shared->Prop}(I:Inv X pins σ H s) (hN:X.N.Nodup) (hi:X.N[i]?=some x) (hx:Loc X.env.scope x) (r:cE v u)
  (h:∀ s',Inv X pins (σ.set i (some v)) H s'->(∃ a,Heap.SameBut a s.heap s'.heap∧(a=X.env.locals∨X.env.cells.lookup x=some a))->Q () s') (hf:X.fn x=true∨X.env.scope.names.lookup x=some .local:=by first | exact .inl rfl | exact .inr rfl | assumption):wpAny M A (storeName X.env x u) Q E s:=by
 obtain⟨m,hn,hl⟩:=id I.loc;have hcls:(X.env.scope.kind==.class||(X.env.scope.kind==.module&&X.env.locals != X.env.globals))=false:=by rw[I.ok.kind]; rfl
 have hiσ:i<σ.length:=by rw[I.len]; exact (List.getElem?_eq_some_iff.mp hi).1
 have cne:=I.cne
 have tracked:∀ {a:Addr}{h':Heap},(∃ o,s.heap.get? a=some o∧H a=none)->Heap.SameBut a s.heap h'->HOk X.prog X.w H h':=fun {a h'} ha hs b ob e=>by
  obtain⟨_,_,hfree⟩:=ha;refine (I.hok b ob e).stay (fun c w' hc q=>(hs.2 c ?_).trans q) (fun _ q=>q) fun _ _ q=>q;rintro rfl;rcases hc with rfl | hc
  ·rw[hfree] at e; cases e
  ·rw[hfree] at hc; cases hc
 rcases hx with hk | hk
 ·refine wpAny_storeName_local hk hn (fun h' hn' hs=>?_) hcls;obtain⟨oL,_,_,hoL,_⟩:=id hn;refine h _ ⟨I.ok,I.os,I.bare,⟨fun b o e n hb hx=>?_,fun b o e n hb hx=>?_,I.base.free,fun b o e hx=>?_,I.base.tups,I.base.frzs,I.base.tbls⟩,⟨_,hn',fun j y v' e1 e2 e3=>?_⟩,fun y c e=>?_,I.free,I.freeC,fun p hp=>?_,tracked ⟨oL,hoL,I.free⟩ hs,by simpa using I.len⟩ ⟨_,hs,.inl rfl⟩
  ·exact (hs.2 b (Nat.ne_of_lt (Nat.lt_of_lt_of_le (Heap.lt_size e) I.ok.above))).trans (I.base.keep b o e n hb hx)
  ·obtain⟨sl,e1⟩:=I.base.slot b o e n hb hx;exact⟨sl,(hs.2 b (Nat.ne_of_lt (Nat.lt_of_lt_of_le (Heap.lt_size e) I.ok.above))).trans e1⟩
  ·obtain⟨o',e1⟩:=I.base.there b o e hx;exact⟨o',(hs.2 b (Nat.ne_of_lt (Nat.lt_of_lt_of_le (Heap.lt_size e) I.ok.above))).trans e1⟩
  ·by_cases hj:j=i
   ·subst hj;rw[hi] at e1; cases e1;rw[List.getElem?_set_self hiσ] at e2;cases e2;exact⟨u,r,.inl ⟨hk,by simp⟩⟩
   ·rw[List.getElem?_set_ne (Ne.symm hj)] at e2;obtain⟨u',r',q⟩:=hl j y v' e1 e2 e3;refine⟨u',r',?_⟩;rcases q with⟨k,e⟩ | ⟨k,c,e,z⟩
    ·refine .inl ⟨k,?_⟩
     have:y≠x:=fun e=>hj (xF hN e1 (e▸hi))
     simp[this,e]
    ·exact .inr ⟨k,c,e,z.sameBut hs (cne y c e)⟩
  ·obtain⟨w',z⟩:=I.cell y c e;exact⟨w',z.sameBut hs (cne y c e)⟩
  ·obtain⟨e,n,ne,nf,d⟩:=I.pin p hp;exact⟨(hs.2 p.1 ne).trans e,n,ne,nf,d⟩
 ·have hfn:X.fn x=true:=by
   rcases hf with z | z
   ·exact z
   ·rw[z] at hk; cases hk
  obtain⟨c,hc⟩:=I.ok.has x (.inl hk);obtain⟨w',z⟩:=I.cell x c hc;refine wpAny_storeName_cell I.ok.kind hk hc z (fun h' hc' hs=>?_);obtain⟨oc,hoc,hocd⟩:=id z;refine h { s with heap:=h' } ⟨I.ok,I.os,I.bare,⟨fun b o e n hb hx=>?_,fun b o e n hb hx=>?_,I.base.free,fun b o e hx=>?_,I.base.tups,I.base.frzs,I.base.tbls⟩,⟨m,hn.sameBut hs (Ne.symm (cne x c hc)),fun j y v' e1 e2 e3=>?_⟩,fun y c' e=>?_,I.free,I.freeC,fun p hp=>?_,tracked ⟨oc,hoc,I.freeC x c hc⟩ hs,by simpa using I.len⟩ ⟨c,hs,.inr hc⟩
  ·exact (hs.2 b (Nat.ne_of_lt (Nat.lt_of_lt_of_le (Heap.lt_size e) (I.ok.cab x c hfn hc)))).trans (I.base.keep b o e n hb hx)
  ·obtain⟨sl,e1⟩:=I.base.slot b o e n hb hx;exact⟨sl,(hs.2 b (Nat.ne_of_lt (Nat.lt_of_lt_of_le (Heap.lt_size e) (I.ok.cab x c hfn hc)))).trans e1⟩
  ·obtain⟨o',e1⟩:=I.base.there b o e hx;exact⟨o',(hs.2 b (Nat.ne_of_lt (Nat.lt_of_lt_of_le (Heap.lt_size e) (I.ok.cab x c hfn hc)))).trans e1⟩
  ·by_cases hj:j=i
   ·subst hj;rw[hi] at e1; cases e1;rw[List.getElem?_set_self hiσ] at e2;cases e2;exact⟨u,r,.inr ⟨.inl hk,c,hc,hc'⟩⟩
   ·rw[List.getElem?_set_ne (Ne.symm hj)] at e2;obtain⟨u',r',q⟩:=hl j y v' e1 e2 e3;refine⟨u',r',?_⟩;rcases q with q | ⟨k,c',e,z'⟩
    ·exact .inl q
    ·refine .inr ⟨k,c',e,z'.sameBut hs ?_⟩;rintro rfl;exact hj (xF hN e1 (I.ok.inj _ _ _ e hc▸hi))
  ·by_cases hcc:c'=c
   ·subst hcc; exact⟨_,hc'⟩
   ·obtain⟨w2,z2⟩:=I.cell y c' e;exact⟨w2,z2.sameBut hs hcc⟩
  ·obtain⟨e,n,ne,nf,d⟩:=I.pin p hp;refine⟨(hs.2 p.1 ?_).trans e,n,ne,nf,d⟩;intro q;rw[q,hoc] at e;have q':oc=p.2:=Option.some.inj e;exact d w' (by rw[← q']; exact hocd)
theorem qV {M:Model}{A:Around}{E:Value->Shared->Prop}{i:Nat}{x:Str}{v:V}{u:Value}{Q:Unit->Shared->Prop}(I:Inv X pins σ H s) (hN:X.N.Nodup) (hi:X.N[i]?=some x) (hx:Loc X.env.scope x) (r:cE v u)
  (h:∀ s',Inv X pins (σ.set i (some v)) H s'->Q () s') (hf:X.fn x=true∨X.env.scope.names.lookup x=some .local:=by first | exact .inl rfl | exact .inr rfl | assumption):wpAny M A (storeName X.env x u) Q E s:=
 tJ I hN hi hx r (fun s' I' _=>h s' I') hf
theorem Inv.call' {s':Shared}{ch:List Addr}(I:Inv X pins σ H s) (ho:s'.os=s.os) (u:Un (frs X.stack) ch H H' s.heap s'.heap) (hok:HOk X.prog X.w H' s'.heap) (hg:AllBare s'.gens)
  (hch:∀ b∈ch,(b∈X.ex∨X.s₀.heap.objs.size<=b)∧b≠X.env.locals∧(∀ x c,X.env.cells.lookup x=some c->c≠b)∧∀ p∈X.pn++pins,p.1≠b):Inv X pins σ H' s':=by
 obtain⟨h',g',d',t',o'⟩:=s';have e:o'=s.os:=ho;subst e;exact I.call (g':=g') (t':=t') (d':=d') u hok hg hch
end

abbrev XK:=Value->Option Addr->Hp->Prop
abbrev St:=List (Option V)
abbrev VK:=V->Hp->Prop
abbrev TE:=St->Hp->VK->Prop
abbrev TT:=St->Hp->(Bool->Hp->Prop)->Prop
abbrev TA:=St->Hp->(List V->Hp->Prop)->Prop
structure sN where
 nx:St->Hp->Prop
 rt:VK
 bk:St->Hp->Prop:=fun _ _=>False
 ct:St->Hp->Prop:=fun _ _=>False
abbrev TS:=sN->St->Hp->Prop

inductive EP (X:Cx) (pins:List (Addr×Obj)) (σ:St) (Q:VK) (u:Value) (s':Shared):Prop
 | mk (v:_) (H':_) (h0_:Inv X pins σ H' s') (h1_:cE v u) (h2_:Q v H')
inductive TP (X:Cx) (pins:List (Addr×Obj)) (σ:St) (Q:Bool->Hp->Prop) (b:Bool) (s':Shared):Prop
 | mk (H':_) (h0_:Inv X pins σ H' s') (h1_:Q b H')
inductive AP (X:Cx) (pins:List (Addr×Obj)) (σ:St) (Q:List V->Hp->Prop) (us:List Value) (s':Shared):Prop
 | mk (vs:_) (H':_) (h0_:Inv X pins σ H' s') (h1_:bY vs us) (h2_:Q vs H')
def SP (X:Cx) (pins:List (Addr×Obj)) (D:sN) (f:Flow) (s':Shared):Prop:=
 match f with
 | .next=>∃ σ' H',Inv X pins σ' H' s'∧D.nx σ' H'
 | .brk=>∃ σ' H',Inv X pins σ' H' s'∧D.bk σ' H'
 | .cont=>∃ σ' H',Inv X pins σ' H' s'∧D.ct σ' H'
 | .ret u=>∃ v σ' H',Inv X pins σ' H' s'∧cE v u∧D.rt v H'

def PE (X:Cx) (e:Expr) (t:TE):Prop:=
 ∀ (pins:List (Addr×Obj)) (s:Shared) (σ:St) (H:Hp) (Q:VK),Inv X pins σ H s->t σ H Q->wpAny (model X.prog X.w) X.A (eval e X.env) (EP X pins σ Q) X.xe s
def PT (X:Cx) (e:Expr) (t:TT):Prop:=
 ∀ (pins:List (Addr×Obj)) (s:Shared) (σ:St) (H:Hp) (Q:Bool->Hp->Prop),Inv X pins σ H s->t σ H Q->wpAny (model X.prog X.w) X.A (isTrue e X.env (eval e X.env)) (TP X pins σ Q) X.xe s
def PW (X:Cx) (e:Expr) (t:TT):Prop:=
 ∀ (whole:Sem Value) (pins:List (Addr×Obj)) (s:Shared) (σ:St) (H:Hp) (Q:Bool->Hp->Prop),Inv X pins σ H s->t σ H Q->wpAny (model X.prog X.w) X.A (isTrue e X.env whole) (TP X pins σ Q) X.xe s
theorem PW.pt {X:Cx}{e:Expr}{t:TT}(h:PW X e t):PT X e t:=h _
def PA (X:Cx) (es:List Expr) (t:TA):Prop:=
 ∀ (pos:Pos) (pins:List (Addr×Obj)) (s:Shared) (σ:St) (H:Hp) (Q:List V->Hp->Prop),Inv X pins σ H s->t σ H Q->wpAny (model X.prog X.w) X.A (spliced (backTo pos (starEach es X.env))) (AP X pins σ Q) X.xe s
def PS (X:Cx) (st:Stmt) (t:TS):Prop:=
 ∀ (pins:List (Addr×Obj)) (s:Shared) (σ:St) (H:Hp) (D:sN),Inv X pins σ H s->t D σ H->wpAny (model X.prog X.w) X.A (exec st X.env) (SP X pins D) X.xe s
def PSs (X:Cx) (st:List Stmt) (t:TS):Prop:=
 ∀ (pins:List (Addr×Obj)) (s:Shared) (σ:St) (H:Hp) (D:sN),Inv X pins σ H s->t D σ H->wpAny (model X.prog X.w) X.A (execs st X.env) (SP X pins D) X.xe s
theorem thn {α:Type}{t:Sem α}{Q Q':α->Shared->Prop}{M:Model}{A:Around}{E:Value->Shared->Prop}{s:Shared}(h:wpAny M A t Q E s) (hQ:∀ a s,Q a s->Q' a s):wpAny M A t Q' E s:=wpAny_mono h hQ fun _ _ x=>x
end L2

namespace L2
open PySem PySem.Spec PyProof.Rows
section
variable {X:Cx}


inductive yK (i:Nat) (σ:St) (H:Hp) (Q:VK):Prop
 | mk (v:_) (h0_:σ[i]?=some (some v)) (h1_:Q v H)
def tC (v:V):TE:=fun _ H Q=>Q v H
theorem oY {i:Nat}{x:Str}{pos:Pos}(hN:X.N[i]?=some x) (hv:Vis X.env.scope x) (hd:(x==("__debug__" : Str))=false:=by decide) (hcd:(x==("__classdict__" : Str))=false:=by decide):PE X (.Name x pos) (yK i):=by
 intro pins s σ H Q I h;obtain⟨v,e,h⟩:=h;obtain⟨m,hn,hl⟩:=I.loc;obtain⟨u,r,l⟩:=hl i x v hN e hv;have fin:EP X pins σ Q u s:=⟨v,H,I,r,h⟩;rcases l with⟨hk,hm⟩ | ⟨hk,c,hc,hcell⟩
 ·exact wpAny_Name (wpAny_loadName_local I.ok.kind hk hn hm fin) hd
 ·rcases hk with hk | hk
  ·exact wpAny_Name (wpAny_loadName_cell I.ok.kind hk hc hcell fin) hd
  ·exact wpAny_Name (wpAny_loadName_free I.ok.kind hk hc hcell fin hcd) hd
theorem aN {i j pos}:PE X (.Constant (.int i) j pos) (tC (.int i)):=fun _ _ _ H _ I h=>wpAny_Constant_int ⟨.int i,H,I.tok _,⟨_,rfl⟩,h⟩
theorem rM {b j pos}:PE X (.Constant (.bool b) j pos) (tC (.bl b)):=fun _ _ _ H _ I h=>Constant_bool ⟨.bl b,H,I,rfl,h⟩
theorem iW {j pos}:PE X (.Constant .none j pos) (tC .non):=fun _ _ _ H _ I h=>Constant_none ⟨.non,H,I,rfl,h⟩
theorem aQ {x j pos}:PE X (.Constant (.str x) j pos) (tC (.str x)):=fun _ _ _ H _ I h=>Calls.Constant_str ⟨.str x,H,I.tok _,⟨_,rfl⟩,h⟩

def Gl (X:Cx) (x:Str):Prop:=X.env.kindOf x=some .globalImplicit
theorem gA {E:Value->Shared->Prop}{pins:List (Addr×Obj)}{s:Shared}{σ:St}{H:Hp}{x:Str}{u:Value}{pos:Pos}{Q:Value->Shared->Prop}(I:Inv X pins σ H s) (hg:Gl X x) (hm:X.mg x=some u) (h:Q u s)
  (hd:(x==("__debug__" : Str))=false:=by decide):wpAny (model X.prog X.w) X.A (eval (.Name x pos) X.env) Q E s:=
 Calls.Name_function_global I.ok.kind hg (Calls.loadGlobal_global (by rw[I.ok.glob]; exact I.mod.glob.keeps I.bk) hm h) hd
theorem mX {E:Value->Shared->Prop}{pins:List (Addr×Obj)}{s:Shared}{σ:St}{H:Hp}{x:Str}{u:Value}{pos:Pos}{Q:Value->Shared->Prop}(I:Inv X pins σ H s) (hg:Gl X x) (hm:X.mg x=none) (hv:bootBuiltins x=some u) (h:Q u s)
  (hn:x≠"__name__" := by decide) (hd:(x==("__debug__" : Str))=false:=by decide):wpAny (model X.prog X.w) X.A (eval (.Name x pos) X.env) Q E s:=by
 obtain⟨mb,h1,h2⟩:=I.mod.blt;exact Calls.Name_function_global I.ok.kind hg (Calls.loadGlobal_builtin (by rw[I.ok.glob]; exact I.mod.glob.keeps I.bk) hm (by rw[I.ok.blt]; exact h1.keeps I.bk) ((h2 x hn).trans hv) h) hd
theorem iS {x:Str}{v:V}{u:Value}{pos:Pos}(hg:Gl X x) (hm:X.mg x=some u) (r:cE v u) (hd:(x==("__debug__" : Str))=false:=by decide):PE X (.Name x pos) (tC v):=
 fun _ _ _ H _ I h=>gA I hg hm ⟨v,H,I,r,h⟩ hd
theorem aAx {x:Str}{v:V}{u:Value}{pos:Pos}(hg:Gl X x) (hm:X.mg x=none) (hv:bootBuiltins x=some u) (r:cE v u) (hn:x≠"__name__" := by decide) (hd:(x==("__debug__" : Str))=false:=by decide):PE X (.Name x pos) (tC v):=
 fun _ _ _ H _ I h=>mX I hg hm hv ⟨v,H,I,r,h⟩ hn hd

variable {a b:Expr}{ta tb:TE}{pos:Pos}

def PC (X:Cx) (op:CmpOp) (a b:Expr) (t:TE):Prop:=
 ∀ (pins:List (Addr×Obj)) (s:Shared) (σ:St) (H:Hp) (Q:VK),Inv X pins σ H s->t σ H Q ->
  wpAny (model X.prog X.w) X.A (eval a X.env) (fun v s₁=>wpAny (model X.prog X.w) X.A (eval b X.env) (fun u s₂=>wpAny (model X.prog X.w) X.A (compareOp op v u) (EP X pins σ Q) X.xe s₂) X.xe s₁) X.xe s
def tB (t:TE):TT:=fun σ H Q=>t σ H fun x H1=>∃ c,x=.bl c∧Q c H1
theorem aLi {op:CmpOp}{t:TE}(h:PC X op a b t) (h1:behindInMarks op b=false:=by first | exact nobehind _ (by decide) (by decide) | rfl):PE X (.Compare a [op] [b] pos) t:=fun pins s σ H Q I hw=>wpAny_Compare1 (h pins s σ H Q I hw) h1
theorem rG {op:CmpOp}{t:TE}(h:PC X op a b t) (h1:behindInMarks op b=false:=by first | exact nobehind _ (by decide) (by decide) | rfl):PT X (.Compare a [op] [b] pos) (tB t):=by
 intro pins s σ H Q I hw;refine wpAny_isTrue_Compare1 (thn (h pins s σ H _ I hw) fun v s1 h1=>thn h1 fun u s2 h2=>thn h2 fun c s3 ⟨x,H1,I1,r1,q1⟩=>?_) h1;obtain⟨d,rfl,q⟩:=q1;cases r1;exact wpAny_truthy_bool ⟨H1,I1,q⟩
theorem rF {e:Expr}{t:TE}(h:PE X e t) (he:∀ whole,isTrue e X.env whole=(do let v ← whole; standAt e.pos; holding [v] (truthy v)):=by intro _; rfl):PT X e (tB t):=by
 intro pins s σ H Q I hw;refine isTrue_plain (thn (h pins s σ H _ I hw) fun v s1 ⟨x,H1,I1,r1,q1⟩=>?_) (he _);obtain⟨d,rfl,q⟩:=q1;cases r1;exact wpAny_truthy_bool ⟨H1,I1,q⟩

variable {tA tB':TT}{rest:List Expr}
def aPd (t u:TT):TT:=fun σ H Q=>t σ H fun c H1=>if c=true then u σ H1 Q else Q false H1
def tOr (t u:TT):TT:=fun σ H Q=>t σ H fun c H1=>if c=true then Q true H1 else u σ H1 Q
def aOw (t:TT):TT:=fun σ H Q=>t σ H fun c H1=>Q (!c) H1
theorem vE (ha:PT X a tA):PW X (.BoolOp .And [a] pos) tA:=by
 intro wh pins s σ H Q I h;refine isTrue_and (thn (ha pins s σ H Q I h) fun c s1 e=>?_);cases c with
 | true=>exact isTrue_and_nil e
 | false=>exact e
theorem vD (ha:PT X a tA):PW X (.BoolOp .Or [a] pos) tA:=by
 intro wh pins s σ H Q I h;refine isTrue_or (thn (ha pins s σ H Q I h) fun c s1 e=>?_);cases c with
 | false=>exact isTrue_or_nil e
 | true=>exact e
theorem yX (ha:PT X a tA) (hb:PW X (.BoolOp .And (b::rest) pos) tB'):PW X (.BoolOp .And (a::b::rest) pos) (aPd tA tB'):=by
 intro wh pins s σ H Q I h;refine isTrue_and (thn (ha pins s σ H _ I h) fun c s1 ⟨H1,I1,q1⟩=>?_);cases c with
 | true=>exact hb wh pins s1 σ H1 Q I1 q1
 | false=>exact⟨H1,I1,q1⟩
theorem wR (ha:PT X a tA) (hb:PW X (.BoolOp .Or (b::rest) pos) tB'):PW X (.BoolOp .Or (a::b::rest) pos) (tOr tA tB'):=by
 intro wh pins s σ H Q I h;refine isTrue_or (thn (ha pins s σ H _ I h) fun c s1 ⟨H1,I1,q1⟩=>?_);cases c with
 | true=>exact⟨H1,I1,q1⟩
 | false=>exact hb wh pins s1 σ H1 Q I1 q1
theorem mU (ha:PT X a tA):PT X (.UnaryOp .Not a pos) (aOw tA):=by
 intro pins s σ H Q I h;exact isTrue_not (thn (ha pins s σ H (fun c H1=>Q (!c) H1) I h) fun c s1 ⟨H',I',q⟩=>⟨H',I',q⟩)
inductive aOo (x:V) (H:Hp) (Q:Bool->Hp->Prop):Prop
 | mk (k:Bool) (h:x=.bl k) (q:Q k H)
def aNb (ta tb:TE):TE:=fun σ H Q=>ta σ H fun x H1=>aOo x H1 fun c H1=>if c=true then tb σ H1 Q else Q (.bl false) H1
theorem yY {op} {t:TE}(h:PE X a t):PE X (.BoolOp op [a] pos) t:=fun pins s σ H Q I hw=>BoolOp_one (h pins s σ H Q I hw)
theorem yZ (ha:PE X a ta) (hb:PE X (.BoolOp .And (b::rest) pos) tb):PE X (.BoolOp .And (a::b::rest) pos) (aNb ta tb):=by
 intro pins s σ H Q I h;refine BoolOp_and (thn (ha pins s σ H _ I h) fun v s1 ⟨x,H1,I1,r1,q1⟩=>?_);obtain⟨c,rfl,q1⟩:=q1;cases r1;refine wpAny_truthy_bool ?_;cases c with
 | true=>exact hb pins s1 σ H1 Q I1 q1
 | false=>exact⟨.bl false,H1,I1,rfl,q1⟩
def tIf (t:TT) (ta tb:TE):TE:=fun σ H Q=>t σ H fun c H1=>if c=true then ta σ H1 Q else tb σ H1 Q
theorem wX {c:Expr}(hc:PT X c tA) (ha:PE X a ta) (hb:PE X b tb):PE X (.IfExp c a b pos) (tIf tA ta tb):=by
 intro pins s σ H Q I h;refine wpAny_IfExp (thn (hc pins s σ H _ I h) fun d s1 ⟨H1,I1,q1⟩=>?_);cases d with
 | true=>exact ha pins s1 σ H1 Q I1 q1
 | false=>exact hb pins s1 σ H1 Q I1 q1
end
end L2

namespace L2
open PySem PySem.Spec PyProof.Rows

def SqL (K:PySem.W.Frag) (H:Hp) (a:Addr) (xs:List V):Prop:=
 Rd H a (.lst xs) ∨
  ∃ (o:Obj) (its:Array Value) (n:Nat),K.lookup a=some o∧o.cls=.type "list" ∧ o.dict=none∧o.data=.seq its n∧its.size<=sizeLine∧bY xs its.toList
def SqT (K:PySem.W.Frag) (H:Hp) (a:Addr) (xs:List V):Prop:=
 Rd H a (.tup xs) ∨
  ∃ (o:Obj) (its:Array Value) (n:Nat),K.lookup a=some o∧o.cls=.type "tuple" ∧ o.data=.seq its n∧its.size<=sizeLine∧bY xs its.toList
def aQo:Value->Option V
 | .none=>some .non
 | .bool b=>some (.bl b)
 | .int i _=>some (.int i)
 | .str x _=>some (.str x)
 | .bytes b _=>some (.byt b)
 | .float b _=>some (.flt b)
 | .ref a=>some (.ref a)
 | .type n=>some (.ty n)
 | _=>none
theorem cE.abs {x:V}{u:Value}(r:cE x u):aQo u=some x:=by
 cases x with
 | non=>cases r; rfl
 | bl _=>cases r; rfl
 | int _=>obtain⟨t,rfl⟩:=r; rfl
 | str _=>obtain⟨t,rfl⟩:=r; rfl
 | byt _=>obtain⟨t,rfl⟩:=r; rfl
 | flt _=>obtain⟨t,rfl⟩:=r; rfl
 | ref _=>cases r; rfl
 | ty _=>cases r; rfl
theorem cE.inj {x y:V}{u:Value}(r:cE x u) (q:cE y u):x=y:=Option.some.inj (r.abs.symm.trans q.abs)
theorem bY.inj:∀ {xs ys:List V}{us:List Value},bY xs us->bY ys us->xs=ys
 | _,_,_,.nil,.nil=>rfl
 | _,_,_,.cons r t,.cons r' t'=>by rw[r.inj r',bY.inj t t']
section
variable {X:Cx}{pins:List (Addr×Obj)}{σ:St}{H:Hp}{s:Shared}{a:Addr}{xs ys:List V}
theorem SqL.of {K:PySem.W.Frag}(h:H a=some (.lst xs)):SqL K H a xs:=.inl (.inl h)
theorem SqT.of {K:PySem.W.Frag}(h:H a=some (.tup xs)):SqT K H a xs:=.inl (.inl h)
theorem Inv.list (I:Inv X pins σ H s) (h:SqL X.K H a xs):∃ its:List Value,bY xs its∧PlainL s.heap a its.toArray∧xs.length<=sizeLine:=by
 rcases h with h | ⟨o,its,n,hk,hc,hd,hs,hz,r⟩
 ·obtain⟨z,its,n,r,e⟩:=h.ok I.hok;exact⟨its,r,⟨_,n,e,rfl,rfl,rfl⟩,z⟩
 ·refine⟨its.toList,r,⟨o,n,I.kIn a o hk,hc,hd,by simpa using hs⟩,?_⟩;have e:=r.length;simp only[Array.length_toList] at e;omega
theorem Inv.tuple (I:Inv X pins σ H s) (h:SqT X.K H a xs):∃ its:List Value,bY xs its∧IsTup s.heap a its.toArray∧xs.length<=sizeLine:=by
 rcases h with h | ⟨o,its,n,hk,hc,hs,hz,r⟩
 ·obtain⟨z,its,r,p⟩:=h.ok I.hok;exact⟨its,r,p,z⟩
 ·refine⟨its.toList,r,⟨o,I.kIn a o hk,hc,n,by simpa using hs⟩,?_⟩;have e:=r.length;simp only[Array.length_toList] at e;omega
theorem Inv.list_inj (I:Inv X pins σ H s) (h:SqL X.K H a xs) (h':SqL X.K H a ys):xs=ys:=by
 obtain⟨its,r,⟨o,n,e,_,_,d⟩,_⟩:=I.list h;obtain⟨its',r',⟨o',n',e',_,_,d'⟩,_⟩:=I.list h';rw[e] at e'; cases e';rw[d] at d';injection d' with d1 _
 have:its=its':=by simpa using congrArg Array.toList d1
 subst this;exact r.inj r'
theorem Inv.tuple_inj (I:Inv X pins σ H s) (h:SqT X.K H a xs) (h':SqT X.K H a ys):xs=ys:=by
 obtain⟨its,r,⟨o,e,_,n,d⟩,_⟩:=I.tuple h;obtain⟨its',r',⟨o',e',_,n',d'⟩,_⟩:=I.tuple h';rw[e] at e'; cases e';rw[d] at d';injection d' with d1 _
 have:its=its':=by simpa using congrArg Array.toList d1
 subst this;exact r.inj r'
end

abbrev Cx.wish (X:Cx) (E:Value->Shared->Prop):Cx:={ X with xe:=E }
abbrev Cx.nox (X:Cx):Cx:=X.wish fun _ _=>False
theorem Cx.Ok.wish {X:Cx}(ok:X.Ok) (E:Value->Shared->Prop):(X.wish E).Ok:=
 ⟨ok.mod,ok.kind,ok.glob,ok.blt,ok.above,ok.inj,ok.has,ok.cab,ok.hd,ok.frames,ok.stk,ok.exf,ok.bs,ok.bsz,ok.noex,ok.exfs,ok.funs,ok.frf⟩
theorem Cx.Ok.unwish {X:Cx}{E:Value->Shared->Prop}(ok:(X.wish E).Ok):X.Ok:=
 ⟨ok.mod,ok.kind,ok.glob,ok.blt,ok.above,ok.inj,ok.has,ok.cab,ok.hd,ok.frames,ok.stk,ok.exf,ok.bs,ok.bsz,ok.noex,ok.exfs,ok.funs,ok.frf⟩
section
variable {X:Cx}{pins:List (Addr×Obj)}{σ:St}{H:Hp}{s:Shared}{E:Value->Shared->Prop}
theorem Inv.wish (I:Inv X pins σ H s) (E:Value->Shared->Prop):Inv (X.wish E) pins σ H s:=⟨I.ok.wish E,I.os,I.bare,I.base,I.loc,I.cell,I.free,I.freeC,I.pin,I.hok,I.len⟩
theorem Inv.unwish (I:Inv (X.wish E) pins σ H s):Inv X pins σ H s:=⟨I.ok.unwish,I.os,I.bare,I.base,I.loc,I.cell,I.free,I.freeC,I.pin,I.hok,I.len⟩
theorem SP.unwish {D:sN}{f:Flow}{s':Shared}(h:SP (X.wish E) pins D f s'):SP X pins D f s':=by
 cases f with
 | next=>obtain⟨σ',H',I,q⟩:=h; exact⟨σ',H',I.unwish,q⟩
 | brk=>obtain⟨σ',H',I,q⟩:=h; exact⟨σ',H',I.unwish,q⟩
 | cont=>obtain⟨σ',H',I,q⟩:=h; exact⟨σ',H',I.unwish,q⟩
 | ret u=>obtain⟨v,σ',H',I,r,q⟩:=h; exact⟨v,σ',H',I.unwish,r,q⟩
theorem PSs.nox {st:List Stmt}{t:TS}(h:PSs X.nox st t):PSs X st t:=fun pins s σ H D I hw=>
 wpAny_mono (h pins s σ H D (I.wish _) hw) (fun _ _ q=>q.unwish) fun _ _ z=>False.elim z
end

section
variable {X:Cx}{st:Stmt}{rest:List Stmt}{t u:TS}{e:Expr}{te:TE}{pos:Pos}
def aMv:TS:=fun D σ H=>D.nx σ H
def aOu (t u:TS):TS:=fun D σ H=>t { D with nx:=u D } σ H
theorem cF:PSs X [] aMv:=fun _ _ σ H _ I h=>wpAny_execs_nil ⟨σ,H,I,h⟩
theorem aK (h1:PS X st t) (h2:PSs X rest u):PSs X (st::rest) (aOu t u):=by
 intro pins s σ H D I h;refine wpAny_execs_cons (thn (h1 pins s σ H { D with nx:=u D } I h) fun f s1 q=>?_);cases f with
 | next=>
  obtain⟨σ',H',I',q⟩:=q;exact h2 pins s1 σ' H' D I' q
 | ret v=>exact q
 | brk=>exact q
 | cont=>exact q
theorem aL (h1:PS X st t):PSs X [st] t:=by
 intro pins s σ H D I h;refine wpAny_execs_cons (thn (h1 pins s σ H D I h) fun f s1 q=>?_);cases f with
 | next=>exact wpAny_execs_nil q
 | ret v=>exact q
 | brk=>exact q
 | cont=>exact q
theorem Inv.quiet {pins:List (Addr×Obj)}{σ:St}{H:Hp}{s:Shared}(I:Inv X pins σ H s):interactive X.env=false:=by simp[interactive,I.ok.kind]
def aMy (te:TE):TS:=fun D σ H=>te σ H fun _ H1=>D.nx σ H1
theorem dB (he:PE X e te) (hs:swapsWith e none pos.line X.env=pure false:=by rfl):PS X (.Expr e pos) (aMy te):=by
 intro pins s σ H D I h;exact wpAny_Expr_any (thn (he pins s σ H _ I h) fun v s1 ⟨x,H1,I1,r1,q1⟩=>⟨σ,H1,I1,q1⟩) I.quiet hs
def aOv (te:TE):TS:=fun D σ H=>te σ H D.rt
theorem bO (he:PE X e te):PS X (.Return (some e) pos) (aOv te):=by
 intro pins s σ H D I h;exact wpAny_Return_some (thn (he pins s σ H _ I h) fun v s1 ⟨x,H1,I1,r1,q1⟩=>⟨x,σ,H1,I1,r1,q1⟩)
def aOx (c:TT) (t u:TS):TS:=fun D σ H=>c σ H fun b H1=>if b=true then t D σ H1 else u D σ H1
theorem dH {c:Expr}{a b:List Stmt}{tc:TT}(hc:PT X c tc) (ha:PSs X a t) (hb:PSs X b u):PS X (.If c a b pos) (aOx tc t u):=by
 intro pins s σ H D I h;refine wpAny_If (thn (hc pins s σ H _ I h) fun d s1 ⟨H1,I1,q1⟩=>?_);cases d with
 | true=>exact ha pins s1 σ H1 D I1 q1
 | false=>exact hb pins s1 σ H1 D I1 q1
end

abbrev TG:=V->St->Hp->(St->Hp->Prop)->Prop
abbrev TGs:=List V->St->Hp->(St->Hp->Prop)->Prop
def PG (X:Cx) (target:Expr) (t:TG):Prop:=
 ∀ (pins:List (Addr×Obj)) (s:Shared) (σ:St) (H:Hp) (v:V) (u:Value) (Q:St->Hp->Prop),Inv X pins σ H s->cE v u->t v σ H Q ->
  wpAny (model X.prog X.w) X.A (assign target X.env u) (fun _ s'=>∃ σ' H',Inv X pins σ' H' s'∧Q σ' H') X.xe s
def PGs (X:Cx) (ts:List Expr) (t:TGs):Prop:=
 ∀ (pins:List (Addr×Obj)) (s:Shared) (σ:St) (H:Hp) (vs:List V) (us:List Value) (Q:St->Hp->Prop),Inv X pins σ H s->bY vs us->t vs σ H Q ->
  wpAny (model X.prog X.w) X.A (assignInOrder ((assignEach ts X.env).map (·.2)) us) (fun _ s'=>∃ σ' H',Inv X pins σ' H' s'∧Q σ' H') X.xe s
section
variable {X:Cx}{pos:Pos}
def eV (i:Nat):TG:=fun v σ H Q=>Q (σ.set i (some v)) H
theorem aP {i:Nat}{x:Str}(hN:X.N.Nodup) (hi:X.N[i]?=some x) (hx:Loc X.env.scope x) (hf:X.fn x=true∨X.env.scope.names.lookup x=some .local:=by first | exact .inl rfl | exact .inr rfl | assumption):PG X (.Name x pos) (eV i):=by
 intro pins s σ H v u Q I r h;exact wpAny_assign_Name (qV I hN hi hx r (fun s' I'=>⟨_,H,I',h⟩) hf)
def xR:TGs:=fun vs σ H Q=>vs=[]∧Q σ H
inductive gG (t:TG) (u:TGs) (vs:List V) (σ:St) (H:Hp) (Q:St->Hp->Prop):Prop
 | mk (v:V) (r:List V) (h1:vs=v::r) (q:t v σ H fun σ' H'=>u r σ' H' Q)

theorem dR:PGs X [] xR:=by
 intro pins s σ H vs us Q I r h;obtain⟨e,h⟩:=h;subst e;cases r;exact assignInOrder_nil ⟨σ,H,I,h⟩
theorem aY {e:Expr}{es:List Expr}{t:TG}{u:TGs}(h1:PG X e t) (h2:PGs X es u)
  (hs:(assignEach (e::es) X.env).map (·.2)=assign e X.env::(assignEach es X.env).map (·.2):=by rfl):PGs X (e::es) (gG t u):=by
 intro pins s σ H vs us Q I r h;obtain⟨v,vr,e1,h⟩:=h;subst e1;cases r with
 | cons r rr=>
  rw[hs];refine assignInOrder_cons (thn (h1 pins s σ H _ _ _ I r h) fun _ s1 ⟨σ1,H1,I1,q1⟩=>?_);exact h2 pins s1 σ1 H1 _ _ Q I1 rr q1
inductive xQ (K:PySem.W.Frag) (n:Nat) (t:TGs) (v:V) (σ:St) (H:Hp) (Q:St->Hp->Prop):Prop
 | mk (a:Addr) (xs:List V) (h1:v=.ref a) (h2:SqT K H a xs) (h3:xs.length=n) (q:t xs σ H Q)

theorem fE {es:List Expr}{k:Nat}{t:TGs}{n:Nat}(hc:X.calm=true) (h:PGs X es t)
  (hn:(assignEach es X.env).length=n:=by rfl) (hst:(assignEach es X.env).findIdx? (·.1)=none:=by rfl):PG X (.Tuple es k pos) (xQ X.K n t):=by
 intro pins s σ H v u Q I r hw;obtain⟨a,xs,e1,hq,hl,hw⟩:=hw;subst e1;cases r;obtain⟨its,rv,ht,hz⟩:=I.tuple hq;refine assign_Tuple_tuple (I.ok.hd hc) ht (by simp[hn,← hl,rv.length]) hst fun h' hx=>?_;have I1:Inv X pins σ H { s with heap:=h' }:=I.kept (t':=s.toks) fun b o e=>hx b o (Nat.ne_of_lt (Heap.lt_size e)) e;exact h pins _ σ H xs _ Q I1 (by simpa using rv) hw
def aEh (te:TE) (g:TG):TS:=fun D σ H=>te σ H fun x H1=>g x σ H1 D.nx
theorem aLd {tg e:Expr}{te:TE}{g:TG}(he:PE X e te) (hg:PG X tg g) (hs:swapsWithSole [tg] e pos.line X.env=pure false:=by rfl) (hw:swappedStores [tg] e X.env=pure none:=by rfl)
  (h1:(assignEach [tg] X.env).map (·.2)=[assign tg X.env]:=by rfl):PS X (.Assign [tg] e pos) (aEh te g):=by
 intro pins s σ H D I h;refine wpAny_Assign_stores (thn (he pins s σ H _ I h) fun v s1 ⟨x,H1,I1,r1,q1⟩=>?_) hs hw;rw[h1];exact thn (hg pins s1 σ H1 x v _ I1 r1 q1) fun _ s2 q=>q
theorem aW {i:Nat}{x:Str}{e:Expr}{te:TE}{pos':Pos}(hN:X.N.Nodup) (hi:X.N[i]?=some x) (hx:Loc X.env.scope x) (he:PE X e te) (hs:swapsWith e (some (.Name x pos')) pos.line X.env=pure false:=by rfl) (hf:X.fn x=true∨X.env.scope.names.lookup x=some .local:=by first | exact .inl rfl | exact .inr rfl | assumption) :
  PS X (.Assign [.Name x pos'] e pos) (aEh te (eV i)):=by
 intro pins s σ H D I h;refine wpAny_Assign_Name (thn (he pins s σ H _ I h) fun v s1 ⟨y,H1,I1,r1,q1⟩=>?_) hs;exact qV I1 hN hi hx r1 (fun s2 I2=>⟨_,H1,I2,q1⟩) hf
end

section
variable {X:Cx}{pos:Pos}
def aKo (c:TT) (tb:TS):TS:=fun D σ H=>∃ W:Nat->St->Hp->Prop,(∃ m,W m σ H)∧∀ m σ H,W m σ H ->
 c σ H fun b H1=>if b=true then ∃ N:St->Hp->Prop,(∀ σ' H',N σ' H'->∃ m',m'<m∧W m' σ' H')∧tb { D with nx:=N,ct:=N,bk:=D.nx } σ H1 else D.nx σ H1
theorem wT {c:Expr}{body:List Stmt}{tc:TT}{tb:TS}(hp:PassesOwn (model X.prog X.w) X.A X.env X.xe) (hc:PT X c tc) (hb:PSs X body tb):PS X (.While c body [] pos) (aKo tc tb):=by
 intro pins s σ H D I h;obtain⟨W,⟨m0,w0⟩,turn⟩:=h;refine wpAny_While (codeAny_whileLoop (fun n s'=>∃ σ' H',Inv X pins σ' H' s'∧W n σ' H') ?_ m0 ⟨σ,H,I,w0⟩);rintro n s1 ⟨σ1,H1,I1,w1⟩;refine wpAny_passesOwn hp (thn (hc pins s1 σ1 H1 _ I1 (turn n σ1 H1 w1)) fun b s2 ⟨H2,I2,q2⟩=>?_);cases b with
 | true=>
  obtain⟨N,hN,q2⟩:=q2;rw[if_pos rfl];refine wpAny_passesOwn hp (thn (hb pins s2 σ1 H2 _ I2 q2) fun f s3 q3=>?_);cases f with
  | next=>
   obtain⟨σ3,H3,I3,n3⟩:=q3;obtain⟨m',hm,w3⟩:=hN σ3 H3 n3;exact⟨m',hm,σ3,H3,I3,w3⟩
  | cont=>
   obtain⟨σ3,H3,I3,n3⟩:=q3;obtain⟨m',hm,w3⟩:=hN σ3 H3 n3;exact⟨m',hm,σ3,H3,I3,w3⟩
  | brk=>exact q3
  | ret v=>exact q3
 | false=>
  rw[if_neg Bool.false_ne_true];exact wpAny_execs_nil ⟨σ1,H2,I2,q2⟩
end

structure It where
 go:Nat->Hp->Prop
 yld:Nat->Hp->V->Hp->Prop
 stop:Nat->Hp->Prop
def lF (X:Cx) (pins:List (Addr×Obj)) (H:Hp) (b:Addr):Prop:=
 H b=none∧b≠X.env.locals∧b∉X.fs∧(b∈X.ex∨X.s₀.heap.objs.size<=b)∧(∀ x c,X.env.cells.lookup x=some c->c≠b)∧∀ p∈X.pn++pins,p.1≠b
theorem Inv.fpOk {X:Cx}{pins:List (Addr×Obj)}{σ:St}{H H':Hp}{s:Shared}{b:Addr}(I:Inv X pins σ H s) (hb:s.heap.objs.size<=b) (hn:H' b=none):lF X pins H' b:=by
 refine⟨hn,Nat.ne_of_gt (Nat.lt_of_lt_of_le I.lt hb),I.nofs hb,.inr (Nat.le_trans I.sz hb),fun x c e z=>?_,fun p hp z=>?_⟩
 ·obtain⟨v,q⟩:=I.cell x c e;exact absurd (Nat.lt_of_lt_of_le q.lt (by rw[z]; exact hb)) (Nat.lt_irrefl _)
 ·exact absurd (Nat.lt_of_lt_of_le (Heap.lt_size (I.pin p hp).1) (by rw[z]; exact hb)) (Nat.lt_irrefl _)
structure aAe (P:Program) (w:World) (K:PySem.W.Frag) (tg:Expr) (J:It) (fp:List Addr) (it:Addr) (tn:Nat->Heap->Prop):Prop where
 mem:it∈fp
 obj:∀ i h,tn i h->∀ b∈fp,∃ o,h.get? b=some o∧∀ v,o.data≠.cell v
 keep:∀ i h h',tn i h->(∀ b∈fp,∀ o,h.get? b=some o->h'.get? b=some o)->tn i h'
 item:∀ (X:Cx),X.prog=P->X.w=w->X.K=K->X.calm=true->∀ (i:Nat) (pins:List (Addr×Obj)) (s:Shared) (σ:St) (H:Hp) (E:Value->Shared->Prop),Inv X pins σ H s->(∀ b∈fp,lF X pins H b)->tn i s.heap->J.go i H ->
  wpAny (model P w) X.A (pyNext (.ref it)) (fun r s1=>∃ u,r=some u ∧
   wpAny (model P w) X.A (letOwnedTupleGo tg (.ref it) u) (fun _ s2=>∃ x H',Inv X pins σ H' s2∧cE x u∧J.yld i H x H'∧tn (i+1) s2.heap∧∀ b∈fp,H' b=none) E s1) E s
 done:∀ (X:Cx),X.prog=P->X.w=w->X.K=K->X.calm=true->∀ (i:Nat) (pins:List (Addr×Obj)) (s:Shared) (σ:St) (H:Hp) (E:Value->Shared->Prop),Inv X pins σ H s->(∀ b∈fp,lF X pins H b)->tn i s.heap->J.stop i H ->
  wpAny (model P w) X.A (pyNext (.ref it)) (fun r s1=>r=none∧Inv X pins σ H s1) E s
 self:∀ (A:Around) (i:Nat) (s:Shared) (Q:Value->Shared->Prop) (E:Value->Shared->Prop),tn i s.heap->Q (.ref it) s->wpAny (model P w) A (pyIter (.ref it)) Q E s
abbrev TI:=St->Hp->(It->Hp->Prop)->Prop
def PIE (X:Cx) (pins:List (Addr×Obj)) (σ:St) (tg:Expr) (R:It->Hp->Prop) (itv:Value) (s2:Shared):Prop:=
 ∃ (it:Addr) (fp:List Addr) (tn:Nat->Heap->Prop) (J:It) (H':Hp),itv=.ref it∧Inv X pins σ H' s2∧aAe X.prog X.w X.K tg J fp it tn∧tn 0 s2.heap∧(∀ b∈fp,lF X pins H' b)∧R J H'
def PI (X:Cx) (tg iter:Expr) (wi:TI):Prop:=
 ∀ (pins:List (Addr×Obj)) (s:Shared) (σ:St) (H:Hp) (R:It->Hp->Prop),Inv X pins σ H s->wi σ H R ->
  wpAny (model X.prog X.w) X.A (eval iter X.env) (fun v s1=>wpAny (model X.prog X.w) X.A (pyIter v) (PIE X pins σ tg R) X.xe s1) X.xe s

theorem aGg {M:Model}{A:Around}{E:Value->Shared->Prop}{s:Shared}{tg:Expr}{it:Addr}{u:Value}{o:Obj}{n:String}{vs:Array Value}{Q:Unit->Shared->Prop}(ho:s.heap.get? it=some o) (hc:o.cls=.type n) (hd:o.data=.fields vs)
  (hn:["enumerate","zip","dict_itemiterator","dict_reverseitemiterator","odict_iterator","itertools.zip_longest","itertools.pairwise"].contains n=false) (hQ:Q () s):wpAny M A (letOwnedTupleGo tg (.ref it) u) Q E s:=by
 unfold letOwnedTupleGo
 cases tg <;> first
  | exact wpAny_pure hQ
  | (cases u <;> first
    | exact wpAny_pure hQ
    | (refine wpAny_bind (wpAny_load ho ?_)
       rw[hc,hd];show wpAny M A (if (["enumerate","zip","dict_itemiterator","dict_reverseitemiterator","odict_iterator","itertools.zip_longest","itertools.pairwise"].contains n&&vs[0]?==some (rawInt _))=true then _ else _) Q E s
       rw[if_neg (by intro h; rw[hn,Bool.false_and] at h; cases h)];exact wpAny_pure hQ))

def Itl (K:PySem.W.Frag) (a:Addr):It:=
 ⟨fun i H=>∃ xs x,SqL K H a xs∧xs[i]?=some x,fun i H x H'=>H'=H∧∀ xs,SqL K H a xs->xs[i]?=some x,fun i H=>∃ xs,SqL K H a xs∧xs.length<=i⟩
def Itr (lo:Int) (n:Nat):It:=⟨fun i _=>i<n,fun i H x H'=>H'=H∧x=.int (lo+i),fun i _=>n<=i⟩
theorem aBt {P:Program}{w:World}{K:PySem.W.Frag}{tg:Expr}(a it:Addr):aAe P w K tg (Itl K a) [it] it (fun i h=>h.IsListIter it a i) where
 mem:=by simp
 obj:=fun i h st b hb=>by
  have e:b=it:=by simpa using hb
  subst e;obtain⟨o,e,c,d⟩:=st;exact⟨o,e,fun v z=>by rw[d] at z; cases z⟩
 keep:=fun i h h' st k=>st.at fun o e=>k it (by simp) o e
 item:=by
  intro X hP hw hK hc i pins s σ H E I hf st hg;subst hP hw hK;obtain⟨xs,x,hq,hx⟩:=hg;obtain⟨its,rv,p,hz⟩:=I.list hq;obtain⟨u,hu,ru⟩:=rv.get hx;obtain⟨f0,f1,f2,f3,f4,f5⟩:=hf it (by simp);refine wpAny_pyNext_list_item st p.isList (x:=u) (by simpa using hu) fun h' st' sb=>?_;have I1:Inv X pins σ H { s with heap:=h' }:=I.turned (t':=s.toks) (fun b o hb e=>(sb.2 b hb).trans e) f0 f1 f3 f4 f5;obtain⟨o,e,c,d⟩:=id st';exact⟨u,rfl,aGg (s:={ s with heap:=h' }) e c d (by decide) ⟨x,H,I1,ru,⟨rfl,fun ys hy=>by rw[I.list_inj hy hq]; exact hx⟩,st',fun b hb=>(hf b hb).1⟩⟩
 done:=by
  intro X hP hw hK hc i pins s σ H E I hf st hg;subst hP hw hK;obtain⟨xs,hq,hx⟩:=hg;obtain⟨its,rv,p,hz⟩:=I.list hq;obtain⟨f0,f1,f2,f3,f4,f5⟩:=hf it (by simp);have hl:=rv.length;exact wpAny_pyNext_list_end (I.ok.hd hc) st p.isList (by simp; omega) fun h' eb=>⟨rfl,I.turned (t':=s.toks) (fun b o hb e=>eb b o hb e) f0 f1 f3 f4 f5⟩
 self:=fun _ _ _ _ _ st h=>wpAny_pyIter_listiter st h
theorem yJ {P:Program}{w:World}{K:PySem.W.Frag}{tg:Expr}(it:Addr) (lo:Int) (n:Nat):aAe P w K tg (Itr lo n) [it] it (fun i h=>IsRangeIter h it (lo+(i:Nat)*1) ((n:Int)-(i:Nat)) 1) where
 mem:=by simp
 obj:=fun i h st b hb=>by
  have e:b=it:=by simpa using hb
  subst e
  exact⟨_,st,fun v z=>by
   have z':Data.fields _=Data.cell v:=z;cases z'⟩
 keep:=fun i h h' st k=>k it (by simp) _ st
 item:=by
  intro X hP hw hK hc i pins s σ H E I hf st hg;subst hP hw hK;obtain⟨f0,f1,f2,f3,f4,f5⟩:=hf it (by simp);have W:=Walks.range (prog:=X.prog) (w:=X.w) (I.ok.hd hc) it lo 1 n;refine W.item i s _ _ hg st fun v h' tk hv st' kk=>?_;obtain⟨t,rfl⟩:=hv;have I1:Inv X pins σ H { s with heap:=h',toks:=tk }:=I.turned (fun b o hb e=>kk b o (by simpa using hb) e) f0 f1 f3 f4 f5;refine⟨_,rfl,aGg (s:={ s with heap:=h',toks:=tk }) (n:="range_iterator") st' rfl rfl (by decide) ⟨.int (lo+i),H,I1,⟨t,?_⟩,⟨rfl,rfl⟩,st',fun b hb=>(hf b hb).1⟩⟩;rw[Int.mul_one]
 done:=by
  intro X hP hw hK hc i pins s σ H E I hf st hg;subst hP hw hK;obtain⟨f0,f1,f2,f3,f4,f5⟩:=hf it (by simp);exact wpAny_pyNext_range_end (I.ok.hd hc) st (by have:n<=i:=hg; omega) fun h' eb=>⟨rfl,I.turned (t':=s.toks) (fun b o hb e=>eb b o hb e) f0 f1 f3 f4 f5⟩
 self:=fun _ _ _ _ _ st h=>wpAny_pyIter_rangeiter st h
end L2

namespace L2
open PySem PySem.Spec PyProof.Rows
section
variable {X:Cx}{tg:Expr}
inductive aQu (K:PySem.W.Frag) (x:V) (H1:Hp) (R:It->Hp->Prop):Prop
 | mk (a:Addr) (h1:x=.ref a) (h2:∃ xs,SqL K H1 a xs) (r:R (Itl K a) H1)
def aNv (K:PySem.W.Frag) (tl:TE):TI:=fun σ H R=>tl σ H fun x H1=>aQu K x H1 R
theorem dC {l:Expr}{tl:TE}(hl:PE X l tl):PI X tg l (aNv X.K tl):=by
 intro pins s σ H R I h;refine thn (hl pins s σ H _ I h) fun v s1 ⟨x,H1,I1,r1,q1⟩=>?_;obtain⟨a,e,⟨xs,hq⟩,q⟩:=q1;subst e;cases r1;obtain⟨its,rv,p,hz⟩:=I1.list hq;refine wpAny_pyIter_list p.isList ?_;refine⟨s1.heap.objs.size,[s1.heap.objs.size],_,_,H1,rfl,I1.kept (t':=s1.toks) fun b o e=>Heap.get?_push_of_some _ e,aBt a _,⟨_,Heap.get?_push_size _ rfl,rfl,rfl⟩,fun b hb=>?_,q⟩;have e:b=s1.heap.objs.size:=by simpa using hb
 subst e;exact I1.fpOk (Nat.le_refl _) (I1.hok.fresh (Nat.le_refl _))
theorem wP {pins:List (Addr×Obj)}{σ:St}{H:Hp}{s:Shared}{R:It->Hp->Prop}{E:Value->Shared->Prop}{lo hi:Int}{t u v:Tok}{tk:Nat}(I:Inv X pins σ H s) (h1:-(2^62)<=lo) (h2:lo<2^62) (h3:-(2^62)<=hi) (h4:hi<2^62)
  (q:R (Itr lo (hi-lo).toNat) H):wpAny (model X.prog X.w) X.A (pyIter (.ref s.heap.objs.size)) (PIE X pins σ tg R) E { s with heap:=s.heap.push { cls:=.type "range",data:=.fields #[.int lo t,.int hi u,.int 1 v] },toks:=tk }:=by
 refine wpAny_pyIter_range (IsRange.new ..) (small_one h1 h2 h3 h4) ?_;have I1:Inv X pins σ H { s with heap:=s.heap.push { cls:=.type "range",data:=.fields #[.int lo t,.int hi u,.int 1 v] },toks:=tk }:=I.kept fun b o e=>Heap.get?_push_of_some _ e
 refine⟨(s.heap.push { cls:=.type "range",data:=.fields #[.int lo t,.int hi u,.int 1 v] }).objs.size,[(s.heap.push { cls:=.type "range",data:=.fields #[.int lo t,.int hi u,.int 1 v] }).objs.size],_,_,H,rfl,
  I1.kept (t':=tk) fun b o e=>Heap.get?_push_of_some _ e,yJ _ lo (hi-lo).toNat,?_,fun b hb=>?_,q⟩
 ·have e1:lo+((0:Nat):Int)*1=lo:=by simp
  have e2:(((hi-lo).toNat:Nat):Int)-((0:Nat):Int)=Builtin.Range.rangeSize lo hi 1:=by rw[rangeSize_one]; split <;> omega
  show IsRangeIter _ _ (lo+((0:Nat):Int)*1) ((((hi-lo).toNat:Nat):Int)-((0:Nat):Int)) 1;rw[e1,e2];exact Heap.get?_push_size _ rfl
 ·have e:b=(s.heap.push { cls:=.type "range",data:=.fields #[.int lo t,.int hi u,.int 1 v] }).objs.size:=by simpa using hb
  subst e;exact I1.fpOk (Nat.le_refl _) (I1.hok.fresh (Nat.le_refl _))
inductive aQt (vs:List V) (H1:Hp) (R:It->Hp->Prop):Prop
 | mk (j:Int) (h1:vs=[.int j]) (h2:-(2^62)<=j) (h3:j<2^62) (r:R (Itr 0 j.toNat) H1)
def aNu (ta:TA):TI:=fun σ H R=>ta σ H fun vs H1=>aQt vs H1 R
def aNt (ta:TA):TI:=fun σ H R=>ta σ H fun vs H1=>∃ i j:Int,vs=[.int i,.int j]∧(-(2^62)<=i∧i<2^62∧-(2^62)<=j∧j<2^62)∧R (Itr i (j-i).toNat) H1
theorem gM {a:Expr}{ta:TA}{p pos:Pos}(hg:Gl X "range") (hm:X.mg "range" = none) (ha:PA X [a] ta) (hs:starEach [a] X.env=[(false,eval a X.env)]:=by rfl):PI X tg (.Call (.Name "range" p) [a] [] pos) (aNu ta):=by
 intro pins s σ H R I h;refine Call_ (mX I hg hm boot_range (PyProof.Rows.callWith_type1 (thn (ha pos pins s σ H _ I h) fun us s1 ⟨vs,H1,I1,r1,q1⟩=>?_) hs rfl));obtain⟨j,e,q1,q2,q⟩:=q1;subst e;cases r1 with
 | cons r rr=>
  cases rr;obtain⟨t,rfl⟩:=r;exact call_range_1 (wP I1 (by omega) (by omega) q1 q2 (by simpa using q))
theorem aCe {a b:Expr}{ta:TA}{p pos:Pos}(hg:Gl X "range") (hm:X.mg "range" = none) (ha:PA X [a,b] ta) (hs:starEach [a,b] X.env=[(false,eval a X.env),(false,eval b X.env)]:=by rfl) (hs2:starEach [b] X.env=[(false,eval b X.env)]:=by rfl) :
  PI X tg (.Call (.Name "range" p) [a,b] [] pos) (aNt ta):=by
 intro pins s σ H R I h;refine Call_ (mX I hg hm boot_range (PyProof.Rows.callWith_type1 (thn (ha pos pins s σ H _ I h) fun us s1 ⟨vs,H1,I1,r1,q1⟩=>?_) (by rw[hs,hs2]) (by rw[hs2]; rfl)));obtain⟨i,j,e,⟨q1,q2,q3,q4⟩,q⟩:=q1;subst e;cases r1 with
 | cons r rr=>
  cases rr with
  | cons r' rr=>
   cases rr;obtain⟨t,rfl⟩:=r;obtain⟨t',rfl⟩:=r';exact call_range_2 (wP I1 q1 q2 q3 q4 q)

def aOy (wi:TI) (g:TG) (tb:TS):TS:=fun D σ H=>wi σ H fun J H1=>∃ W:Nat->Nat->St->Hp->Prop,(∃ m,W 0 m σ H1)∧∀ i m σ H,W i m σ H ->
 (J.stop i H∧D.nx σ H)∨(J.go i H∧∃ N:St->Hp->Prop,(∀ σ' H',N σ' H'->∃ m',m'<m∧W (i+1) m' σ' H')∧∀ x H',J.yld i H x H'->g x σ H' fun σ2 H2=>tb { D with nx:=N,ct:=N,bk:=D.nx } σ2 H2)
def rH (fp:List Addr) (h:Heap):List (Addr×Obj):=fp.filterMap fun b=>(h.get? b).map fun o=>(b,o)
theorem jO {fp:List Addr}{h:Heap}{b:Addr}{o:Obj}(hb:b∈fp) (e:h.get? b=some o):(b,o)∈rH fp h:=List.mem_filterMap.mpr ⟨b,hb,by rw[e]; rfl⟩
theorem aCt {fp:List Addr}{h:Heap}{p:Addr×Obj}(hp:p∈rH fp h):p.1∈fp∧h.get? p.1=some p.2:=by
 obtain⟨b,hb,e⟩:=List.mem_filterMap.mp hp;cases q:h.get? b with
 | none=>rw[q] at e; cases e
 | some o=>
  rw[q] at e;have e':(b,o)=p:=Option.some.inj e;subst e';exact⟨hb,q⟩
theorem Inv.pinned {pins:List (Addr×Obj)}{σ:St}{H:Hp}{s:Shared}{fp:List Addr}(I:Inv X pins σ H s) (hf:∀ b∈fp,lF X pins H b) (ho:∀ b∈fp,∃ o,s.heap.get? b=some o∧∀ v,o.data≠.cell v):Inv X (pins++rH fp s.heap) σ H s:=
 I.pins_of fun p hp=>(List.mem_append.mp hp).elim (fun z=>I.pin p (List.mem_append_right _ z)) fun z=>by
  obtain⟨hb,e⟩:=aCt z;obtain⟨f0,f1,f2,_⟩:=hf p.1 hb;obtain⟨o,e',d⟩:=ho p.1 hb;rw[e] at e'; cases e';exact⟨e,f0,f1,f2,d⟩
theorem Inv.unpinned {pins pl:List (Addr×Obj)}{σ:St}{H:Hp}{s:Shared}(I:Inv X (pins++pl) σ H s):Inv X pins σ H s:=I.pins_of fun p hp=>I.pin p (List.mem_append_right _ (List.mem_append_left _ hp))
theorem eJ {iter:Expr}{body:List Stmt}{wi:TI}{g:TG}{tb:TS}{pos:Pos}(hp:PassesOwn (model X.prog X.w) X.A X.env X.xe) (hc:X.calm=true) (hi:PI X tg iter wi) (hg:PG X tg g) (hb:PSs X body tb)
  (hs:∀ x,foldedSetIterable iter X.env x=pure x:=by intro _; rfl):PS X (.For tg iter body [] pos) (aOy wi g tb):=by
 intro pins s σ H D I h;refine wpAny_For (thn (hi pins s σ H _ I h) fun v s1 h1=>thn h1 fun itv s2 h2=>?_) hs;obtain⟨it,fp,tn,J,H2,e,I2,T,st2,f2,W,⟨m0,w0⟩,turn⟩:=h2;subst e
 -- what stays true of the iterator's objects through the loop
 have stat:∀ {H':Hp},(∀ b∈fp,H' b=none)->∀ b∈fp,lF X pins H' b:=fun hn b hb=>⟨hn b hb,(f2 b hb).2⟩;refine codeAny_forLoop_any (fun n s'=>∃ i σ' H',Inv X pins σ' H' s'∧tn i s'.heap∧(∀ b∈fp,H' b=none)∧W i n σ' H') ?_ m0 ⟨0,σ,H2,I2,st2,fun b hb=>(f2 b hb).1,w0⟩;rintro n s3 ⟨i,σ3,H3,I3,st3,fr3,w3⟩;rcases turn i n σ3 H3 w3 with⟨stop,qn⟩ | ⟨go,N,hN,step⟩
 ·refine wpAny_passesOwn hp (thn (T.done X rfl rfl rfl hc i pins s3 σ3 H3 X.xe I3 (stat fr3) st3 stop) fun r s4 ⟨hr,I4⟩=>?_);subst hr;exact wpAny_execs_nil ⟨σ3,H3,I4,qn⟩
 ·refine wpAny_passesOwn hp (thn (T.item X rfl rfl rfl hc i pins s3 σ3 H3 X.xe I3 (stat fr3) st3 go) fun r s4 ⟨u,hr,h4⟩=>?_);subst hr;refine wpAny_passesOwn hp (thn h4 fun _ s5 ⟨x,H5,I5,r5,y5,st5,fr5⟩=>?_);have I5':=I5.pinned (stat fr5) (T.obj _ _ st5);refine wpAny_passesOwn hp (thn (hg _ s5 σ3 H5 x u _ I5' r5 (step x H5 y5)) fun _ s6 ⟨σ6,H6,I6,q6⟩=>?_);refine wpAny_passesOwn hp (thn (hb _ s6 σ6 H6 _ I6 q6) fun f s7 q7=>?_)
  have again:∀ {σ7:St}{H7:Hp},Inv X (pins++rH fp s5.heap) σ7 H7 s7->N σ7 H7->∃ m,m<n∧∃ i σ' H',Inv X pins σ' H' s7∧tn i s7.heap∧(∀ b∈fp,H' b=none)∧W i m σ' H':=fun {σ7 H7} I7 n7=>by
   obtain⟨m',hm,w7⟩:=hN σ7 H7 n7;refine⟨m',hm,i+1,σ7,H7,I7.unpinned,T.keep _ _ _ st5 fun b hb o e=>(I7.pin (b,o) (List.mem_append_right _ (List.mem_append_right _ (jO hb e)))).1,fun b hb=>?_,w7⟩;obtain⟨o,e,d⟩:=T.obj _ _ st5 b hb;exact (I7.pin (b,o) (List.mem_append_right _ (List.mem_append_right _ (jO hb e)))).2.1
  cases f with
  | next=>obtain⟨σ7,H7,I7,n7⟩:=q7; exact again I7 n7
  | cont=>obtain⟨σ7,H7,I7,n7⟩:=q7; exact again I7 n7
  | brk=>obtain⟨σ7,H7,I7,q7⟩:=q7; exact⟨σ7,H7,I7.unpinned,q7⟩
  | ret v=>obtain⟨x7,σ7,H7,I7,r7,q7⟩:=q7; exact⟨x7,σ7,H7,I7.unpinned,r7,q7⟩
end

theorem dN {K:PySem.W.Frag}{a:Addr}{xs:List V}{g:TG}{tb:TS}{D:sN}{σ:St}{H:Hp}(Pv:Nat->St->Hp->Prop) (h0:Pv 0 σ H) (hl:∀ i σ H,i<=xs.length->Pv i σ H->SqL K H a xs)
  (hs:∀ i x σ H,xs[i]?=some x->Pv i σ H->g x σ H fun σ2 H2=>tb { D with nx:=Pv (i+1),ct:=Pv (i+1),bk:=D.nx } σ2 H2) (hd:∀ σ H,Pv xs.length σ H->D.nx σ H) :
  ∃ W:Nat->Nat->St->Hp->Prop,(∃ m,W 0 m σ H)∧∀ i m σ H,W i m σ H ->
   ((Itl K a).stop i H∧D.nx σ H)∨((Itl K a).go i H∧∃ N:St->Hp->Prop,(∀ σ' H',N σ' H'->∃ m',m'<m∧W (i+1) m' σ' H')∧∀ x H',(Itl K a).yld i H x H'->g x σ H' fun σ2 H2=>tb { D with nx:=N,ct:=N,bk:=D.nx } σ2 H2):=by
 refine⟨fun i m σ H=>m=xs.length-i∧i<=xs.length∧Pv i σ H,⟨xs.length,by simp,Nat.zero_le _,h0⟩,?_⟩;rintro i m σ H ⟨rfl,hi,p⟩;have q:=hl i σ H hi p
 by_cases hlt:i<xs.length
 ·refine .inr ⟨⟨xs,xs[i],q,by simp[hlt]⟩,Pv (i+1),fun σ' H' p'=>⟨xs.length-(i+1),by omega,rfl,hlt,p'⟩,fun x H' y=>?_⟩;obtain⟨e,y⟩:=y;subst e;exact hs i x σ _ (y xs q) p
 ·have e:i=xs.length:=by omega
  subst e;exact .inl ⟨⟨xs,q,Nat.le_refl _⟩,hd σ H p⟩
theorem uI {lo:Int}{n:Nat}{g:TG}{tb:TS}{D:sN}{σ:St}{H:Hp}(Pv:Nat->St->Hp->Prop) (h0:Pv 0 σ H)
  (hs:∀ i σ H,i<n->Pv i σ H->g (.int (lo+i)) σ H fun σ2 H2=>tb { D with nx:=Pv (i+1),ct:=Pv (i+1),bk:=D.nx } σ2 H2) (hd:∀ σ H,Pv n σ H->D.nx σ H) :
  ∃ W:Nat->Nat->St->Hp->Prop,(∃ m,W 0 m σ H)∧∀ i m σ H,W i m σ H ->
   ((Itr lo n).stop i H∧D.nx σ H)∨((Itr lo n).go i H∧∃ N:St->Hp->Prop,(∀ σ' H',N σ' H'->∃ m',m'<m∧W (i+1) m' σ' H')∧∀ x H',(Itr lo n).yld i H x H'->g x σ H' fun σ2 H2=>tb { D with nx:=N,ct:=N,bk:=D.nx } σ2 H2):=by
 refine⟨fun i m σ H=>m=n-i∧i<=n∧Pv i σ H,⟨n,by simp,Nat.zero_le _,h0⟩,?_⟩;rintro i m σ H ⟨rfl,hi,p⟩
 by_cases hlt:i<n
 ·refine .inr ⟨hlt,Pv (i+1),fun σ' H' p'=>⟨n-(i+1),by omega,rfl,hlt,p'⟩,fun x H' y=>?_⟩;obtain⟨e,y⟩:=y;subst e y;exact hs i σ _ hlt p
 ·have e:i=n:=by omega
  subst e;exact .inl ⟨Nat.le_refl _,hd σ H p⟩
end L2

namespace L2
open PySem PySem.Spec PyProof.Rows

abbrev R2:=V->V->Hp->VK->Prop
def OpR (X:Cx) (f:Value->Value->Sem Value) (r:R2):Prop:=
 ∀ (pins:List (Addr×Obj)) (s:Shared) (σ:St) (H:Hp) (x y:V) (v u:Value) (Q:VK),Inv X pins σ H s->cE x v->cE y u->r x y H Q ->
  wpAny (model X.prog X.w) X.A (f v u) (EP X pins σ Q) X.xe s
def UnR (X:Cx) (f:Value->Sem Value) (r:V->Hp->VK->Prop):Prop:=
 ∀ (pins:List (Addr×Obj)) (s:Shared) (σ:St) (H:Hp) (x:V) (v:Value) (Q:VK),Inv X pins σ H s->cE x v->r x H Q ->
  wpAny (model X.prog X.w) X.A (f v) (EP X pins σ Q) X.xe s
def CallR (X:Cx) (f:Value) (r:List V->Hp->VK->Prop):Prop:=
 ∀ (pins:List (Addr×Obj)) (s:Shared) (σ:St) (H:Hp) (xs:List V) (us:List Value) (Q:VK),Inv X pins σ H s->bY xs us->r xs H Q ->
  wpAny (model X.prog X.w) X.A (call f us) (EP X pins σ Q) X.xe s
def aQp (X:Cx) (r:V->Hp->(Bool->Hp->Prop)->Prop):Prop:=
 ∀ (pins:List (Addr×Obj)) (s:Shared) (σ:St) (H:Hp) (x:V) (v:Value) (Q:Bool->Hp->Prop),Inv X pins σ H s->cE x v->r x H Q ->
  wpAny (model X.prog X.w) X.A (truthy v) (TP X pins σ Q) X.xe s

def tOp (r:R2) (ta tb:TE):TE:=fun σ H Q=>ta σ H fun x H1=>tb σ H1 fun y H2=>r x y H2 Q
def tUn (r:V->Hp->VK->Prop) (ta:TE):TE:=fun σ H Q=>ta σ H fun x H1=>r x H1 Q
inductive rI (C:Int->Int->Prop) (g:Int->Int->V) (x:V) (y:V) (H:Hp) (Q:VK):Prop
 | mk (i:_) (j:_) (h0_:x=.int i) (h1_:y=.int j) (h2_:C i j) (h3_:Q (g i j) H)
inductive rI0 (g:Int->Int->V) (x:V) (y:V) (H:Hp) (Q:VK):Prop
 | mk (i:_) (j:_) (h0_:x=.int i) (h1_:y=.int j) (h2_:Q (g i j) H)
def rU (g:Int->V):V->Hp->VK->Prop:=fun x H Q=>∃ i,x=.int i∧Q (g i) H

section
variable {X:Cx}{a b c:Expr}{ta tb tc:TE}{pos:Pos}

theorem aMj (ha:PE X a ta) (hb:PE X b tb){pins:List (Addr×Obj)}{s:Shared}{σ:St}{H:Hp}{R:V->V->Hp->Prop}(I:Inv X pins σ H s)
  (h:ta σ H fun x H1=>tb σ H1 fun y H2=>R x y H2){Q:Value->Shared->Prop}{f:Value->Value->Sem Value}
  (hf:∀ v u s2 x y H2,Inv X pins σ H2 s2->cE x v->cE y u->R x y H2->wpAny (model X.prog X.w) X.A (f v u) Q X.xe s2) :
  wpAny (model X.prog X.w) X.A (eval a X.env) (fun v s₁=>wpAny (model X.prog X.w) X.A (eval b X.env) (fun u s₂=>wpAny (model X.prog X.w) X.A (f v u) Q X.xe s₂) X.xe s₁) X.xe s:=by
 refine thn (ha pins s σ H _ I h) fun v s1 ⟨x,H1,I1,r1,q1⟩=>?_;refine thn (hb pins s1 σ H1 _ I1 q1) fun u s2 ⟨y,H2,I2,r2,q2⟩=>?_;exact hf v u s2 x y H2 I2 r1 r2 q2

theorem aS {op:Operator}{r:R2}(ho:OpR X (binaryOp op) r) (ha:PE X a ta) (hb:PE X b tb):PE X (.BinOp a op b pos) (tOp r ta tb):=by
 intro pins s σ H Q I h;exact wpAny_BinOp (aMj ha hb I h fun v u s2 x y H2 I2 rx ry q=>ho pins s2 σ H2 x y v u Q I2 rx ry q)
theorem aNk {op:UnaryOp}{r:V->Hp->VK->Prop}(ho:UnR X (unaryOp op) r) (ha:PE X a ta):PE X (.UnaryOp op a pos) (tUn r ta):=by
 intro pins s σ H Q I h;exact UnaryOp_ (thn (ha pins s σ H _ I h) fun v s1 ⟨x,H1,I1,r1,q1⟩=>ho pins s1 σ H1 x v Q I1 r1 q1)

theorem opI {f:Value->Value->Sem Value}{C:Int->Int->Prop}{g:Int->Int->Int}
  (rule:∀ (i j:Int) (t u:Tok) (s:Shared) (Q:Value->Shared->Prop) (E:Value->Shared->Prop),C i j->Q (.int (g i j) s.toks) { s with toks:=s.toks+1 }->wpAny (model X.prog X.w) X.A (f (.int i t) (.int j u)) Q E s) :
  OpR X f (rI C fun i j=>.int (g i j)):=by
 intro pins s σ H x y v u Q I rx ry h;obtain⟨i,j,rfl,rfl,hc,q⟩:=h;obtain⟨t,rfl⟩:=rx;obtain⟨t',rfl⟩:=ry;exact rule i j t t' s _ _ hc ⟨.int (g i j),H,I.tok _,⟨_,rfl⟩,q⟩
theorem aNm {f:Value->Value->Sem Value}{g:Int->Int->Int}
  (rule:∀ (i j:Int) (t u:Tok) (s:Shared) (Q:Value->Shared->Prop) (E:Value->Shared->Prop),Q (.int (g i j) s.toks) { s with toks:=s.toks+1 }->wpAny (model X.prog X.w) X.A (f (.int i t) (.int j u)) Q E s) :
  OpR X f (rI0 fun i j=>.int (g i j)):=by
 intro pins s σ H x y v u Q I rx ry h;obtain⟨i,j,rfl,rfl,q⟩:=h;obtain⟨t,rfl⟩:=rx;obtain⟨t',rfl⟩:=ry;exact rule i j t t' s _ _ ⟨.int (g i j),H,I.tok _,⟨_,rfl⟩,q⟩
theorem aLl {f:Value->Value->Sem Value}{g:Int->Int->Bool}
  (rule:∀ (i j:Int) (t u:Tok) (s:Shared) (Q:Value->Shared->Prop) (E:Value->Shared->Prop),Q (.bool (g i j)) s->wpAny (model X.prog X.w) X.A (f (.int i t) (.int j u)) Q E s) :
  OpR X f (rI0 fun i j=>.bl (g i j)):=by
 intro pins s σ H x y v u Q I rx ry h;obtain⟨i,j,rfl,rfl,q⟩:=h;obtain⟨t,rfl⟩:=rx;obtain⟨t',rfl⟩:=ry;exact rule i j t t' s _ _ ⟨.bl (g i j),H,I,rfl,q⟩

def aQx (i j:Int):Prop:=0<j∧j<1073741824
def aMr (i j:Int):Prop:=(-(2^64)<i∧i<2^64)∨(-(2^64)<j∧j<2^64)
theorem aMr.ok {i j:Int}(h:aMr i j):IntMulOk i j:=by
 rcases h with⟨h1,h2⟩ | ⟨h1,h2⟩
 ·exact .of_left (intBits_le_64 h1 h2)
 ·exact .of_right (intBits_le_64 h1 h2)

theorem dM:OpR X (binaryOp .Add) (rI0 fun i j=>.int (i+j)):=aNm fun _ _ _ _ _ _ _ q=>add_int q
theorem aLj:OpR X (binaryOp .Sub) (rI0 fun i j=>.int (i-j)):=aNm fun _ _ _ _ _ _ _ q=>sub_int q
theorem mV:OpR X (binaryOp .Mult) (rI aMr fun i j=>.int (i*j)):=opI fun _ _ _ _ _ _ _ hc q=>mul_int q hc.ok
theorem eG:OpR X (binaryOp .FloorDiv) (rI aQx fun i j=>.int (i/j)):=opI fun i j _ _ _ _ _ hc q=>by
 have h1:(0:Int)<j:=hc.1;have h2:j<1073741824:=hc.2;exact floordiv_int (by omega) (by rw[Int.fdiv_eq_ediv_of_nonneg i (by omega)]; exact q) (.inl (PyProof.noPylong_small (by omega)))
theorem cY:OpR X (binaryOp .Mod) (rI (fun _ j=>0<j) fun i j=>.int (i%j)):=opI fun i j _ _ _ _ _ hc q=>by
 have h1:(0:Int)<j:=hc;exact mod_int' (by omega) (by rw[Int.fmod_eq_emod_of_nonneg i (by omega)]; exact q)


theorem unI {f:Value->Sem Value}{g:Int->Int}
  (rule:∀ (i:Int) (t:Tok) (s:Shared) (Q:Value->Shared->Prop) (E:Value->Shared->Prop),Q (.int (g i) s.toks) { s with toks:=s.toks+1 }->wpAny (model X.prog X.w) X.A (f (.int i t)) Q E s) :
  UnR X f (rU fun i=>.int (g i)):=by
 intro pins s σ H x v Q I rx h;obtain⟨i,rfl,q⟩:=h;obtain⟨t,rfl⟩:=rx;exact rule i t s _ _ ⟨.int (g i),H,I.tok _,⟨_,rfl⟩,q⟩
theorem aKm:UnR X (unaryOp .USub) (rU fun i=>.int (-i)):=unI fun _ _ _ _ _ q=>neg_int q

end

def aNc:V->V->Bool
 | .non,.non=>true | .non,.int _=>true | .int _,.non=>true | .non,.bl _=>true | .bl _,.non=>true | .non,.str _=>true | .str _,.non=>true
 | .int _,.int _=>true | .bl _,.bl _=>true | .str _,.str _=>true | .byt _,.byt _=>true
 | .int _,.str _=>true | .str _,.int _=>true | .bl _,.str _=>true | .str _,.bl _=>true
 | _,_=>false
def rEq:R2:=fun x y H Q=>aNc x y=true∧Q (.bl (decide (x=y))) H
def rNe:R2:=fun x y H Q=>aNc x y=true∧Q (.bl (!decide (x=y))) H

theorem aBl {i j:Int}:decide (V.int i=V.int j)=(i==j):=by
 rw[Bool.eq_iff_iff]
 simp
theorem aGp {i j:Bool}:decide (V.bl i=V.bl j)=(i==j):=by
 rw[Bool.eq_iff_iff]
 simp
theorem aBk {i j:Str}:decide (V.str i=V.str j)=(i==j):=by
 rw[Bool.eq_iff_iff]
 simp
theorem aBm {i j:Array UInt8}:decide (V.byt i=V.byt j)=(i.toList==j.toList):=by
 rw[Bool.eq_iff_iff];cases i;cases j
 simp

section
variable {X:Cx}{a b c:Expr}{ta tb tc:TE}{pos:Pos}
theorem cO {pins:List (Addr×Obj)}{σ:St}{H:Hp}{s:Shared}{Q:VK}{k k':Bool}(I:Inv X pins σ H s) (q:Q (.bl k) H) (e:k=k'):EP X pins σ Q (.bool k') s:=by
 subst e;exact⟨.bl k,H,I,rfl,q⟩
theorem nQ:OpR X (compareOp .Eq) rEq:=by
 intro pins s σ H x y v u Q I rx ry h;obtain⟨hs,q⟩:=h;cases x with
 | non=>
  cases rx;cases y with
  | non=>cases ry; exact PySem.EqNone.eq_none_none (cO I q (by simp))
  | bl j=>cases ry; exact PySem.EqNone.eq_none_bool (cO I q (by simp))
  | int j=>obtain⟨t',rfl⟩:=ry; exact PySem.EqNone.eq_none_int (cO I q (by simp))
  | str j=>obtain⟨t',rfl⟩:=ry; exact PySem.EqNone.eq_none_str (cO I q (by simp))
  | _=>exact absurd (show false=true from hs) Bool.false_ne_true
 | bl i=>
  cases rx;cases y with
  | non=>cases ry; exact PySem.EqNone.eq_bool_none (cO I q (by simp))
  | bl j=>cases ry; exact eq_bool (cO I q aGp)
  | str j=>obtain⟨t',rfl⟩:=ry; exact PySem.EqMixed.eq_bool_str (cO I q (by simp))
  | _=>exact absurd (show false=true from hs) Bool.false_ne_true
 | int i=>
  obtain⟨t,rfl⟩:=rx;cases y with
  | non=>cases ry; exact PySem.EqNone.eq_int_none (cO I q (by simp))
  | int j=>obtain⟨t',rfl⟩:=ry; exact eq_int (cO I q aBl)
  | str j=>obtain⟨t',rfl⟩:=ry; exact PySem.EqMixed.eq_int_str (cO I q (by simp))
  | _=>exact absurd (show false=true from hs) Bool.false_ne_true
 | str i=>
  obtain⟨t,rfl⟩:=rx;cases y with
  | non=>cases ry; exact PySem.EqNone.eq_str_none (cO I q (by simp))
  | bl j=>cases ry; exact PySem.EqMixed.eq_str_bool (cO I q (by simp))
  | int j=>obtain⟨t',rfl⟩:=ry; exact PySem.EqMixed.eq_str_int (cO I q (by simp))
  | str j=>obtain⟨t',rfl⟩:=ry; exact eq_str (cO I q aBk)
  | _=>exact absurd (show false=true from hs) Bool.false_ne_true
 | byt i=>
  obtain⟨t,rfl⟩:=rx;cases y with
  | byt j=>obtain⟨t',rfl⟩:=ry; exact PySem.W.eq_bytes (cO I q aBm)
  | _=>exact absurd (show false=true from hs) Bool.false_ne_true
 | _=>cases y <;> exact absurd (show false=true from hs) Bool.false_ne_true
theorem xA:OpR X (compareOp .NotEq) rNe:=by
 intro pins s σ H x y v u Q I rx ry h;obtain⟨hs,q⟩:=h;cases x with
 | non=>
  cases rx;cases y with
  | non=>cases ry; exact PySem.EqNone.ne_none_none (cO I q (by simp))
  | bl j=>cases ry; exact PySem.EqNone.ne_none_bool (cO I q (by simp))
  | int j=>obtain⟨t',rfl⟩:=ry; exact PySem.EqNone.ne_none_int (cO I q (by simp))
  | str j=>obtain⟨t',rfl⟩:=ry; exact PySem.EqNone.ne_none_str (cO I q (by simp))
  | _=>exact absurd (show false=true from hs) Bool.false_ne_true
 | bl i=>
  cases rx;cases y with
  | non=>cases ry; exact PySem.EqNone.ne_bool_none (cO I q (by simp))
  | bl j=>cases ry; exact ne_bool (cO I q (congrArg not aGp))
  | str j=>obtain⟨t',rfl⟩:=ry; exact PySem.EqMixed.ne_bool_str (cO I q (by simp))
  | _=>exact absurd (show false=true from hs) Bool.false_ne_true
 | int i=>
  obtain⟨t,rfl⟩:=rx;cases y with
  | non=>cases ry; exact PySem.EqNone.ne_int_none (cO I q (by simp))
  | int j=>obtain⟨t',rfl⟩:=ry; exact ne_int (cO I q (congrArg not aBl))
  | str j=>obtain⟨t',rfl⟩:=ry; exact PySem.EqMixed.ne_int_str (cO I q (by simp))
  | _=>exact absurd (show false=true from hs) Bool.false_ne_true
 | str i=>
  obtain⟨t,rfl⟩:=rx;cases y with
  | non=>cases ry; exact PySem.EqNone.ne_str_none (cO I q (by simp))
  | bl j=>cases ry; exact PySem.EqMixed.ne_str_bool (cO I q (by simp))
  | int j=>obtain⟨t',rfl⟩:=ry; exact PySem.EqMixed.ne_str_int (cO I q (by simp))
  | str j=>obtain⟨t',rfl⟩:=ry; exact ne_str (cO I q (congrArg not aBk))
  | _=>exact absurd (show false=true from hs) Bool.false_ne_true
 | byt i=>
  obtain⟨t,rfl⟩:=rx;cases y with
  | byt j=>obtain⟨t',rfl⟩:=ry; exact PySem.W.ne_bytes (cO I q (congrArg not aBm))
  | _=>exact absurd (show false=true from hs) Bool.false_ne_true
 | _=>cases y <;> exact absurd (show false=true from hs) Bool.false_ne_true

theorem aFg:OpR X (compareOp .Lt) (rI0 fun i j=>.bl (decide (i<j))):=aLl fun _ _ _ _ _ _ _ q=>lt_int q
theorem aNl:OpR X (compareOp .LtE) (rI0 fun i j=>.bl (decide (i<=j))):=aLl fun _ _ _ _ _ _ _ q=>le_int q
theorem pX:OpR X (compareOp .Gt) (rI0 fun i j=>.bl (decide (j<i))):=aLl fun _ _ _ _ _ _ _ q=>gt_int q
theorem tZ:OpR X (compareOp .In) (fun x y H Q=>∃ i j,x=.str i∧y=.str j∧Q (.bl (!(Builtin.Str.occurrences j i 0 j.length 1).isEmpty)) H):=by
 intro pins s σ H x y v u Q I rx ry h;obtain⟨i,j,rfl,rfl,q⟩:=h;obtain⟨t,rfl⟩:=rx;obtain⟨t',rfl⟩:=ry;exact in_str (cO I q rfl)

theorem aFh:OpR X (compareOp .Is) (fun x y H Q=>y=.non∧Q (.bl (decide (x=.non))) H):=by
 intro pins s σ H x y v u Q I rx ry h;obtain⟨rfl,q⟩:=h;cases ry;refine is_none_gen (cO I q ?_)
 cases x <;> first
  | (cases rx; rfl)
  | (obtain⟨t,rfl⟩:=rx; rfl)
theorem vI:OpR X (compareOp .IsNot) (fun x y H Q=>y=.non∧Q (.bl (!decide (x=.non))) H):=by
 intro pins s σ H x y v u Q I rx ry h;obtain⟨rfl,q⟩:=h;cases ry;refine isnot_none_gen (cO I q ?_)
 cases x <;> first
  | (cases rx; rfl)
  | (obtain⟨t,rfl⟩:=rx; rfl)



theorem cN (b:Expr){op:CmpOp}(h:op≠.In:=by decide) (h2:op≠.NotIn:=by decide):behindInMarks op b=false:=by
 have e1:(op==CmpOp.In)=false:=by cases op <;> first | rfl | exact absurd rfl h
 have e2:(op==CmpOp.NotIn)=false:=by cases op <;> first | rfl | exact absurd rfl h2
 cases b <;> simp[behindInMarks,e1,e2]
theorem qN {op:CmpOp}{r:R2}(ho:OpR X (compareOp op) r) (ha:PE X a ta) (hb:PE X b tb) (hm:behindInMarks op b=false):PE X (.Compare a [op] [b] pos) (tOp r ta tb):=by
 intro pins s σ H Q I h;exact wpAny_Compare1 (aMj ha hb I h fun v u s2 x y H2 I2 rx ry q=>ho pins s2 σ H2 x y v u Q I2 rx ry q) hm
def aMt (t:TE):TT:=fun σ H Q=>t σ H fun x H'=>aOo x H' Q
theorem bX {op:CmpOp}{r:R2}(ho:OpR X (compareOp op) r) (ha:PE X a ta) (hb:PE X b tb) (hm:behindInMarks op b=false):PT X (.Compare a [op] [b] pos) (aMt (tOp r ta tb)):=by
 intro pins s σ H Q I h
 refine wpAny_isTrue_Compare1 (thn (ha pins s σ H _ I h) fun v s1 ⟨x,H1,I1,r1,q1⟩=>thn (hb pins s1 σ H1 _ I1 q1) fun u s2 ⟨y,H2,I2,r2,q2⟩=>
  thn (ho pins s2 σ H2 x y v u _ I2 r1 r2 q2) fun c s3 ⟨z,H3,I3,r3,k,e,q3⟩=>?_) hm
 subst e;cases r3;exact wpAny_truthy_bool ⟨H3,I3,q3⟩

def aOd (K:PySem.W.Frag) (x:V) (H:Hp) (k:Bool):Prop:=
 match x with
 | .non=>k=false
 | .bl b=>k=b
 | .int i=>k=(i != 0)
 | .str y=>y.length<=sizeLine∧k=((y.length:Int) != 0)
 | .byt y=>y.size<=sizeLine∧k=((y.size:Int) != 0)
 | .ref p=>(∃ xs,SqL K H p xs∧k=!xs.isEmpty)∨(∃ xs,SqT K H p xs∧k=!xs.isEmpty)∨∃ kvs,H p=some (.dK kvs)∧k=!kvs.isEmpty
 | _=>False
theorem zR {κ:Type}{kvs:List (κ×V)}{vs:List (κ×Value)}(r:KV kvs vs):(!vs.isEmpty)=!kvs.isEmpty:=by
 cases r <;> rfl
theorem rS {xs:List V}{its:List Value}(r:bY xs its):(!its.toArray.isEmpty)=!xs.isEmpty:=by
 cases r <;> simp
theorem pH:(sizeLine:Nat)<2^63:=by rw[sizeLine_eq]; decide
theorem aKn:aQp X (fun x H Q=>∃ k,aOd X.K x H k∧Q k H):=by
 intro pins s σ H x v Q I rx h;obtain⟨k,e,q⟩:=h;have hl:=pH;have hs:sizeLine=16777216:=sizeLine_eq;cases x with
 | non=>
  cases rx;have e':k=false:=e;subst e';exact truthy_none ⟨H,I,q⟩
 | bl b=>
  cases rx;have e':k=b:=e;subst e';exact wpAny_truthy_bool ⟨H,I,q⟩
 | int i=>
  obtain⟨t,rfl⟩:=rx;have e':k=(i != 0):=e;subst e';exact PySem.P.truthy_int ⟨H,I,q⟩
 | str y=>
  obtain⟨t,rfl⟩:=rx;obtain⟨hy,e'⟩:y.length<=sizeLine∧k=((y.length:Int) != 0):=e;subst e';exact PySem.P.truthy_str (by omega) ⟨H,I.tok _,q⟩
 | byt y=>
  obtain⟨t,rfl⟩:=rx;obtain⟨hy,e'⟩:y.size<=sizeLine∧k=((y.size:Int) != 0):=e;subst e';exact PySem.W.truthy_bytes (by omega) ⟨H,I.tok _,q⟩
 | ref p=>
  cases rx;have e':(∃ xs,SqL X.K H p xs∧k=!xs.isEmpty)∨(∃ xs,SqT X.K H p xs∧k=!xs.isEmpty)∨∃ kvs,H p=some (.dK kvs)∧k=!kvs.isEmpty:=e;rcases e' with⟨xs,hx,e'⟩ | ⟨xs,hx,e'⟩ | ⟨kvs,hx,e'⟩
  ·subst e';obtain⟨its,r,pl,hz⟩:=I.list hx;have hlen:=r.length;exact wpAny_truthy_list pl.isList (by simp only[List.size_toArray]; omega) ⟨H,I.tok _,by rw[rS r]; exact q⟩
  ·subst e';obtain⟨its,r,pl,hz⟩:=I.tuple hx;have hlen:=r.length;exact truthy_tuple pl (by simp only[List.size_toArray]; omega) ⟨H,I.tok _,by rw[rS r]; exact q⟩
  ·subst e';obtain⟨hz,hS,vs,r,m⟩:kvs.length<=sizeLine∧(p==sysModules)=false∧∃ vs,KV kvs vs∧s.heap.DictOf (dD X.prog X.w) p vs:=I.hok p _ hx;have hlen:kvs.length=vs.length:=Paired.length r;exact wpAny_truthy_dict hS m (by omega) ⟨H,I.tok _,by rw[zR r]; exact q⟩
 | _=>exact (show False from e).elim
theorem wS (ha:PE X a ta) (he:∀ whole,isTrue a X.env whole=(do let v ← whole; standAt a.pos; holding [v] (truthy v))) :
  PT X a (fun σ H Q=>ta σ H fun x H'=>∃ k,aOd X.K x H' k∧Q k H'):=by
 intro pins s σ H Q I h;exact isTrue_plain (thn (ha pins s σ H _ I h) fun v s1 ⟨x,H1,I1,r1,q1⟩=>aKn pins s1 σ H1 x v Q I1 r1 q1) (he _)

theorem rP:OpR X (binaryOp .Add) (fun x y H Q=>∃ i j,x=.str i∧y=.str j∧i.length+j.length<=sizeLine∧Q (.str (i++j)) H):=by
 intro pins s σ H x y v u Q I rx ry h;obtain⟨i,j,rfl,rfl,hz,q⟩:=h;obtain⟨t,rfl⟩:=rx;obtain⟨t',rfl⟩:=ry;exact add_str (fun t' tk=>⟨.str (i++j),H,I.tok _,⟨_,rfl⟩,q⟩) hz


theorem iO {x:V}{us:List Value}(r:bY [x] us):∃ u,us=[u]∧cE x u:=by
 cases r with
 | cons r1 r2=>cases r2; exact⟨_,rfl,r1⟩
theorem aDz {x y:V}{us:List Value}(r:bY [x,y] us):∃ u w',us=[u,w']∧cE x u∧cE y w':=by
 cases r with
 | cons r1 r2=>
  cases r2 with
  | cons r3 r4=>cases r4; exact⟨_,_,rfl,r1,r3⟩
theorem aDo:CallR X (.type "int") (fun xs H Q=>(∃ i,xs=[.int i]∧Q (.int i) H)∨∃ k,xs=[.bl k]∧Q (.int (if k then 1 else 0)) H):=by
 intro pins s σ H xs us Q I r h;rcases h with⟨i,rfl,q⟩ | ⟨k,rfl,q⟩
 ·obtain⟨u,rfl,t,rfl⟩:=iO r;exact call_int_int ⟨.int i,H,I,⟨_,rfl⟩,q⟩
 ·obtain⟨u,rfl,r1⟩:=iO r;cases r1;exact call_int_bool ⟨.int (if k then 1 else 0),H,I.tok _,⟨_,rfl⟩,q⟩
theorem vP:CallR X (.type "str") (fun xs H Q=>∃ i,xs=[.int i]∧i.natAbs.log2<1920∧Q (.str (toString i)) H):=by
 intro pins s σ H xs us Q I r h;obtain⟨i,rfl,hz,q⟩:=h;obtain⟨u,rfl,t,rfl⟩:=iO r;exact PySem.P.str_of_int hz ⟨.str _,H,I.tok _,⟨_,rfl⟩,q⟩
end
end L2

namespace L2
open PySem PySem.Spec PyProof.Rows

structure aAg (h:Heap) (x dx C:Addr) (mA:Str->Option Value):Prop where
 obj:h.get? x=some (PySem.W.instObj C dx)
 ns:h.Ns1 dx mA
 ne:dx≠x

theorem aCy {h:Heap}{dx:Addr}{mA:Str->Option Value}(n:h.Ns1 dx mA):∃ od,h.get? dx=some od∧∀ name,PySem.W.lookIn name od=some (mA name):=by
 obtain⟨o,es,ep,ho,hd,hk,_,hm⟩:=n;refine⟨o,ho,fun name=>?_⟩;have e:=hm name;unfold nsFind findBy at e;rw[← Array.find?_toList] at e;unfold PySem.W.lookIn;rw[hd];dsimp only;split
 ·rename_i y q
  rw[q] at e;exact congrArg some e
 ·rename_i q
  rw[q] at e
  have a:es.toList.any (·.refKey)=false:=by
   rw[List.any_eq_false];intro y hy;obtain⟨z,t,hkey⟩:=hk y (Array.mem_toList_iff.mp hy);simp[DictEntry.refKey,hkey]
  have a':¬ es.toList.any (·.refKey)=true:=by rw[a]; exact Bool.false_ne_true
  rw[if_neg a'];exact congrArg some e

theorem aAg.look {h:Heap}{x dx C:Addr}{mA:Str->Option Value}(I:aAg h x dx C mA):∃ od,PySem.W.InstAt h x (PySem.W.instObj C dx) C (some od)∧∀ name,PySem.W.lookIn name od=some (mA name):=
 let ⟨od,ho,hl⟩:=aCy I.ns
 ⟨od,⟨I.obj,rfl,rfl,ho⟩,hl⟩

section
variable {prog:Program}{w:World}{A:Around}{E:Value->Shared->Prop}{s:Shared}{K:PySem.W.Frag}{x dx C f:Addr}{mA:Str->Option Value}{name:Str}{v:Value}

theorem aJf {expr:Bool}{Q:Value->Shared->Prop}(X:K.In s.heap) (I:aAg s.heap x dx C mA) (hg:PySem.W.plainGet K C name=true) (hh:PySem.W.hasDictIn K C=true)
  (ha:PySem.W.findIn K (.ref C) name=some none) (hv:mA name=some v) (hv':PySem.W.handedIn v=true) (h:Q v { s with toks:=s.toks+1 }) :
  wpAny (model prog w) A (getAttr (.ref x) name expr) Q E s:=by
 obtain⟨od,J,hl⟩:=I.look;exact PySem.W.get_value X J (PySem.W.plainGet_of hg).1 (PySem.W.findObj_own hh ha rfl (by rw[hl,hv])) hv' h


theorem aGi {pl:Sem Bool}{Q:Value×List Value->Shared->Prop}(X:K.In s.heap) (I:aAg s.heap x dx C mA) (hg:PySem.W.plainGet K C name=true)
  (hf:PySem.W.findIn K (.ref C) name=some (some (.ref f))) (ht:PySem.W.isFn K (.ref f)=true) (hv:mA name=none) (h:Q (.ref f,[.ref x]) s) :
  wpAny (model prog w) A (getMethod (.ref x) name pl) Q E s:=by
 obtain⟨od,J,hl⟩:=I.look;exact PySem.W.method_fn X J (PySem.W.plainGet_of hg).1 (PySem.W.plainGet_of hg).2 hf (beq_iff_eq.mp ht) (by show (PySem.W.lookIn name od).map (·.isSome)=some false; rw[hl,hv]; rfl) h

theorem aHp {ns:List Str}{Q:Unit->Shared->Prop}(X:K.In s.heap) (I:aAg s.heap x dx C mA)
  (hs:PySem.W.findIn K (.ref C) "__setattr__" = some (some (.builtin "object.__setattr__"))) (hp:PySem.W.plainOver K C=true) (ht:PySem.W.takerIn K C name=some none) (hh:PySem.W.hasDictIn K C=true)
  (hw:PySem.Within mA ns) (hsz:ns.length<=sizeLine)
  (h:∀ h',aAg h' x dx C (fun y=>if y=name then some v else mA y)->Heap.SameBut dx s.heap h'->Q () { s with heap:=h',toks:=s.toks+2 }) :
  wpAny (model prog w) A (setAttr (.ref x) name v) Q E s:=by
 obtain⟨od,J,hl⟩:=I.look;refine PySem.W.set_plain X J hs (PySem.W.osa_open (s:={ s with toks:=s.toks+1 }) (r:=none) X J hp ht fun b=>?_);obtain⟨cd,hc,hd'⟩:=PySem.W.any_some hh;have hx:s.heap.get? x=some ⟨.ref C,some dx,.plain,#[]⟩:=I.obj;refine wpAny_bind (wpAny_pure (wpAny_bind (wpAny_bind (wpAny_loadPart hx (wpAny_bind (PySem.W.Looks.here (s:={ s with toks:=s.toks+1 }) (PySem.W.looks_clsIn X hc) ?_))))));rw[hd'];refine wpAny_pure (a:=some dx) (wpAny_bind (wpAny_pure (wpAny_bind ?_)));refine wpAny_nsSet1 (s:={ s with toks:=s.toks+1 }) I.ns fun h' hn2 hs2=>?_;obtain⟨oD,esD,epD,hoD,hdD,hcD⟩:=hn2.count (PySem.Within.cons name v hw);refine wpAny_bind (wpAny_lookBehind hoD (by rw[hdD]; exact pastItsLine_dict (Nat.le_trans hcD (by rw[List.length_cons]; omega))) ?_);exact wpAny_pure (h _ ⟨(hs2.2 _ (Ne.symm I.ne)).trans I.obj,hn2,I.ne⟩ hs2)

theorem aGa {R:Result->Shared->Prop}{vs:List Value}{kw:List (Str×Value)}(X:K.In s.heap) (hm:PySem.W.makesIn K C=true)
  (hi:PySem.W.findIn K (.ref C) "__init__" = some (some (.ref f))) (hf:PySem.W.typeIn K (.ref f)=some (.type "function"))
  (h:codeAny (model prog w) (A.under (.builtin "type.__call__" ⟨.ref C::vs,kw⟩)) (.call (.ref f) ⟨.ref (s.heap.objs.size+1)::vs,kw⟩) (PySem.W.InitBack (s.heap.objs.size+1) R)
   { s with heap:=(s.heap.push PySem.W.emptyDict).push (PySem.W.instObj C s.heap.objs.size) }) :
  codeAny (model prog w) A (.call (.ref C) ⟨vs,kw⟩) R s:=by
 obtain⟨hh,g,d,t,os⟩:=s;exact PySem.W.make_core (PySem.W.makes_of X hm) (PySem.W.looks_findIn X hi) (fun self=>PySem.W.bind_fn X self hf) (.inl rfl) h
end

def gE (f:Str) (v:V):List (Str×V)->List (Str×V)
 | []=>[(f,v)]
 | (g,x)::r=>if g=f then (g,v)::r else (g,x)::gE f v r
theorem qA (f g:Str) (v:V):∀ fs:List (Str×V),(gE f v fs).lookup g=if g=f then some v else fs.lookup g
 | []=>by
  show List.lookup g [(f,v)]=_
  by_cases h:g=f
  ·have hb:(g==f)=true:=beq_iff_eq.mpr h;simp only[List.lookup,hb,if_pos h]
  ·have hb:(g==f)=false:=beq_eq_false_iff_ne.mpr h;simp only[List.lookup,hb,if_neg h]
 | (k,x)::r=>by
  have ih:=qA f g v r;rw[show gE f v ((k,x)::r)=(if k=f then (k,v)::r else (k,x)::gE f v r) from rfl]
  by_cases hk:k=f
  ·rw[if_pos hk]
   by_cases h:g=k
   ·have hb:(g==k)=true:=beq_iff_eq.mpr h;simp only[List.lookup,hb,if_pos (h.trans hk)]
   ·have hb:(g==k)=false:=beq_eq_false_iff_ne.mpr h;simp only[List.lookup,hb,if_neg (fun e:g=f=>h (e.trans hk.symm))]
  ·rw[if_neg hk]
   by_cases h:g=k
   ·have hb:(g==k)=true:=beq_iff_eq.mpr h;simp only[List.lookup,hb,if_neg (fun e:g=f=>hk (h.symm.trans e))]
   ·have hb:(g==k)=false:=beq_eq_false_iff_ne.mpr h;simp only[List.lookup,hb];exact ih
theorem pJ (f:Str) (v:V):∀ fs:List (Str×V),f∈(gE f v fs).map (·.1)∧∀ g,g∈fs.map (·.1)->g∈(gE f v fs).map (·.1)
 | []=>⟨by simp[gE],fun g h=>by simp at h⟩
 | (k,x)::r=>by
  obtain⟨i1,i2⟩:=pJ f v r;rw[show gE f v ((k,x)::r)=(if k=f then (k,v)::r else (k,x)::gE f v r) from rfl]
  by_cases hk:k=f
  ·rw[if_pos hk];subst hk;exact⟨by simp,fun g h=>by simpa using h⟩
  ·rw[if_neg hk];refine⟨?_,fun g h=>?_⟩
   ·rw[List.map_cons];exact List.mem_cons_of_mem _ i1
   ·rw[List.map_cons] at h ⊢;rcases List.mem_cons.mp h with e | e
    ·exact List.mem_cons.mpr (.inl e)
    ·exact List.mem_cons_of_mem _ (i2 g e)
theorem qB (f:Str) (v:V):∀ fs:List (Str×V),(gE f v fs).length<=fs.length+1
 | []=>by simp[gE]
 | (k,x)::r=>by
  have ih:=qB f v r;rw[show gE f v ((k,x)::r)=(if k=f then (k,v)::r else (k,x)::gE f v r) from rfl]
  by_cases hk:k=f
  ·rw[if_pos hk,List.length_cons,List.length_cons]; omega
  ·rw[if_neg hk,List.length_cons,List.length_cons]; omega

theorem jX.some_of {v:V}{o:Option Value}(r:jX (some v) o):∃ u,o=some u∧cE v u:=by
 cases o with
 | none=>exact (show False from r).elim
 | some u=>exact⟨u,rfl,r⟩
theorem jX.none_of {o:Option Value}(r:jX none o):o=none:=by
 cases o with
 | none=>rfl
 | some u=>exact (show False from r).elim
theorem aDg {v:V}{u:Value}(r:cE v u):PySem.W.handedIn u=true:=by
 cases v with
 | non=>cases (show u=Value.none from r); rfl
 | bl b=>cases (show u=Value.bool b from r); rfl
 | int i=>obtain⟨t,e⟩:=(show ∃ t,u=Value.int i t from r); cases e; rfl
 | str x=>obtain⟨t,e⟩:=(show ∃ t,u=Value.str x t from r); cases e; rfl
 | byt b=>obtain⟨t,e⟩:=(show ∃ t,u=Value.bytes b t from r); cases e; rfl
 | flt b=>obtain⟨t,e⟩:=(show ∃ t,u=Value.float b t from r); cases e; rfl
 | ref a=>cases (show u=Value.ref a from r); rfl
 | ty n=>cases (show u=Value.type n from r); rfl

section
variable {P:Program}{w:World}{H H':Hp}{h h':Heap}{a C dx:Addr}{fs fs':List (Str×V)}
theorem qO (hok:HOk P w H h) (e:H a=some (.ins C dx fs)):∃ mA,aAg h a dx C mA∧(∀ f,jX (fs.lookup f) (mA f))∧PySem.Within mA (fs.map (·.1))∧fs.length<=1000∧H dx=some (.own a):=by
 obtain⟨d,z,ne,ob,mA,n,r,q⟩:=(show dE P w H h a (.ins C dx fs) from hok a _ e)
 exact⟨mA,⟨ob,n,ne⟩,r,q,z,d⟩
end

structure Cls (K:PySem.W.Frag) (C:Addr):Prop where
 pg:PySem.W.plainGet K C Str.empty=true
 hd:PySem.W.hasDictIn K C=true
 po:PySem.W.plainOver K C=true
 sa:PySem.W.findIn K (.ref C) "__setattr__" = some (some (.builtin "object.__setattr__"))
theorem Cls.get {K:PySem.W.Frag}{C:Addr}(c:Cls K C) (f:Str):PySem.W.plainGet K C f=true:=c.pg
def fO (K:PySem.W.Frag) (C:Addr) (f:Str):Prop:=PySem.W.findIn K (.ref C) f=some none
theorem fO.taker {K:PySem.W.Frag}{C:Addr}{f:Str}(n:fO K C f):PySem.W.takerIn K C f=some none:=by
 unfold PySem.W.takerIn;rw[show PySem.W.findIn K (.ref C) f=some none from n]
 rfl
structure eZ (K:PySem.W.Frag) (C:Addr) (m:Str) (f:Addr):Prop where
 at_:PySem.W.findIn K (.ref C) m=some (some (.ref f))
 fn:PySem.W.isFn K (.ref f)=true
 kp:PySem.W.keepIn K (.ref f)=true

section
variable {X:Cx}{pins:List (Addr×Obj)}{σ:St}{H:Hp}{s:Shared}{a C dx:Addr}{fs:List (Str×V)}{f:Str}{v:V}{A:Around}{E:Value->Shared->Prop}

theorem zU {b:Bool}{Q:Value->Shared->Prop}(I:Inv X pins σ H s) (e:H a=some (.ins C dx fs)) (c:Cls X.K C) (n:fO X.K C f) (l:fs.lookup f=some v)
  (h:∀ u s',Inv X pins σ H s'->cE v u->Q u s'):wpAny (model X.prog X.w) A (getAttr (.ref a) f b) Q E s:=by
 obtain⟨mA,O,r,_,_,_⟩:=qO I.hok e;obtain⟨u,hu,ru⟩:=jX.some_of (v:=v) (o:=mA f) (by rw[← l]; exact r f);exact aJf I.kIn O (c.get f) c.hd n hu (aDg ru) (h u _ (I.tok _) ru)


theorem rV {m:Str}{g:Addr}{pl:Sem Bool}{Q:Value×List Value->Shared->Prop}(I:Inv X pins σ H s) (e:H a=some (.ins C dx fs)) (c:Cls X.K C) (k:eZ X.K C m g) (l:fs.lookup m=none)
  (h:Q (.ref g,[.ref a]) s):wpAny (model X.prog X.w) A (getMethod (.ref a) m pl) Q E s:=by
 obtain⟨mA,O,r,_,_,_⟩:=qO I.hok e;have hn:mA m=none:=jX.none_of (by rw[← l]; exact r m);exact aGi I.kIn O (c.get m) k.at_ k.fn hn h

theorem yP {y:V}{u:Value}{Q:Unit->Shared->Prop}(I:Inv X pins σ H s) (e:H a=some (.ins C dx fs)) (c:Cls X.K C) (n:fO X.K C f) (hl:fs.length<1000) (ry:cE y u)
  (h:∀ s',Inv X pins σ (upd H a (.ins C dx (gE f y fs))) s'->Q () s'):wpAny (model X.prog X.w) A (setAttr (.ref a) f u) Q E s:=by
 obtain⟨mA,O,r,wi,_,ho⟩:=qO I.hok e;have hz:(fs.map (·.1)).length<=sizeLine:=by rw[List.length_map,sizeLine_eq]; omega
 refine aHp I.kIn O c.sa c.po n.taker c.hd wi hz fun h' O' sb=>h _ ?_;have hd:∃ o,h'.get? dx=some o:=let ⟨o,_,_,e',_⟩:=O'.ns; ⟨o,e'⟩;refine I.write (x:=a) (e:=dx) (by rw[e]; exact True.intro) (.inr ho) (fun b q hb z=>(sb.2 b hb).trans z) hd ?_;refine⟨by rw[aI O.ne]; exact ho,?_,O.ne,O'.obj,_,O'.ns,fun g=>?_,fun g hg=>?_⟩
 ·have:=qB f y fs; omega
 ·show jX ((gE f y fs).lookup g) (if g=f then some u else mA g)
  rw[qA]
  by_cases q:g=f
  ·rw[if_pos q,if_pos q]; exact ry
  ·rw[if_neg q,if_neg q]; exact r g
 ·by_cases q:g=f
  ·rw[q]; exact (pJ f y fs).1
  ·refine (pJ f y fs).2 g (wi g fun z=>hg ?_);show (if g=f then some u else mA g)=none
   rw[if_neg q]; exact z

theorem Inv.made (I:Inv X pins σ H s):Inv X pins σ (upd (upd H s.heap.objs.size (.own (s.heap.objs.size+1))) (s.heap.objs.size+1) (.ins C s.heap.objs.size []))
  { s with heap:=(s.heap.push PySem.W.emptyDict).push (PySem.W.instObj C s.heap.objs.size) }:=by
 have e1:(s.heap.push PySem.W.emptyDict).get? s.heap.objs.size=some PySem.W.emptyDict:=Heap.get?_push_size s.heap rfl
 have e2:((s.heap.push PySem.W.emptyDict).push (PySem.W.instObj C s.heap.objs.size)).get? (s.heap.objs.size+1)=some (PySem.W.instObj C s.heap.objs.size):=by
  have:=Heap.get?_push_size (s.heap.push PySem.W.emptyDict) (o:=PySem.W.instObj C s.heap.objs.size) rfl
  rwa [Heap.size_push] at this
 have e3:(s.heap.push PySem.W.emptyDict).Ns s.heap.objs.size (fun _=>none):=⟨PySem.W.emptyDict,#[],_,e1,rfl,(fun e he=>absurd he (by simp)),fun _=>rfl⟩;have I1:=I.laid (a:=s.heap.objs.size) (o:=.own (s.heap.objs.size+1)) (h':=s.heap.push PySem.W.emptyDict) (t':=s.toks) (fun b u q=>Heap.get?_push_of_some _ q) (Nat.le_refl _) ⟨_,e1⟩;refine I1.laid (a:=s.heap.objs.size+1) (o:=.ins C s.heap.objs.size []) (t':=s.toks) (fun b u q=>Heap.get?_push_of_some _ q) (Nat.le_of_eq (Heap.size_push _ _)) ?_;have ne:s.heap.objs.size≠s.heap.objs.size+1:=Nat.ne_of_lt (Nat.lt_succ_self _);refine⟨by rw[aI ne,aD],Nat.zero_le _,ne,e2,fun _=>none,(Heap.Ns1.of_empty e3).at fun o q=>Heap.get?_push_of_some _ q,fun _=>True.intro,fun y hy=>absurd rfl hy⟩

theorem aJn {prog:Program}{w:World}{env:Env}{e:Expr}{f:Str}{pos:Pos}{s:Shared}{Q:Value->Shared->Prop}(hb:attributeBase e f env (eval e env)=eval e env)
  (h:wpAny (model prog w) A (eval e env) (fun o s₁=>wpAny (model prog w) A (getAttr o f true) Q E s₁) E s):wpAny (model prog w) A (eval (.Attribute e f pos) env) Q E s:=
 Attribute_any_ h (by rw[arm_eval_Attribute,hb])
end

inductive aOn (K:PySem.W.Frag) (f:Str) (x:V) (H1:Hp) (Q:VK):Prop
 | mk (a C dx:Addr) (fs:List (Str×V)) (v:V) (h1:x=.ref a) (h2:H1 a=some (.ins C dx fs)) (h3:Cls K C) (h4:fO K C f) (h5:fs.lookup f=some v) (q:Q v H1)
def aOz (K:PySem.W.Frag) (ta:TE) (f:Str):TE:=fun σ H Q=>ta σ H fun x H1=>aOn K f x H1 Q
inductive aOk (K:PySem.W.Frag) (f:Str) (x y:V) (H2:Hp) (R:Hp->Prop):Prop
 | mk (a C dx:Addr) (fs:List (Str×V)) (h1:x=.ref a) (h2:H2 a=some (.ins C dx fs)) (h3:Cls K C) (h4:fO K C f) (h5:fs.length<1000) (q:R (upd H2 a (.ins C dx (gE f y fs))))
def aPt (K:PySem.W.Frag) (ta tv:TE) (f:Str):TS:=fun D σ H=>tv σ H fun y H1=>ta σ H1 fun x H2=>aOk K f x y H2 (D.nx σ)

section
variable {X:Cx}{o e value:Expr}{f:Str}{pos pos' tpos:Pos}{ta tv:TE}
theorem gZ (he:PE X e ta) (hb:attributeBase e f X.env (eval e X.env)=eval e X.env):PE X (.Attribute e f pos) (aOz X.K ta f):=by
 intro pins s σ H Q I h;refine aJn hb (thn (he pins s σ H _ I h) fun u s1 ⟨x,H1,I1,rx,a,C,dx,fs,v,ex,ea,c,n,l,q⟩=>?_);subst ex;obtain rfl:u=Value.ref a:=rx;exact zU I1 ea c n l fun u' s2 I2 ru=>⟨v,H1,I2,ru,q⟩
theorem jK (ha:PE X o ta) (hv:PE X value tv) (hs:swapsWith value (some (.Attribute o f pos')) pos.line X.env=pure false):PS X (.Assign [.Attribute o f pos'] value pos) (aPt X.K ta tv f):=by
 intro pins s σ H D I h;refine plainObj_wpAny_Assign_Attribute (thn (hv pins s σ H _ I h) fun u s1 ⟨y,H1,I1,ry,q⟩=>thn (ha pins s1 σ H1 _ I1 q) fun ov s2 ⟨x,H2,I2,rx,a,C,dx,fs,ex,ea,c,n,l,q2⟩=>?_) hs;subst ex;obtain rfl:ov=Value.ref a:=rx;exact yP I2 ea c n l ry fun s3 I3=>⟨σ,_,I3,q2⟩

end

section
variable {X:Cx}{pins:List (Addr×Obj)}{σ:St}{H:Hp}{s:Shared}{A:Around}{E:Value->Shared->Prop}{Q:Value->Shared->Prop}{c:Value}{b:Bool}
inductive nF (K:PySem.W.Frag) (H:Hp):V->Value->Prop where
 | non:nF K H .non (.type "NoneType")
 | bl (x:Bool):nF K H (.bl x) (.type "bool")
 | int (i:Int):nF K H (.int i) (.type "int")
 | str (x:Str):nF K H (.str x) (.type "str")
 | flt (x:UInt64):nF K H (.flt x) (.type "float")
 | lst {a:Addr}{xs:List V}(e:H a=some (.lst xs)):nF K H (.ref a) (.type "list")
 | frz {a:Addr}{o:Obj}{xs:List V}(e:H a=some (.frz o (.lst xs))):nF K H (.ref a) (.type "list")
 | tup {a:Addr}{xs:List V}(e:H a=some (.tup xs)):nF K H (.ref a) (.type "tuple")
 | dK {a:Addr}{kvs:List (Key×V)}(e:H a=some (.dK kvs)):nF K H (.ref a) (.type "dict")
 | dT {a:Addr}{kvs:List (List Key×V)}(e:H a=some (.dT kvs)):nF K H (.ref a) (.type "dict")
 | ins {a C dx:Addr}{fs:List (Str×V)}(e:H a=some (.ins C dx fs)) (cl:Cls K C) (ha:PySem.W.findIn K (.ref C) "__class__" = some (some (.builtin "object.__class__")))
   (hn:PySem.W.specialIn K (.builtin "object.__class__") "__get__" = some (some (.builtin "getset_descriptor.__get__"))) (htk:PySem.W.takesIn K (.builtin "object.__class__")=some true)
   (hm:PySem.W.mroIn K C (.type "object")=some true):nF K H (.ref a) (.ref C)
theorem aDe {x:V}{u t:Value}(I:Inv X pins σ H s) (rx:cE x u) (ty:nF X.K H x t) (e:PySem.W.kitOne X.K t c=some b) (h:∀ tk,Q (.bool b) { s with toks:=tk }) :
  wpAny (model X.prog X.w) A (call (.builtin "isinstance") [u,c]) Q E s:=by
 cases ty with
 | non=>cases (show u=Value.none from rx); exact PySem.W.kia_one PySem.W.kitx_none I.kIn True.intro e (fun z=>nomatch z) h
 | bl y=>cases (show u=Value.bool y from rx); exact PySem.W.kia_one PySem.W.kitx_bool I.kIn True.intro e (fun z=>nomatch z) h
 | int i=>obtain⟨t,q⟩:=(show ∃ t,u=Value.int i t from rx); cases q; exact PySem.W.kia_one PySem.W.kitx_int I.kIn True.intro e (fun z=>nomatch z) h
 | str y=>obtain⟨t,q⟩:=(show ∃ t,u=Value.str y t from rx); cases q; exact PySem.W.kia_one PySem.W.kitx_str I.kIn True.intro e (fun z=>nomatch z) h
 | flt y=>obtain⟨t,q⟩:=(show ∃ t,u=Value.float y t from rx); cases q; exact PySem.W.kia_one PySem.W.kitx_float I.kIn True.intro e (fun z=>nomatch z) h
 | @lst a xs ea=>
  cases (show u=Value.ref a from rx)
  obtain⟨_,_,n,_,h1⟩:=(show dE X.prog X.w H s.heap a (.lst xs) from I.hok a _ ea)
  exact PySem.W.kia_one PySem.W.kitx_list I.kIn ⟨_,h1,rfl⟩ e (fun z=>nomatch z) h
 | @frz a ob xs ea=>
  cases (show u=Value.ref a from rx)
  obtain⟨_,_,_,n,_,h1⟩:=(show dE X.prog X.w H s.heap a (.frz ob (.lst xs)) from I.hok a _ ea)
  exact PySem.W.kia_one PySem.W.kitx_list I.kIn ⟨_,h1,rfl⟩ e (fun z=>nomatch z) h
 | @tup a xs ea=>
  cases (show u=Value.ref a from rx)
  obtain⟨_,_,_,p⟩:=(show dE X.prog X.w H s.heap a (.tup xs) from I.hok a _ ea)
  obtain⟨o,h1,h2,_⟩:=p;exact PySem.W.kia_one PySem.W.kitx_tuple I.kIn ⟨o,h1,h2⟩ e (fun z=>nomatch z) h
 | @dK a kvs ea=>
  cases (show u=Value.ref a from rx)
  obtain⟨_,_,vs,_,p⟩:=(show dE X.prog X.w H s.heap a (.dK kvs) from I.hok a _ ea)
  obtain⟨o,es,ep,h1,h2,_⟩:=p;exact PySem.W.kia_one PySem.W.kitx_dict I.kIn ⟨o,h1,h2.1⟩ e (fun z=>nomatch z) h
 | @dT a kvs ea=>
  cases (show u=Value.ref a from rx)
  obtain⟨_,_,xs,_,o,es,ep,h1,h2,_⟩:=(show dE X.prog X.w H s.heap a (.dT kvs) from I.hok a _ ea)
  exact PySem.W.kia_one PySem.W.kitx_dict I.kIn ⟨o,h1,h2.1⟩ e (fun z=>nomatch z) h
 | @ins a C dx fs ea cl ha hn htk hm=>
  cases (show u=Value.ref a from rx)
  obtain⟨mA,O,_⟩:=qO I.hok ea;obtain⟨od,J,_⟩:=O.look;exact PySem.W.kia_one (PySem.W.kitx_own (cl.get _) cl.hd ha hn htk hm) I.kIn J e (fun z=>nomatch z) h
end
end L2

namespace L2
open PySem PySem.Spec PyProof.Rows

structure cL (k:Nat) (A:Around):Prop where
 hd:A.handled=none
 dp:A.depth+3*k+5<recursionLimit
 un:A.units+16*k+200<cLine
theorem cL.mono {j k:Nat}{A:Around}(r:cL k A) (h:j<=k):cL j A:=⟨r.hd,by have:=r.dp; omega,by have:=r.un; omega⟩
theorem cL.deeper {k:Nat}{A:Around}(r:cL (k+1) A) (env:Env):cL k (A.deeper env):=
 ⟨r.hd,by have:=r.dp; show A.depth+1+3*k+5<_; omega,by have:=r.un; show A.units+3+16*k+200<_; omega⟩
theorem zN {A:Around}{C:Addr}{us:List Value}{kw:List (Str×Value)}:(A.under (.builtin "type.__call__" ⟨.ref C::us,kw⟩)).depth=A.depth+1:=by
 first | rfl | simp[Around.under,Code.weight,Code.isCreation,Code.isGuard,Code.isCaller,Code.frames,Code.isFrame,guardIds]
theorem zM {A:Around}{C:Addr}{us:List Value}{kw:List (Str×Value)}:(A.under (.builtin "type.__call__" ⟨.ref C::us,kw⟩)).units=A.units+1:=by
 first | rfl | simp[Around.under,Code.cUnits,Code.frames,Code.isFrame]
theorem cL.make {k:Nat}{A:Around}(r:cL (k+1) A) (C:Addr) (us:List Value) (kw:List (Str×Value)):cL k (A.under (.builtin "type.__call__" ⟨.ref C::us,kw⟩)):=
 ⟨r.hd,by have:=r.dp; rw[zN]; omega,by have:=r.un; rw[zM]; omega⟩
theorem cL.depth {k:Nat}{A:Around}(r:cL k A):A.depth<recursionLimit:=by have:=r.dp; omega
theorem cL.units {k:Nat}{A:Around}(r:cL k A):A.units+64<cLine:=by have:=r.un; omega

def yM:TA:=fun _ H Q=>Q [] H
def vZ (ta:TE) (tr:TA):TA:=fun σ H Q=>ta σ H fun x H1=>tr σ H1 fun xs H2=>Q (x::xs) H2
section
variable {X:Cx}{e:Expr}{es:List Expr}{te:TE}{t:TA}{pos:Pos}
theorem aJ:PA X [] yM:=fun _ _ _ _ H Q I h=>Calls.spliced_nil ⟨[],H,I,.nil,h⟩
theorem iT (ha:PE X e te) (hr:PA X es t) (hs:starEach (e::es) X.env=(false,eval e X.env)::starEach es X.env:=by rfl):PA X (e::es) (vZ te t):=by
 intro pos pins s σ H Q I h;rw[hs];show wpAny _ _ (spliced ((false,eval e X.env)::backTo pos (starEach es X.env))) _ _ s;refine Calls.spliced_cons (thn (ha pins s σ H _ I h) fun u s1 ⟨x,H1,I1,r1,q1⟩=>?_);exact thn (hr pos pins s1 σ H1 _ I1 q1) fun us s2 ⟨xs,H2,I2,r2,q2⟩=>⟨x::xs,H2,I2,.cons r1 r2,q2⟩

def aOs (t:TA):TE:=fun σ H Q=>t σ H fun xs H1=>xs.length<=sizeLine∧∀ p,H1 p=none->Q (.ref p) (upd H1 p (.tup xs))
def aMw (t:TA):TE:=fun σ H Q=>t σ H fun xs H1=>xs.length<=sizeLine∧∀ p,H1 p=none->Q (.ref p) (upd H1 p (.lst xs))
theorem gY {x1} (h:PA X es t):PE X (.Tuple es x1 pos) (aOs t):=by
 intro pins s σ H Q I hq;refine wpAny_Tuple_spliced (thn (h pos pins s σ H _ I hq) fun us s1 ⟨xs,H1,I1,r,z,q⟩=>⟨by rw[← r.length]; exact z,?_⟩);have hf:H1 s1.heap.objs.size=none:=I1.hok.fresh (Nat.le_refl _);refine⟨.ref s1.heap.objs.size,upd H1 s1.heap.objs.size (.tup xs),I1.laid (t':=s1.toks) (fun b u e=>Heap.get?_push_of_some _ e) (Nat.le_refl _) ?_,rfl,q _ hf⟩;exact⟨z,us,r,⟨_,Heap.get?_push_size _ rfl,rfl,_,rfl⟩⟩
theorem cM (h:PA X es t):PE X (.List es pos) (aMw t):=by
 intro pins s σ H Q I hq;refine wpAny_List_spliced (thn (h pos pins s σ H _ I hq) fun us s1 ⟨xs,H1,I1,r,z,q⟩=>⟨by rw[← r.length]; exact z,?_⟩);have hf:H1 s1.heap.objs.size=none:=I1.hok.fresh (Nat.le_refl _);refine⟨.ref s1.heap.objs.size,upd H1 s1.heap.objs.size (.lst xs),I1.laid (t':=s1.toks) (fun b u e=>Heap.get?_push_of_some _ e) (Nat.le_refl _) ?_,rfl,q _ hf⟩;exact⟨z,us,0,r,Heap.get?_push_size _ rfl⟩
end

abbrev Sp:=List V->Hp->VK->XK->Prop
abbrev CXT:=List Env->Hp->Shared->XK->Value->Shared->Prop

structure pT (P:Program) (w:World) (K:PySem.W.Frag) (mg:Str->Option Value) (base:Heap) (A:Around) (outer:List Env) (s:Shared) (H:Hp):Prop where
 frames:A.frames=some outer
 mod:Mod K mg base
 bs:∀ b o,base.get? b=some o->s.heap.get? b=some o∧H b=none
 bsz:base.objs.size<=s.heap.objs.size
 funs:s.heap.FunFrames base outer
 frf:∀ b∈frs outer,H b=none
 hok:HOk P w H s.heap
 bare:AllBare s.gens
inductive CE (outer:List Env) (P:Program) (w:World) (H:Hp) (s:Shared) (Q:VK) (u:Value) (s':Shared):Prop
 | mk (v:_) (H':_) (h0_:s'.os=s.os) (h1_:AllBare s'.gens) (h2_:Un (frs outer) [] H H' s.heap s'.heap) (h3_:HOk P w H' s'.heap) (h4_:cE v u) (h5_:Q v H')
def CR (CX:CXT) (outer:List Env) (P:Program) (w:World) (H:Hp) (s:Shared) (Q:VK) (E:XK) (r:Result) (s':Shared):Prop:=
 match r with
 | .ok (.ret u)=>CE outer P w H s Q u s'
 | .ok _=>False
 | .error e=>CX outer H s E e s'
structure bE (P:Program) (w:World) (K:PySem.W.Frag) (mg:Str->Option Value) (base:Heap) (CX:CXT) (k:Nat) (f:Addr) (fd:FuncData) (ps:List Str) (sp:Sp):Prop where
 len:∀ vs H Q E,sp vs H Q E->vs.length=ps.length
 run:∀ (A:Around) (outer:List Env) (s:Shared) (H:Hp) (args:Args) (us:List Value) (vs:List V) (Q:VK) (E:XK),cL k A->pT P w K mg base A outer s H->BindsTo s fd args (ps.zip us)->bY vs us->sp vs H Q E ->
  codeAny (model P w) A (.call (.ref f) args) (CR CX outer P w H s Q E) s

theorem pT.make {P:Program}{w:World}{K:PySem.W.Frag}{mg:Str->Option Value}{base:Heap}{A:Around}{outer:List Env}{s:Shared}{H:Hp}(e:pT P w K mg base A outer s H) (C:Addr) (us:List Value) (kw:List (Str×Value)) :
  pT P w K mg base (A.under (.builtin "type.__call__" ⟨.ref C::us,kw⟩)) outer s H:=⟨by first | exact e.frames | (simpa [Around.under,Code.envs,Code.isFrame,pushEnvs] using e.frames),e.mod,e.bs,e.bsz,e.funs,e.frf,e.hok,e.bare⟩

section
variable {X:Cx}{pins:List (Addr×Obj)}{σ:St}{H:Hp}{s s':Shared}
theorem Inv.env0 (I:Inv X pins σ H s):pT X.prog X.w X.K X.mg X.base X.A X.stack s H:=
 ⟨I.ok.frames,I.ok.mod,I.bs,Nat.le_trans I.ok.bsz I.sz,I.stack,I.stkFree,I.hok,I.bare⟩
theorem Inv.after {Q:VK}{u:Value}(I:Inv X pins σ H s) (h:CE X.stack X.prog X.w H s Q u s'):EP X pins σ Q u s':=by
 obtain⟨v,H',os,bare,un,hok,r,q⟩:=h;obtain⟨hh,g,d,t,os'⟩:=s';obtain rfl:os'=s.os:=os;exact⟨v,H',I.call (h':=hh) (g':=g) (d':=d) (t':=t) (ch:=[]) un hok bare (fun b z=>absurd z (by simp)),r,q⟩
end

def aJw (sp:Sp) (dvs:List V) (E:XK) (t:TA):TE:=fun σ H Q=>t σ H fun vs H1=>sp (vs++dvs) H1 Q E
inductive aMn (C:Addr) (m:Str) (x:V) (H1:Hp) (R:Prop):Prop
 | mk (a dx:Addr) (fs:List (Str×V)) (h1:x=.ref a) (h2:H1 a=some (.ins C dx fs)) (h3:fs.lookup m=none) (r:R)
def aAl (C:Addr) (m:Str) (sp:Sp) (dvs:List V) (E:XK) (ta:TE) (t:TA):TE:=fun σ H Q=>ta σ H fun x H1=>aMn C m x H1 (t σ H1 fun vs H2=>sp (x::(vs++dvs)) H2 Q E)
def aEf (C:Addr) (sp:Sp) (dvs:List V) (E:XK) (t:TA):TE:=fun σ H Q=>t σ H fun vs H1=>∀ x dx,H1 x=none->H1 dx=none->dx≠x ->
 sp (.ref x::(vs++dvs)) (upd (upd H1 dx (.own x)) x (.ins C dx [])) (fun v H2=>v=.non∧Q (.ref x) H2) E

def aX (K:PySem.W.Frag) (fd:FuncData) (ps:List Str) (ds:List Value):Prop:=
 ∀ (s:Shared) (us:List Value),K.In s.heap->(us++ds).length=ps.length->BindsTo s fd ⟨us,[]⟩ (ps.zip (us++ds))
theorem aX.all {K:PySem.W.Frag}{fd:FuncData}{ps:List Str}(h:∀ us:List Value,us.length=ps.length->bindArgs fd ⟨us,[]⟩=pure (ps.zip us)):aX K fd ps []:=fun s us _ hl=>by
 rw[List.append_nil] at hl ⊢;exact .of_eq (h us hl)

def eY (CX:CXT) (X:Cx) (E:XK):Prop:=∀ (pins:List (Addr×Obj)) (σ:St) (H:Hp) (s:Shared) (e:Value) (s':Shared),Inv X pins σ H s->CX X.stack H s E e s'->X.xe e s'

section
variable {X:Cx}{CX:CXT}{k:Nat}{f C:Addr}{fd:FuncData}{ps:List Str}{sp:Sp}{dvs:List V}{ds:List Value}{E:XK}{x m:Str}{p pos apos:Pos}{e o:Expr}{es:List Expr}{ta:TE}{t:TA}

theorem yT {pins:List (Addr×Obj)}{σ:St}{H:Hp}{s:Shared}{Q:VK}{us:List Value}{vs:List V}(F:bE X.prog X.w X.K X.mg X.base CX k f fd ps sp) (hr:cL k X.A) (hb:aX X.K fd ps ds) (hd:bY dvs ds) (hx:eY CX X E)
  (I:Inv X pins σ H s) (r:bY vs us) (h:sp (vs++dvs) H Q E):wpAny (model X.prog X.w) X.A (call (.ref f) us) (EP X pins σ Q) X.xe s:=by
 have r2:bY (vs++dvs) (us++ds):=r.append hd;have hl:(us++ds).length=ps.length:=by rw[← r2.length]; exact F.len _ _ _ _ h
 refine wpAny_call (codeAny_mono (F.run X.A X.stack s H ⟨us,[]⟩ (us++ds) (vs++dvs) Q E hr I.env0 (hb s us I.kIn hl) r2 h) fun r s' hq=>?_);cases r with
 | error e=>exact hx pins σ H s e s' I hq
 | ok fl=>
  cases fl with
  | ret u=>exact I.after hq
  | next=>exact False.elim hq
  | brk=>exact False.elim hq
  | cont=>exact False.elim hq

theorem bU (F:bE X.prog X.w X.K X.mg X.base CX k f fd ps sp) (hr:cL k X.A) (hg:Gl X x) (hm:X.mg x=some (.ref f)) (hk:PySem.W.keepIn X.K (.ref f)=true) (hb:aX X.K fd ps ds) (hd:bY dvs ds) (hx:eY CX X E)
  (ha:PA X (e::es) t) (hdb:(x==("__debug__" : Str))=false:=by decide) (he:starEach (e::es) X.env=(false,eval e X.env)::starEach es X.env:=by rfl) (hpl:(backTo pos (starEach es X.env)).any (·.1)=false:=by rfl) :
  PE X (.Call (.Name x p) (e::es) [] pos) (aJw sp dvs E t):=by
 intro pins s σ H Q I h;refine wpAny_Call_Name_kw (gA I hg hm ?_ hdb);refine PySem.W.callWith_K (h₀:=X.base) I.ok.mod.kin hk (thn (ha pos pins s σ H _ I h) fun us s1 ⟨vs,H1,I1,r,q⟩=>⟨I1.kIn,?_⟩) he hpl;exact yT F hr hb hd hx I1 r q

theorem hG {pl:Sem Bool}(he:PE X o ta) (c:Cls X.K C) (hm:eZ X.K C m f) (F:bE X.prog X.w X.K X.mg X.base CX k f fd ps sp) (hr:cL k X.A) (hb:aX X.K fd ps ds) (hd:bY dvs ds) (hx:eY CX X E) (ha:PA X (e::es) t)
  (hst:starEach (e::es) X.env=(false,eval e X.env)::starEach es X.env:=by rfl) (hpl:(backTo pos (starEach es X.env)).any (·.1)=false:=by rfl)
  (ht:eval (.Call (.Attribute o m apos) (e::es) [] pos) X.env=(do
   let ov ← eval o X.env
   standAt apos.atName
   let (f,first) ← holding [ov] (getMethod ov m pl)
   callWith pos f first (backTo pos (starEach (e::es) X.env)) (backToKw pos (keywordEach [] X.env))):=by rfl) :
  PE X (.Call (.Attribute o m apos) (e::es) [] pos) (aAl C m sp dvs E ta t):=by
 intro pins s σ H Q I h;refine PySem.W.methodCall_KW (pl:=pl) (thn (he pins s σ H _ I h) fun u s1 ⟨x,H1,I1,rx,a,dx,fs,ex,ea,l,q⟩=>?_) ht;subst ex;obtain rfl:u=Value.ref a:=rx;refine rV I1 ea c hm l ?_;refine PySem.W.callWith_K (first:=[.ref a]) (h₀:=X.base) I.ok.mod.kin hm.kp (thn (ha pos pins s1 σ H1 _ I1 q) fun us s2 ⟨vs,H2,I2,r,q2⟩=>⟨I2.kIn,?_⟩) hst hpl;exact yT (us:=.ref a::us) (vs:=.ref a::vs) F hr hb hd hx I2 (.cons rfl r) q2
theorem eK {pl:Sem Bool}(he:PE X o ta) (c:Cls X.K C) (hm:eZ X.K C m f) (F:bE X.prog X.w X.K X.mg X.base CX k f fd ps sp) (hr:cL k X.A) (hb:aX X.K fd ps ds) (hd:bY dvs ds) (hx:eY CX X E)
  (ht:eval (.Call (.Attribute o m apos) [] [] pos) X.env=(do
   let ov ← eval o X.env
   standAt apos.atName
   let (f,first) ← holding [ov] (getMethod ov m pl)
   callWith pos f first (backTo pos (starEach [] X.env)) (backToKw pos (keywordEach [] X.env))):=by rfl) :
  PE X (.Call (.Attribute o m apos) [] [] pos) (aAl C m sp dvs E ta yM):=by
 intro pins s σ H Q I h;refine PySem.W.methodCall_KW (pl:=pl) (thn (he pins s σ H _ I h) fun u s1 ⟨x,H1,I1,rx,a,dx,fs,ex,ea,l,q⟩=>?_) ht;subst ex;obtain rfl:u=Value.ref a:=rx;refine rV I1 ea c hm l ?_;exact PySem.W.callWith_K0 (first:=[.ref a]) I1.kIn hm.kp (yT (us:=[.ref a]) (vs:=[.ref a]) F hr hb hd hx I1 (.cons rfl .nil) q)

structure Mk (K:PySem.W.Frag) (C f:Addr):Prop where
 makes:PySem.W.makesIn K C=true
 init:PySem.W.findIn K (.ref C) "__init__"=some (some (.ref f))
 fn:PySem.W.isFn K (.ref f)=true
 kp:PySem.W.keepIn K (.ref C)=true

theorem aEt {pins:List (Addr×Obj)}{σ:St}{H:Hp}{s:Shared}{Q:VK}{us:List Value}{vs:List V}(M:Mk X.K C f) (F:bE X.prog X.w X.K X.mg X.base CX k f fd ps sp) (hr:cL (k+1) X.A) (hb:aX X.K fd ps ds) (hd:bY dvs ds)
  (hx:eY CX X E) (I:Inv X pins σ H s) (r:bY vs us)
  (h:∀ x dx,H x=none->H dx=none->dx≠x->sp (.ref x::(vs++dvs)) (upd (upd H dx (.own x)) x (.ins C dx [])) (fun v H2=>v=.non∧Q (.ref x) H2) E) :
  wpAny (model X.prog X.w) X.A (call (.ref C) us) (EP X pins σ Q) X.xe s:=by
 have hq:=h (s.heap.objs.size+1) s.heap.objs.size (I.hok.fresh (Nat.le_succ _)) (I.hok.fresh (Nat.le_refl _)) (Nat.ne_of_lt (Nat.lt_succ_self _));have I2:=Inv.made (C:=C) I;have r2:bY (V.ref (s.heap.objs.size+1)::(vs++dvs)) (Value.ref (s.heap.objs.size+1)::(us++ds)):=.cons rfl (r.append hd)
 have hl:(Value.ref (s.heap.objs.size+1)::us++ds).length=ps.length:=by
  have e:=r2.length;rw[F.len _ _ _ _ hq] at e;exact e.symm
 refine wpAny_call (aGa (f:=f) I.kIn M.makes M.init (beq_iff_eq.mp M.fn) (codeAny_mono (F.run _ X.stack _ _ ⟨Value.ref (s.heap.objs.size+1)::us,[]⟩ (Value.ref (s.heap.objs.size+1)::(us++ds)) _ _ E (hr.make C us [])
  (I2.env0.make C us []) (hb _ (Value.ref (s.heap.objs.size+1)::us) I2.kIn hl) r2 hq) fun r s' hq'=>?_))
 cases r with
 | error e=>exact hx pins σ _ _ e s' I2 hq'
 | ok fl=>
  cases fl with
  | ret u=>
   obtain⟨v,H',I3,rv,ev,q3⟩:=I2.after hq';subst ev;exact⟨rv,⟨V.ref (s.heap.objs.size+1),H',I3,rfl,q3⟩⟩
  | next=>exact False.elim hq'
  | brk=>exact False.elim hq'
  | cont=>exact False.elim hq'
theorem iR (M:Mk X.K C f) (F:bE X.prog X.w X.K X.mg X.base CX k f fd ps sp) (hr:cL (k+1) X.A) (hg:Gl X x) (hm:X.mg x=some (.ref C)) (hb:aX X.K fd ps ds) (hd:bY dvs ds) (hx:eY CX X E)
  (ha:PA X (e::es) t) (hdb:(x==("__debug__" : Str))=false:=by decide) (he:starEach (e::es) X.env=(false,eval e X.env)::starEach es X.env:=by rfl) (hpl:(backTo pos (starEach es X.env)).any (·.1)=false:=by rfl) :
  PE X (.Call (.Name x p) (e::es) [] pos) (aEf C sp dvs E t):=by
 intro pins s σ H Q I h;refine wpAny_Call_Name_kw (gA I hg hm ?_ hdb);refine PySem.W.callWith_K (h₀:=X.base) I.ok.mod.kin M.kp (thn (ha pos pins s σ H _ I h) fun us s1 ⟨vs,H1,I1,r,q⟩=>⟨I1.kIn,?_⟩) he hpl;exact aEt M F hr hb hd hx I1 r q
end

section
variable {X:Cx}{CX:CXT}{k:Nat}{f C:Addr}{fd:FuncData}{ps ks:List Str}{sp:Sp}{E:XK}{x m:Str}{p pos apos kpos:Pos}{e o:Expr}{es:List Expr}{kws:List Keyword}{te ta:TE}{t tk:TA}{nm:Option Str}

variable {g:List Value->List Value->List Value}{gV:List V->List V->List V}
end

structure aR (N P:List Str) (sc:Scope):Prop where
 kind:sc.kind=.function
 co:sc.isCoroutine=false
 gen:sc.isGenerator=false
 nd:N.Nodup
 pre:N.take P.length=P
 par:∀ x∈P,sc.names.lookup x=some .local∨sc.names.lookup x=some .cell
 nofree:∀ y∈sc.names,y.2≠.free

theorem uN {kindOf:Str->Option NameKind}{x:Str}:∀ {binds:List (Str×Value)}{m:Str->Option Value},(∀ v,(x,v)∉binds)->bindL kindOf binds m x=m x
 | [],_,_=>rfl
 | (n,v)::r,m,h=>by
  unfold bindL;rw[uN fun w hw=>h w (List.mem_cons_of_mem _ hw)];split
  ·have:x≠n:=by rintro rfl; exact h v List.mem_cons_self
   simp[this]
  ·rfl
theorem uP {kindOf:Str->Option NameKind}{x:Str}:∀ {binds:List (Str×Value)}{m:Str->Option Value},(∀ v,(x,v)∉binds)->bindC kindOf binds m x=m x
 | [],_,_=>rfl
 | (n,v)::r,m,h=>by
  unfold bindC;rw[uP fun w hw=>h w (List.mem_cons_of_mem _ hw)];split
  ·rfl
  ·have:x≠n:=by rintro rfl; exact h v List.mem_cons_self
   simp[this]
theorem uO {kindOf:Str->Option NameKind}{x:Str}{v:Value}:∀ {P:List Str}{vs:List Value}{i:Nat}{m:Str->Option Value},P.Nodup->P[i]?=some x->vs[i]?=some v->kindOf x=some .local ->
  bindL kindOf (P.zip vs) m x=some v
 | [],_,_,_,_,h,_,_=>by simp at h
 | _::_,[],_,_,_,_,h,_=>by simp at h
 | p::P,w::vs,0,m,nd,h1,h2,hk=>by
  simp at h1 h2; subst h1; subst h2;show bindL kindOf ((p,w)::P.zip vs) m p=_;unfold bindL;rw[uN fun v hv=>(List.nodup_cons.mp nd).1 (List.of_mem_zip hv).1,if_pos hk]
  simp
 | p::P,w::vs,i+1,m,nd,h1,h2,hk=>by
  show bindL kindOf ((p,w)::P.zip vs) m x=_;unfold bindL;exact uO (i:=i) (List.nodup_cons.mp nd).2 (by simpa using h1) (by simpa using h2) hk
theorem uQ {kindOf:Str->Option NameKind}{x:Str}{v:Value}:∀ {P:List Str}{vs:List Value}{i:Nat}{m:Str->Option Value},P.Nodup->P[i]?=some x->vs[i]?=some v->kindOf x≠some .local ->
  bindC kindOf (P.zip vs) m x=some v
 | [],_,_,_,_,h,_,_=>by simp at h
 | _::_,[],_,_,_,_,h,_=>by simp at h
 | p::P,w::vs,0,m,nd,h1,h2,hk=>by
  simp at h1 h2; subst h1; subst h2;show bindC kindOf ((p,w)::P.zip vs) m p=_;unfold bindC;rw[uP fun v hv=>(List.nodup_cons.mp nd).1 (List.of_mem_zip hv).1,if_neg hk]
  simp
 | p::P,w::vs,i+1,m,nd,h1,h2,hk=>by
  show bindC kindOf ((p,w)::P.zip vs) m x=_;unfold bindC;exact uQ (i:=i) (List.nodup_cons.mp nd).2 (by simpa using h1) (by simpa using h2) hk

def fV (N:List Str) (vs:List V):St:=vs.map some++List.replicate (N.length-vs.length) none

def gB (CX:CXT) (P:Program) (w:World) (K:PySem.W.Frag) (mg:Str->Option Value) (base:Heap) (N:List Str) (qual:Str) (scope:Scope) (f:Addr) (cd:Value) (A:Around) (outer:List Env) (s:Shared) (H:Hp) (E:XK):Cx where
 prog:=P
 w:=w
 K:=K
 mg:=mg
 base:=base
 A:=A.deeper (envOfC qual scope s.heap.objs.size f cd)
 N:=N
 s₀:=s
 H₀:=H
 env:=envOfC qual scope s.heap.objs.size f cd
 outer:=outer
 stack:=envOfC qual scope s.heap.objs.size f cd::outer
 ex:=[]
 calm:=true
 fn:=fun _=>true
 pn:=[]
 xe:=fun e s'=>wpAny (model P w) (A.deeper (envOfC qual scope s.heap.objs.size f cd)) (leaving (envOfC qual scope s.heap.objs.size f cd) e) (fun _ s''=>CX outer H s E e s'') (fun e' s''=>CX outer H s E e' s'') s'

theorem yB {sc:Scope}{n:Nat}{x:Str}(h:sc.names.lookup x=some .cell):∃ c,(cellsFrom n sc.names []).lookup x=some c:=by
 have q:=PySem.W.cellsFrom_some sc.names n [] (.inl h);exact Option.isSome_iff_exists.mp q

theorem pL {CX:CXT}{P:Program}{w:World}{K:PySem.W.Frag}{mg:Str->Option Value}{base:Heap}{N ps:List Str}{qual:Str}{scope:Scope}{f:Addr}{cd:Value}{A:Around}{outer:List Env}{s s1:Shared}{H:Hp}{E:XK}{us:List Value}{vs:List V}
  (S:aR N ps scope) (hd:A.handled=none) (e0:pT P w K mg base A outer s H) (hl:vs.length=ps.length) (r:bY vs us)
  (x:InCallC s s.heap.objs.size (bindL (envOfC qual scope s.heap.objs.size f cd).kindOf (ps.zip us) fun _=>none) (cellsFrom (s.heap.objs.size+1) scope.names []) (bindC (envOfC qual scope s.heap.objs.size f cd).kindOf (ps.zip us) fun _=>none) s1) :
  Inv (gB CX P w K mg base N qual scope f cd A outer s H E) [] (fV N vs) H s1:=by
 have hpl:ps.length<=N.length:=by have:=congrArg List.length S.pre; rw[List.length_take] at this; omega
 obtain⟨h1,tk,rfl,hk⟩:=x.done;have noA:∀ b:Addr,b∉(gB CX P w K mg base N qual scope f cd A outer s H E).ex:=fun b z=>absurd (show b∈([]:List Addr) from z) (by simp)
 refine⟨⟨e0.mod,S.kind,rfl,rfl,Nat.le_refl _,fun y z c h1 h2=>?_,fun y hy=>?_,fun y c _ h=>?_,fun _=>hd,Around.frames_deeper e0.frames,.inr ⟨rfl,rfl⟩,fun b z=>absurd z (noA b),e0.bs,e0.bsz,fun b _ _=>noA b,fun b z=>absurd z (noA b),e0.funs,e0.frf⟩,
  rfl,e0.bare,Un.kept hk,⟨_,x.toInCall.ns,fun i y v h1 h2 h3=>?_⟩,fun y c h=>⟨_,x.cell y c h⟩,e0.hok.fresh (Nat.le_refl _),fun y c h=>?_,fun p hp=>absurd (show p∈([]:List (Addr×Obj)) from hp) (by simp),e0.hok.kept hk,?_⟩
 ·exact name_of_addr x.apart (PySem.mem_of_lookup h1) (PySem.mem_of_lookup h2)
 ·have hy:scope.names.lookup y=some .cell∨scope.names.lookup y=some .free:=hy;rcases hy with hy | hy
  ·exact yB hy
  ·exact absurd rfl (S.nofree _ (PySem.mem_of_lookup hy))
 ·exact Nat.le_of_lt (x.above y c (PySem.mem_of_lookup h))
 ·have hi:i<vs.length:=by
   unfold fV at h2
   by_cases hi:i<vs.length
   ·exact hi
   ·rw[List.getElem?_append_right (by simpa using hi)] at h2;rw[List.getElem?_replicate] at h2;split at h2 <;> cases h2
  have ha:vs[i]?=some v:=by
   unfold fV at h2;rw[List.getElem?_append_left (by simpa using hi),List.getElem?_map] at h2;cases e:vs[i]? with
   | none=>rw[e] at h2; cases h2
   | some a=>rw[e] at h2; cases h2; rfl
  obtain⟨u,hu,rv⟩:=r.get ha
  have hp:ps[i]?=some y:=by
   rw[← S.pre,List.getElem?_take_of_lt (by omega)]; exact h1
  have ndP:ps.Nodup:=by rw[← S.pre]; exact S.nd.sublist (List.take_sublist _ _)
  refine⟨u,rv,?_⟩;rcases S.par y (List.mem_of_getElem? hp) with k | k
  ·exact .inl ⟨k,uO ndP hp hu k⟩
  ·obtain⟨c,e⟩:=yB (n:=s.heap.objs.size+1) k;refine .inr ⟨.inl k,c,e,?_⟩;have q:=x.cell y c e;rw[uQ ndP hp hu (by show scope.names.lookup y≠_; rw[k]; decide)] at q;exact q
 ·exact e0.hok.fresh (Nat.le_of_lt (x.above y c (PySem.mem_of_lookup h)))
 ·unfold fV;show _=N.length;rw[List.length_append,List.length_map,List.length_replicate];omega

theorem uK {CX:CXT}{P:Program}{w:World}{K:PySem.W.Frag}{mg:Str->Option Value}{base:Heap}{k:Nat}{f:Addr}{name qual:Str}{params:Arguments}{body:List Stmt}{scope:Scope}{dV kV doc pm cdv ct oc:Value}{an od:Option Addr}
  {osl:Array (Option Value)}{N ps:List Str}{sp:Sp}(lk:K.lookup f=some ⟨oc,od,.func (PySem.W.fnOf name qual params body scope dV kV doc pm an cdv ct),osl⟩) (hcd:PySem.W.codeIn K cdv qual=true) (S:aR N ps scope)
  (len:∀ vs H Q E,sp vs H Q E->vs.length=ps.length)
  (hbody:∀ (A:Around) (outer:List Env) (s:Shared) (H:Hp) (vs:List V) (Q:VK) (E:XK),cL k (A.deeper (envOfC qual scope s.heap.objs.size f cdv))->sp vs H Q E ->
   ∃ t,PSs (gB CX P w K mg base N qual scope f cdv A outer s H E) body t∧t { nx:=fun _ H'=>Q .non H',rt:=Q } (fV N vs) H) :
  bE P w K mg base CX (k+1) f (PySem.W.fnOf name qual params body scope dV kV doc pm an cdv ct) ps sp:=by
 refine⟨len,fun A outer s H args us vs Q E hr e0 hb r hsp=>?_⟩;have hl:=len _ _ _ _ hsp;have KX:K.In s.heap:=e0.mod.kin.keeps fun b o e=>(e0.bs b o e).1;have lim:s.heap.NoLimit:=e0.mod.nolimit.keeps fun b o e=>(e0.bs b o e).1
 have hkind:∀ y∈ps.zip us,scope.names.lookup y.1=some .local∨(scope.names.lookup y.1=some .cell∧((cellsFrom (s.heap.objs.size+1) scope.names []).lookup y.1).isSome=true):=fun ⟨n,v⟩ hy=>by
  rcases S.par n (List.of_mem_zip hy).1 with q | q
  ·exact .inl q
  ·exact .inr ⟨q,PySem.W.cellsFrom_some _ _ _ (.inl q)⟩
 refine codeAny_call_function hr.depth (KX _ _ lk) rfl S.co S.gen rfl (PySem.W.codeRec_of KX hcd) (hb _ _ _ _ ?_);refine wpAny_newFunctionEnv_cells S.kind hkind fun env he s1 x=>?_;subst he;refine⟨lim.keeps x.toInCall.keep,codeAny_func ?_⟩;obtain⟨t,ht,hq⟩:=hbody A outer s H vs Q E (hr.deeper _) hsp;have I:Inv (gB CX P w K mg base N qual scope f cdv A outer s H E) [] (fV N vs) H s1:=pL S hr.hd e0 hl r x;refine wpAny_mono (ht [] s1 (fV N vs) H _ I hq) (fun fl s' hs=>?_) fun e s' hs=>hs
 have fin:∀ {σ':St}{H':Hp}{v:V}{u:Value},Inv (gB CX P w K mg base N qual scope f cdv A outer s H E) [] σ' H' s'->cE v u->Q v H'->CE outer P w H s Q u s':=
  fun {σ' H' v u} J rv q=>⟨v,H',J.os,J.bare,J.base,J.hok,rv,q⟩
 cases fl with
 | ret u=>
  obtain⟨v,σ',H',J,rv,q⟩:=hs;exact fin J rv q
 | next=>
  obtain⟨σ',H',J,q⟩:=hs;exact fin (v:=V.non) (u:=Value.none) J rfl q
 | brk=>
  obtain⟨_,_,_,q⟩:=hs;exact False.elim q
 | cont=>
  obtain⟨_,_,_,q⟩:=hs;exact False.elim q
end L2

namespace L2
open PySem PySem.Spec PyProof.Rows
section
variable {X:Cx}{x:Str}{p pos:Pos}{e:Expr}{es:List Expr}{t:TA}{id T:String}{r:List V->Hp->VK->Prop}

def tCB (r:List V->Hp->VK->Prop) (t:TA):TE:=fun σ H Q=>t σ H fun vs H1=>r vs H1 Q
theorem cH (hc:CallR X (.builtin id) r) (hg:Gl X x) (hm:X.mg x=none) (hv:bootBuiltins x=some (.builtin id)) (ha:PA X (e::es) t) (hn:x≠"__name__" := by decide) (hdb:(x==("__debug__" : Str))=false:=by decide)
  (he:starEach (e::es) X.env=(false,eval e X.env)::starEach es X.env:=by rfl) (hpl:(backTo pos (starEach es X.env)).any (·.1)=false:=by rfl):PE X (.Call (.Name x p) (e::es) [] pos) (tCB r t):=by
 intro pins s σ H Q I h;refine wpAny_Call_Name_kw (mX I hg hm hv ?_ hn hdb);exact PyProof.Rows.callWith_builtin1 (thn (ha pos pins s σ H _ I h) fun us s1 ⟨vs,H1,I1,r1,q1⟩=>hc pins s1 σ H1 vs us Q I1 r1 q1) he hpl
theorem eN (hc:CallR X (.type T) r) (hg:Gl X x) (hm:X.mg x=none) (hv:bootBuiltins x=some (.type T)) (ha:PA X (e::es) t) (hn:x≠"__name__" := by decide) (hdb:(x==("__debug__" : Str))=false:=by decide)
  (he:starEach (e::es) X.env=(false,eval e X.env)::starEach es X.env:=by rfl) (hpl:(backTo pos (starEach es X.env)).any (·.1)=false:=by rfl):PE X (.Call (.Name x p) (e::es) [] pos) (tCB r t):=by
 intro pins s σ H Q I h;refine wpAny_Call_Name_kw (mX I hg hm hv ?_ hn hdb);exact PyProof.Rows.callWith_type1 (thn (ha pos pins s σ H _ I h) fun us s1 ⟨vs,H1,I1,r1,q1⟩=>hc pins s1 σ H1 vs us Q I1 r1 q1) he hpl
end
end L2

namespace HT
open PySem PyProof.Rows



section
open PySem.SeqAt
open PySem.AutoSeq1 (wpAny_loadPart')
open PySem.MeetsSeq PySem.MeetsSeq2 PySem.MeetsSeq3

end

section
variable {prog:Program}{w:World}{A:Around}{E:Value->Shared->Prop}{s:Shared}



def sIx (n d:Nat):Option Int->Nat
 | none=>d
 | some v=>if v<0 then (v+(n:Int)).toNat else min v.toNat n
theorem sIx_none (n d:Nat):sIx n d none=d:=rfl
theorem sIx_nat (n d k:Nat):sIx n d (some (k:Int))=min k n:=by
 show (if (k:Int)<0 then ((k:Int)+(n:Int)).toNat else min (k:Int).toNat n)=min k n
 rw[if_neg (by omega),Int.toNat_natCast]

end
end HT

namespace L2
open PySem PySem.Spec PyProof.Rows

abbrev TO:=St->Hp->(Option Int->Hp->Prop)->Prop
def PO (X:Cx) (e:Option Expr) (t:TO):Prop:=
 ∀ (pins:List (Addr×Obj)) (s:Shared) (σ:St) (H:Hp) (Q:Option Int->Hp->Prop),Inv X pins σ H s->t σ H Q ->
  wpAny (model X.prog X.w) X.A (evalPart e X.env) (fun u s'=>∃ o H',Inv X pins σ H' s'∧IsPart u o∧Q o H') X.xe s
def aHj:TO:=fun _ H Q=>Q none H
def aMu (t:TE):TO:=fun σ H Q=>t σ H fun x H1=>∃ i,x=.int i∧Q (some i) H1


section
variable {X:Cx}{e:Expr}{te:TE}{lo hi:Option Expr}{tl th:TO}{pos p2:Pos}

theorem lO:PO X none aHj:=by
 intro pins s σ H Q I h;rw[evalPart_none];exact wpAny_pure ⟨none,H,I,.none,h⟩
theorem nN (h:PE X e te):PO X (some e) (aMu te):=by
 intro pins s σ H Q I hw;rw[evalPart_some];refine thn (h pins s σ H _ I hw) fun u s1 ⟨x,H1,I1,r1,q1⟩=>?_;obtain⟨i,rfl,q⟩:=q1;obtain⟨t,rfl⟩:=r1;exact⟨some i,H1,I1,.int i t,q⟩

def SlR (X:Cx) (r:V->Option Int->Option Int->Hp->VK->Prop):Prop:=
 ∀ (pins:List (Addr×Obj)) (s:Shared) (σ:St) (H:Hp) (x:V) (v vl vu:Value) (lo hi:Option Int) (sl:Addr) (Q:VK),Inv X pins σ H s->cE x v->s.heap.IsSliceOf sl vl vu .none->IsPart vl lo->IsPart vu hi->r x lo hi H Q ->
  ∃ T id,typeLookup (.type T) "__getitem__"=pure (some (.builtin id))∧s.TypeIs v T∧wpAny (model X.prog X.w) X.A (getItem v (.ref sl)) (EP X pins σ Q) X.xe s
def tSl (r:V->Option Int->Option Int->Hp->VK->Prop) (te:TE) (tl th:TO):TE:=fun σ H Q=>te σ H fun x H1=>tl σ H1 fun l H2=>th σ H2 fun u H3=>r x l u H3 Q
theorem nO {r:V->Option Int->Option Int->Hp->VK->Prop}(hr:SlR X r) (he:PE X e te) (hl:PO X lo tl) (hu:PO X hi th):PE X (.Subscript e (.Slice lo hi none p2) pos) (tSl r te tl th):=by
 intro pins s σ H Q I h;refine Subscript_ (thn (he pins s σ H _ I h) fun v s1 ⟨x,H1,I1,r1,q1⟩=>?_);refine wpAny_Slice (thn (hl pins s1 σ H1 _ I1 q1) fun vl s2 ⟨l,H2,I2,pl,q2⟩=>thn (hu pins s2 σ H2 _ I2 q2) fun vu s3 ⟨u,H3,I3,pu,q3⟩=>?_);rw[evalPart_none];refine wpAny_pure ?_;have I4:Inv X pins σ H3 { s3 with heap:=s3.heap.push { cls:=.type "slice",data:=.fields #[vl,vu,.none] } }:=I3.kept (t':=s3.toks) fun b ob q=>Heap.get?_push_of_some _ q;obtain⟨T,id,hT,ht,hg⟩:=hr pins { s3 with heap:=s3.heap.push { cls:=.type "slice",data:=.fields #[vl,vu,.none] } } σ H3 x v vl vu l u s3.heap.objs.size Q I4 r1 (Heap.IsSliceOf.new ..) pl pu q3;show wpAny (model X.prog X.w) X.A (subscriptTail e (.Slice lo hi none p2) v (.ref s3.heap.objs.size)) (EP X pins σ Q) X.xe { s3 with heap:=s3.heap.push { cls:=.type "slice",data:=.fields #[vl,vu,.none] } };exact tail_any (ops:=[.ref s3.heap.objs.size,v]) ht hT hg (by with_unfolding_all rfl)

def jV (xs:List V) (lo hi:Option Int):List V:=(xs.drop (HT.sIx xs.length 0 lo)).take (HT.sIx xs.length xs.length hi-HT.sIx xs.length 0 lo)
theorem yA (xs:List V) (lo hi:Option Int):(jV xs lo hi).length<=xs.length:=by
 unfold jV;rw[List.length_take,List.length_drop];omega

end
end L2

namespace L2
open PySem PySem.Spec PyProof.Rows

def ixN (n:Nat) (i:Int):Option Nat:=if 0<=i then (if i<n then some i.toNat else none) else if -(n:Int)<=i then some (i+n).toNat else none
def atI {α:Type}(xs:List α) (i:Int):Option α:=(ixN xs.length i).bind fun j=>xs[j]?
theorem aIz {n:Nat}{i:Int}{j:Nat}(h:ixN n i=some j):seqIndex? i n=some j∧j<n∧-(n:Int)<=i∧i<n:=by
 unfold ixN at h
 by_cases h0:0<=i
 ·rw[if_pos h0] at h
  by_cases h1:i<n
  ·rw[if_pos h1] at h;have e:i.toNat=j:=Option.some.inj h;exact⟨by rw[seqIndex_of h0 h1,e],by omega,by omega,h1⟩
  ·rw[if_neg h1] at h; cases h
 ·rw[if_neg h0] at h
  by_cases h1:-(n:Int)<=i
  ·rw[if_pos h1] at h;have e:(i+n).toNat=j:=Option.some.inj h;exact⟨by rw[seqIndex_neg (by omega) h1,e],by omega,h1,by omega⟩
  ·rw[if_neg h1] at h; cases h
theorem vS {α:Type}{xs:List α}{i:Int}{v:α}(h:atI xs i=some v):∃ j,seqIndex? i xs.length=some j∧xs[j]?=some v∧j<xs.length∧-(xs.length:Int)<=i∧i<xs.length:=by
 unfold atI at h;cases e:ixN xs.length i with
 | none=>rw[e] at h; cases h
 | some j=>
  rw[e] at h;obtain⟨h1,h2,h3,h4⟩:=aIz e;exact⟨j,h1,h,h2,h3,h4⟩
theorem gR {α:Type}{xs:List α}{j:Nat}{v:α}(h:xs[j]?=some v):atI xs (j:Int)=some v:=by
 have hj:j<xs.length:=(List.getElem?_eq_some_iff.mp h).1
 have e:ixN xs.length (j:Int)=some j:=by
  unfold ixN;rw[if_pos (by omega),if_pos (by omega)]; simp
 unfold atI; rw[e]; exact h

def aJr (b:Expr):Prop:=∀ o i,subscripted b false o i=operate [o,i] (getItem o i)
def IxR (X:Cx) (r:R2):Prop:=
 ∀ (value slice:Expr) (pins:List (Addr×Obj)) (s:Shared) (σ:St) (H:Hp) (x y:V) (v u:Value) (Q:VK),Inv X pins σ H s->cE x v->cE y u->r x y H Q ->
  subscripted slice false v u=operate [v,u] (getItem v u)->wpAny (model X.prog X.w) X.A (subscriptTail value slice v u) (EP X pins σ Q) X.xe s
def MtR (X:Cx) (id:String) (r:V->List V->Hp->VK->Prop):Prop:=
 ∀ (pins:List (Addr×Obj)) (s:Shared) (σ:St) (H:Hp) (x:V) (xs:List V) (v:Value) (us:List Value) (Q:VK),Inv X pins σ H s->cE x v->bY xs us->r x xs H Q ->
  wpAny (model X.prog X.w) X.A (call (.builtin id) (v::us)) (EP X pins σ Q) X.xe s
section
variable {X:Cx}{a b:Expr}{ta tb:TE}{pos:Pos}
theorem dJ {r:R2}(hr:IxR X r) (ha:PE X a ta) (hb:PE X b tb) (hs:aJr b):PE X (.Subscript a b pos) (tOp r ta tb):=by
 intro pins s σ H Q I h;exact Subscript_ (aMj ha hb I h fun v u s2 x y H2 I2 rx ry q=>hr a b pins s2 σ H2 x y v u Q I2 rx ry q (hs _ _))

inductive wQ (K:PySem.W.Frag) (x:V) (y:V) (H:Hp) (Q:VK):Prop
 | mk (p:_) (xs:_) (i:_) (v:_) (h0_:x=.ref p) (h1_:y=.int i) (h2_:SqL K H p xs) (h3_:atI xs i=some v) (h4_:Q v H)
inductive aNj (K:PySem.W.Frag) (x:V) (y:V) (H:Hp) (Q:VK):Prop
 | mk (p:_) (xs:_) (i:_) (v:_) (h0_:x=.ref p) (h1_:y=.int i) (h2_:SqT K H p xs) (h3_:atI xs i=some v) (h4_:Q v H)
inductive aPz (x:V) (y:V) (H:Hp) (Q:VK):Prop
 | mk (z:_) (i:_) (c:_) (h0_:x=.str z) (h1_:y=.int i) (h2_:z.length<=sizeLine) (h3_:atI z.cps.toList i=some c) (h4_:Q (.str ⟨#[c]⟩) H)
theorem cS:IxR X (wQ X.K):=by
 intro value slice pins s σ H x y v u Q I rx ry h hs;obtain⟨p,xs,i,z,rfl,rfl,hq,he,q⟩:=h;cases rx;obtain⟨t,rfl⟩:=ry;obtain⟨its,r,pl,hz⟩:=I.list hq;obtain⟨j,h1,h2,h3,h4,h5⟩:=vS he;obtain⟨w,ew,rw'⟩:=r.get h2;have hl:=r.length;have hn:=pH;have fin:EP X pins σ Q w s:=⟨z,H,I,rw',q⟩
 by_cases h0:0<=i
 ·have hj:i.toNat=j:=by
   rw[seqIndex_of h0 h5] at h1;exact Option.some.inj h1
  exact item_listR pl.isList h0 (by omega) (by rw[hj]; simpa using ew) fin hs
 ·have hj:(i+(its.toArray.size:Int)).toNat=j:=by
   rw[seqIndex_neg (by omega) h4] at h1;rw[List.size_toArray,← hl];exact Option.some.inj h1
  exact subscriptTail_builtinR (x:=w) pl.isList.typeIs slot_list_getitem.lookup
   (wpAny_getItem_list_neg (Q:=fun r s'=>r=w∧EP X pins σ Q r s') pl.isList (by omega) (by rw[List.size_toArray] <;> omega) (by omega) (by rw[hj]; simpa using ew) ⟨rfl,fin⟩) hs
theorem zQ:IxR X (aNj X.K):=by
 intro value slice pins s σ H x y v u Q I rx ry h hs;obtain⟨p,xs,i,z,rfl,rfl,hq,he,q⟩:=h;cases rx;obtain⟨t,rfl⟩:=ry;obtain⟨its,r,pl,hz⟩:=I.tuple hq;obtain⟨j,h1,h2,h3,h4,h5⟩:=vS he;obtain⟨w,ew,rw'⟩:=r.get h2;have hl:=r.length;have hn:=pH;have fin:EP X pins σ Q w s:=⟨z,H,I,rw',q⟩
 exact subscriptTail_builtinR (x:=w) pl.typeIs slot_tuple_getitem.lookup
  (getItem_tuple (j:=j) (Q:=fun r s'=>r=w∧EP X pins σ Q r s') pl (by omega) (by omega) (by rw[List.size_toArray,← hl]; exact h1) (by simpa using ew) ⟨rfl,fin⟩) hs
theorem aMa:IxR X aPz:=by
 intro value slice pins s σ H x y v u Q I rx ry h hs;obtain⟨z,i,c,rfl,rfl,hz,he,q⟩:=h;obtain⟨t,rfl⟩:=rx;obtain⟨t',rfl⟩:=ry;obtain⟨j,h1,h2,h3,h4,h5⟩:=vS he;have hl:z.cps.toList.length=z.length:=by simp[Str.length]
 rw[hl] at h1 h4 h5;have hn:=pH
 exact tail_any (typeIs_str s z t) slot_str_getitem.lookup (getItem_str (c:=c) (by
  have e1:decide (i < -(2^63:Int))=false:=decide_eq_false (by omega);have e2:decide (i≥2^63)=false:=decide_eq_false (by omega);rw[e1,e2,Bool.or_false]) (by rw[h1]; simpa using h2) ⟨.str ⟨#[c]⟩,H,I.tok _,⟨_,rfl⟩,q⟩) hs


theorem vA (lo hi:Option Int) (n:Nat):(sliceBounds lo hi none n).1=((HT.sIx n 0 lo:Nat):Int)∧(sliceBounds lo hi none n).2.1=((HT.sIx n n hi:Nat):Int)∧(sliceBounds lo hi none n).2.2=1:=by
 refine⟨?_,?_,rfl⟩
 ·cases lo with
  | none=>simp[sliceBounds,HT.sIx]
  | some i=>
   simp only[sliceBounds,HT.sIx,Option.getD_none,show (1:Int)>0 by decide,if_true]
   by_cases h:i<0
   ·simp only[h,if_true] <;> omega
   ·simp only[h,if_false] <;> omega
 ·cases hi with
  | none=>simp[sliceBounds,HT.sIx]
  | some i=>
   simp only[sliceBounds,HT.sIx,Option.getD_none,show (1:Int)>0 by decide,if_true]
   by_cases h:i<0
   ·simp only[h,if_true] <;> omega
   ·simp only[h,if_false] <;> omega
theorem sP (its:List Value) (lo hi:Option Int):slicePick its.toArray lo hi none=((its.drop (HT.sIx its.length 0 lo)).take (HT.sIx its.length its.length hi-HT.sIx its.length 0 lo)).toArray:=by
 obtain⟨h1,h2,h3⟩:=vA lo hi its.toArray.size;unfold slicePick;rw[h1,h2,h3];simp only[sliceRange_one,pick_run,List.size_toArray] <;> rfl
inductive aPw (K:PySem.W.Frag) (x:V) (lo hi:Option Int) (H:Hp) (Q:VK):Prop
 | mk (a:Addr) (xs:List V) (h1:x=.ref a) (h2:SqL K H a xs) (q:∀ p,H p=none->Q (.ref p) (upd H p (.lst (jV xs lo hi))))
theorem qM:SlR X (aPw X.K):=by
 intro pins s σ H x v vl vu lo hi sl Q I rx hs pl pu h;obtain⟨a,xs,rfl,hx,q⟩:=h;cases rx;obtain⟨its,r,ht,hz⟩:=I.list hx;have hlen:=r.length;refine⟨"list",_,slot_list_getitem.lookup,ht.isList.typeIs,?_⟩;refine wpAny_getItem_list_slice ht.isList hs pl pu .none (by simp) ?_ (by rw[List.size_toArray] <;> omega)
 rw[sP,← hlen];refine⟨.ref s.heap.objs.size,_,I.laid (t':=s.toks) (o:=.lst (jV xs lo hi)) (fun b ob q=>Heap.get?_push_of_some _ q) (Nat.le_refl _) ?_,rfl,q _ (I.hok.fresh (Nat.le_refl _))⟩;exact⟨Nat.le_trans (yA xs lo hi) hz,_,0,(r.drop (HT.sIx xs.length 0 lo)).take (HT.sIx xs.length xs.length hi-HT.sIx xs.length 0 lo),Heap.get?_push_size _ rfl⟩

def nY:V->Bool
 | .non=>true
 | .bl _=>true
 | .int _=>true
 | .str _=>true
 | _=>false
def eqV:V->V->Bool
 | .non,.non=>true
 | .bl a,.bl b=>a==b
 | .bl a,.int b=>(if a then 1 else 0)==b
 | .int a,.bl b=>a==(if b then 1 else 0)
 | .int a,.int b=>a==b
 | .str a,.str b=>a==b
 | _,_=>false
theorem aMg {A:Around}{s:Shared}{y x:V}{u v:Value}(ry:cE y u) (rx:cE x v) (fy:nY y=true) (fx:nY x=true):SeqAt.EqAt A s u v (eqV y x):=by
 cases y with
 | non=>
  cases ry;cases x with
  | non=>cases rx; exact SeqAt.EqAt.same _
  | bl b=>cases rx; exact SeqAt.EqAt.none_bool b
  | int b=>obtain⟨t,rfl⟩:=rx; exact SeqAt.EqAt.none_int b t
  | str b=>obtain⟨t,rfl⟩:=rx; exact SeqAt.EqAt.none_str b t
  | _=>exact absurd (show false=true from fx) Bool.false_ne_true
 | bl a=>
  cases ry;cases x with
  | non=>cases rx; exact SeqAt.EqAt.bool_none a
  | bl b=>cases rx; exact SeqAt.EqAt.bool_bool a b
  | int b=>obtain⟨t,rfl⟩:=rx; exact SeqAt.EqAt.bool_int a b t
  | str b=>obtain⟨t,rfl⟩:=rx; exact SeqAt.EqAt.bool_str a b t
  | _=>exact absurd (show false=true from fx) Bool.false_ne_true
 | int a=>
  obtain⟨t',rfl⟩:=ry;cases x with
  | non=>cases rx; exact SeqAt.EqAt.int_none a t'
  | bl b=>cases rx; exact SeqAt.EqAt.int_bool a t' b
  | int b=>obtain⟨t,rfl⟩:=rx; exact SeqAt.EqAt.int_int a t' b t
  | str b=>obtain⟨t,rfl⟩:=rx; exact SeqAt.EqAt.int_str a t' b t
  | _=>exact absurd (show false=true from fx) Bool.false_ne_true
 | str a=>
  obtain⟨t',rfl⟩:=ry;cases x with
  | non=>cases rx; exact SeqAt.EqAt.str_none a t'
  | bl b=>cases rx; exact SeqAt.EqAt.str_bool a t' b
  | int b=>obtain⟨t,rfl⟩:=rx; exact SeqAt.EqAt.str_int a t' b t
  | str b=>obtain⟨t,rfl⟩:=rx; exact SeqAt.EqAt.str_str a t' b t
  | _=>exact absurd (show false=true from fx) Bool.false_ne_true
 | _=>exact absurd (show false=true from fy) Bool.false_ne_true
def eqU (x:V) (u:Value):Bool:=match u with
 | .none=>eqV .non x
 | .bool b=>eqV (.bl b) x
 | .int i _=>eqV (.int i) x
 | .str z _=>eqV (.str z) x
 | _=>false
theorem aGk {x y:V}{u:Value}(r:cE y u) (f:nY y=true):eqU x u=eqV y x:=by
 cases y with
 | non=>cases r; rfl
 | bl b=>cases r; rfl
 | int i=>obtain⟨t,rfl⟩:=r; rfl
 | str z=>obtain⟨t,rfl⟩:=r; rfl
 | _=>exact absurd (show false=true from f) Bool.false_ne_true
theorem vT {x:V}:∀ {xs:List V}{us:List Value},bY xs us->xs.all nY=true->us.any (eqU x)=xs.any fun y=>eqV y x
 | _,_,.nil,_=>rfl
 | y::xs,u::us,.cons r t,f=>by
  rw[List.all_cons,Bool.and_eq_true] at f;rw[List.any_cons,List.any_cons,aGk r f.1,vT t f.2]
theorem rQ {A:Around}{s:Shared}{x:V}{v:Value}(rx:cE x v) (fx:nY x=true):∀ {xs:List V}{us:List Value},bY xs us->xs.all nY=true->∀ u∈us,SeqAt.EqAt A s u v (eqU x u)
 | _,_,.nil,_=>fun u hu=>by cases hu
 | y::xs,u::us,.cons r t,f=>fun u' hu=>by
  rw[List.all_cons,Bool.and_eq_true] at f;rcases List.mem_cons.mp hu with rfl | hu
  ·rw[aGk r f.1]; exact aMg r rx f.1 fx
  ·exact rQ rx fx t f.2 u' hu
def inV (x:V) (xs:List V):Bool:=xs.any fun y=>eqV y x
inductive rIn (K:PySem.W.Frag) (neg:Bool) (x:V) (y:V) (H:Hp) (Q:VK):Prop
 | mk (p:_) (xs:_) (h0_:y=.ref p) (h1_:(SqL K H p xs∨SqT K H p xs)) (h2_:nY x=true) (h3_:xs.all nY=true) (h4_:Q (.bl (if neg then !inV x xs else inV x xs)) H)
theorem uA:OpR X (compareOp .In) (rIn X.K false):=by
 intro pins s σ H x y v u Q I rx ry h;obtain⟨p,xs,rfl,hq,fx,fs,q⟩:=h;cases ry;rcases hq with hq | hq
 ·obtain⟨its,r,pl,hz⟩:=I.list hq;refine SeqAt.in_listAt (eqU x) pl.isList (fun w hw=>rQ rx fx r fs w (by simpa using hw)) ⟨.bl _,H,I,rfl,?_⟩;rw[show its.toArray.any (eqU x)=its.any (eqU x) by simp,vT r fs];exact q
 ·obtain⟨its,r,pl,hz⟩:=I.tuple hq;refine SeqAt.in_tupleAt (eqU x) pl (fun w hw=>rQ rx fx r fs w (by simpa using hw)) ⟨.bl _,H,I,rfl,?_⟩;rw[show its.toArray.any (eqU x)=its.any (eqU x) by simp,vT r fs];exact q

inductive aMm (K:PySem.W.Frag) (xs:List V) (H:Hp) (Q:VK):Prop
 | mk (p:_) (ys:_) (h0_:xs=[.ref p]) (h1_:(SqL K H p ys∨SqT K H p ys)) (h2_:Q (.int ys.length) H)
theorem cK:CallR X (.builtin "len") (aMm X.K):=by
 intro pins s σ H xs us Q I r h;obtain⟨p,ys,rfl,hq,q⟩:=h;obtain⟨u,rfl,rx⟩:=iO r;cases rx;have hn:=pH;rcases hq with hq | hq
 ·obtain⟨its,r',pl,hz⟩:=I.list hq;have hlen:=r'.length;exact Calls.call_len_list pl.isList (by simp only[List.size_toArray] <;> omega) ⟨.int ys.length,H,I.tok _,⟨s.toks+1,by rw[List.size_toArray,hlen]⟩,q⟩
 ·obtain⟨its,r',pl,hz⟩:=I.tuple hq;have hlen:=r'.length;exact len_tuple pl (by simp only[List.size_toArray] <;> omega) ⟨.int ys.length,H,I.tok _,⟨s.toks+1,by rw[List.size_toArray,hlen]⟩,q⟩
theorem vQ:CallR X (.builtin "len") (fun xs H Q=>∃ z,xs=[.str z]∧z.length<=sizeLine∧Q (.int z.length) H):=by
 intro pins s σ H xs us Q I r h;obtain⟨z,rfl,hz,q⟩:=h;obtain⟨u,rfl,t,rfl⟩:=iO r;have hn:=pH;exact len_str (by omega) ⟨.int z.length,H,I.tok _,⟨_,rfl⟩,q⟩
inductive aMl (K:PySem.W.Frag) (xs:List V) (H:Hp) (Q:VK):Prop
 | mk (p:_) (ys:_) (h0_:xs=[.ref p]) (h1_:(SqL K H p ys∨SqT K H p ys)) (h2_:∀ l,H l=none->Q (.ref l) (upd H l (.lst ys)))
theorem oF:CallR X (.type "list") (aMl X.K):=by
 intro pins s σ H xs us Q I r h;obtain⟨p,ys,rfl,hq,q⟩:=h;obtain⟨u,rfl,rx⟩:=iO r;cases rx
 have fin:∀ (its:List Value),bY ys its->ys.length<=sizeLine->∀ (h':Heap) (c':Nat),(∀ b o',s.heap.get? b=some o'->h'.get? b=some o') ->
   h'.get? s.heap.objs.size=some { cls:=.type "list",dict:=none,data:=.seq its.toArray c',slots:=#[] }->EP X pins σ Q (.ref s.heap.objs.size) { s with heap:=h' }:=fun its r' hz h' c' kp e=>
  ⟨.ref s.heap.objs.size,_,I.laid (t':=s.toks) kp (Nat.le_refl _) (show dE X.prog X.w _ h' _ (.lst ys) from ⟨hz,its,c',r',e⟩),rfl,q _ (I.hok.fresh (Nat.le_refl _))⟩
 rcases hq with hq | hq
 ·obtain⟨its,r',pl,hz⟩:=I.list hq;have hlen:=r'.length;obtain⟨o,ho,hc,n,hd⟩:=pl.isList;exact call_list_seq p (.inl rfl) ho hc hd (fun h' c' kp e=>fin its r' hz h' c' kp e) (by simp only[List.size_toArray] <;> omega)
 ·obtain⟨its,r',pl,hz⟩:=I.tuple hq;have hlen:=r'.length;obtain⟨o,ho,hc,n,hd⟩:=pl;exact call_list_seq p (.inr rfl) ho hc hd (fun h' c' kp e=>fin its r' hz h' c' kp e) (by simp only[List.size_toArray] <;> omega)
theorem gQ:CallR X (.type "tuple") (fun xs H Q=>∃ p ys,xs=[.ref p]∧((SqL X.K H p ys∧∀ l,H l=none->Q (.ref l) (upd H l (.tup ys)))∨(SqT X.K H p ys∧Q (.ref p) H))):=by
 intro pins s σ H xs us Q I r h;obtain⟨p,ys,rfl,h⟩:=h;obtain⟨u,rfl,rx⟩:=iO r;cases rx;rcases h with⟨hq,q⟩ | ⟨hq,q⟩
 ·obtain⟨its,r',pl,hz⟩:=I.list hq;have hlen:=r'.length;refine call_tuple_list pl.isList (fun h' kp=>?_) (by simp only[List.size_toArray] <;> omega)
  have I1:Inv X pins σ H { s with heap:=h' }:=I.kept (t':=s.toks) kp
  have I2:Inv X pins σ (upd H h'.objs.size (.tup ys)) { s with heap:=h'.push { cls:=.type "tuple",data:=.seq its.toArray } }:=
   I1.laid (t':=s.toks) (fun b o e=>Heap.get?_push_of_some _ e) (Nat.le_refl _) (show dE X.prog X.w _ _ _ (.tup ys) from ⟨hz,its,r',IsTup.new _ _⟩)
  exact⟨.ref h'.objs.size,_,I2,rfl,q _ (I1.hok.fresh (Nat.le_refl _))⟩
 ·obtain⟨its,r',pl,hz⟩:=I.tuple hq;exact call_tuple_same pl ⟨.ref p,H,I,rfl,q⟩

def tyV (K:PySem.W.Frag) (T:String) (x:V) (H:Hp):Prop:=match x with
 | .str _=>T="str"
 | .int _=>T="int"
 | .ref p=>(T="list" ∧ ∃ xs,SqL K H p xs)∨(T="tuple" ∧ ∃ o,K.lookup p=some o∧o.cls=.type "tuple" ∧ o.dict=none) ∨
   (T="dict" ∧ ((∃ kvs,H p=some (.dK kvs))∨∃ kvs,H p=some (.dT kvs)))∨(T="set" ∧ ∃ S n,H p=some (.set S n))
 | _=>False
theorem aEc {pins:List (Addr×Obj)}{σ:St}{H:Hp}{s:Shared}{T:String}{x:V}{v:Value}(I:Inv X pins σ H s) (r:cE x v) (ty:tyV X.K T x H) :
  s.TypeIs v T∧∀ a,v=.ref a->∃ ob,s.heap.get? a=some ob∧ob.dict=none:=by
 cases x with
 | str z=>
  obtain⟨t,rfl⟩:=r;cases (show T="str" from ty)
  exact⟨typeIs_str s z t,fun _ e=>nomatch e⟩
 | int i=>
  obtain⟨t,rfl⟩:=r;cases (show T="int" from ty)
  exact⟨typeIs_int s i t,fun _ e=>nomatch e⟩
 | ref p=>
  cases r;rcases ty with⟨rfl,xs,hq⟩ | ⟨rfl,o,hk,hc,hd⟩ | ⟨rfl,hk⟩ | ⟨rfl,S,n,hk⟩
  ·obtain⟨its,_,pl,_⟩:=I.list hq;refine⟨pl.isList.typeIs,fun a e=>?_⟩;cases e;obtain⟨o,n,e,c,hd,_⟩:=pl;exact⟨o,e,hd⟩
  ·refine⟨⟨o,I.kIn p o hk,hc⟩,fun a e=>?_⟩;cases e;exact⟨o,I.kIn _ o hk,hd⟩
  ·have z:∃ o,s.heap.get? p=some o∧o.ExactDict:=by
    rcases hk with⟨kvs,hk⟩ | ⟨kvs,hk⟩
    ·obtain⟨_,_,_,_,o,_,_,e,ex,_⟩:=I.hok p _ hk;exact⟨o,e,ex⟩
    ·obtain⟨_,_,_,_,o,_,_,e,ex,_⟩:=I.hok p _ hk;exact⟨o,e,ex⟩
   obtain⟨o,e,ex⟩:=z;refine⟨⟨o,e,ex.1⟩,fun a e2=>?_⟩;cases e2;exact⟨o,e,ex.2.1⟩
  ·obtain⟨o,_,_,_,e,ex,_⟩:=I.hok p _ hk;refine⟨⟨o,e,ex.1⟩,fun a e2=>?_⟩;cases e2;exact⟨o,e,ex.2.1⟩
 | _=>exact False.elim ty
def aPc (K:PySem.W.Frag) (T:String) (r:V->List V->Hp->VK->Prop) (to:TE):TE:=fun σ H Q=>to σ H fun x H1=>tyV K T x H1∧r x [] H1 Q
def tBM (K:PySem.W.Frag) (T:String) (r:V->List V->Hp->VK->Prop) (to:TE) (t:TA):TE:=fun σ H Q=>to σ H fun x H1=>tyV K T x H1∧t σ H1 fun xs H2=>r x xs H2 Q
variable {o e:Expr}{es:List Expr}{to:TE}{t:TA}{name:Str}{apos cpos:Pos}{T id:String}{r:V->List V->Hp->VK->Prop}
theorem aFd (pa:PlainAttrs T) (slot:Slot T name id) (hty:typeOf (.builtin id)=pure (.type "method_descriptor")) (hm:MtR X id r) (ho:PE X o to)
  (hbase:attributeBase o name X.env (eval o X.env)=eval o X.env:=by rfl) (hline:(apos.endLine==cpos.line)=true:=by rfl):PE X (.Call (.Attribute o name apos) [] [] cpos) (aPc X.K T r to):=by
 intro pins s σ H Q I h;refine wpAny_Call_method0_late hbase hline (thn (ho pins s σ H _ I h) fun v s1 ⟨x,H1,I1,r1,ty,q1⟩=>?_);obtain⟨h1,h2⟩:=aEc I1 r1 ty;exact⟨T,id,pa,slot,hty,h1,h2,Calls.callWith_builtin rfl (PySem.evalArgs_none (hm pins s1 σ H1 x [] v [] Q I1 r1 .nil q1))⟩
theorem kX (pa:PlainAttrs T) (slot:Slot T name id) (hty:typeOf (.builtin id)=pure (.type "method_descriptor")) (hm:MtR X id r) (ho:PE X o to) (ha:PA X (e::es) t)
  (hbase:attributeBase o name X.env (eval o X.env)=eval o X.env:=by rfl)
  (hfew:((backTo cpos (starEach (e::es) X.env)).all (fun x=>!x.1)&&(backToKw cpos (keywordEach [] X.env)).all (fun x=>x.1.isSome)
   && decide ((e::es).length+([]:List Keyword).length+(if ([]:List Keyword).isEmpty then 0 else 1)<30))=true:=by rfl)
  (hline:(apos.endLine==cpos.line)=true:=by rfl) (hs:starEach (e::es) X.env=(false,eval e X.env)::starEach es X.env:=by rfl) (hplain:(backTo cpos (starEach es X.env)).any (·.1)=false:=by rfl) :
  PE X (.Call (.Attribute o name apos) (e::es) [] cpos) (tBM X.K T r to t):=by
 intro pins s σ H Q I h;refine wpAny_Call_method_late hbase hfew hline rfl (thn (ho pins s σ H _ I h) fun v s1 ⟨x,H1,I1,r1,ty,q1⟩=>?_);obtain⟨h1,h2⟩:=aEc I1 r1 ty;refine⟨T,id,pa,slot,hty,h1,h2,?_⟩;have hA:=ha cpos pins s1 σ H1 _ I1 q1;rw[hs] at hA ⊢;refine Calls.callWith_builtin (by show (false||(backTo cpos (starEach es X.env)).any (·.1))=false; rw[hplain] <;> rfl) (Calls.evalArgs_plain ?_)
 exact thn hA fun us s2 ⟨vs,H2,I2,r2,q2⟩=>hm pins s2 σ H2 x vs v us Q I2 r1 r2 q2
/- xs.append(e),list.index on a module's tuple .. are MtR facts of 06m -/
end
end L2

namespace L2
open PySem PySem.Spec PyProof.Rows

def MtM (X:Cx) (id:String) (r:V->List V->Hp->VK->Prop):Prop:=
 ∀ (pins:List (Addr×Obj)) (s:Shared) (σ:St) (H:Hp) (x:V) (xs:List V) (v:Value) (us:List Value) (Q:VK),Inv X pins σ H s->cE x v->bY xs us->r x xs H Q ->
  wpAny (model X.prog X.w) X.A (call (.builtin id) (v::us)) (EP X pins σ Q) X.xe s

theorem bY.one:∀ {x:V}{us:List Value},bY [x] us->∃ u,us=[u]∧cE x u
 | _,_,.cons r .nil=>⟨_,rfl,r⟩
theorem bY.zero:∀ {us:List Value},bY [] us->us=[]
 | _,.nil=>rfl
theorem bY.reverse {xs:List V}{us:List Value}(h:bY xs us):bY xs.reverse us.reverse:=by
 induction h with
 | nil=>exact .nil
 | cons r t ih=>rw[List.reverse_cons,List.reverse_cons]; exact bY.append ih (.cons r .nil)
theorem bY.rep {xs:List V}{us:List Value}(h:bY xs us):∀ k:Nat,bY (List.replicate k xs).flatten (List.replicate k us).flatten
 | 0=>.nil
 | k+1=>by
  rw[List.replicate_succ,List.replicate_succ,List.flatten_cons,List.flatten_cons];exact bY.append h (bY.rep h k)
theorem uJ (its:List Value):∀ (k:Nat) (acc:List Value),
  List.foldl (fun x1 x2=>x1++x2) acc.toArray (List.replicate k its.toArray)=(acc++(List.replicate k its).flatten).toArray
 | 0,acc=>by simp
 | k+1,acc=>by
  have e:acc.toArray++its.toArray=(acc++its).toArray:=by simp
  have e2:(acc++its)++(List.replicate k its).flatten=acc++(List.replicate (k+1) its).flatten:=by
   rw[List.replicate_succ,List.flatten_cons,List.append_assoc]
  rw[← e2,← uJ its k (acc++its),← e,List.replicate_succ,List.foldl_cons]

section
variable {X:Cx}{pins:List (Addr×Obj)}{σ:St}{H:Hp}{s:Shared}{l b:Addr}{xs ys zs:List V}

theorem Inv.lset {its its':List Value}{n:Nat}{f:Array Value->Array Value}{t':Nat}(I:Inv X pins σ H s) (hH:H l=some (.lst xs))
  (e:s.heap.get? l=some { cls:=.type "list",data:=.seq its.toArray n }) (hf:f its.toArray=its'.toArray) (hv:bY ys its') (hz:ys.length<=sizeLine) :
  Inv X pins σ (upd H l (.lst ys)) { s with heap:=s.heap.update l (Obj.mapSeq f),toks:=t' }:=by
 have q:=PySem.IsL.update e f;rw[hf] at q;refine I.write (x:=l) (e:=l) (by rw[hH]; exact trivial) (.inl rfl) (fun b' u hb hu=>(Heap.get?_update_other s.heap (Obj.mapSeq f) (Ne.symm hb)).trans hu) ⟨_,q⟩ ?_;exact⟨hz,its',_,hv,q⟩
theorem Inv.lnew {its:List Value}{t':Nat}(I:Inv X pins σ H s) (hv:bY ys its) (hz:ys.length<=sizeLine) :
  Inv X pins σ (upd H s.heap.objs.size (.lst ys)) { s with heap:=s.heap.push { cls:=.type "list",data:=.seq its.toArray },toks:=t' }:=
 I.laid (fun _ _ q=>Heap.get?_push_of_some _ q) (Nat.le_refl _) ⟨hz,its,0,hv,Heap.get?_push_size _ rfl⟩
theorem Inv.fresh (I:Inv X pins σ H s):H s.heap.objs.size=none:=I.hok.fresh (Nat.le_refl _)
theorem Inv.lstM (I:Inv X pins σ H s) (hH:H l=some (.lst xs)):xs.length<=sizeLine∧∃ (its:List Value) (n:Nat),bY xs its∧xs.length=its.length∧s.heap.get? l=some { cls:=.type "list",data:=.seq its.toArray n }:=by
 obtain⟨z,its,n,r,e⟩:=I.hok l _ hH;exact⟨z,its,n,r,r.length,e⟩

theorem xE {n:Nat}(h:n<=sizeLine):Builtin.List.listTooLong n=false:=by
 unfold Builtin.List.listTooLong;exact decide_eq_false (by omega)
end

section
variable {X:Cx}

def aIa:V->List V->Hp->VK->Prop:=fun x vs H Q=>∃ l xs y,x=.ref l∧vs=[y]∧H l=some (.lst xs)∧xs.length<sizeLine∧Q .non (upd H l (.lst (xs++[y])))
theorem eO:MtM X "list.append" aIa:=by
 intro pins s σ H x vs v us Q I rx rv h;obtain⟨l,xs,y,rfl,rfl,hH,hz,q⟩:=h;cases rx;obtain⟨u,rfl,ru⟩:=rv.one;obtain⟨z,its,n,r,hl,e⟩:=I.lstM hH;refine call_meets F.slot_list_append ⟨_,e,rfl⟩ F.entry_list_append (F.args_list_append_2 _ _) (PySem.list_append l its.toArray n u (by rw[List.size_toArray]; omega)) ⟨e,?_⟩;refine⟨.non,_,I.lset (its':=its++[u]) hH e (by simp) (r.append (.cons ru .nil)) ?_,rfl,q⟩;rw[List.length_append,List.length_singleton];omega

def aHy:V->List V->Hp->VK->Prop:=fun x vs H Q=>∃ l b xs zs,x=.ref l∧vs=[.ref b]∧H l=some (.lst xs)∧H b=some (.lst zs)∧xs.length+zs.length<=sizeLine∧Q .non (upd H l (.lst (xs++zs)))
theorem pA:MtM X "list.extend" aHy:=by
 intro pins s σ H x vs v us Q I rx rv h;obtain⟨l,b,xs,zs,rfl,rfl,hH,hB,hz,q⟩:=h;cases rx;obtain⟨u,rfl,ru⟩:=rv.one;cases ru;obtain⟨z,its,n,r,hl,e⟩:=I.lstM hH;obtain⟨z2,its2,n2,r2,hl2,e2⟩:=I.lstM hB;have hsz:its.toArray.size+its2.toArray.size<=sizeLine:=by rw[List.size_toArray,List.size_toArray]; omega
 have hlong:¬ (!its.toArray.isEmpty&&Builtin.List.listTooLong (its.toArray.size+its2.toArray.size))=true:=by
  rw[xE hsz,Bool.and_false];exact Bool.false_ne_true
 refine call_meets F.slot_list_extend ⟨_,e,rfl⟩ F.entry_list_extend (F.args_list_extend_2 _ _)
  (AutoSeq1.list_extend_list_list_0 l its.toArray n b its2.toArray n2 hlong (by rw[List.size_toArray]; omega) (by omega)) ⟨e,e2,?_⟩
 refine⟨.non,_,I.lset (its':=its++its2) hH e (by simp) (r.append r2) ?_,rfl,q⟩;rw[List.length_append];omega



def aEv:V->List V->Hp->VK->Prop:=fun x vs H Q=>∃ l xs,x=.ref l∧vs=[]∧H l=some (.lst xs)∧Q .non (upd H l (.lst xs.reverse))
theorem zL:MtM X "list.reverse" aEv:=by
 intro pins s σ H x vs v us Q I rx rv h;obtain⟨l,xs,rfl,rfl,hH,q⟩:=h;cases rx;have hus:=rv.zero;subst hus;obtain⟨z,its,n,r,hl,e⟩:=I.lstM hH;refine call_meets F.slot_list_reverse ⟨_,e,rfl⟩ F.entry_list_reverse (F.args_list_reverse_1 _) (AutoSeq1.list_reverse_list_0 l its.toArray n (by rw[List.size_toArray]; omega)) ⟨e,?_⟩;refine⟨.non,_,I.lset (its':=its.reverse) hH e (by simp) r.reverse ?_,rfl,q⟩;rw[List.length_reverse];omega

def aLc:V->List V->Hp->VK->Prop:=fun x vs H Q=>∃ l xs,x=.ref l∧vs=[]∧H l=some (.lst xs)∧Q .non (upd H l (.lst []))
theorem aFw:MtM X "list.clear" aLc:=by
 intro pins s σ H x vs v us Q I rx rv h;obtain⟨l,xs,rfl,rfl,hH,q⟩:=h;cases rx;have hus:=rv.zero;subst hus;obtain⟨z,its,n,r,hl,e⟩:=I.lstM hH;refine call_meets F.slot_list_clear ⟨_,e,rfl⟩ F.entry_list_clear (F.args_list_clear_1 _) (AutoSeq1.list_clear_list_0 l its.toArray n (by rw[List.size_toArray]; omega)) ⟨e,?_⟩;exact⟨.non,_,I.lset (its':=[]) (ys:=[]) hH e rfl .nil (Nat.zero_le _),rfl,q⟩

inductive aHz (x:V) (y:V) (H:Hp) (Q:VK):Prop
 | mk (l:_) (b:_) (xs:_) (zs:_) (h0_:x=.ref l) (h1_:y=.ref b) (h2_:H l=some (.lst xs)) (h3_:H b=some (.lst zs)) (h4_:xs.length+zs.length<=sizeLine) (h5_:∀ p,H p=none->Q (.ref p) (upd H p (.lst (xs++zs))))
theorem eC:OpR X (binaryOp .Add) aHz:=by
 intro pins s σ H x y v u Q I rx ry h;obtain⟨l,b,xs,zs,rfl,rfl,hH,hB,hz,q⟩:=h;cases rx;cases ry;obtain⟨z,its,n,r,hl,e⟩:=I.lstM hH;obtain⟨z2,its2,n2,r2,hl2,e2⟩:=I.lstM hB;refine PySem.P.add_list e e2 ?_ (by rw[List.size_toArray,List.size_toArray]; omega);have ea:its.toArray++its2.toArray=(its++its2).toArray:=by simp
 rw[ea];exact⟨.ref _,_,I.lnew (t':=s.toks) (r.append r2) (by rw[List.length_append]; omega),rfl,q _ I.fresh⟩
inductive aPx (x:V) (y:V) (H:Hp) (Q:VK):Prop
 | mk (l:_) (k:_) (xs:_) (h0_:x=.ref l) (h1_:y=.int k) (h2_:H l=some (.lst xs)) (h3_:-(2^63)<=k) (h4_:k<2^63) (h5_:xs.length*k.toNat<=sizeLine) (h6_:∀ p,H p=none->Q (.ref p) (upd H p (.lst (List.replicate k.toNat xs).flatten)))
theorem aIw {α:Type}(xs:List α) (k:Nat):(List.replicate k xs).flatten.length=k*xs.length:=by
 induction k with
 | zero=>simp
 | succ k ih=>rw[List.replicate_succ,List.flatten_cons,List.length_append,ih,Nat.succ_mul,Nat.add_comm]
theorem zA:OpR X (binaryOp .Mult) aPx:=by
 intro pins s σ H x y v u Q I rx ry h;obtain⟨l,k,xs,rfl,rfl,hH,h1,h2,hz,q⟩:=h;cases rx;obtain⟨t,rfl⟩:=ry;obtain⟨z,its,n,r,hl,e⟩:=I.lstM hH;have hlen:its.toArray.size*k.toNat<=sizeLine:=by rw[List.size_toArray,← hl]; exact hz
 have hcap:¬ its.toArray.size*k.toNat>(2^63-1)/8:=by
  have:(sizeLine:Nat)<=(2^63-1)/8:=by decide
  omega
 have hfit:¬ (!Builtin.List.listFitsIndex k)=true:=by
  rw[fitsIndex_both h1 h2];exact Bool.false_ne_true
 have hlong:¬ Builtin.List.listTooLong (its.toArray.size*k.toNat)=true:=by
  rw[xE hlen];exact Bool.false_ne_true
 have hnew:List.foldl (fun x1 x2=>x1++x2) #[] (List.replicate (if its.toArray.isEmpty=true then 0 else k.toNat) its.toArray)=(List.replicate k.toNat its).flatten.toArray:=by
  have f0:∀ m:Nat,List.foldl (fun x1 x2=>x1++x2) #[] (List.replicate m its.toArray)=(List.replicate m its).flatten.toArray:=fun m=>by
   have:=uJ its m []
   rw[List.nil_append] at this;exact this
  rw[f0];cases its with
  | nil=>simp
  | cons a r'=>rw[if_neg (by simp)]
 refine wpAny_binaryOp_repeat_ref (T:="list") (U:="int") (by decide) ⟨_,e,rfl⟩ (fun s'=>typeIs_int s' k t) noFill_list_mul F.fills_int_mul F.slot_int_rmul repeat_list F.slot_int_index.lookup
  (call_meets F.slot_int_rmul (typeIs_int s k t) F.entry_int_rmul (F.args_int_rmul_2 _ _) (int___rmul___int_list k t l its.toArray n)
   ⟨e,rfl,⟨_,e,rfl⟩,call_meets F.slot_list_mul ⟨_,e,rfl⟩ F.entry_list_mul (F.args_list_mul_2 _ _) (AutoListH.list___mul___list_int_3 l its.toArray n k t hfit hcap hlong) ⟨e,?_⟩⟩)
 rw[hnew];exact⟨.ref _,_,I.lnew (t':=s.toks) (r.rep k.toNat) (by rw[aIw,Nat.mul_comm]; exact hz),rfl,q _ I.fresh⟩

end

section
variable {prog:Program}{w:World}{A:Around}{E:Value->Shared->Prop}{s:Shared}
set_option maxRecDepth 100000 in
end

section
variable {X:Cx}
end
end L2

namespace L2
open PySem PySem.Spec PyProof.Rows

section
variable {κ:Type} [DecidableEq κ]
def dF (kvs:List (κ×V)) (k:κ):Option V:=(kvs.find? fun kv=>decide (kv.1=k)).map (·.2)
def eB (kvs:List (κ×V)) (k:κ) (v:V):List (κ×V):=
 if (kvs.any fun kv=>decide (kv.1=k))=true then kvs.map (fun kv=>if kv.1=k then (kv.1,v) else kv) else kvs++[(k,v)]

theorem dY {p:κ×V}{r:List (κ×V)}{k:κ}(e:p.1=k):dF (p::r) k=some p.2:=by simp[dF,List.find?_cons,e]
theorem eI {p:κ×V}{r:List (κ×V)}{k:κ}(e:¬ p.1=k):dF (p::r) k=dF r k:=by simp[dF,List.find?_cons,e]
theorem fX (k:κ):∀ kvs:List (κ×V),(kvs.any fun kv=>decide (kv.1=k))=(dF kvs k).isSome
 | []=>rfl
 | p::r=>by
  rw[List.any_cons]
  by_cases e:p.1=k
  ·simp only[dY e,decide_eq_true e,Bool.true_or,Option.isSome_some]
  ·rw[eI e,decide_eq_false e,Bool.false_or]; exact fX k r
theorem vW (k j:κ) (y:V):∀ kvs:List (κ×V),dF (kvs.map fun kv=>if kv.1=k then (kv.1,y) else kv) j=(dF kvs j).map fun x=>if j=k then y else x
 | []=>rfl
 | p::r=>by
  have ih:=vW k j y r;rw[List.map_cons]
  by_cases h:p.1=k
  ·rw[if_pos h]
   by_cases e:p.1=j
   ·rw[dY (p:=(p.1,y)) e,dY e,Option.map_some,if_pos (e.symm.trans h)]
   ·rw[eI (p:=(p.1,y)) e,eI e,ih]
  ·rw[if_neg h]
   by_cases e:p.1=j
   ·rw[dY (p:=p) e,dY e,Option.map_some,if_neg (fun z=>h (e.trans z))]
   ·rw[eI (p:=p) e,eI e,ih]
theorem tE (k j:κ) (y:V):∀ kvs:List (κ×V),dF kvs k=none->dF (kvs++[(k,y)]) j=if j=k then some y else dF kvs j
 | [],_=>by
  by_cases e:k=j
  ·rw[if_pos e.symm]; exact dY (p:=(k,y)) e
  ·rw[if_neg (fun z=>e z.symm)]; exact eI (p:=(k,y)) e
 | p::r,hn=>by
  rw[List.cons_append];have hk:¬ p.1=k:=fun z=>by rw[dY z] at hn; cases hn
  rw[eI hk] at hn;have ih:=tE k j y r hn
  by_cases e:p.1=j
  ·rw[dY e,dY e,if_neg (fun z=>hk (e.trans z))]
  ·rw[eI e,eI e,ih]
theorem jZ (kvs:List (κ×V)) (k j:κ) (y:V):dF (eB kvs k y) j=if j=k then some y else dF kvs j:=by
 unfold eB
 by_cases a:(kvs.any fun kv=>decide (kv.1=k))=true
 ·rw[if_pos a,vW];rw[fX] at a
  by_cases e:j=k
  ·obtain⟨x,hx⟩:=Option.isSome_iff_exists.mp a;rw[if_pos e,e,hx,Option.map_some,if_pos rfl]
  ·rw[if_neg e];cases dF kvs j with
   | none=>rfl
   | some x=>rw[Option.map_some,if_neg e]
 ·rw[if_neg a];refine tE k j y kvs ?_;rw[fX] at a;cases q:dF kvs k with
  | none=>rfl
  | some x=>rw[q] at a; exact (a rfl).elim
theorem dP (kvs:List (κ×V)) (k:κ) (v:V):(eB kvs k v).length<=kvs.length+1:=by
 unfold eB;split
 ·rw[List.length_map]; omega
 ·rw[List.length_append,List.length_cons,List.length_nil]; omega
theorem aEw {kvs:List (κ×V)}{k:κ}(v:V) (h:dF kvs k=none):eB kvs k v=kvs++[(k,v)]:=by
 unfold eB;rw[fX,h];exact if_neg (by decide)

theorem jX.isSome_eq {o:Option V}{u:Option Value}(r:jX o u):o.isSome=u.isSome:=by
 cases o with
 | none=>cases u with
  | none=>rfl
  | some _=>exact (show False from r).elim
 | some _=>cases u with
  | none=>exact (show False from r).elim
  | some _=>rfl
theorem jX.getD {o:Option V}{u:Option Value}{d:V}{d':Value}(r:jX o u) (rd:cE d d'):cE (o.getD d) (u.getD d'):=by
 cases o with
 | none=>cases u with
  | none=>exact rd
  | some _=>exact (show False from r).elim
 | some _=>cases u with
  | none=>exact (show False from r).elim
  | some _=>exact r

theorem KV.val {kvs:List (κ×V)}{vs:List (κ×Value)}(r:KV kvs vs) (k:κ):jX (dF kvs k) (valueAt vs k):=by
 unfold KV at r
 induction r with
 | nil=>exact True.intro
 | @cons p q ps qs h t ih=>
  obtain⟨h1,h2⟩:=h
  by_cases e:p.1=k
  ·have e':q.1=k:=h1.symm.trans e;have b:valueAt (q::qs) k=some q.2:=by simp[valueAt,List.find?_cons,e']
   rw[dY e,b]; exact h2
  ·have e':¬ q.1=k:=fun z=>e (h1.trans z);have b:valueAt (q::qs) k=valueAt qs k:=by simp[valueAt,List.find?_cons,e']
   rw[eI e,b]; exact ih
theorem KV.any {kvs:List (κ×V)}{vs:List (κ×Value)}(r:KV kvs vs) (k:κ):(kvs.any fun kv=>decide (kv.1=k))=vs.any fun kv=>decide (kv.1=k):=by
 unfold KV at r
 induction r with
 | nil=>rfl
 | cons h t ih=>rw[List.any_cons,List.any_cons,ih,h.1]
theorem KV.repl {kvs:List (κ×V)}{vs:List (κ×Value)}(r:KV kvs vs) (k:κ){y:V}{u:Value}(ry:cE y u) :
  KV (kvs.map fun kv=>if kv.1=k then (kv.1,y) else kv) (vs.map fun kv=>if kv.1=k then (kv.1,u) else kv):=by
 unfold KV at r ⊢
 induction r with
 | nil=>exact .nil
 | @cons p q ps qs h t ih=>
  rw[List.map_cons,List.map_cons];refine .cons ?_ ih;obtain⟨h1,h2⟩:=h
  by_cases e:p.1=k
  ·rw[if_pos e,if_pos (h1.symm.trans e)]; exact⟨h1,ry⟩
  ·rw[if_neg e,if_neg (fun z=>e (h1.trans z))]; exact⟨h1,h2⟩
theorem KV.put {kvs:List (κ×V)}{vs:List (κ×Value)}(r:KV kvs vs) (k:κ){y:V}{u:Value}(ry:cE y u):KV (eB kvs k y) (stored vs k u):=by
 unfold eB stored;rw[r.any k]
 by_cases e:(vs.any fun kv=>decide (kv.1=k))=true
 ·rw[if_pos e,if_pos e]; exact r.repl k ry
 ·rw[if_neg e,if_neg e]; exact Paired.snoc r ⟨rfl,ry⟩
theorem KV.length {kvs:List (κ×V)}{vs:List (κ×Value)}(r:KV kvs vs):kvs.length=vs.length:=Paired.length r
end


theorem rR {P:Program}{w:World}{k:Key}{u:Value}(r:cE (kV k) u):(dD P w).is k u=true:=by
 cases k with
 | inl i=>obtain⟨t,e⟩:=(show ∃ t,u=Value.int i t from r); subst e; exact xJ P w i t
 | inr x=>obtain⟨t,e⟩:=(show ∃ t,u=Value.str x t from r); subst e; exact xI P w x t
theorem uH {P:Program}{w:World}:∀ {ks:List Key}{us:List Value},bY (ks.map kV) us->ItemsAre (dD P w) ks us
 | [],_,r=>by rw[List.map_nil] at r; cases r; exact .nil
 | k::ks,_,r=>by
  rw[List.map_cons] at r;cases r with
  | cons h t=>exact .cons (rR h) (uH t)

abbrev KT (H:Hp):List (List Key×V)->List (List Key×Addr×Value)->Prop:=Paired fun p q=>p.1=q.1∧H q.2.1=some (.tup (p.1.map kV))∧cE p.2 q.2.2
theorem KT.val {H:Hp}{kvs:List (List Key×V)}{xs:List (List Key×Addr×Value)}(r:KT H kvs xs) (k:List Key):jX (dF kvs k) ((atKey xs k).map (·.2)):=by
 induction r with
 | nil=>exact True.intro
 | @cons p q ps qs h t ih=>
  obtain⟨h1,_,h2⟩:=h
  by_cases e:p.1=k
  ·have e':q.1=k:=h1.symm.trans e;have b:atKey (q::qs) k=some q.2:=by simp[atKey,List.find?_cons,e']
   rw[dY e,b]; exact h2
  ·have e':¬ q.1=k:=fun z=>e (h1.trans z);have b:atKey (q::qs) k=atKey qs k:=by simp[atKey,List.find?_cons,e']
   rw[eI e,b]; exact ih
theorem KT.repl {H:Hp}{kvs:List (List Key×V)}{xs:List (List Key×Addr×Value)}(r:KT H kvs xs) (k:List Key){y:V}{u:Value}(ry:cE y u) :
  KT H (kvs.map fun kv=>if kv.1=k then (kv.1,y) else kv) (xs.map (putAt k u)):=by
 induction r with
 | nil=>exact .nil
 | @cons p q ps qs h t ih=>
  rw[List.map_cons,List.map_cons];refine .cons ?_ ih;obtain⟨h1,h2,h3⟩:=h;unfold putAt
  by_cases e:p.1=k
  ·rw[if_pos e,if_pos (h1.symm.trans e)]; exact⟨h1,h2,ry⟩
  ·rw[if_neg e,if_neg (fun z=>e (h1.trans z))]; exact⟨h1,h2,h3⟩
theorem KT.put {H:Hp}{kvs:List (List Key×V)}{xs:List (List Key×Addr×Value)}(r:KT H kvs xs) (k:List Key){b:Addr}{y:V}{u:Value}(hb:H b=some (.tup (k.map kV))) (ry:cE y u) :
  KT H (eB kvs k y) (storedH xs k b u):=by
 have e:(kvs.any fun kv=>decide (kv.1=k))=(atKey xs k).isSome:=by
  rw[fX,(r.val k).isSome_eq,Option.isSome_map]
 unfold eB storedH;rw[e]
 by_cases q:(atKey xs k).isSome=true
 ·rw[if_pos q,if_pos q]; exact r.repl k ry
 ·rw[if_neg q,if_neg q]; exact Paired.snoc r ⟨rfl,hb,ry⟩
theorem KT.keeps {H H':Hp}{kvs:List (List Key×V)}{xs:List (List Key×Addr×Value)}(r:KT H kvs xs) (ht:∀ b ys,H b=some (.tup ys)->H' b=some (.tup ys)):KT H' kvs xs:=
 Paired.mapP r fun _ _ z=>⟨z.1,ht _ _ z.2.1,z.2.2⟩

section
variable {P:Program}{w:World}{H:Hp}{h:Heap}{a:Addr}
theorem aJz {u:HO}(ok:HOk P w H h) (e:Rd H a u):dE P w H h a u:=e.ok ok
theorem qF {kvs:List (Key×V)}(ok:HOk P w H h) (e:Rd H a (.dK kvs)):kvs.length<=sizeLine∧(a==sysModules)=false∧∃ vs,KV kvs vs∧h.DictOf (dD P w) a vs:=
 show dE P w H h a (.dK kvs) from aJz ok e
theorem aGn {kvs:List (Key×V)}(ok:HOk P w H h) (e:H a=some (.dK kvs)):kvs.length<=sizeLine∧(a==sysModules)=false∧∃ vs,KV kvs vs∧h.DictOf (dD P w) a vs:=qF ok (.inl e)
theorem mY {ks:List Key}(ok:HOk P w H h) (e:H a=some (.tup (ks.map kV))):(tupleKind (dD P w)).is h ks a:=by
 obtain⟨_,its,r,o,h1,h2,n,h3⟩:=(show dE P w H h a (.tup (ks.map kV)) from ok a _ e)
 exact⟨o,its.toArray,n,h1,h2,h3,by simpa using uH r⟩
theorem rY {kvs:List (List Key×V)}(ok:HOk P w H h) (e:Rd H a (.dT kvs)):kvs.length<=sizeLine∧(a==sysModules)=false ∧
  ∃ xs,KT H kvs xs∧h.DictOfH (tupleKind (dD P w)) a xs:=by
 obtain⟨z,y,xs,r,o,es,ep,h1,h2,h3,h4,h5⟩:=(show dE P w H h a (.dT kvs) from aJz ok e)
 refine⟨z,y,xs,r,o,es,ep,h1,h2,h3,h4,fun x hx=>?_,h5⟩
 have all:∀ {l:List (List Key×V)}{m:List (List Key×Addr×Value)},KT H l m->∀ x∈m,(tupleKind (dD P w)).is h x.1 x.2.1:=by
  intro l m q
  induction q with
  | nil=>intro x hx; exact nomatch hx
  | @cons p q ps qs hq t ih=>
   intro x hx;rcases List.mem_cons.mp hx with e | hx
   ·subst e;exact mY ok (by rw[← hq.1]; exact hq.2.1)
   ·exact ih x hx
 exact all r x hx
theorem aKi {kvs:List (List Key×V)}(ok:HOk P w H h) (e:H a=some (.dT kvs)):kvs.length<=sizeLine∧(a==sysModules)=false ∧
  ∃ xs,KT H kvs xs∧h.DictOfH (tupleKind (dD P w)) a xs:=rY ok (.inl e)
end

def fU (H:Hp) (a:Addr) (y:V) (r:Option V):Prop:=
 (∃ kvs k,Rd H a (.dK kvs)∧y=kV k∧r=dF kvs k)∨∃ kvs k b,Rd H a (.dT kvs)∧y=.ref b∧H b=some (.tup (k.map kV))∧r=dF kvs k
def pU (H:Hp) (a:Addr) (y v:V) (H':Hp):Prop:=
 (∃ kvs k,H a=some (.dK kvs)∧y=kV k∧kvs.length<sizeLine∧H'=upd H a (.dK (eB kvs k v))) ∨
 ∃ kvs k b,H a=some (.dT kvs)∧y=.ref b∧H b=some (.tup (k.map kV))∧kvs.length<sizeLine∧H'=upd H a (.dT (eB kvs k v))
theorem fU.k {H:Hp}{a:Addr}{kvs:List (Key×V)}{k:Key}(e:H a=some (.dK kvs)):fU H a (kV k) (dF kvs k):=.inl ⟨kvs,k,.inl e,rfl,rfl⟩
theorem fU.t {H:Hp}{a b:Addr}{kvs:List (List Key×V)}{k:List Key}(e:H a=some (.dT kvs)) (eb:H b=some (.tup (k.map kV))):fU H a (.ref b) (dF kvs k):=.inr ⟨kvs,k,b,.inl e,rfl,eb,rfl⟩
theorem pU.k {H:Hp}{a:Addr}{kvs:List (Key×V)}{k:Key}{v:V}(e:H a=some (.dK kvs)) (hl:kvs.length<sizeLine):pU H a (kV k) v (upd H a (.dK (eB kvs k v))):=.inl ⟨kvs,k,e,rfl,hl,rfl⟩
theorem pU.t {H:Hp}{a b:Addr}{kvs:List (List Key×V)}{k:List Key}{v:V}(e:H a=some (.dT kvs)) (eb:H b=some (.tup (k.map kV))) (hl:kvs.length<sizeLine) :
  pU H a (.ref b) v (upd H a (.dT (eB kvs k v))):=.inr ⟨kvs,k,b,e,rfl,eb,hl,rfl⟩


section
variable {X:Cx}{pins:List (Addr×Obj)}{σ:St}{H:Hp}{s:Shared}{a:Addr}{y v:V}{u r:Value}{o:Option V}{A:Around}{E:Value->Shared->Prop}

theorem Inv.big (I:Inv X pins σ H s):sysModules<s.heap.objs.size:=by
 have h:mainGlobals<s.heap.objs.size:=(I.mod.glob.keeps I.bk).lt;exact Nat.lt_trans (by decide) h

theorem aDl {Q:Value->Shared->Prop}(hu:A.units+1<cLine) (I:Inv X pins σ H s) (g:fU H a y (some v)) (ry:cE y u) (h:∀ w' s',Inv X pins σ H s'->cE v w'->Q w' s') :
  wpAny (model X.prog X.w) A (getItem (.ref a) u) Q E s:=by
 rcases g with⟨kvs,k,e,ey,l⟩ | ⟨kvs,k,b,e,ey,eb,l⟩
 ·subst ey;obtain⟨z,hd,vs,rel,dd⟩:=qF I.hok e;obtain⟨w',hw,rw'⟩:=jX.some_of (v:=v) (o:=valueAt vs k) (by rw[l]; exact rel.val k);exact wpAny_getItem_of (rR ry) dd.mapOf hw (h w' _ (I.tok _) rw')
 ·subst ey;cases (show u=Value.ref b from ry)
  obtain⟨z,hd,xs,rel,dd⟩:=rY I.hok e;obtain⟨w',hw,rw'⟩:=jX.some_of (v:=v) (o:=(atKey xs k).map (·.2)) (by rw[l]; exact rel.val k);obtain⟨p,hp,hp2⟩:=Option.map_eq_some_iff.mp hw;refine wpAny_getItem_heap (tupleKind_room_in1 hu) (mY I.hok eb) dd hp ?_;rw[hp2];exact h w' _ (I.tok _) rw'
theorem aQm {Q:Value->Shared->Prop}(hu:A.units+1<cLine) (I:Inv X pins σ H s) (g:fU H a y o) (ry:cE y u) (h:∀ s',Inv X pins σ H s'->Q (.bool o.isSome) s') :
  wpAny (model X.prog X.w) A (compareOp .In u (.ref a)) Q E s:=by
 rcases g with⟨kvs,k,e,ey,l⟩ | ⟨kvs,k,b,e,ey,eb,l⟩
 ·subst ey;obtain⟨z,hd,vs,rel,dd⟩:=qF I.hok e;refine wpAny_in_of (rR ry) hd dd.mapOf ?_;rw[← (rel.val k).isSome_eq,← l];exact h _ (I.tok _)
 ·subst ey;cases (show u=Value.ref b from ry)
  obtain⟨z,hd,xs,rel,dd⟩:=rY I.hok e;refine wpAny_in_heap (tupleKind_room_in1 hu) (mY I.hok eb) hd dd ?_;have q:=(rel.val k).isSome_eq;rw[Option.isSome_map] at q;rw[← q,← l];exact h _ (I.tok _)
theorem aJi {Q:Value->Shared->Prop}(hu:A.units+1<cLine) (I:Inv X pins σ H s) (g:fU H a y o) (ry:cE y u) (h:∀ s',Inv X pins σ H s'->Q (.bool (!o.isSome)) s') :
  wpAny (model X.prog X.w) A (compareOp .NotIn u (.ref a)) Q E s:=by
 rcases g with⟨kvs,k,e,ey,l⟩ | ⟨kvs,k,b,e,ey,eb,l⟩
 ·subst ey;obtain⟨z,hd,vs,rel,dd⟩:=qF I.hok e;refine wpAny_notIn_of (rR ry) hd dd.mapOf ?_;rw[← (rel.val k).isSome_eq,← l];exact h _ (I.tok _)
 ·subst ey;cases (show u=Value.ref b from ry)
  obtain⟨z,hd,xs,rel,dd⟩:=rY I.hok e;refine wpAny_notIn_heap (tupleKind_room_in1 hu) (mY I.hok eb) hd dd ?_;have q:=(rel.val k).isSome_eq;rw[Option.isSome_map] at q;rw[← q,← l];exact h _ (I.tok _)
theorem qP {h':Heap}{t':Nat}{ob:HO}(I:Inv X pins σ H s) (mu:Mut (H a)) (hs:Heap.SameBut a s.heap h') (he:∃ q,h'.get? a=some q) (new:dE X.prog X.w (upd H a ob) h' a ob) :
  Inv X pins σ (upd H a ob) { s with heap:=h',toks:=t' }:=
 I.write (x:=a) (e:=a) mu (.inl rfl) (fun b q hb z=>(hs.2 b hb).trans z) he new
theorem aGo {P:Program}{w:World}{H':Hp}{h':Heap}{kvs:List (Key×V)}{vs:List (Key×Value)}(z:kvs.length<=sizeLine) (hd:(a==sysModules)=false) (rel:KV kvs vs) (dd:h'.DictOf (dD P w) a vs) :
  dE P w H' h' a (.dK kvs):=⟨z,hd,vs,rel,dd⟩
theorem aDk {H':Hp}{Q:Unit->Shared->Prop}(hu:A.units+1<cLine) (I:Inv X pins σ H s) (g:pU H a y v H') (ry:cE y u) (rv:cE v r) (h:∀ s',Inv X pins σ H' s'->Q () s') :
  wpAny (model X.prog X.w) A (setItem (.ref a) u r) Q E s:=by
 rcases g with⟨kvs,k,e,ey,l,eH⟩ | ⟨kvs,k,b,e,ey,eb,l,eH⟩
 ·subst ey eH;obtain⟨z,hd,vs,rel,dd⟩:=aGn I.hok e;have hz:vs.length<=sizeLine:=by rw[← rel.length]; exact z
  have hl:(eB kvs k v).length<=sizeLine:=by have:=dP kvs k v; omega
  refine wpAny_setItem_pairs (hsz:=hz) (rR ry) dd fun h' dd' hs=>h _ ?_;have he:∃ q,h'.get? a=some q:=let ⟨q,_,_,hq,_⟩:=dd'; ⟨q,hq⟩;exact qP I (by rw[e]; exact True.intro) hs he (aGo hl hd (rel.put k rv) dd')
 ·subst ey eH;cases (show u=Value.ref b from ry)
  obtain⟨z,hd,xs,rel,dd⟩:=aKi I.hok e;have hz:xs.length<=sizeLine:=by rw[← Paired.length rel]; exact z
  have hl:(eB kvs k v).length<=sizeLine:=by have:=dP kvs k v; omega
  refine wpAny_setItem_heap (hsz:=hz) (tupleKind_room_in1 hu) (mY I.hok eb) dd fun h' dd' hs=>h _ ?_;obtain⟨q,es,ep,hq,h2,h3,h4,_,h5⟩:=dd';refine qP I (by rw[e]; exact True.intro) hs ⟨q,hq⟩ ⟨hl,hd,_,(rel.put k eb rv).keeps fun c ys ec=>?_,q,es,ep,hq,h2,h3,h4,h5⟩;rw[aI (jC ec e (fun z=>nomatch z))];exact ec
end

section
variable {X:Cx}{pins:List (Addr×Obj)}{σ:St}{H:Hp}{s:Shared}{a:Addr}{kvs:List (Key×V)}{k:Key}{u:Value}{A:Around}{E:Value->Shared->Prop}
theorem aOc {Q:Value->Shared->Prop}(I:Inv X pins σ H s) (e:Rd H a (.dK kvs)) (h:∀ t s',Inv X pins σ H s'->Q (.int kvs.length t) s'):wpAny (model X.prog X.w) A (call (.builtin "len") [.ref a]) Q E s:=by
 obtain⟨z,hd,vs,rel,dd⟩:=qF I.hok e;refine call_len_dict hd dd (by rw[← rel.length]; rw[sizeLine_eq] at z; omega) ?_;rw[← rel.length];exact h _ _ (I.tok _)
end


def aOf (i:Expr):Prop:=∀ ov iv,subscripted i false ov iv=operate [ov,iv] (getItem ov iv)
theorem aHn {prog:Program}{w:World}{A:Around}{E:Value->Shared->Prop}{s:Shared}{env:Env}{value slice:Expr}{pos:Pos}{T id:String}{Q:Value->Shared->Prop}
  (hl:typeLookup (.type T) "__getitem__"=pure (some (.builtin id))) (hs:aOf slice)
  (h:wpAny (model prog w) A (eval value env) (fun o s₁=>wpAny (model prog w) A (eval slice env) (fun i s₂=>s₂.TypeIs o T∧wpAny (model prog w) A (getItem o i) Q E s₂) E s₁) E s) :
  wpAny (model prog w) A (eval (.Subscript value slice pos) env) Q E s:=by
 refine Subscript_ (wpAny_mono h (fun o s₁ h₁=>wpAny_mono h₁ (fun i s₂ h₂=>?_) fun _ _ x=>x) fun _ _ x=>x);obtain⟨hT,h₂⟩:=h₂;unfold subscriptTail;refine wpAny_bind ?_;rw[getitemInPython_of_ne hT.not_modules];refine wpAny_bind (wpAny_specialOf hT hl ?_)
 have fin:wpAny (model prog w) A (subscripted slice false o i) (fun r s₃=>wpAny (model prog w) A (letTemporaryGo value o r>>=fun _=>pure r) Q E s₃) E s₂:=by
  rw[hs o i];exact wpAny_operating (wpAny_mono h₂ (fun r s₃ h₃=>wpAny_bind (wpAny_letTemporaryGo (wpAny_pure h₃))) fun _ _ x=>x)
 first
  | exact wpAny_pure (wpAny_bind fin)
  | exact wpAny_bind (wpAny_pure (wpAny_bind fin))
  | exact wpAny_bind fin

theorem xY {X:Cx}{pins:List (Addr×Obj)}{σ:St}{H:Hp}{s:Shared}{a:Addr}{y:V}{o:Option V}(I:Inv X pins σ H s) (g:fU H a y o):s.TypeIs (.ref a) "dict":=by
 rcases g with⟨kvs,k,e,_,_⟩ | ⟨kvs,k,b,e,_,_,_⟩
 ·obtain⟨_,_,vs,_,dd⟩:=qF I.hok e;exact dd.typeIs
 ·obtain⟨_,_,xs,_,dd⟩:=rY I.hok e;exact dd.typeIs

inductive aOm (x y:V) (H:Hp) (Q:VK):Prop
 | mk (a:Addr) (v:V) (h1:x=.ref a) (h2:fU H a y (some v)) (q:Q v H)
inductive aOl (x y:V) (H:Hp) (Q:Option V->Hp->Prop):Prop
 | mk (a:Addr) (o:Option V) (h1:x=.ref a) (h2:fU H a y o) (q:Q o H)
def aNa (td ty:TE):TE:=fun σ H Q=>td σ H fun x H1=>ty σ H1 fun y H2=>aOm x y H2 Q
def aPa (ty td:TE):TE:=fun σ H Q=>ty σ H fun y H1=>td σ H1 fun x H2=>aOl x y H2 fun o H2=>Q (.bl o.isSome) H2
def aHm (ty td:TE):TE:=fun σ H Q=>ty σ H fun y H1=>td σ H1 fun x H2=>∃ a o,x=.ref a∧fU H2 a y o∧Q (.bl (!o.isSome)) H2
inductive aMo (x y v:V) (H3:Hp) (R:Hp->Prop):Prop
 | mk (a:Addr) (H4:Hp) (h1:x=.ref a) (h2:pU H3 a y v H4) (q:R H4)
def aNg (td ty tv:TE):TS:=fun D σ H=>tv σ H fun v H1=>td σ H1 fun x H2=>ty σ H2 fun y H3=>aMo x y v H3 (D.nx σ)

section
variable {X:Cx}{o i e value:Expr}{pos pos' tpos:Pos}{td ty tv:TE}
theorem jM (hu:X.A.units+1<cLine) (ho:PE X o td) (hi:PE X i ty) (hs:aOf i):PE X (.Subscript o i pos) (aNa td ty):=by
 intro pins s σ H Q I h;refine aHn PySem.F.slot_dict_getitem.lookup hs (thn (ho pins s σ H _ I h) fun u s1 ⟨x,H1,I1,rx,q1⟩=>thn (hi pins s1 σ H1 _ I1 q1) fun iv s2 ⟨y,H2,I2,ry,a,v,ex,g,q2⟩=>?_);subst ex;obtain rfl:u=Value.ref a:=rx;exact⟨xY I2 g,aDl hu I2 g ry fun w' s3 I3 rw'=>⟨v,H2,I3,rw',q2⟩⟩
theorem vH (hu:X.A.units+1<cLine) (hi:PE X i ty) (ho:PE X o td):PC X .In i o (aPa ty td):=by
 intro pins s σ H Q I h;refine thn (hi pins s σ H _ I h) fun iv s1 ⟨y,H1,I1,ry,q1⟩=>thn (ho pins s1 σ H1 _ I1 q1) fun u s2 ⟨x,H2,I2,rx,a,ov,ex,g,q2⟩=>?_;subst ex;obtain rfl:u=Value.ref a:=rx;exact aQm hu I2 g ry fun s3 I3=>⟨.bl ov.isSome,H2,I3,rfl,q2⟩
theorem tY (hu:X.A.units+1<cLine) (hi:PE X i ty) (ho:PE X o td):PC X .NotIn i o (aHm ty td):=by
 intro pins s σ H Q I h;refine thn (hi pins s σ H _ I h) fun iv s1 ⟨y,H1,I1,ry,q1⟩=>thn (ho pins s1 σ H1 _ I1 q1) fun u s2 ⟨x,H2,I2,rx,a,ov,ex,g,q2⟩=>?_;subst ex;obtain rfl:u=Value.ref a:=rx;exact aJi hu I2 g ry fun s3 I3=>⟨.bl (!ov.isSome),H2,I3,rfl,q2⟩
theorem jL (hu:X.A.units+1<cLine) (ho:PE X o td) (hi:PE X i ty) (hv:PE X value tv) (hs:swapsWith value (some (.Subscript o i pos')) pos.line X.env=pure false) :
  PS X (.Assign [.Subscript o i pos'] value pos) (aNg td ty tv):=by
 intro pins s σ H D I h;refine wpAny_Assign_Subscript (thn (hv pins s σ H _ I h) fun r s1 ⟨v,H1,I1,rv,q1⟩=>thn (ho pins s1 σ H1 _ I1 q1) fun u s2 ⟨x,H2,I2,rx,q2⟩=>thn (hi pins s2 σ H2 _ I2 q2) fun iv s3 ⟨y,H3,I3,ry,a,H4,ex,g,q3⟩=>?_) hs;subst ex;obtain rfl:u=Value.ref a:=rx;exact aDk hu I3 g ry rv fun s4 I4=>⟨σ,H4,I4,q3⟩
end


theorem xX {P:Program}{w:World}{H:Hp}(h:Heap) (hb:sysModules<h.objs.size):dE P w H (h.push { cls:=.type "dict",data:=.dict #[] }) h.objs.size (.dK []):=
 ⟨Nat.zero_le _,beq_eq_false_iff_ne.mpr (Ne.symm (Nat.ne_of_lt hb)),[],.nil,Heap.DictOf.new h⟩
theorem xU {P:Program}{w:World}{H:Hp}(h:Heap) (hb:sysModules<h.objs.size):dE P w H (h.push { cls:=.type "dict",data:=.dict #[] }) h.objs.size (.dT []):=
 ⟨Nat.zero_le _,beq_eq_false_iff_ne.mpr (Ne.symm (Nat.ne_of_lt hb)),[],.nil,_,#[],0,Heap.get?_push_size _ rfl,⟨rfl,rfl,rfl⟩,rfl,rfl,List.nodup_nil⟩
def aKs:TE:=fun _ H Q=>∀ p,H p=none->Q (.ref p) (upd H p (.dK []))
def aKr:TE:=fun _ H Q=>∀ p,H p=none->Q (.ref p) (upd H p (.dT []))
section
variable {X:Cx}{pos:Pos}
theorem kU:PE X (.Dict [] [] pos) aKs:=fun pins s σ H Q I h=>
 wpAny_Dict_empty ⟨.ref s.heap.objs.size,_,I.laid (a:=s.heap.objs.size) (o:=.dK []) (t':=s.toks) (fun _ _ q=>Heap.get?_push_of_some _ q) (Nat.le_refl _) (xX s.heap I.big),rfl,h _ (I.hok.fresh (Nat.le_refl _))⟩
theorem aFa:PE X (.Dict [] [] pos) aKr:=fun pins s σ H Q I h=>
 wpAny_Dict_empty ⟨.ref s.heap.objs.size,_,I.laid (a:=s.heap.objs.size) (o:=.dT []) (t':=s.toks) (fun _ _ q=>Heap.get?_push_of_some _ q) (Nat.le_refl _) (xU s.heap I.big),rfl,h _ (I.hok.fresh (Nat.le_refl _))⟩
end

def yL:List (TE×TE)->St->Hp->(List (V×V)->Hp->Prop)->Prop
 | [],_,H,Q=>Q [] H
 | (tk,tv)::r,σ,H,Q=>tk σ H fun x H1=>tv σ H1 fun y H2=>yL r σ H2 fun ps H3=>Q ((x,y)::ps) H3
abbrev VV:List (V×V)->List (Value×Value)->Prop:=Paired fun p q=>cE p.1 q.1∧cE p.2 q.2
def PPs (X:Cx) (pos:Pos) (keys:List (Option Expr)) (values:List Expr) (trs:List (TE×TE)):Prop:=
 ∀ (pins:List (Addr×Obj)) (s:Shared) (σ:St) (H:Hp) (Q:List (V×V)->Hp->Prop),Inv X pins σ H s->yL trs σ H Q ->
  wpAny (model X.prog X.w) X.A (evalPairs (pairTrees keys values X.env pos)) (fun vs s'=>∃ ps H',Inv X pins σ H' s'∧VV ps vs∧Q ps H') X.xe s
theorem aIc {X:Cx}{pos:Pos}:PPs X pos [] [] []:=fun pins s σ H Q I h=>pairTrees_nil_walk ⟨[],H,I,.nil,h⟩
theorem nM {X:Cx}{pos:Pos}{k v:Expr}{ks:List (Option Expr)}{vs:List Expr}{tk tv:TE}{trs:List (TE×TE)}(hk:PE X k tk) (hv:PE X v tv) (hr:PPs X pos ks vs trs) :
  PPs X pos (some k::ks) (v::vs) ((tk,tv)::trs):=fun pins s σ H Q I h=>
 pairTrees_cons_walk (thn (hk pins s σ H _ I h) fun u s1 ⟨x,H1,I1,rx,q1⟩=>thn (hv pins s1 σ H1 _ I1 q1) fun w2 s2 ⟨y,H2,I2,ry,q2⟩=>
  thn (hr pins s2 σ H2 _ I2 q2) fun ws s3 ⟨ps,H3,I3,rel,q3⟩=>⟨(x,y)::ps,H3,I3,.cons ⟨rx,ry⟩ rel,q3⟩)

def pC (kvs more:List (Key×V)):List (Key×V):=more.foldl (fun acc kv=>eB acc kv.1 kv.2) kvs
theorem KV.merge:∀ {more:List (Key×V)}{rs:List (Key×Value)}{kvs:List (Key×V)}{vs:List (Key×Value)},KV more rs->KV kvs vs->KV (pC kvs more) (merged vs rs):=by
 intro more rs kvs vs r;unfold KV at r
 induction r generalizing kvs vs with
 | nil=>intro q; exact q
 | @cons p q ps qs h t ih=>
  intro r0
  have e:KV (eB kvs p.1 p.2) (stored vs q.1 q.2):=by
   have:=r0.put p.1 h.2
   rw[← h.1]; exact this
  exact ih e
theorem lY:∀ (more kvs:List (Key×V)),(pC kvs more).length<=kvs.length+more.length
 | [],kvs=>by show kvs.length<=kvs.length+0; omega
 | p::r,kvs=>by
  have h1:=lY r (eB kvs p.1 p.2);have h2:=dP kvs p.1 p.2;show (pC (eB kvs p.1 p.2) r).length<=_;rw[List.length_cons]; omega
theorem sD {P:Program}{w:World}:∀ {kvs:List (Key×V)}{ws:List (Value×Value)},VV (kvs.map fun kv=>(kV kv.1,kv.2)) ws->∃ rs,Carries (dD P w) ws rs∧KV kvs rs
 | [],_,r=>by rw[List.map_nil] at r; cases r; exact⟨[],True.intro,.nil⟩
 | p::kvs,_,r=>by
  rw[List.map_cons] at r;cases r with
  | @cons a b as bs h t=>
   obtain⟨rs,c,q⟩:=sD (P:=P) (w:=w) t;obtain⟨b1,b2⟩:=b;exact⟨(p.1,b2)::rs,⟨rR h.1,rfl,c⟩,.cons ⟨rfl,h.2⟩ q⟩
def aMz (trs:List (TE×TE)):TE:=fun σ H Q=>∀ p,H p=none->yL trs σ (upd H p (.dK [])) fun ps H2=>H2 p=some (.dK [])∧∃ kvs:List (Key×V),ps=kvs.map (fun kv=>(kV kv.1,kv.2))∧kvs.length<=15∧Q (.ref p) (upd H2 p (.dK (pC [] kvs)))
theorem aIg {X:Cx}{pos:Pos}{keys:List (Option Expr)}{values:List Expr}{trs:List (TE×TE)}(h:PPs X pos keys values trs) (hall:keys.all (·.isSome)=true) (hl:keys.length=values.length) (h0:keys≠[])
  (h15:keys.length<=15):PE X (.Dict keys values pos) (aMz trs):=by
 intro pins s σ H Q I q;have hn:=I.hok.fresh (Nat.le_refl s.heap.objs.size);have I1:=I.laid (a:=s.heap.objs.size) (o:=.dK []) (h':=s.heap.push { cls:=.type "dict",data:=.dict #[] }) (t':=s.toks) (fun _ _ q=>Heap.get?_push_of_some _ q) (Nat.le_refl _) (xX s.heap I.big);refine wpAny_Dict_walk (knd:=dD X.prog X.w) hall hl h0 h15 (thn (h pins _ σ _ _ I1 (q _ hn)) fun ws s2 ⟨ps,H2,I2,rel,e,kvs,ep,lk,q2⟩=>?_);subst ep;obtain⟨rs,c,rk⟩:=sD (P:=X.prog) (w:=X.w) rel;obtain⟨z,hd,vs0,r0,dd⟩:=aGn I2.hok e;cases r0;refine⟨rs,c,dd,fun h' dd' hs=>⟨.ref s.heap.objs.size,_,?_,rfl,q2⟩⟩
 have hz:(pC [] kvs).length<=sizeLine:=by
  have h1:=lY kvs [];rw[List.length_nil] at h1;rw[sizeLine_eq]; omega
 have he:∃ q,h'.get? s.heap.objs.size=some q:=let ⟨q,_,_,hq,_⟩:=dd'; ⟨q,hq⟩;exact qP I2 (by rw[e]; exact True.intro) hs he (aGo hz hd (rk.merge .nil) dd')


structure M1 (X:Cx) (o:Expr) (m:Str) (apos:Pos) (e:Expr) (cpos:Pos):Prop where
 base:attributeBase o m X.env (eval o X.env)=eval o X.env
 few:((backTo cpos (starEach [e] X.env)).all (fun x=>!x.1)&&(backToKw cpos (keywordEach [] X.env)).all (fun x=>x.1.isSome)
  && decide (([e]:List Expr).length+([]:List Keyword).length+(if ([]:List Keyword).isEmpty then 0 else 1)<30))=true
 line:(apos.endLine==cpos.line)=true
 trees:backTo cpos (starEach [e] X.env)=[(false,eval e X.env)]

def IsD (H:Hp) (a:Addr):Prop:=(∃ kvs,Rd H a (.dK kvs))∨∃ kvs,Rd H a (.dT kvs)
theorem aMb {X:Cx}{pins:List (Addr×Obj)}{σ:St}{H:Hp}{s:Shared}{a:Addr}(I:Inv X pins σ H s) (d:IsD H a) :
  s.TypeIs (.ref a) "dict" ∧ (∀ b,Value.ref a=.ref b->∃ ob,s.heap.get? b=some ob∧ob.dict=none)∧(a==sysModules)=false:=by
 rcases d with⟨kvs,e⟩ | ⟨kvs,e⟩
 ·obtain⟨_,hd,vs,_,dd⟩:=qF I.hok e;refine⟨dd.typeIs,fun b q=>?_,hd⟩;cases q;obtain⟨ob,_,_,h1,h2,_⟩:=dd;exact⟨ob,h1,h2.2.1⟩
 ·obtain⟨_,hd,xs,_,dd⟩:=rY I.hok e;refine⟨dd.typeIs,fun b q=>?_,hd⟩;cases q;obtain⟨ob,_,_,h1,h2,_⟩:=dd;exact⟨ob,h1,h2.2.1⟩

section
variable {X:Cx}{pins:List (Addr×Obj)}{σ:St}{H:Hp}{s:Shared}{a:Addr}{y d:V}{u r:Value}{o:Option V}{A:Around}{E:Value->Shared->Prop}
theorem aMh {Q:Value->Shared->Prop}(hu:A.units+1<cLine) (I:Inv X pins σ H s) (g:fU H a y o) (ry:cE y u) (h:∀ w' s',Inv X pins σ H s'->cE (o.getD .non) w'->Q w' s') :
  wpAny (model X.prog X.w) A (call (.builtin "dict.get") [.ref a,u]) Q E s:=by
 rcases g with⟨kvs,k,e,ey,l⟩ | ⟨kvs,k,b,e,ey,eb,l⟩
 ·subst ey;obtain⟨z,hd,vs,rel,dd⟩:=qF I.hok e;refine call_meetsIn PySem.F.slot_dict_get dd.typeIs PySem.F.entry_dict_get (PySem.F.args_dict_get_2 _ _) (meets_dict_get (dD X.prog X.w) a (rR ry) hd) ⟨_,dd.mapOf,h _ _ (I.tok _) ?_⟩;rw[l];exact (rel.val k).getD rfl
 ·subst ey;cases (show u=Value.ref b from ry)
  obtain⟨z,hd,xs,rel,dd⟩:=rY I.hok e;refine call_meetsIn PySem.F.slot_dict_get dd.typeIs PySem.F.entry_dict_get (PySem.F.args_dict_get_2 _ _) (meetsH_dict_get (tupleKind (dD X.prog X.w)) a b hd) ⟨tupleKind_room_in1 hu,k,xs,mY I.hok eb,dd,h _ _ (I.tok _) ?_⟩;rw[l];exact (rel.val k).getD rfl
end

def aKt (td ty:TE):TE:=fun σ H Q=>td σ H fun x H1=>∃ a,x=.ref a∧IsD H1 a∧ty σ H1 fun y H2=>∃ o,fU H2 a y o∧Q (o.getD .non) H2
section
variable {X:Cx}{o e f:Expr}{apos cpos:Pos}{td ty tx:TE}
theorem wY (hu:X.A.units+1<cLine) (ho:PE X o td) (he:PE X e ty) (m:M1 X o "get" apos e cpos):PE X (.Call (.Attribute o "get" apos) [e] [] cpos) (aKt td ty):=by
 intro pins s σ H Q I h;refine wpAny_Call_method m.base m.few m.line PySem.F.plainAttrs_dict PySem.F.slot_dict_get PySem.F.type_dict_get (thn (ho pins s σ H _ I h) fun u s1 ⟨x,H1,I1,rx,a,ex,d,q1⟩=>?_);subst ex;obtain rfl:u=Value.ref a:=rx;obtain⟨t1,t2,_⟩:=aMb I1 d;refine⟨t1,t2,?_⟩;rw[m.trees];refine Calls.callWith_builtin rfl (Calls.evalArgs_plain (Calls.spliced_cons (thn (he pins s1 σ H1 _ I1 q1) fun iv s2 ⟨y,H2,I2,ry,ov,g,q2⟩=>Calls.spliced_nil ?_)));exact aMh hu I2 g ry fun w' s3 I3 rw'=>⟨_,H2,I3,rw',q2⟩
end

section
variable {X:Cx}{pins:List (Addr×Obj)}{σ:St}{H:Hp}{s:Shared}{a:Addr}{kvs:List (Key×V)}{A:Around}{E:Value->Shared->Prop}
end


section
variable {X:Cx}{pins:List (Addr×Obj)}{σ:St}{H:Hp}{s:Shared}{a:Addr}{y:V}{u:Value}{A:Around}{E:Value->Shared->Prop}
end
end L2

namespace Att
open PySem PySem.W PySem.Calls PyProof.Rows

theorem qJ {P:Params}{h:Heap}:∀ (ns:List Int) (vs:List Value),WellAll P h vs (ns.map WData.int)->IntsAre vs ns:=by
 intro ns
 induction ns with
 | nil=>
  intro vs w;rw[List.map_nil] at w;cases w;exact .nil
 | cons n ns ih=>
  intro vs w;rw[List.map_cons] at w;cases w with
  | cons a b=>
   cases a;exact .cons _ _ (ih _ b)

theorem aBw {l:OpenLaw}{n:Nat}(hn:l.most=some n){P:Params}{h:Heap}{args:List WData}{vals:List Value}
  (hpre:l.row.toRowW.claim.pre args=true) (hwl:WellAll P h vals args) :
  ∃ a vs ns,vals=[Value.ref a]∧args=[WData.list (ns.map WData.int)]∧h.get? a=some { cls:=.type "list",data:=.seq vs.toArray }∧IntsAre vs ns∧ns.length<=n:=by
 have hsh:WShape.hasAll [] args [.list .int]=true:=(pre_splitW hpre).1;have hc:l.pre.holds [] { args:=args }=true:=(pre_splitW hpre).2;obtain⟨d,r,rfl,h1,h2⟩:=hasAllW_cons hsh;obtain rfl:=hasAllW_nil h2;obtain⟨xs,rfl,h3⟩:=hasW_list h1;obtain⟨ns,rfl⟩:=items_int h3
 have hlen:ns.length<=n:=by
  unfold OpenLaw.pre at hc
  have h4:(WTm.not (.lt (.lit (.int (n:Int))) (.len (.arg 0)))).holds [] { args:=[.list (ns.map .int)] }=true:=by
   have h4:=(holds_andW hc).1;rw[hn] at h4;exact h4
  have h5:=condW_of h4 (w_not (w_lt w_lit (w_len_list (w_arg rfl))));rw[List.length_map] at h5;refine Nat.le_of_not_lt fun q=>?_;have q':(n:Int)<((ns.length:Nat):Int):=by omega
  first
   | (rw[decide_eq_true q'] at h5; exact absurd h5 (by decide))
   | (simp at h5; omega)
 cases hwl with
 | cons w1 w2=>
  cases w2;cases w1 with
  | list ho hall=>exact⟨_,_,ns,rfl,rfl,ho,qJ ns _ hall,hlen⟩

theorem aCd (l:OpenLaw) (args:List WData):l.row.toRowW.claim.post args (.bool true) args=true:=
 postW_of (r:=l.row.toRowW) (X:=(true==true))
  (show WShape.has [] (.bool true) .bool=true by first | rfl | decide | simp[WShape.has,WShape.arms,WShape.armsAll])
  (show (WTm.eq .res (.lit (.bool true))).value [] { args:=args,res:=some (.bool true),after:=args }=some (.bool (true==true)) from w_eq_bool (w_res rfl) w_lit) rfl


theorem attach_call {l:OpenLaw}{n:Nat}{q:Program}{loose:List Str}{XP:(Str->Option Value)->Heap->Prop}{YP:World->Heap->Prop}{d:DefRec}
  (hn:l.most=some n) (hdf:d.params.defaults=[])
  (call:∀ (w:World) (s₀ s₁:Shared) (mg mb:Str->Option Value) (fa:Addr) (o:Obj) (pm cd doc:Value) (a:Addr) (vs:List Value) (ns:List Int),
   Ground q loose [] XP w s₀ mg mb s₁.heap->YP w s₁.heap ->
   s₁.heap.get? fa=some o->o.data=.func (docDef d.name d.params d.body d.scope pm cd doc)->s₁.heap.CodeRec cd d.name->mg d.name=some (.ref fa) ->
   s₁.heap.get? a=some { cls:=.type "list",data:=.seq vs.toArray }->IntsAre vs ns->ns.length<=n->s₁.gens=#[] ->
   codeAny (model l.prog w) callerA (.call (.ref fa) ⟨[.ref a],[]⟩) (fun r s'=>r=.ok (.ret (.bool true))∧OldK s₁.heap s'.heap∧s'.os=s₁.os∧AllBare s'.gens) s₁) :
  WalkO q loose XP YP l.row.toRowW d [] (fun f vs=>PySem.call f vs):=by
 intro w s₀ s₁ mg mb G Y fa o pm cd doc dV kV ho hd hcd hD hmg hg args vals as hpre hlay hrd hwl hlo;obtain rfl:dV=.none:=Dflts.none hD hdf;obtain rfl:kV=.none:=Dflts.noKw hD;obtain⟨a,vs,ns,rfl,rfl,hobj,hints,hlen⟩:=aBw hn hpre hwl;refine enter_call (codeAny_mono (call w s₀ s₁ mg mb fa o pm cd doc a vs ns G Y ho (fd_plain hd) hcd hmg hobj hints hlen hg) fun r s' hq=>?_);obtain⟨rfl,h2,h3,h4⟩:=hq;exact⟨.inl ⟨.bool true,.bool true,[],rfl,fun _=>rfl,.bool true,aCd l _,fun _=>⟨List.Pairwise.nil,fun _ hm=>(nomatch hm)⟩⟩,h2,h3,h4⟩


section
variable {prog:Program}{w:World}{A:Around}{E:Value->Shared->Prop}{s:Shared}{K:Frag}






end
end Att

namespace L2
open PySem PySem.Spec PyProof.Rows

theorem tD:∀ {vs:List Value}{ns:List Int},IntsAre vs ns->bY (ns.map V.int) vs
 | _,_,.nil=>.nil
 | _,_,.cons n t h=>.cons ⟨t,rfl⟩ (tD h)


end L2

namespace L2
open PySem PySem.Spec PyProof.Rows


end L2



namespace L2
open PySem PySem.Spec PyProof.Rows

def aE (s:Stmt) (j:Nat):Stmt:=match s with
 | .ClassDef _ _ _ body _ _ _ _ _ _ _=>body.getD j (.Pass ⟨0,0,0,0⟩)
 | _=>.Pass ⟨0,0,0,0⟩
def aH (s:Stmt):Arguments:=match s with
 | .FunctionDef _ a _ _ _ _ _ _ _ _=>a
 | _=>{ posonlyargs:=[],args:=[],vararg:=none,kwonlyargs:=[],kw_defaults:=[],kwarg:=none,defaults:=[] }
def aG (s:Stmt):List Stmt:=match s with
 | .FunctionDef _ _ b _ _ _ _ _ _ _=>b
 | _=>[]
def aB (s:Stmt):Scope:=match s with
 | .FunctionDef _ _ _ _ _ _ sc _ _ _=>sc
 | _=>{ kind:=.function,names:=[],isGenerator:=false,isCoroutine:=false }

abbrev CX0:CXT:=fun _ _ _ _ _ _=>False
abbrev E0:XK:=fun _ _ _=>False
theorem cC {X:Cx}:eY CX0 X E0:=fun _ _ _ _ _ _ _ h=>h.elim

structure Fun (K:PySem.W.Frag) (x qual:Str) (st:Stmt) (f:Addr) (fd:FuncData):Prop where
 ex:∃ (oc:Value) (od:Option Addr) (kV doc pm:Value) (an:Option Addr) (cdv ct:Value) (osl:Array (Option Value)),
  fd=PySem.W.fnOf x qual (aH st) (aG st) (aB st) .none kV doc pm an cdv ct∧K.lookup f=some ⟨oc,od,.func fd,osl⟩∧PySem.W.codeIn K cdv qual=true
 kp:PySem.W.keepIn K (.ref f)=true
section
variable {P:Program}{w:World}{K:PySem.W.Frag}{mg:Str->Option Value}{base:Heap}
theorem Fun.ok {x qual:Str}{st:Stmt}{f:Addr}{fd:FuncData}{N ps:List Str}{k:Nat}{sp:Sp}(F:Fun K x qual st f fd) (S:aR N ps (aB st)) (len:∀ vs H Q E,sp vs H Q E->vs.length=ps.length)
  (hbody:∀ (cdv:Value) (A:Around) (outer:List Env) (s:Shared) (H:Hp) (vs:List V) (Q:VK) (E:XK),cL k (A.deeper (envOfC qual (aB st) s.heap.objs.size f cdv))->sp vs H Q E ->
   ∃ t,PSs (gB CX0 P w K mg base N qual (aB st) f cdv A outer s H E).nox (aG st) t∧t { nx:=fun _ H'=>Q .non H',rt:=Q } (fV N vs) H):bE P w K mg base CX0 (k+1) f fd ps sp:=by
 obtain⟨oc,od,kV,doc,pm,an,cdv,ct,osl,rfl,lk,hcd⟩:=F.ex;refine uK lk hcd S len fun A outer s H vs Q E hr hsp=>?_;obtain⟨t,h,q⟩:=hbody cdv A outer s H vs Q E hr hsp;exact⟨t,h.nox,q⟩
theorem Fun.binds {x qual:Str}{st:Stmt}{f:Addr}{fd:FuncData}{ps:List Str}(F:Fun K x qual st f fd)
  (h:∀ (kV doc pm:Value) (an:Option Addr) (cdv ct:Value) (us:List Value),us.length=ps.length->bindArgs (PySem.W.fnOf x qual (aH st) (aG st) (aB st) .none kV doc pm an cdv ct) ⟨us,[]⟩=pure (ps.zip us)):aX K fd ps []:=by
 obtain⟨oc,od,kV,doc,pm,an,cdv,ct,osl,rfl,lk,hcd⟩:=F.ex;exact .all (h kV doc pm an cdv ct)
theorem bZ {x qual:Str}{st:Stmt}{f:Addr}{oc:Value}{od an:Option Addr}{osl:Array (Option Value)}{kV doc pm cdv ct:Value}(l:K.lookup f=some ⟨oc,od,.func (PySem.W.fnOf x qual (aH st) (aG st) (aB st) .none kV doc pm an cdv ct),osl⟩)
  (c:PySem.W.codeIn K cdv qual=true) (k:PySem.W.keepIn K (.ref f)=true):Fun K x qual st f (PySem.W.fnOf x qual (aH st) (aG st) (aB st) .none kV doc pm an cdv ct):=⟨⟨oc,od,kV,doc,pm,an,cdv,ct,osl,rfl,l,c⟩,k⟩
end
theorem jS {A:Around}{k:Nat}(hr:cL k A):A.units+1<cLine:=Nat.lt_of_le_of_lt (Nat.add_le_add_left (by decide:1<=64) _) hr.units
theorem aU {n:Nat}(h:n<=1000):n<sizeLine:=Nat.lt_of_le_of_lt h (by decide)

section
variable {X:Cx}
theorem pv (i:Nat){x:Str}{pos:Pos}(hN:X.N[i]?=some x:=by rfl) (hv:Vis X.env.scope x:=by first | exact Or.inl rfl | exact Or.inr (Or.inl rfl) | exact Or.inr (Or.inr rfl)) (hd:(x==("__debug__" : Str))=false:=by decide)
  (hcd:(x==("__classdict__" : Str))=false:=by decide):PE X (.Name x pos) (yK i):=oY hN hv hd hcd
end

theorem hU {A B:Prop}(h:B):if false=true then A else B:=by
 rw[if_neg Bool.false_ne_true];exact h
theorem jU {A B:Prop}(h:A):if true=true then A else B:=by
 rw[if_pos rfl];exact h
theorem eQ {c A B:Prop} [Decidable c] (h1:c->A) (h2:¬ c->B):if c then A else B:=by
 by_cases h:c
 ·rw[if_pos h];exact h1 h
 ·rw[if_neg h];exact h2 h

def aO (H H':Hp):Prop:=∀ b o,H b=some o->H' b=some o
theorem aO.refl (H:Hp):aO H H:=fun _ _ h=>h
theorem aO.trans {H H1 H2:Hp}(a:aO H H1) (b:aO H1 H2):aO H H2:=fun c o h=>b c o (a c o h)
theorem aO.free {H H':Hp}(e:aO H H'){l:Addr}(h:H' l=Option.none):H l=Option.none:=by
 cases q:H l with
 | none=>rfl
 | some o=>
  rw[e l o q] at h;cases h
theorem aO.seq {K:PySem.W.Frag}{H H':Hp}{a:Addr}{xs:List V}(e:aO H H') (h:SqL K H a xs):SqL K H' a xs:=by
 rcases h with (h | ⟨o,h⟩) | h
 ·exact .inl (.inl (e _ _ h))
 ·exact .inl (.inr ⟨o,e _ _ h⟩)
 ·exact .inr h

end L2


namespace L2
open PySem PySem.Spec PyProof.Rows
section
variable {X:Cx}
inductive aQr (xs:List V) (H:Hp) (Q:VK):Prop
 | mk (a:_) (kvs:_) (h0_:xs=[V.ref a]) (h1_:H a=some (.dK kvs)) (h2_:Q (.int kvs.length) H)
theorem aDn:CallR X (.builtin "len") aQr:=by
 intro pins s σ H xs us Q I r h;obtain⟨a,kvs,rfl,ha,q⟩:=h;obtain⟨u,rfl,ru⟩:=iO r;cases ru;exact aOc I (.inl ha) fun t s' I'=>⟨.int kvs.length,H,I',⟨t,rfl⟩,q⟩
end
section
variable {κ:Type} [DecidableEq κ]
end
end L2
namespace L2
open PySem PySem.Spec PyProof.Rows

def aAu (c:Nat):V:=.str ⟨#[c]⟩
def Its (x:Str):It:=⟨fun i _=>i<x.cps.size,fun i H v H'=>H'=H∧∃ c,x.cps[i]?=some c∧v=aAu c,fun i _=>x.cps.size<=i⟩
theorem vX {P:Program}{w:World}{K:PySem.W.Frag}{tg:Expr}(n:String) (it:Addr) (x:Str) (t:Tok)
  (hn:n="str_ascii_iterator" ∨ n="str_iterator"):aAe P w K tg (Its x) [it] it (fun i h=>h.IsStrIter it n x t i) where
 mem:=by simp
 obj:=fun i h st b hb=>by
  have e:b=it:=by simpa using hb
  subst e;obtain⟨o,e,c,d⟩:=st;exact⟨o,e,fun v z=>by rw[d] at z; cases z⟩
 keep:=fun i h h' st k=>by
  obtain⟨o,e,c,d⟩:=st;exact⟨o,k it (by simp) o e,c,d⟩
 item:=by
  intro X hP hw hK hc i pins s σ H E I hf st hg;subst hP hw hK;obtain⟨f0,f1,f2,f3,f4,f5⟩:=hf it (by simp);have hg':i<x.cps.size:=hg;have hx:x.cps[i]?=some x.cps[i]:=by simp[hg']
  have fin:∀ h',h'.IsStrIter it n x t (i+1)->Heap.SameBut it s.heap h'->∃ u,some (Value.str ⟨#[x.cps[i]]⟩ s.toks)=some u ∧
   wpAny (model X.prog X.w) X.A (letOwnedTupleGo tg (.ref it) u) (fun _ s2=>∃ x_1 H',Inv X pins σ H' s2∧cE x_1 u∧(Its x).yld i H x_1 H'∧s2.heap.IsStrIter it n x t (i+1)∧∀ b∈[it],H' b=none) E { s with heap:=h',toks:=s.toks+1 }:=fun h' st' sb=>by
   have I1:Inv X pins σ H { s with heap:=h',toks:=s.toks+1 }:=I.turned (fun b o hb e=>(sb.2 b hb).trans e) f0 f1 f3 f4 f5;obtain⟨o,e,c,d⟩:=id st';refine⟨_,rfl,aGg (s:={ s with heap:=h',toks:=s.toks+1 }) e c d (by rcases hn with rfl | rfl <;> decide) ⟨aAu x.cps[i],H,I1,⟨_,rfl⟩,⟨rfl,_,hx,rfl⟩,st',fun b hb=>(hf b hb).1⟩⟩
  rcases hn with rfl | rfl
  ·exact wpAny_pyNext_ascii_item st hx fin
  ·exact wpAny_pyNext_wide_item st hx fin
 done:=by
  intro X hP hw hK hc i pins s σ H E I hf st hg;subst hP hw hK;obtain⟨f0,f1,f2,f3,f4,f5⟩:=hf it (by simp);have hg':x.cps.size<=i:=hg;have hx:x.cps[i]?=none:=by simp[hg']
  rcases hn with rfl | rfl
  ·exact wpAny_pyNext_ascii_end (I.ok.hd hc) st hx fun h' eb=>⟨rfl,I.turned (t':=s.toks) (fun b o hb e=>eb b o hb e) f0 f1 f3 f4 f5⟩
  ·exact wpAny_pyNext_wide_end (I.ok.hd hc) st hx fun h' eb=>⟨rfl,I.turned (t':=s.toks) (fun b o hb e=>eb b o hb e) f0 f1 f3 f4 f5⟩
 self:=fun _ _ _ _ _ st h=>by
  rcases hn with rfl | rfl
  ·exact wpAny_pyIter_striter_ascii st h
  ·exact wpAny_pyIter_striter_wide st h
section
variable {X:Cx}{tg:Expr}
def aQi (tl:TE):TI:=fun σ H R=>tl σ H fun v H1=>∃ x,v=.str x∧R (Its x) H1
theorem aLg {l:Expr}{tl:TE}(hl:PE X l tl):PI X tg l (aQi tl):=by
 intro pins s σ H R I h;refine thn (hl pins s σ H _ I h) fun v s1 ⟨x,H1,I1,r1,q1⟩=>?_;obtain⟨z,e,q⟩:=q1;subst e;obtain⟨t,rfl⟩:=r1
 have fp:∀ b∈[s1.heap.objs.size],lF X pins H1 b:=fun b hb=>by
  have e:b=s1.heap.objs.size:=by simpa using hb
  subst e;exact I1.fpOk (Nat.le_refl _) (I1.hok.fresh (Nat.le_refl _))
 cases ha:z.cps.all (·<128)
 ·exact wpAny_pyIter_wide ha ⟨s1.heap.objs.size,[s1.heap.objs.size],_,_,H1,rfl,I1.kept (t':=s1.toks) fun b o e=>Heap.get?_push_of_some _ e,vX "str_iterator" _ z t (.inr rfl),⟨_,Heap.get?_push_size _ rfl,rfl,rfl⟩,fp,q⟩
 ·exact wpAny_pyIter_ascii ha ⟨s1.heap.objs.size,[s1.heap.objs.size],_,_,H1,rfl,I1.kept (t':=s1.toks) fun b o e=>Heap.get?_push_of_some _ e,vX "str_ascii_iterator" _ z t (.inl rfl),⟨_,Heap.get?_push_size _ rfl,rfl,rfl⟩,fp,q⟩
end

theorem aDm {prog:Program}{w:World}{A:Around}{R:Result->Shared->Prop}{s:Shared}{elt target iter:Expr}{ifs:List Expr}{scope:Scope}{pos:Pos}{it acc:Value}{env:Env}(I:Nat->Shared->Prop)
  (turn:∀ n s,I n s->wpAny (model prog w) A (pyNext it) (fun r s₁=>match r with
   | none=>R (.ok .next) s₁
   | some v=>wpAny (model prog w) A (letOwnedTupleGo target it v) (fun _ s₁'=>wpAny (model prog w) A (assign target env v) (fun _ s₂=>
     wpAny (model prog w) A (forIn ifs true fun c r=>if r=true then do let ok ← isTrue c env (eval c env); pure (ForInStep.yield ok) else pure (ForInStep.yield r)) (fun ok s₃=>
      if ok=true then wpAny (model prog w) A (eval elt env) (fun x s₄=>
       wpAny (model prog w) A (call (.builtin "list.append") [acc,x]) (fun _ s₅=>∃ m,m<n∧I m s₅) (fun _ _=>False) s₄) (fun _ _=>False) s₃
      else ∃ m,m<n∧I m s₃) (fun _ _=>False) s₂) (fun _ _=>False) s₁') (fun _ _=>False) s₁) (fun _ _=>False) s)
  (n:Nat) (h:I n s) :
  codeAny (model prog w) A (.compLoop (.ListComp elt [⟨target,iter,ifs,0⟩] scope pos) 0 it acc env) R s:=by
 refine codeAny_loop rfl I (fun n s hI=>?_) n h;show wpAny _ A ((compTurn (.ListComp elt [⟨target,iter,ifs,0⟩] scope pos) 0 it acc env).onRaise (fun x=>do noteFrame x env; theTreesLotGoes x)) _ _ s;refine wpAny_noted ?_;rw[compTurn_list];refine wpAny_bind (wpAny_standAt (wpAny_bind (wpAny_mono (turn n s hI) (fun r s₁ h₁=>?_) fun _ _ h'=>h'.elim)));cases r with
 | none=>exact wpAny_pure h₁
 | some v=>
  refine wpAny_bind (wpAny_mono h₁ (fun _ s₁' h₁'=>?_) fun _ _ h'=>h'.elim);refine wpAny_bind (wpAny_mono h₁' (fun _ s₂ h₂=>wpAny_bind (wpAny_mono h₂ (fun ok s₃ h₃=>?_) fun _ _ h'=>h'.elim)) fun _ _ h'=>h'.elim);cases ok with
  | false=>exact wpAny_pure ⟨rfl,h₃⟩
  | true=>
   exact wpAny_bind (wpAny_bind (wpAny_mono h₃ (fun x s₄ h₄=>wpAny_bind (wpAny_mono h₄ (fun _ s₅ h₅=>wpAny_pure (wpAny_pure ⟨rfl,h₅⟩)) fun _ _ h'=>h'.elim)) fun _ _ h'=>h'.elim))

def cX (scope:Scope):List Str:=(scope.names.filter fun x=>x.2==.free).map (·.1)
def cZ (scope:Scope) (env:Env):List (Str×Addr):=(cX scope).foldl (fun cs n=>(n,(env.cells.lookup n).getD 0)::cs) []
theorem gP {scope:Scope}{env:Env}(h:∀ n∈cX scope,∃ c,env.cells.lookup n=some c):closureFor scope env=pure (cZ scope env):=by
 have go:∀ (names:List (Str×NameKind)) (cs:List (Str×Addr)),(∀ n,(n,NameKind.free)∈names->∃ c,env.cells.lookup n=some c) ->
   (forIn names cs fun (x:Str×NameKind) r=>(do
    let (name,kind):=x
    if kind==.free then
     let a ← cellOf env name
     pure (ForInStep.yield ((name,a)::r))
    else pure (ForInStep.yield r):Sem (ForInStep (List (Str×Addr)))))=pure (((names.filter fun x=>x.2==.free).map (·.1)).foldl (fun cs n=>(n,(env.cells.lookup n).getD 0)::cs) cs):=by
  intro names
  induction names with
  | nil=>intro cs _; rfl
  | cons x r ih=>
   intro cs hx;obtain⟨n,k⟩:=x;rw[List.forIn_cons]
   by_cases hk:k=.free
   ·subst hk;obtain⟨c,hc⟩:=hx n (by simp);have e:cellOf env n=pure c:=by unfold cellOf; rw[hc]
    simp only[beq_self_eq_true,if_true,e,pure_bind,List.filter_cons,List.map_cons,List.foldl_cons];rw[ih _ fun m hm=>hx m (List.mem_cons_of_mem _ hm),hc];rfl
   ·have hb:(k==NameKind.free)=false:=by simpa using hk
    simp only[hb,Bool.false_eq_true,if_false,pure_bind,List.filter_cons];exact ih _ fun m hm=>hx m (List.mem_cons_of_mem _ hm)
 unfold closureFor;have g:=go scope.names [] fun n hn=>h n (by unfold cX; exact List.mem_map.mpr ⟨(n,.free),List.mem_filter.mpr ⟨hn,by simp⟩,rfl⟩);refine (bind_congr (fun _=>rfl)).trans ?_;exact (congrArg (·>>=fun r=>pure r) g).trans (by simp only[pure_bind]; rfl)
end L2
namespace L2
open PySem PySem.Spec PyProof.Rows

theorem gT {env:Env}:∀ (ns:List Str) (cs:List (Str×Addr)),(∀ n∈ns,∃ c,env.cells.lookup n=some c)->(∀ x c,cs.lookup x=some c->env.cells.lookup x=some c) ->
  ∀ x c,(ns.foldl (fun cs n=>(n,(env.cells.lookup n).getD 0)::cs) cs).lookup x=some c->env.cells.lookup x=some c
 | [],cs,_,h=>h
 | n::r,cs,hn,h=>by
  refine gT r _ (fun m hm=>hn m (List.mem_cons_of_mem _ hm)) fun x c e=>?_;rw[List.lookup_cons] at e;cases q:(x==n) with
  | true=>
   rw[q] at e;have q':x=n:=by simpa using q
   subst q';obtain⟨c',hc⟩:=hn x List.mem_cons_self;rw[hc] at e ⊢;exact e
  | false=>rw[q] at e; exact h x c e
theorem gC {env:Env}:∀ (ns:List Str) (cs:List (Str×Addr)) (x:Str),(x∈ns∨∃ c,cs.lookup x=some c)->∃ c,(ns.foldl (fun cs n=>(n,(env.cells.lookup n).getD 0)::cs) cs).lookup x=some c
 | [],cs,x,h=>by
  rcases h with h | h
  ·simp at h
  ·exact h
 | n::r,cs,x,h=>by
  refine gC r _ x ?_;rcases h with h | ⟨c,h⟩
  ·rcases List.mem_cons.mp h with rfl | h
   ·exact .inr ⟨(env.cells.lookup x).getD 0,by rw[List.lookup_cons]; simp⟩
   ·exact .inl h
  ·refine .inr ?_;rw[List.lookup_cons];cases q:(x==n) with
   | true=>exact⟨_,rfl⟩
   | false=>exact⟨c,h⟩

structure oK (scope:Scope):Prop where
 kind:scope.kind=.function
 cell:∀ y∈scope.names,y.2≠.cell
 loc:∀ y∈scope.names,y.2=.local->scope.names.lookup y.1=some .local

theorem jI {env:Env}:∀ {names:List (Str×NameKind)}{x:Str}{k:NameKind},(∀ y∈names,y.2≠.cell) ->
  (names.map fun (n,k)=>if (k==NameKind.free&&env.scope.kind==.function&&env.kindOf n==some .cell) then (n,NameKind.cell) else (n,k)).lookup x=some k->(k=.cell∨k=.free)->(x,NameKind.free)∈names
 | [],_,_,_,h,_=>by simp at h
 | (n,k0)::r,x,k,hc,h,hk=>by
  have ih:=@jI env r x k fun y hy=>hc y (List.mem_cons_of_mem _ hy);have hq:List.lookup x ((if (k0==NameKind.free&&env.scope.kind==.function&&env.kindOf n==some .cell)=true then (n,NameKind.cell) else (n,k0))::_)=some k:=h
  have hk0:=hc (n,k0) List.mem_cons_self
  by_cases q:(k0==NameKind.free&&env.scope.kind==.function&&env.kindOf n==some .cell)=true
  ·rw[if_pos q,List.lookup_cons] at hq
   have hf:k0=.free:=by
    rw[Bool.and_eq_true,Bool.and_eq_true] at q
    simpa using q.1.1
   subst hf;cases hx:x==n with
   | true=>
    have e:x=n:=by simpa using hx
    subst e;exact List.mem_cons_self
   | false=>
    rw[hx] at hq;exact List.mem_cons_of_mem _ (ih hq hk)
  ·rw[if_neg q,List.lookup_cons] at hq;cases hx:x==n with
   | true=>
    rw[hx] at hq;have e:x=n:=by simpa using hx
    subst e;have e2:k0=k:=Option.some.inj hq;subst e2;rcases hk with z | z
    ·exact absurd z hk0
    ·rw[z]; exact List.mem_cons_self
   | false=>
    rw[hx] at hq;exact List.mem_cons_of_mem _ (ih hq hk)

def Cx.blk (X:Cx) (scope:Scope) (N':List Str) (C:Addr) (s₃:Shared) (H₃:Hp) (fp:List Addr):Cx:=
 { X with N:=N',s₀:=s₃,H₀:=H₃,env:=compEnvC scope (cZ scope X.env) C X.env,outer:=X.stack,stack:=X.stack,ex:=fp,fn:=fun _=>false,pn:=[],xe:=fun _ _=>False }

def cB (nown:Nat) (js:List Nat) (σ:St):St:=List.replicate nown none++js.map fun j=>(σ[j]?).join
structure gD (X:Cx) (scope:Scope) (N':List Str) (nown:Nat) (js:List Nat):Prop where
 len:N'.length=nown+js.length
 at':∀ k j,js[k]?=some j->X.N[j]?=N'[nown+k]?
 cel:∀ n∈cX scope,X.env.kindOf n=some .cell∨X.env.kindOf n=some .free
 fre:∀ k x,nown<=k->N'[k]?=some x->x∈cX scope∧(relabel scope X.env).names.lookup x≠some .local

theorem aDr {X:Cx}{pins:List (Addr×Obj)}{σ:St}{H:Hp}{s₃:Shared}{h₁:Heap}{tk:Nat}{scope:Scope}{N':List Str}{nown:Nat}{js:List Nat}{fp:List Addr}
  (I:Inv X pins σ H s₃) (S:oK scope) (B:gD X scope N' nown js) (hfp:∀ b∈fp,lF X pins H b) (hlt:∀ b∈fp,b<s₃.heap.objs.size)
  (hn:h₁.Ns s₃.heap.objs.size (fun _=>none)) (hk:∀ b o,s₃.heap.get? b=some o->h₁.get? b=some o) :
  Inv (X.blk scope N' s₃.heap.objs.size s₃ H fp) [] (cB nown js σ) H { s₃ with heap:=h₁,toks:=tk }:=by
 have hcl:∀ n∈cX scope,∃ c,X.env.cells.lookup n=some c:=fun n hn=>I.ok.has n (B.cel n hn);have cl1:∀ x c,(cZ scope X.env).lookup x=some c->X.env.cells.lookup x=some c:=gT (cX scope) [] hcl fun x c e=>by simp at e
 refine⟨⟨I.ok.mod,S.kind,I.ok.glob,I.ok.blt,Nat.le_refl _,fun x y c h1 h2=>I.ok.inj x y c (cl1 x c h1) (cl1 y c h2),fun x hx=>?_,fun x c h1 _=>?_,I.ok.hd,I.ok.frames,.inl rfl,fun b hb=>⟨Nat.ne_of_lt (hlt b hb),fun x c e=>(hfp b hb).2.2.2.2.1 x c (cl1 x c e)⟩,I.bs,Nat.le_trans I.ok.bsz I.sz,fun b o e hb=>?_,fun b hb z=>?_,I.stack,I.stkFree⟩,
  rfl,I.bare,Un.kept hk,⟨_,hn,fun i x v h1 h2 h3=>?_⟩,fun x c e=>?_,I.hok.fresh (Nat.le_refl _),fun x c e=>I.freeC x c (cl1 x c e),fun p hp=>?_,I.hok.kept hk,?_⟩
 ·have hx:(relabel scope X.env).names.lookup x=some .cell∨(relabel scope X.env).names.lookup x=some .free:=hx
  have m:(x,NameKind.free)∈scope.names:=by
   rcases hx with hx | hx
   ·exact jI S.cell hx (.inl rfl)
   ·exact jI S.cell hx (.inr rfl)
  exact gC (cX scope) [] x (.inl (List.mem_map.mpr ⟨(x,.free),List.mem_filter.mpr ⟨m,by simp⟩,rfl⟩))
 ·exact absurd h1 (by simp[Cx.blk])
 ·have f:=(hfp b hb).2.2.2.1;rcases f with f | f
  ·exact I.ok.noex b o e f
  ·exact absurd (Nat.lt_of_lt_of_le (Heap.lt_size (I.ok.bs b o e).1) f) (Nat.lt_irrefl _)
 ·rcases List.mem_cons.mp (I.stkSub b z) with e | e
  ·exact (hfp b hb).2.1 e
  ·exact (hfp b hb).2.2.1 e
 ·-- the names' values
  have h1:N'[i]?=some x:=h1
  have hi:nown<=i:=by
   by_cases q:nown<=i
   ·exact q
   ·exfalso;unfold cB at h2;rw[List.getElem?_append_left (by rw[List.length_replicate]; omega),List.getElem?_replicate] at h2;split at h2 <;> cases h2
  unfold cB at h2;rw[List.getElem?_append_right (by rw[List.length_replicate]; exact hi),List.length_replicate,List.getElem?_map] at h2;cases hj:js[i-nown]? with
  | none=>rw[hj] at h2; cases h2
  | some j=>
   rw[hj] at h2;have h2:some ((σ[j]?).join)=some (some v):=h2
   have e1:σ[j]?=some (some v):=by
    cases q:σ[j]? with
    | none=>rw[q] at h2; cases h2
    | some z=>rw[q] at h2; cases z with
     | none=>cases h2
     | some z=>cases h2; rfl
   have e2:X.N[j]?=some x:=by rw[B.at' _ j hj,show nown+(i-nown)=i by omega]; exact h1
   obtain⟨hfr,hnl⟩:=B.fre i x hi h1;have kx:=B.cel x hfr;obtain⟨m,hm,hl⟩:=I.loc
   obtain⟨u,r,l⟩:=hl j x v e2 e1 (by
    rcases kx with k | k
    ·exact .inr (.inl k)
    ·exact .inr (.inr k))
   refine⟨u,r,.inr ⟨?_,?_⟩⟩
   ·have hv:(relabel scope X.env).names.lookup x=some .local∨(relabel scope X.env).names.lookup x=some .cell∨(relabel scope X.env).names.lookup x=some .free:=h3;exact hv.resolve_left hnl
   ·rcases l with⟨k,_⟩ | ⟨k,c,e,z⟩
    ·rcases kx with k' | k' <;> rw[k] at k' <;> cases k'
    ·obtain⟨c',hc'⟩:=gC (env:=X.env) (cX scope) [] x (.inl hfr);have e3:=cl1 x c' hc';rw[e] at e3;cases e3;obtain⟨o,ho,hd⟩:=z;exact⟨c,hc',o,hk c o ho,hd⟩
 ·obtain⟨v,o,ho,hd⟩:=I.cell x c (cl1 x c e);exact⟨v,o,hk c o ho,hd⟩
 ·exact absurd (show p∈([]:List (Addr×Obj)) from hp) (by simp)
 ·unfold cB;show _=N'.length;rw[List.length_append,List.length_replicate,List.length_map,B.len]

theorem Inv.back {X:Cx}{pins:List (Addr×Obj)}{σ σ':St}{H H':Hp}{s₃ s':Shared}{scope:Scope}{N':List Str}{C:Addr}{fp:List Addr}{pl:List (Addr×Obj)}
  (I:Inv X pins σ H s₃) (hfp:∀ b∈fp,lF X pins H b) (J:Inv (X.blk scope N' C s₃ H fp) pl σ' H' s'):Inv X pins σ H' s':=
 I.call' J.os J.base J.hok J.bare fun b hb=>⟨(hfp b hb).2.2.2.1,(hfp b hb).2.1,(hfp b hb).2.2.2.2.1,(hfp b hb).2.2.2.2.2⟩

def PTs (X:Cx) (ifs:List Expr) (t:TT):Prop:=
 ∀ (pins:List (Addr×Obj)) (s:Shared) (σ:St) (H:Hp) (Q:Bool->Hp->Prop),Inv X pins σ H s->t σ H Q ->
  wpAny (model X.prog X.w) X.A (forIn ifs true fun c r=>if r=true then do let ok ← isTrue c X.env (eval c X.env); pure (ForInStep.yield ok) else pure (ForInStep.yield r)) (TP X pins σ Q) X.xe s
def aOr:TT:=fun _ H Q=>Q true H
theorem eE {X:Cx}:PTs X [] aOr:=fun _ _ _ H _ I h=>wpAny_tests_nil ⟨H,I,h⟩
theorem nL {X:Cx}{c:Expr}{t:TT}(h:PT X c t):PTs X [c] t:=fun pins s σ H Q I q=>wpAny_tests_one (h pins s σ H Q I q)

def yN (J:It) (D:Addr) (g:TG) (tc:TT) (te:TE) (R:Hp->Prop) (σ:St) (H:Hp):Prop:=
 ∃ W:Nat->Nat->St->Hp->Prop,(∃ m,W 0 m σ H)∧∀ i m σ H,W i m σ H ->
  (J.stop i H∧R H)∨(J.go i H∧∃ N:St->Hp->Prop,(∀ σ' H',N σ' H'->∃ m',m'<m∧W (i+1) m' σ' H')∧∀ x H',J.yld i H x H'->g x σ H' fun σ2 H2=>tc σ2 H2 fun b H3=>
   if b=true then te σ2 H3 fun y H4=>∃ ys,H4 D=some (.lst ys)∧ys.length<sizeLine∧N σ2 (upd H4 D (.lst (ys++[y]))) else N σ2 H3)
def aJv (wi:TI) (nown:Nat) (js:List Nat) (g:TG) (tc:TT) (te:TE):TE:=fun σ H Q=>
 wi σ H fun J H1=>∀ D,H1 D=none->yN J D g tc te (fun H2=>Q (.ref D) H2) (cB nown js σ) (upd H1 D (.lst []))

structure Blk (X:Cx) (scope:Scope) (N':List Str) (tg elt:Expr) (ifs:List Expr) (g:TG) (tc:TT) (te:TE):Prop where
 tg:∀ C s₃ H₃ fp,PG (X.blk scope N' C s₃ H₃ fp) tg g
 tc:∀ C s₃ H₃ fp,PTs (X.blk scope N' C s₃ H₃ fp) ifs tc
 te:∀ C s₃ H₃ fp,PE (X.blk scope N' C s₃ H₃ fp) elt te

theorem sB {X:Cx}{tg elt iter:Expr}{ifs:List Expr}{scope:Scope}{pos:Pos}{N':List Str}{nown:Nat}{js:List Nat}{g:TG}{tc:TT}{te:TE}{E:Value->Shared->Prop}
  (hc:X.calm=true) (S:oK scope) (B:gD X scope N' nown js) (K:Blk X scope N' tg elt ifs g tc te)
  {pins:List (Addr×Obj)}{σ:St}{H2:Hp}{s₂:Shared}{it:Addr}{fp:List Addr}{tn:Nat->Heap->Prop}{J:It}{Q:VK}{RR:Value->Addr->Result->Shared->Prop}
  (I2:Inv X pins σ H2 s₂) (T:aAe X.prog X.w X.K tg J fp it tn) (st2:tn 0 s₂.heap) (f2:∀ b∈fp,lF X pins H2 b)
  (h:∀ D,H2 D=none->yN J D g tc te (fun H'=>Q (.ref D) H') (cB nown js σ) (upd H2 D (.lst [])))
  (hRR:∀ (D C:Addr) (H':Hp) (s':Shared),Inv X pins σ H' s'->(∃ m,s'.heap.Ns C m)->(∀ h',Heap.SameBut C s'.heap h'->Inv X pins σ H' { s' with heap:=h' })->lF X pins H' C->Q (.ref D) H'->RR (.ref D) C (.ok .next) s') :
  wpAny (model X.prog X.w) X.A (newList []) (fun acc s₃=>wpAny (model X.prog X.w) X.A (newFunctionEnv scope X.env.globals (cZ scope X.env) [] X.env.qual none .none (some X.env)) (fun cenv s₄=>
   codeAny (model X.prog X.w) X.A (.compStart (.ListComp elt [⟨tg,iter,ifs,0⟩] scope pos) 0 (.ref it) acc { cenv with scope:=relabel scope X.env }) (RR acc cenv.locals) s₄) E s₃) E s₂:=by
 have hD:H2 s₂.heap.objs.size=none:=I2.hok.fresh (Nat.le_refl _);have k3:∀ b o,s₂.heap.get? b=some o->(s₂.heap.push { cls:=.type "list",dict:=none,data:=.seq ([]:List Value).toArray }).get? b=some o:=fun b o e=>Heap.get?_push_of_some _ e
 have I3:Inv X pins σ (upd H2 s₂.heap.objs.size (.lst [])) { s₂ with heap:=s₂.heap.push { cls:=.type "list",dict:=none,data:=.seq ([]:List Value).toArray } }:=
  I2.laid (t':=s₂.toks) k3 (Nat.le_refl _) ⟨Nat.zero_le _,[],0,.nil,Heap.get?_push_size _ rfl⟩
 have lt2:∀ b∈fp,b<s₂.heap.objs.size:=fun b hb=>let ⟨o,e,_⟩:=T.obj 0 _ st2 b hb; Heap.lt_size e;have f3:∀ b∈fp,lF X pins (upd H2 s₂.heap.objs.size (.lst [])) b:=fun b hb=>⟨by rw[aI (Nat.ne_of_lt (lt2 b hb))]; exact (f2 b hb).1,(f2 b hb).2⟩;have st3:=T.keep 0 _ _ st2 fun b _ o e=>k3 b o e;obtain⟨W,⟨m0,w0⟩,turn⟩:=h _ hD;refine wpAny_newObj_type (wpAny_newFunctionEnv S.cell (by intro y hy; simp at hy) (fun h₁ hns₁ hsb₁=>?_) S.kind);dsimp only at hns₁ hsb₁ ⊢;generalize hs3:({ s₂ with heap:=s₂.heap.push { cls:=.type "list",dict:=none,data:=.seq ([]:List Value).toArray } }:Shared)=s₃ at I3;have h3:s₂.heap.push { cls:=.type "list",dict:=none,data:=.seq ([]:List Value).toArray }=s₃.heap:=by rw[← hs3]
 rw[h3] at hns₁ hsb₁ st3 ⊢;have k4:∀ b o,s₃.heap.get? b=some o->h₁.get? b=some o:=fun b o e=>hsb₁.extBut b o (Nat.ne_of_lt (Heap.lt_size e)) (Heap.get?_push_of_some _ e)
 have hns:h₁.Ns s₃.heap.objs.size (fun _=>none):=by
  obtain⟨o,es,ep,e,d,k,r⟩:=hns₁;exact⟨o,es,ep,e,d,k,fun n=>by rw[r n]; rfl⟩
 have lt3:∀ b∈fp,b<s₃.heap.objs.size:=fun b hb=>let ⟨o,e,_⟩:=T.obj 0 _ st3 b hb; Heap.lt_size e;have J0:∀ tk,Inv (X.blk scope N' s₃.heap.objs.size s₃ (upd H2 s₂.heap.objs.size (.lst [])) fp) [] (cB nown js σ) (upd H2 s₂.heap.objs.size (.lst [])) { s₃ with heap:=h₁,toks:=tk }:=fun tk=>aDr I3 S B f3 lt3 hns k4
 have loop:∀ s4:Shared,s4={ s₃ with heap:=h₁,toks:=s₂.toks+([]:List (Str×Value)).length } ->
   codeAny (model X.prog X.w) X.A (.compLoop (.ListComp elt [⟨tg,iter,ifs,0⟩] scope pos) 0 (.ref it) (.ref s₂.heap.objs.size) (compEnvC scope (cZ scope X.env) s₃.heap.objs.size X.env)) (RR (.ref s₂.heap.objs.size) s₃.heap.objs.size) s4:=by
  rintro s4 rfl
  have Y:∀ b∈fp,lF (X.blk scope N' s₃.heap.objs.size s₃ (upd H2 s₂.heap.objs.size (.lst [])) fp) [] (upd H2 s₂.heap.objs.size (.lst [])) b:=fun b hb=>by
   have F:=f3 b hb;refine⟨F.1,Nat.ne_of_lt (lt3 b hb),fun z=>?_,.inl hb,(J0 0).ok.exf b hb |>.2,fun p hp=>absurd (show p∈([]:List (Addr×Obj)) from hp) (by simp)⟩
   exact (J0 0).ok.exfs b hb z
  have stat:∀ {H':Hp},(∀ b∈fp,H' b=none)->∀ b∈fp,lF (X.blk scope N' s₃.heap.objs.size s₃ (upd H2 s₂.heap.objs.size (.lst [])) fp) [] H' b:=fun hn b hb=>⟨hn b hb,(Y b hb).2⟩
  refine aDm (fun n s'=>∃ i σ' H',Inv (X.blk scope N' s₃.heap.objs.size s₃ (upd H2 s₂.heap.objs.size (.lst [])) fp) [] σ' H' s'∧tn i s'.heap∧(∀ b∈fp,H' b=none)∧W i n σ' H') ?_ m0
   ⟨0,_,_,J0 _,T.keep 0 _ _ st3 fun b _ o e=>k4 b o e,fun b hb=>(f3 b hb).1,w0⟩
  rintro n s5 ⟨i,σ5,H5,I5,st5,fr5,w5⟩;rcases turn i n σ5 H5 w5 with⟨stop,qn⟩ | ⟨go,N,hN,step⟩
  ·refine thn (T.done (X.blk scope N' s₃.heap.objs.size s₃ (upd H2 s₂.heap.objs.size (.lst [])) fp) rfl rfl rfl hc i [] s5 σ5 H5 _ I5 (stat fr5) st5 stop) fun r s6 ⟨hr,I6⟩=>?_;subst hr;have I6':Inv X pins σ H5 s6:=I3.back f3 I6;have hC:lF X pins H5 s₃.heap.objs.size:=I3.fpOk (Nat.le_refl _) I6.free;refine hRR _ _ H5 s6 I6' (let ⟨m,hm,_⟩:=I6.loc; ⟨m,hm⟩) (fun h' sb=>?_) hC qn;exact I6'.turned (t':=s6.toks) (fun b o hb e=>(sb.2 b hb).trans e) hC.1 hC.2.1 hC.2.2.2.1 hC.2.2.2.2.1 hC.2.2.2.2.2
  ·refine thn (T.item (X.blk scope N' s₃.heap.objs.size s₃ (upd H2 s₂.heap.objs.size (.lst [])) fp) rfl rfl rfl hc i [] s5 σ5 H5 _ I5 (stat fr5) st5 go) fun r s6 ⟨u,hr,h6⟩=>?_;subst hr;refine thn h6 fun _ s7 ⟨x,H7,I7,r7,y7,st7,fr7⟩=>?_;have I7':=I7.pinned (stat fr7) (T.obj _ _ st7)
   have again:∀ {σ9:St}{H9:Hp}{s9:Shared},Inv (X.blk scope N' s₃.heap.objs.size s₃ (upd H2 s₂.heap.objs.size (.lst [])) fp) ([]++rH fp s7.heap) σ9 H9 s9->N σ9 H9 ->
     ∃ m,m<n∧∃ i σ' H',Inv (X.blk scope N' s₃.heap.objs.size s₃ (upd H2 s₂.heap.objs.size (.lst [])) fp) [] σ' H' s9∧tn i s9.heap∧(∀ b∈fp,H' b=none)∧W i m σ' H':=fun {σ9 H9 s9} I9 n9=>by
    obtain⟨m',hm,w9⟩:=hN σ9 H9 n9;refine⟨m',hm,i+1,σ9,H9,I9.unpinned,T.keep _ _ _ st7 fun b hb o e=>(I9.pin (b,o) (List.mem_append_right _ (List.mem_append_right _ (jO hb e)))).1,fun b hb=>?_,w9⟩;obtain⟨o,e,d⟩:=T.obj _ _ st7 b hb;exact (I9.pin (b,o) (List.mem_append_right _ (List.mem_append_right _ (jO hb e)))).2.1
   refine thn (K.tg _ _ _ _ _ s7 σ5 H7 x u _ I7' r7 (step x H7 y7)) fun _ s8 ⟨σ8,H8,I8,q8⟩=>?_;refine thn (K.tc _ _ _ _ _ s8 σ8 H8 _ I8 q8) fun ok s9 ⟨H9,I9,q9⟩=>?_;cases ok with
   | false=>exact again I9 q9
   | true=>
    rw[if_pos rfl] at q9 ⊢;refine thn (K.te _ _ _ _ _ s9 σ8 H9 _ I9 q9) fun y s10 ⟨yv,H10,I10,r10,ys,e10,l10,q10⟩=>?_;refine thn (eO _ s10 σ8 H10 (.ref s₂.heap.objs.size) [yv] (.ref s₂.heap.objs.size) [y] (fun v H'=>N σ8 H') I10 rfl (.cons r10 .nil) ⟨_,ys,yv,rfl,rfl,e10,l10,q10⟩) fun _ s11 ⟨_,H11,I11,_,q11⟩=>again I11 q11
 have fin:=loop _ rfl;have e4:({ s₂ with heap:=h₁,toks:=s₂.toks+([]:List (Str×Value)).length }:Shared)={ s₃ with heap:=h₁,toks:=s₂.toks+([]:List (Str×Value)).length }:=by rw[← hs3]
 rw[← e4] at fin;refine codeAny_compStart_list fin (T.self _ 0 _ _ _ ?_ fin);exact T.keep 0 _ _ st3 fun b _ o e=>k4 b o e

section
variable {X:Cx}{tg elt iter:Expr}{ifs:List Expr}{scope:Scope}{pos:Pos}{N':List Str}{nown:Nat}{js:List Nat}{wi:TI}{g:TG}{tc:TT}{te:TE}
theorem eL (hc:X.calm=true) (S:oK scope) (B:gD X scope N' nown js) (K:Blk X scope N' tg elt ifs g tc te) (hi:PI X tg iter wi)
  (hs:∀ x,foldedSetIterable iter X.env x=pure x:=by intro _; rfl):PE X (.ListComp elt [⟨tg,iter,ifs,0⟩] scope pos) (aJv wi nown js g tc te):=by
 intro pins s σ H Q I h;have hcl:closureFor scope X.env=pure (cZ scope X.env):=gP fun n hn=>I.ok.has n (B.cel n hn);rw[eval_ListComp];refine wpAny_comprehension_free (use:=none) rfl hs hcl S.kind S.loc (thn (hi pins s σ H _ I h) fun xv s₁ h₁=>thn h₁ fun itv s₂ h₂=>?_);obtain⟨it,fp,tn,J,H2,e,I2,T,st2,f2,q⟩:=h₂;subst e;refine sB (RR:=fun acc C=>compPost (model X.prog X.w) X.A X.xe none (EP X pins σ Q) acc C) hc S B K I2 T st2 f2 q fun D C H' s' I' hm k hC qq=>?_;obtain⟨m,hm⟩:=hm;exact⟨m,hm,fun h' sb=>⟨.ref D,H',k h' sb,rfl,qq⟩⟩
theorem gL {i:Nat}{x:Str}{px spos:Pos}(hsw:swapsWith (.ListComp elt [⟨tg,iter,ifs,0⟩] scope pos) (some (.Name x px)) spos.line X.env=pure true) (hN:X.N.Nodup) (hi':X.N[i]?=some x) (hx:X.env.scope.names.lookup x=some .local)
  (hc:X.calm=true) (S:oK scope) (B:gD X scope N' nown js) (K:Blk X scope N' tg elt ifs g tc te) (hi:PI X tg iter wi)
  (hs:∀ x,foldedSetIterable iter X.env x=pure x:=by intro _; rfl):PS X (.Assign [.Name x px] (.ListComp elt [⟨tg,iter,ifs,0⟩] scope pos) spos) (aEh (aJv wi nown js g tc te) (eV i)):=by
 intro pins s σ H D I h;have hcl:closureFor scope X.env=pure (cZ scope X.env):=gP fun n hn=>I.ok.has n (B.cel n hn);rw[exec_Assign_Name_used _ _ _ _ hsw];refine wpAny_bind (wpAny_standAt (wpAny_bind ?_));show wpAny _ _ (do let _ ← comprehension (.ListComp elt [⟨tg,iter,ifs,0⟩] scope pos) scope X.env _ (newList []) false (eval iter X.env) (some (assign (.Name x px) X.env))) _ _ s
 refine wpAny_bind (wpAny_mono (wpAny_comprehension_free (use:=some (assign (.Name x px) X.env)) (Q:=fun _ s'=>SP X pins D .next s') rfl hs hcl S.kind S.loc (thn (hi pins s σ H _ I h) fun xv s₁ h₁=>thn h₁ fun itv s₂ h₂=>?_))
  (fun _ s' hq=>wpAny_pure (wpAny_pure hq)) fun _ _ e=>e)
 obtain⟨it,fp,tn,J,H2,e,I2,T,st2,f2,q⟩:=h₂;subst e;refine sB (RR:=fun acc C=>compPost (model X.prog X.w) X.A X.xe (some (assign (.Name x px) X.env)) (fun _ s'=>SP X pins D .next s') acc C) (Q:=fun v H'=>D.nx (σ.set i (some v)) H') hc S B K I2 T st2 f2 q fun Da C H' s' I' hm k hC qq=>?_;show wpAny _ _ (assign (.Name x px) X.env (.ref Da)) _ _ _;refine wpAny_assign_Name (tJ I' hN hi' (.inl hx) (v:=.ref Da) rfl (fun s'' I'' ⟨a,sb,ha⟩=>?_) (.inr hx))
 have hCa:C≠a:=by
  rcases ha with rfl | ha
  ·exact hC.2.1
  ·exact fun z=>hC.2.2.2.2.1 x a ha z.symm
 obtain⟨m,hm⟩:=hm;refine⟨m,hm.sameBut sb hCa,fun h' sb'=>⟨_,H',?_,qq⟩⟩;exact I''.turned (t':=s''.toks) (fun b o hb e=>(sb'.2 b hb).trans e) hC.1 hC.2.1 hC.2.2.2.1 hC.2.2.2.2.1 hC.2.2.2.2.2
end

theorem iJ {K:PySem.W.Frag}{a D:Addr}{xs:List V}{g:TG}{tc:TT}{te:TE}{R:Hp->Prop}{σ:St}{H:Hp}(Pv:Nat->St->Hp->Prop) (h0:Pv 0 σ H)
  (hl:∀ i σ H,i<=xs.length->Pv i σ H->SqL K H a xs)
  (hs:∀ i x σ H,xs[i]?=some x->Pv i σ H->g x σ H fun σ2 H2=>tc σ2 H2 fun b H3=>if b=true then te σ2 H3 fun y H4=>∃ ys,H4 D=some (.lst ys)∧ys.length<sizeLine∧Pv (i+1) σ2 (upd H4 D (.lst (ys++[y]))) else Pv (i+1) σ2 H3)
  (hd:∀ σ H,Pv xs.length σ H->R H):yN (Itl K a) D g tc te R σ H:=by
 refine⟨fun i m σ H=>m=xs.length-i∧i<=xs.length∧Pv i σ H,⟨xs.length,by simp,Nat.zero_le _,h0⟩,?_⟩;rintro i m σ H ⟨rfl,hi,p⟩;have q:=hl i σ H hi p
 by_cases hlt:i<xs.length
 ·refine .inr ⟨⟨xs,xs[i],q,by simp[hlt]⟩,Pv (i+1),fun σ' H' p'=>⟨xs.length-(i+1),by omega,rfl,hlt,p'⟩,fun x H' y=>?_⟩;obtain⟨e,y⟩:=y;subst e;exact hs i x σ _ (y xs q) p
 ·have e:i=xs.length:=by omega
  subst e;exact .inl ⟨⟨xs,q,Nat.le_refl _⟩,hd σ H p⟩
theorem iA {lo:Int}{n:Nat}{D:Addr}{g:TG}{tc:TT}{te:TE}{R:Hp->Prop}{σ:St}{H:Hp}(Pv:Nat->St->Hp->Prop) (h0:Pv 0 σ H)
  (hs:∀ i σ H,i<n->Pv i σ H->g (.int (lo+i)) σ H fun σ2 H2=>tc σ2 H2 fun b H3=>if b=true then te σ2 H3 fun y H4=>∃ ys,H4 D=some (.lst ys)∧ys.length<sizeLine∧Pv (i+1) σ2 (upd H4 D (.lst (ys++[y]))) else Pv (i+1) σ2 H3)
  (hd:∀ σ H,Pv n σ H->R H):yN (Itr lo n) D g tc te R σ H:=by
 refine⟨fun i m σ H=>m=n-i∧i<=n∧Pv i σ H,⟨n,by simp,Nat.zero_le _,h0⟩,?_⟩;rintro i m σ H ⟨rfl,hi,p⟩
 by_cases hlt:i<n
 ·refine .inr ⟨hlt,Pv (i+1),fun σ' H' p'=>⟨n-(i+1),by omega,rfl,hlt,p'⟩,fun x H' y=>?_⟩;obtain⟨e,y⟩:=y;subst e y;exact hs i σ _ hlt p
 ·have e:i=n:=by omega
  subst e;exact .inl ⟨Nat.le_refl _,hd σ H p⟩
theorem aJm {x:Str}{D:Addr}{g:TG}{tc:TT}{te:TE}{R:Hp->Prop}{σ:St}{H:Hp}(Pv:Nat->St->Hp->Prop) (h0:Pv 0 σ H)
  (hs:∀ i c σ H,x.cps[i]?=some c->Pv i σ H->g (aAu c) σ H fun σ2 H2=>tc σ2 H2 fun b H3=>if b=true then te σ2 H3 fun y H4=>∃ ys,H4 D=some (.lst ys)∧ys.length<sizeLine∧Pv (i+1) σ2 (upd H4 D (.lst (ys++[y]))) else Pv (i+1) σ2 H3)
  (hd:∀ σ H,Pv x.cps.size σ H->R H):yN (Its x) D g tc te R σ H:=by
 refine⟨fun i m σ H=>m=x.cps.size-i∧i<=x.cps.size∧Pv i σ H,⟨x.cps.size,by simp,Nat.zero_le _,h0⟩,?_⟩;rintro i m σ H ⟨rfl,hi,p⟩
 by_cases hlt:i<x.cps.size
 ·refine .inr ⟨hlt,Pv (i+1),fun σ' H' p'=>⟨x.cps.size-(i+1),by omega,rfl,hlt,p'⟩,fun v H' y=>?_⟩;obtain⟨e,c,hc,rfl⟩:=y;subst e;exact hs i c σ _ hc p
 ·have e:i=x.cps.size:=by omega
  subst e;exact .inl ⟨Nat.le_refl _,hd σ H p⟩
end L2
namespace L2
open PySem PySem.Spec PyProof.Rows

section
variable {X:Cx}{e:Expr}{te:TE}{lo hi:Option Expr}{tl th:TO}{pos p2:Pos}
end

section
variable {X:Cx}
theorem aAi:∀ {bs:List Bool}{us:List Value},bY (bs.map V.bl) us->∀ (i:Nat) (v:Value),us[i]?=some v->∃ b,bs[i]?=some b∧v=.bool b
 | [],_,.nil,_,_,e=>by simp at e
 | b::bs,_,.cons r rr,0,v,e=>by
  cases r;simp at e;exact⟨b,rfl,e.symm⟩
 | b::bs,_,.cons r rr,i+1,v,e=>by
  obtain⟨c,h1,h2⟩:=aAi (bs:=bs) rr i v (by simpa using e);exact⟨c,by simpa using h1,h2⟩
inductive aQy (K:PySem.W.Frag) (xs:List V) (H:Hp) (Q:VK):Prop
 | mk (a:Addr) (bs:List Bool) (h0_:xs=[.ref a]) (h1_:SqL K H a (bs.map V.bl)) (h2_:Q (.bl (bs.all id)) H)
theorem aDp (hc:X.calm=true):CallR X (.builtin "all") (aQy X.K):=by
 intro pins s σ H xs us Q I r h;obtain⟨a,bs,rfl,hs,q⟩:=h;obtain⟨u,rfl,rx⟩:=iO r;cases rx;obtain⟨its,rv,pl,hz⟩:=I.list hs;have hl:=pl.isList;have hlt:a<s.heap.objs.size:=by obtain⟨_,e,_⟩:=hl; exact Heap.lt_size e
 have hlen:its.length=bs.length:=by rw[← rv.length,List.length_map]
 refine call_all_walk (wpAny_pyIter_list hl ⟨s.heap.objs.size,[s.heap.objs.size,a],[s.heap.objs.size],its.toArray.size,_,_,fun i=>(bs[i]?).getD true,rfl,
  Walks.list (A:=X.A.in1) (I.ok.hd hc) _ a (Nat.ne_of_lt hlt) its.toArray,⟨⟨_,Heap.get?_push_size _ rfl,rfl,rfl⟩,hl.push _⟩,fun i v s' Q' E' hP hQ=>?_,fun h' tk hk=>?_⟩)
 ·obtain⟨b,eb,rfl⟩:=aAi rv i v (by simpa using hP);simp only[eb,Option.getD_some] at hQ;exact wpAny_truthy_bool hQ
 ·have ea:((List.range its.toArray.size).all fun i=>(bs[i]?).getD true)=bs.all id:=by
   rw[List.size_toArray,hlen];exact LSm.range_all bs
  rw[ea];exact⟨.bl (bs.all id),H,I.kept (LSm.kept_iter hk),rfl,q⟩
inductive aOi (K:PySem.W.Frag) (xs:List V) (H:Hp) (Q:VK):Prop
 | mk (x:_) (c:_) (cv:_) (t:_) (b:_) (h0_:xs=[x,c]) (h1_:(∀ u,cE c u->u=cv)) (h2_:nF K H x t) (h3_:PySem.W.kitOne K t cv=some b) (h4_:Q (.bl b) H)
theorem aGr:CallR X (.builtin "isinstance") (aOi X.K):=by
 intro pins s σ H xs us Q I r h;obtain⟨x,c,cv,t,b,rfl,hc,ty,e,q⟩:=h;obtain⟨u,w',rfl,rx,rc⟩:=aDz r;have ec:=hc w' rc;subst ec;exact aDe I rx ty e fun tk=>⟨.bl b,H,I.tok tk,rfl,q⟩
theorem yV {T:String}:∀ u,cE (.ty T) u->u=.type T:=fun _ r=>r
theorem aHv {a:Addr}:∀ u,cE (.ref a) u->u=.ref a:=fun _ r=>r
end

def aPb (P:St->Hp->Prop) (t u:TS):TS:=fun D σ H=>t { D with nx:=P } σ H∧∀ σ' H',P σ' H'->u D σ' H'
theorem dL {X:Cx}{st:Stmt}{rest:List Stmt}{t u:TS}(P:St->Hp->Prop) (h1:PS X st t) (h2:PSs X rest u):PSs X (st::rest) (aPb P t u):=by
 intro pins s σ H D I h;obtain⟨ht,hu⟩:=h;refine wpAny_execs_cons (thn (h1 pins s σ H { D with nx:=P } I ht) fun f s1 q=>?_);cases f with
 | next=>
  obtain⟨σ',H',I',q⟩:=q;exact h2 pins s1 σ' H' D I' (hu σ' H' q)
 | ret v=>exact q
 | brk=>exact q
 | cont=>exact q
end L2
namespace L2
open PySem PySem.Spec PyProof.Rows
namespace Bo
theorem isinstance:bootBuiltins "isinstance" = some (.builtin "isinstance"):=by decide +kernel
theorem str:bootBuiltins "str" = some (.type "str"):=by decide +kernel
theorem int:bootBuiltins "int" = some (.type "int"):=by decide +kernel
theorem list:bootBuiltins "list" = some (.type "list"):=by decide +kernel
theorem tuple:bootBuiltins "tuple" = some (.type "tuple"):=by decide +kernel
theorem all:bootBuiltins "all" = some (.builtin "all"):=by decide +kernel
theorem len:bootBuiltins "len" = some (.builtin "len"):=by decide +kernel
theorem sorted:bootBuiltins "sorted" = some (.builtin "sorted"):=by decide +kernel
theorem enumerate:bootBuiltins "enumerate" = some (.type "enumerate"):=by decide +kernel
end Bo
def wO (scope sc:Scope):List (Str×NameKind):=scope.names.map fun (n,k)=>if (k==.free&&sc.kind==.function&&sc.names.lookup n==some .cell) then (n,.cell) else (n,k)
def aKj (sc scope:Scope) (N N':List Str) (nown:Nat) (js:List Nat):Bool:=
 decide (N'.length=nown+js.length)&&(List.range js.length).all (fun k=>decide (N[js.getD k 0]?=N'[nown+k]?))
  && (cX scope).all (fun n=>decide (sc.names.lookup n=some .cell)||decide (sc.names.lookup n=some .free))
  && (List.range js.length).all (fun k=>match N'[nown+k]? with | some x=>decide (x∈cX scope)&&decide ((wO scope sc).lookup x≠some .local) | none=>false)
theorem cJ {X:Cx}{scope:Scope}{N':List Str}{nown:Nat}{js:List Nat}(sc:Scope) (N:List Str) (hsc:X.env.scope=sc) (hN:X.N=N) (h:aKj sc scope N N' nown js=true):gD X scope N' nown js:=by
 subst hsc hN;unfold aKj at h;rw[Bool.and_eq_true,Bool.and_eq_true,Bool.and_eq_true] at h;obtain⟨⟨⟨h1,h2⟩,h3⟩,h4⟩:=h;have h1:=of_decide_eq_true h1;refine⟨h1,fun k j e=>?_,fun n hn=>?_,fun k x hk e=>?_⟩
 ·have hk:k<js.length:=(List.getElem?_eq_some_iff.mp e).1;have q:=of_decide_eq_true (List.all_eq_true.mp h2 k (List.mem_range.mpr hk));have ej:js.getD k 0=j:=by rw[List.getD_eq_getElem?_getD,e]; rfl
  rw[ej] at q;exact q
 ·have q:=List.all_eq_true.mp h3 n hn;rw[Bool.or_eq_true] at q;exact q.imp (fun z=>of_decide_eq_true z) fun z=>of_decide_eq_true z
 ·have hl:k<N'.length:=(List.getElem?_eq_some_iff.mp e).1;have q:=List.all_eq_true.mp h4 (k-nown) (List.mem_range.mpr (by omega));have ek:nown+(k-nown)=k:=by omega
  rw[ek,e] at q;have q':(decide (x∈cX scope)&&decide ((wO scope X.env.scope).lookup x≠some .local))=true:=q;rw[Bool.and_eq_true] at q';exact⟨of_decide_eq_true q'.1,of_decide_eq_true q'.2⟩

def nA:Expr->Bool
 | .Starred ..=>true
 | _=>false
theorem bV {e:Expr}{es:List Expr}{env:Env}(h:nA e=false):starEach (e::es) env=(false,eval e env)::starEach es env:=by
 cases e <;> first | rfl | cases h
theorem pac {X:Cx}{e:Expr}{es:List Expr}{te:TE}{t:TA}(ha:PE X e te) (hr:PA X es t) (hs:nA e=false:=by rfl):PA X (e::es) (vZ te t):=iT ha hr (bV hs)

end L2
namespace L2
open PySem
section
variable {X:Cx}{D:sN}{s1 s2 s3 s4 s5:Stmt}{rest:List Stmt}{t1 t2 t3 t4 t5:TS}{J:St->Hp->Prop}
end
end L2
namespace L2
open PySem PySem.Spec PyProof.Rows

inductive CXE (P:Program) (w:World) (outer:List Env) (H:Hp) (s:Shared) (E:XK) (ev:Value) (s':Shared):Prop
 | mk (e t:Addr) (cls:Value) (vs:List Value) (H':Hp) (B:Heap) (h1:ev=.ref e) (h2:s'.os=s.os) (h3:AllBare s'.gens) (h4:Un (frs outer) [] H H' s.heap s'.heap) (h5:HOk P w H' s'.heap)
  (h6:Heap.FlyingW B outer e cls (.ref t) s'.heap) (h7:s'.heap.TupAt t vs) (h8:B.get? t=none)
  (h9:∀ b o,s.heap.get? b=some o->H b=none->b∉frs outer->B.get? b=some o) (h10:∀ b u,H' b=some u->∃ o,B.get? b=some o)
  (h11:∀ b o,s.heap.get? b=some o->b∉frs outer->∃ o',B.get? b=some o') (h12:E cls none H')
theorem HOk.inB {P:Program}{w:World}{H:Hp}{h h' B:Heap}(x:HOk P w H h) (k:B.StaysIn h) (k':B.StaysIn h') (t:∀ b u,H b=some u->∃ o,B.get? b=some o):HOk P w H h':=fun a o e=>by
 refine (x a o e).stay (fun b u hb q=>?_) (fun _ q=>q) fun _ _ q=>q
 have hs:∃ v,H b=some v:=by
  rcases hb with rfl | hb
  ·exact⟨o,e⟩
  ·exact⟨_,hb⟩
 obtain⟨v,hv⟩:=hs;obtain⟨o',ho⟩:=t b v hv
 have:=k b o' ho
 rw[q] at this;cases this;exact k' b u ho
structure Cx.Body (X:Cx) (E:XK):Prop where
 xe:X.xe=fun ev s'=>wpAny (model X.prog X.w) X.A (leaving X.env ev) (fun _ s''=>CXE X.prog X.w X.outer X.H₀ X.s₀ E ev s'') (fun ev' s''=>CXE X.prog X.w X.outer X.H₀ X.s₀ E ev' s'') s'
 stk:X.stack=X.env::X.outer
 frm:X.env.frame=some X.env.locals
 ex:X.ex=[]
theorem qQ {P:Program}{w:World}{K:PySem.W.Frag}{mg:Str->Option Value}{base:Heap}{N:List Str}{qual:Str}{scope:Scope}{f:Addr}{cd:Value}{A:Around}{outer:List Env}{s:Shared}{H:Hp}{E:XK} :
  (gB (CXE P w) P w K mg base N qual scope f cd A outer s H E).Body E:=⟨rfl,rfl,rfl,rfl⟩
section
variable {X:Cx}{E:XK}
theorem Cx.Body.stkFrs (D:X.Body E):frs X.stack=X.env.locals::X.fs:=by
 rw[D.stk];show List.filterMap _ (X.env::X.outer)=_;rw[List.filterMap_cons,D.frm];rfl
theorem Cx.Body.passes (D:X.Body E){E':XK}(hE:∀ c d H',E' c d H'->E c d H'):eY (CXE X.prog X.w) X E':=by
 intro pins σ H s ev s' I h;obtain⟨e,t,cls,vs,H',B,rfl,h2,h3,h4,h5,h6,h7,h8,h9,h10,h12,h11⟩:=h;have J:Inv X pins σ H' s':=I.call' (ch:=[]) h2 h4 h5 h3 fun _ z=>nomatch z;rw[D.xe];show wpAny (model X.prog X.w) X.A (leaving X.env (.ref e)) _ _ s';have hfr:X.A.frames=some (X.env::X.outer):=by rw[I.ok.frames,D.stk]
 rw[D.stk] at h6;refine wpAny_leaves_onW hfr D.frm h6 fun h' f1 f2=>?_;have neL:∀ b o,X.s₀.heap.get? b=some o->b≠X.env.locals:=fun b o q=>Nat.ne_of_lt (Nat.lt_of_lt_of_le (Heap.lt_size q) I.ok.above)
 have inB:∀ b o,X.s₀.heap.get? b=some o->X.H₀ b=none->b∉X.fs->B.get? b=some o:=fun b o q n hb=>by
  have nex:b∉X.ex:=by rw[D.ex]; simp
  refine h9 b o (I.base.keep b o q n hb nex) (I.base.free b o q n nex) ?_;rw[D.stkFrs];intro z;rcases List.mem_cons.mp z with z | z
  ·exact neL b o q z
  ·exact hb z
 have allB:∀ b o,X.s₀.heap.get? b=some o->b∉X.fs->∃ o',B.get? b=some o':=fun b o q hb=>by
  obtain⟨o1,q1⟩:=I.base.there b o q (by rw[D.ex]; simp);refine h12 b o1 q1 ?_;rw[D.stkFrs];intro z;rcases List.mem_cons.mp z with z | z
  ·exact neL b o q z
  ·exact hb z
 refine⟨e,t,cls,vs,H',B,rfl,J.os,h3,⟨fun b o q n hb _=>f1.1 b o (inB b o q n hb),fun b o q n hb _=>?_,fun b o q n _=>J.base.free b o q n (by rw[D.ex]; simp),fun b o q _=>?_,J.base.tups,J.base.frzs,J.base.tbls⟩,?_,f1,h7.of_slots f2,h8,inB,h10,allB,hE _ _ _ h11⟩
 ·obtain⟨sl,e1⟩:=J.base.slot b o q n hb (by rw[D.ex]; simp)
  obtain⟨L,oL,hL,hn⟩:=(show ∃ L o,L=b∧s'.heap.get? L=some o∧∀ vs,o.data≠.fields vs from by
   obtain⟨_,oo,hoo,hnf⟩:=(J.funs).mem hb;exact⟨b,oo,rfl,hoo,hnf⟩)
  obtain⟨rfl,hn,hnf⟩:L=b∧s'.heap.get? L=some oL∧∀ vs,oL.data≠.fields vs:=⟨hL,hn.1,hn.2⟩;obtain⟨sl',e2⟩:=f2 L oL hn hnf;rw[e1] at hn;cases hn;exact⟨sl',e2⟩
 ·by_cases hb:b∈X.fs
  ·obtain⟨_,o',ho',_⟩:=f1.2.2.1.mem hb;exact⟨o',ho'⟩
  ·obtain⟨o',ho'⟩:=allB b o q hb;exact⟨o',f1.1 b o' ho'⟩
 ·exact h5.inB h6.1 f1.1 h10
end
end L2
namespace L2
open PySem PySem.Spec PyProof.Rows

abbrev sZ:List Value:=[.type "ValueError",.type "Exception",.type "BaseException",.type "object"]
def yG (K:PySem.W.Frag) (C:Addr):Prop:=PySem.W.excIn K C sZ "ValueError.__new__"=true
theorem yG.at {K:PySem.W.Frag}{C:Addr}{h:Heap}(q:yG K C) (X:K.In h):∃ bm N nm qn bs hd sn sub ab col dd k0 k1 k2 k3 k5 mN,
  h.get? C=some (excClassObj nm qn C N bs bm hd sn sub ab col dd k0 k1 k2 k3 k5 "ValueError.__new__")∧h.Ns N mN∧mN "__init__" = none∧OwnTail h sZ bm:=by
 unfold yG PySem.W.excIn at q;cases hl:K.lookup C with
 | none=>rw[hl] at q; cases q
 | some o=>
  rw[hl] at q;split at q
  ·rename_i dd cd sl ho
   cases ho;split at q
   ·rename_i C' bm k0 k1 k2 k3 n k5 hm hs
    rw[Bool.and_eq_true,Bool.and_eq_true,Bool.and_eq_true,Bool.and_eq_true,Bool.and_eq_true] at q;obtain⟨⟨⟨⟨⟨q1,q2⟩,q3⟩,q4⟩,q5⟩,q6⟩:=q;have e1:C'=C:=by simpa using q1
    have e2:n="ValueError.__new__":=by simpa using q2
    subst e1 e2;obtain⟨nm,bs,mro,ns,qn,hd,sn,sub,ab,col,del⟩:=cd;have e3:del=false:=by simpa using q3
    have em:mro=.ref C'::bm:=hm;subst e3 em
    have es:sl=#[k0,k1,k2,k3,some (.builtin "ValueError.__new__"),k5]:=by
     obtain⟨l⟩:=sl
     have:l=[k0,k1,k2,k3,some (.builtin "ValueError.__new__"),k5]:=hs
     rw[this]
    subst es;exact⟨bm,ns,nm,qn,bs,hd,sn,sub,ab,col,dd,k0,k1,k2,k3,k5,_,X _ _ hl,.of_isNs (PySem.W.isNs_of_in X q5),PySem.W.nsMap_none_of_in X q5 (by simpa using q6),PySem.W.tail_of_in X q4⟩
   ·cases q
  ·cases q
theorem dE.ex {P:Program}{w:World}{H:Hp}{h:Heap}{a:Addr}{o:HO}(x:dE P w H h a o):∃ ob,h.get? a=some ob:=by
 cases o with
 | lst xs=>obtain⟨_,_,_,_,e⟩:=x; exact⟨_,e⟩
 | tup xs=>obtain⟨_,_,_,ob,e,_⟩:=x; exact⟨_,e⟩
 | dK kvs=>obtain⟨_,_,_,_,o,_,_,e,_⟩:=x; exact⟨_,e⟩
 | dT kvs=>obtain⟨_,_,_,_,o,_,_,e,_⟩:=x; exact⟨_,e⟩
 | set S n=>obtain⟨o,_,_,_,e,_⟩:=x; exact⟨_,e⟩
 | ins C dx fs=>obtain⟨_,_,_,e,_⟩:=x; exact⟨_,e⟩
 | own y=>exact x
 | xd fs=>obtain⟨_,⟨_,_,_,e,_⟩,_⟩:=x; exact⟨_,e⟩
 | rng lo hi=>obtain⟨_,_,_,e⟩:=x; exact⟨_,e⟩
 | frz ob u=>obtain⟨e,_⟩:=x; exact⟨_,e⟩
 | tbl ps=>exact⟨_,(show h.get? a=some _ from x)⟩
 | met f y=>exact⟨_,(show h.get? a=some _ from x)⟩
 | ext φ=>obtain⟨_,e,_⟩:=x; exact e
section
variable {X:Cx}{E:XK}
theorem Cx.Body.raised (D:X.Body E){pins:List (Addr×Obj)}{σ:St}{H:Hp}{s:Shared}{h':Heap}{e:Addr}{cls:Value}{us:List Value}(I:Inv X pins σ H s) (hx:Heap.MadeExcOf s.heap h' e cls us) (q:E cls none H) :
  X.xe (.ref e) { s with heap:=h' }:=by
 rw[D.xe];have hfr:X.A.frames=some (X.env::X.outer):=by rw[I.ok.frames,D.stk]
 have hin:∀ env∈X.stack,∀ a,env.frame=some a->a∈frs X.stack:=fun env he a ha=>List.mem_filterMap.mpr ⟨env,he,ha⟩
 have hl:s.heap.FunFrames (PySem.W.hideAll s.heap (frs X.stack)) (X.env::X.outer):=by
  have:=PySem.W.funFrames_hide I.stack hin
  rw[D.stk] at this ⊢;exact this
 refine wpAny_leaves_madeW hfr D.frm (fun b o q=>PySem.W.of_hideAll _ q) hl hx fun h'' t f1 f2 f3 f4=>?_;have neL:∀ b o,X.s₀.heap.get? b=some o->b≠X.env.locals:=fun b o q=>Nat.ne_of_lt (Nat.lt_of_lt_of_le (Heap.lt_size q) I.ok.above)
 have nfr:∀ b o,X.s₀.heap.get? b=some o->b∉X.fs->b∉frs X.stack:=fun b o q hb z=>by
  rw[D.stkFrs] at z;rcases List.mem_cons.mp z with z | z
  ·exact neL b o q z
  ·exact hb z
 have nex:∀ b,b∉X.ex:=fun b=>by rw[D.ex]; simp
 have inB:∀ b o,X.s₀.heap.get? b=some o->X.H₀ b=none->b∉X.fs->(PySem.W.hideAll s.heap (frs X.stack)).get? b=some o:=fun b o q n hb=>
  PySem.W.hideAll_get _ (I.base.keep b o q n hb (nex b)) (nfr b o q hb)
 have trB:∀ b u,H b=some u->∃ o,(PySem.W.hideAll s.heap (frs X.stack)).get? b=some o:=fun b u q=>by
  obtain⟨o,ho⟩:=(I.hok b u q).ex;exact⟨o,PySem.W.hideAll_get _ ho fun z=>by rw[I.stkFree b z] at q; cases q⟩
 have allB:∀ b o,X.s₀.heap.get? b=some o->b∉X.fs->∃ o',(PySem.W.hideAll s.heap (frs X.stack)).get? b=some o':=fun b o q hb=>by
  obtain⟨o1,q1⟩:=I.base.there b o q (nex b);exact⟨o1,PySem.W.hideAll_get _ q1 (nfr b o q hb)⟩
 refine⟨e,t,cls,us,H,_,rfl,I.os,I.bare,⟨fun b o q n hb _=>f1.1 b o (inB b o q n hb),fun b o q n hb _=>?_,fun b o q n _=>I.base.free b o q n (nex b),fun b o q _=>?_,I.base.tups,I.base.frzs,I.base.tbls⟩,
  I.hok.inB (fun b o q=>PySem.W.of_hideAll _ q) f1.1 trB,f1,f2,f3,inB,trB,allB,q⟩
 ·obtain⟨sl,e1⟩:=I.base.slot b o q n hb (nex b);obtain⟨_,oo,hoo,hnf⟩:=I.funs.mem hb;obtain⟨sl',e2⟩:=f4 b oo (hx.keeps b oo hoo) hnf;rw[e1] at hoo;cases hoo;exact⟨sl',e2⟩
 ·by_cases hb:b∈X.fs
  ·obtain⟨_,o',ho',_⟩:=f1.2.2.1.mem hb;exact⟨o',ho'⟩
  ·obtain⟨o',ho'⟩:=allB b o q hb;exact⟨o',f1.1 b o' ho'⟩
def aKp (E:XK) (c:Value) (t:TA):TS:=fun _ σ H=>t σ H fun vs H1=>vs.length<=sizeLine∧E c none H1
theorem iG {x:Str}{C:Addr}{np cpos pos:Pos}{e₀:Expr}{es:List Expr}{t:TA}(D:X.Body E) (hc:X.calm=true) (hg:Gl X x) (hm:X.mg x=some (.ref C)) (hq:yG X.K C) (ha:PA X (e₀::es) t)
  (hs:nA e₀=false:=by rfl) (hpl:(backTo cpos (starEach es X.env)).any (·.1)=false:=by rfl) (hd:(x==("__debug__" : Str))=false:=by decide) :
  PS X (.Raise (some (.Call (.Name x np) (e₀::es) [] cpos)) none pos) (aKp E (.ref C) t):=by
 intro pins s σ H Dn I h;obtain⟨bm,N,nm,qn,bs,hdd,sn,sub,ab,col,dd,k0,k1,k2,k3,k5,mN,hC,hN,hni,T⟩:=hq.at I.mod.kin;have he:starEach (e₀::es) X.env=(false,eval e₀ X.env)::starEach es X.env:=bV hs
 refine wpAny_Raise_call_subT (C:=C) (nm:=nm) (q:=qn) (N:=N) (bs:=bs) (bm:=bm) (hdct:=hdd) (sn:=sn) (sub:=sub) (ab:=ab) (col:=col) (dd:=dd) (k0:=k0) (k1:=k1) (k2:=k2) (k3:=k3) (k5:=k5)
  PySem.F.excBase_ValueError (mN:=mN) (T.hasType PySem.F.excBase_ValueError.hasBase) (I.ok.hd hc) (by rw[he]; exact hpl) hni (gA I hg hm ⟨rfl,?_⟩ hd)
 have ha':=ha cpos pins s σ H _ I h;rw[he] at ha' ⊢;refine Calls.evalArgs_plain (thn ha' fun us s1 ⟨vs,H1,I1,r1,hz,q1⟩=>⟨rfl,by rw[← r1.length]; exact hz,I1.bk _ _ hC,hN.keeps I1.bk,T.keeps I1.bk,fun h' e hx=>D.raised I1 hx q1⟩)
end
end L2
namespace L2
open PySem PySem.Spec PySem.Calls PyProof.Rows PySem.W
open PySem.Builtin PySem.Builtin.ObjectAttr PySem.Builtin.Getset_descriptor

structure yF (K:Frag) (C:Addr):Prop where
 exc:yG K C
 cls:findIn K (.ref C) "__class__" = some (some (.builtin "object.__class__"))
 ga:findIn K (.ref C) "__getattribute__" = some (some (.builtin "BaseException.__getattribute__"))
 no:findIn K (.ref C) "__getattr__"=some none
 ob:mroIn K C (.type "object")=some true
 be:mroIn K C (.type "BaseException")=some true
def iN (e C:Addr) (h:Heap):Prop:=∃ o vs,h.get? e=some o∧o.cls=.ref C∧o.data=.fields vs
section
variable {prog:Program}{w:World}{A:Around}{E:Value->Shared->Prop}{s:Shared}{K:Frag}{e C:Addr}
theorem iN.type {M:Model}{h:Heap}(I:iN e C h):Looks M h (typeOf (.ref e)) (.ref C):=by
 obtain⟨o,vs,h1,h2,_⟩:=I;exact h2▸(Looks.ld h1).andThen .now
theorem sV {tp:Value}{R:Result->Shared->Prop}(X:K.In s.heap) (I:iN e C s.heap) (hm:mroIn K C (.type "object")=some true) (h:R (.ok (.ret (.ref C))) s) :
  codeAny (model prog w) A (.call (.builtin "getset_descriptor.__get__") ⟨[.builtin "object.__class__",.ref e,tp],[]⟩) R s:=by
 obtain⟨hh,g,dr,t,os⟩:=s;have L0:=I.type (M:=model prog w);have L1:=looks_mroIn (M:=model prog w) X hm;refine codeAny_call_builtin KF.slot_gs.plain KF.entry_gs (KF.slot_gs.check _ _ _ _ _ _ _ _ KF.type_class (KF.args_gs _ _ _) ?_);unfold Builtin.«getset_descriptor.__get__» descrGet;rw[dga_obj];refine wpAny_bind (wpAny_pure ?_);unfold descrGetter descrCheckInstance descrNameAndClass isInstance;simp only[KF.owner_class]
 repeat lk
 refine⟨Code.quiet_builtin _ (by decide +kernel),codeAny_builtin KF.entry_class ?_⟩;unfold Builtin.«object.__class__» shownTypeOf
 repeat lk
 exact h
theorem qK {tk:Tok}{Q:Fin->Shared->Prop}(X:K.In s.heap) (I:iN e C s.heap) (T:yF K C) (hq:Q (.done (.ret (.ref C))) s) :
  wpAny (model prog w) A (Builtin.«object.__getattribute__» ⟨[.ref e,.str "__class__" tk],[]⟩) Q E s:=by
 obtain⟨hh,g,d,t,os⟩:=s;have L0:=I.type (M:=model prog w);have L1:=looks_findIn (M:=model prog w) X T.cls;obtain⟨o,vs,hx,hc,hd⟩:=id I;have hT5:(⟨hh,g,d,t,os⟩:Shared).TypeIs (.builtin "object.__class__") "getset_descriptor" := F.typeOf_object_class;have f5:=F.typeOf_object_class;have f6:=F.slot_gs_get.lookup;have f7:=F.slot_gs_set.lookup
 repeat (any_goals (first | assumption | (with_reducible refine wpAny_loadPart_at hx ?_; rw[hc]) | with_reducible refine L1.at ?_ | wp_step))
 refine sV X I T.ob ?_
 repeat (any_goals (first | assumption | wp_step))
theorem vO {M:Model}{nameV:Value}{Q:Unit->Shared->Prop}(X:K.In s.heap) (I:iN e C s.heap) (T:yF K C) (hq:Q () s) :
  wpAny M A (checkBuiltinCall "BaseException.__getattribute__" ⟨[.ref e,nameV],[]⟩) Q E s:=by
 obtain⟨hh,g,d,t,os⟩:=s;have hk:builtinKind "BaseException.__getattribute__"=some .slot:=by decide +kernel
 have hsplit:splitId "BaseException.__getattribute__" = some ("BaseException","__getattribute__"):=by decide +kernel
 have L0:=I.type (M:=M);have L1:=looks_mroIn (M:=M) X T.be;have ha:=F.args_bexc_ga (.ref e) nameV;simp only[checkBuiltinCall,hk,hsplit];refine wpAny_bind ?_;unfold isInstance;refine wpAny_bind (L0.at (L1.at ?_))
 repeat (first | assumption | wp_step)
theorem rW {tk:Tok}{R:Result->Shared->Prop}(X:K.In s.heap) (I:iN e C s.heap) (T:yF K C) (hq:R (.ok (.ret (.ref C))) s) :
  codeAny (model prog w) A (.call (.builtin "BaseException.__getattribute__") ⟨[.ref e,.str "__class__" tk],[]⟩) R s:=
 codeAny_call_builtin PySem.F.attr_ValueError.ga.plain F.entry_bexc_ga (vO X I T (qK X I T hq))
theorem rX {Q:Option Value->Shared->Prop}(X:K.In s.heap) (I:iN e C s.heap) (T:yF K C) (hq:Q (some (.ref C)) { s with toks:=s.toks+1 }) :
  wpAny (model prog w) A (getAttr? (.ref e) "__class__") Q E s:=by
 obtain⟨hh,g,d,t,os⟩:=s;have L0:=I.type (M:=model prog w);have L1:=looks_findIn (M:=model prog w) X T.ga;have L2:=looks_findIn (M:=model prog w) X T.no;have f3:=PySem.F.attr_ValueError.ga.bind (.ref e);have hx2:(Value.builtin "BaseException.__getattribute__" == Value.builtin "object.__getattribute__")=false:=by decide +kernel
 have hx1:(onTheHeap (Value.ref C)&&Value.builtin "BaseException.__getattribute__" == Value.builtin "object.__getattribute__")=false:=by rw[hx2]; rfl
 unfold getAttr? getAttrBy? getAttrBy;refine wpAny_bind (wpAny_mkText (wpAny_bind (wpAny_attempt (wpAny_holding (wpAny_bind (L0.at (wpAny_bind (L1.at ?_))))))));dsimp only;rw[if_neg (by rw[hx1]; exact Bool.false_ne_true)];unfold getAttrByItsOwn hookBefore;rw[show onTheHeap (Value.ref C)=true from rfl,if_pos rfl]
 refine wpAny_bind (L2.at ?_);unfold callGetattribute
 repeat (any_goals (first | assumption | wp_step))
 refine rW (s:=⟨hh,g,d,t+1,os⟩) X I T ?_
 repeat (any_goals (first | assumption | wp_step))
theorem aGd (T:yF K C):KitX K (.ref e) (.ref C) (iN e C) where
 ty:=fun _ _ _ I=>I.type
 it:=fun _ _ X _=>by
  obtain⟨bm,N,nm,qn,bs,hd,sn,sub,ab,col,dd,k0,k1,k2,k3,k5,mN,hC,_⟩:=T.exc.at X;intro A' Q' E' s' k q;unfold isType loadHead;exact wpAny_bind (wpAny_loadPart (k _ _ hC) (wpAny_pure q))
 ne:=fun h tp dd its n sl X htp=>by
  obtain⟨bm,N,nm,qn,bs,hd,sn,sub,ab,col,dd',k0,k1,k2,k3,k5,mN,hC,_⟩:=T.exc.at X;refine Bool.eq_false_iff.mpr fun q=>?_;have ec:C=tp:=Value.ref.inj (beq_iff_eq.mp q);subst ec;have z:=congrArg Obj.data (Option.some.inj (hC.symm.trans htp));unfold excClassObj at z;cases z
 ca:=fun X I k=>rX X I T k
end
def aBr (H:Hp) (e C:Addr):Prop:=H e=some (.ext (iN e C))
inductive aQs (K:PySem.W.Frag) (xs:List V) (H:Hp) (Q:VK):Prop
 | mk (e:_) (C:_) (c:_) (cv:_) (b:_) (h0_:xs=[.ref e,c]) (h1_:(∀ u,cE c u->u=cv)) (h2_:aBr H e C) (h3_:yF K C) (h4_:kitOne K (.ref C) cv=some b) (h5_:Q (.bl b) H)
theorem uM {X:Cx}:CallR X (.builtin "isinstance") (aQs X.K):=by
 intro pins s σ H xs us Q I r h;obtain⟨e,C,c,cv,b,rfl,hc,hx,T,hb,q⟩:=h;obtain⟨u,w',rfl,rx,rc⟩:=aDz r;cases rx;have ec:=hc w' rc;subst ec;obtain⟨ha,_,_⟩:=(show dE X.prog X.w H s.heap e (.ext (iN e C)) from I.hok e _ hx)
 exact kia_one (aGd T) I.kIn ha hb (fun z=>nomatch z) fun tk=>⟨.bl b,H,I.tok tk,rfl,q⟩
end L2
namespace L2
open PySem PySem.Spec PySem.Calls PyProof.Rows

structure Cx.Frame (X:Cx):Prop where
 stk:X.stack=X.env::X.outer
 frm:X.env.frame=some X.env.locals
abbrev Cx.pinned (X:Cx) (pn:List (Addr×Obj)) (E:Value->Shared->Prop):Cx:={ X with pn:=pn,xe:=E }
abbrev Cx.caught (X:Cx) (e:Addr) (pn:List (Addr×Obj)):Cx:={ X with A:=X.A.mark (some (.ref e)),calm:=false,pn:=pn,xe:=fun _ _=>False }
def nV (σ:St):St:=σ.map fun _=>none
theorem aCv {σ:St}{i:Nat}{v:V}(h:(nV σ)[i]?=some (some v)):False:=by
 unfold nV at h;rw[List.getElem?_map] at h;cases e:σ[i]? with
 | none=>rw[e] at h; cases h
 | some z=>rw[e] at h; cases h
theorem aCu (σ:St):(nV σ).length=σ.length:=by unfold nV; rw[List.length_map]
section
variable {X:Cx}{pins:List (Addr×Obj)}{σ:St}{H:Hp}{s:Shared}
theorem Inv.repin (I:Inv X pins σ H s) (E:Value->Shared->Prop):Inv (X.pinned (X.pn++pins) E) [] σ H s:=
 ⟨⟨I.ok.mod,I.ok.kind,I.ok.glob,I.ok.blt,I.ok.above,I.ok.inj,I.ok.has,I.ok.cab,I.ok.hd,I.ok.frames,I.ok.stk,I.ok.exf,I.ok.bs,I.ok.bsz,I.ok.noex,I.ok.exfs,I.ok.funs,I.ok.frf⟩,
  I.os,I.bare,I.base,I.loc,I.cell,I.free,I.freeC,fun p hp=>I.pin p (by simpa using hp),I.hok,I.len⟩
theorem Inv.unpin {E:Value->Shared->Prop}{pl:List (Addr×Obj)}(I:Inv (X.pinned (X.pn++pins) E) pl σ H s):Inv X pins σ H s:=
 ⟨⟨I.ok.mod,I.ok.kind,I.ok.glob,I.ok.blt,I.ok.above,I.ok.inj,I.ok.has,I.ok.cab,I.ok.hd,I.ok.frames,I.ok.stk,I.ok.exf,I.ok.bs,I.ok.bsz,I.ok.noex,I.ok.exfs,I.ok.funs,I.ok.frf⟩,
  I.os,I.bare,I.base,I.loc,I.cell,I.free,I.freeC,fun p hp=>I.pin p (List.mem_append_left _ hp),I.hok,I.len⟩
theorem Inv.mark (I:Inv X pins σ H s) (e:Addr):Inv (X.caught e (X.pn++pins)) [] σ H s:=
 ⟨⟨I.ok.mod,I.ok.kind,I.ok.glob,I.ok.blt,I.ok.above,I.ok.inj,I.ok.has,I.ok.cab,(fun z=>nomatch z),I.ok.frames,I.ok.stk,I.ok.exf,I.ok.bs,I.ok.bsz,I.ok.noex,I.ok.exfs,I.ok.funs,I.ok.frf⟩,
  I.os,I.bare,I.base,I.loc,I.cell,I.free,I.freeC,fun p hp=>I.pin p (by simpa using hp),I.hok,I.len⟩
theorem Inv.unmark {e:Addr}{pl:List (Addr×Obj)}(I:Inv (X.caught e (X.pn++pins)) pl σ H s) (ok:X.Ok):Inv X pins σ H s:=
 ⟨ok,I.os,I.bare,I.base,I.loc,I.cell,I.free,I.freeC,fun p hp=>I.pin p (List.mem_append_left _ hp),I.hok,I.len⟩
theorem Inv.forget {h':Heap}{m':Str->Option Value}{t':Nat}(I:Inv X pins σ H s) (ns:h'.Ns X.env.locals m') (sb:Heap.SameBut X.env.locals s.heap h'):Inv X pins (nV σ) H { s with heap:=h',toks:=t' }:=by
 have ne:∀ b u,H b=some u->b≠X.env.locals:=fun b u q z=>by rw[z,I.free] at q; cases q
 have neL:∀ b o,X.s₀.heap.get? b=some o->b≠X.env.locals:=fun b o e=>Nat.ne_of_lt (Nat.lt_of_lt_of_le (Heap.lt_size e) I.ok.above)
 refine⟨I.ok,I.os,I.bare,⟨fun b o q n hb hx=>(sb.2 b (neL b o q)).trans (I.base.keep b o q n hb hx),fun b o q n hb hx=>?_,I.base.free,fun b o q hx=>?_,I.base.tups,I.base.frzs,I.base.tbls⟩,
  ⟨m',ns,fun i x v e1 e2=>(aCv e2).elim⟩,fun x c e=>?_,I.free,I.freeC,fun p hp=>?_,fun b u q=>?_,(aCu σ).trans I.len⟩
 ·obtain⟨sl,e1⟩:=I.base.slot b o q n hb hx;exact⟨sl,(sb.2 b (neL b o q)).trans e1⟩
 ·obtain⟨o',e1⟩:=I.base.there b o q hx;exact⟨o',(sb.2 b (neL b o q)).trans e1⟩
 ·obtain⟨v,z⟩:=I.cell x c e;exact⟨v,z.sameBut sb (I.cne x c e)⟩
 ·obtain⟨e1,n,ne',nf,d⟩:=I.pin p hp;exact⟨(sb.2 p.1 ne').trans e1,n,ne',nf,d⟩
 ·refine (I.hok b u q).stay (fun c v hc z=>(sb.2 c ?_).trans z) (fun _ z=>z) fun _ _ z=>z;rcases hc with rfl | hc
  ·exact ne c u q
  ·exact ne c _ hc
end
end L2
namespace L2
open PySem PySem.Spec PySem.Calls PyProof.Rows
section
variable {X:Cx}
theorem aGb {pins:List (Addr×Obj)}{σ:St}{H H1:Hp}{s s1:Shared}{e C:Addr}{a0:Value}{B h':Heap}(I:Inv X pins σ H s) (ho:s1.os=s.os) (hg:AllBare s1.gens) (u:Un (frs X.stack) [] H H1 s.heap s1.heap) (hk:HOk X.prog X.w H1 s1.heap)
  (f0:B.StaysIn s1.heap) (fl:Heap.FlyingW B X.stack e (.ref C) a0 h') (up:s1.heap.UpToSlots h') (inB:∀ b o,s.heap.get? b=some o->H b=none->b∉frs X.stack->B.get? b=some o) (trB:∀ b v,H1 b=some v->∃ o,B.get? b=some o)
  (allB:∀ b o,s.heap.get? b=some o->b∉frs X.stack->∃ o',B.get? b=some o'):H1 e=none∧Inv X pins σ (upd H1 e (.ext (iN e C))) { s1 with heap:=h' }:=by
 have he:H1 e=none:=by
  cases q:H1 e with
  | none=>rfl
  | some v=>
   obtain⟨o,z⟩:=trB e v q;rw[fl.2.1] at z;cases z
 obtain⟨oe,vs,hoe,hoc,hod,_⟩:=fl.first
 have efr:e∉frs X.stack:=fun z=>by
  obtain⟨_,o,h1,h2⟩:=fl.2.2.1.mem z;rw[hoe] at h1;cases h1;exact h2 vs hod
 have eold:∀ o,s.heap.get? e≠some o:=fun o z=>by
  obtain⟨o',z'⟩:=allB e o z efr;rw[fl.2.1] at z';cases z'
 have hok:HOk X.prog X.w H1 h':=hk.inB f0 fl.1 trB;have xat:iN e C h':=⟨oe,vs,hoe,hoc,hod⟩
 have hok':HOk X.prog X.w (upd H1 e (.ext (iN e C))) h':=fun b v q=>by
  by_cases hb:b=e
  ·subst hb;rw[aD] at q;cases q;exact⟨xat,⟨oe,hoe⟩,fun h1 h2 ⟨o,ws,p1,p2,p3⟩ k=>⟨o,ws,k o p1,p2,p3⟩⟩
  ·rw[aI hb] at q;exact (hok b v q).stay (fun _ _ _ z=>z) (fun c z=>by rw[aI (aF z he)]; exact z) fun c xs z=>by rw[aI (aF z he)]; exact z
 refine⟨he,I.call' (ch:=[]) (s':={ s1 with heap:=h' }) ho ⟨fun b o q n hb _=>fl.1 b o (inB b o q n hb),fun b o q n hb _=>?_,fun b o q n hx=>?_,fun b o q hx=>?_,fun b xs q=>?_,fun b o v q=>?_,fun b ps q=>?_⟩ hok' hg fun _ z=>nomatch z⟩
 ·obtain⟨sl,e1⟩:=u.slot b o q n hb (by simp);obtain⟨_,oo,hoo,hnf⟩:=I.stack.mem hb;rw[q] at hoo;cases hoo;obtain⟨sl',e2⟩:=up b _ e1 hnf;exact⟨sl',e2⟩
 ·rw[aI fun z=>eold o (by rw[← z]; exact q)];exact u.free b o q n (by simp)
 ·by_cases hb:b∈frs X.stack
  ·obtain⟨_,o',ho',_⟩:=fl.2.2.1.mem hb;exact⟨o',ho'⟩
  ·obtain⟨o',ho'⟩:=allB b o q hb;exact⟨o',fl.1 b o' ho'⟩
 ·have z:=u.tups b xs q;rw[aI (aF z he)];exact z
 ·have z:=u.frzs b o v q;rw[aI (aF z he)];exact z
 ·obtain⟨more,z⟩:=u.tbls b ps q;exact⟨more,by rw[aI (aF z he)]; exact z⟩
def aOt (K:PySem.W.Frag) (Ew:XK) (wv:Value) (i:Nat) (tb ts:TS):TS:=fun D σ H=>tb D σ H∧∀ cls H1,Ew cls none H1->∃ C,cls=.ref C∧PySem.W.exmOne K (.ref C) wv=some true ∧
 ∀ (e:Addr) (σ1:St),σ1.length=σ.length->H1 e=none->ts { nx:=fun σ2 H2=>D.nx (nV σ2) H2,rt:=D.rt,bk:=fun σ2 H2=>D.bk (nV σ2) H2,ct:=fun σ2 H2=>D.ct (nV σ2) H2 } (σ1.set i (some (.ref e))) (upd H1 e (.ext (iN e C)))
theorem aEx {body:List Stmt}{x n:Str}{W:Addr}{np hpos pos:Pos}{b₀:Stmt}{suite:List Stmt}{i:Nat}{tb ts:TS}(Ew:XK) (F:X.Frame) (hc:X.calm=true) (hN:X.N.Nodup) (hi:X.N[i]?=some n) (hl:X.env.scope.names.lookup n=some .local)
  (hg:Gl X x) (hm:X.mg x=some (.ref W)) (hb:∀ pn E,eY (CXE X.prog X.w) (X.pinned pn E) Ew->PSs (X.pinned pn E) body tb) (hs:∀ e pn,PSs (X.caught e pn) (b₀::suite) ts)
  (hd:(x==("__debug__" : Str))=false:=by decide) :
  PS X (.Try body [.ExceptHandler (some (.Name x np)) (some n) (b₀::suite) hpos] [] [] pos) (aOt X.K Ew (.ref W) i tb ts):=by
 intro pins s σ H D I h;obtain⟨h1,h2⟩:=h
 have pass:eY (CXE X.prog X.w) (X.pinned (X.pn++pins) fun ev s'=>∃ pl σ0 H0 s0,Inv (X.pinned (X.pn++pins) fun _ _=>True) pl σ0 H0 s0∧CXE X.prog X.w X.stack H0 s0 Ew ev s') Ew:=fun pl σ0 H0 s0 ev s' I0 hx=>
  ⟨pl,σ0,H0,s0,⟨⟨I0.ok.mod,I0.ok.kind,I0.ok.glob,I0.ok.blt,I0.ok.above,I0.ok.inj,I0.ok.has,I0.ok.cab,I0.ok.hd,I0.ok.frames,I0.ok.stk,I0.ok.exf,I0.ok.bs,I0.ok.bsz,I0.ok.noex,I0.ok.exfs,I0.ok.funs,I0.ok.frf⟩,
   I0.os,I0.bare,I0.base,I0.loc,I0.cell,I0.free,I0.freeC,I0.pin,I0.hok,I0.len⟩,hx⟩
 refine wpAny_Try_except (wpAny_mono (hb _ _ pass [] s σ H D (I.repin _) h1) (fun f s1 q=>?_) fun ev s1 q=>?_)
 ·cases f with
  | next=>
   obtain⟨σ1,H1,I1,q1⟩:=q;exact wpAny_execs_nil ⟨σ1,H1,I1.unpin,q1⟩
  | brk=>obtain⟨σ1,H1,I1,q1⟩:=q; exact⟨σ1,H1,I1.unpin,q1⟩
  | cont=>obtain⟨σ1,H1,I1,q1⟩:=q; exact⟨σ1,H1,I1.unpin,q1⟩
  | ret u=>obtain⟨v,σ1,H1,I1,r1,q1⟩:=q; exact⟨v,σ1,H1,I1.unpin,r1,q1⟩
 ·obtain⟨pl,σ0,H0,s0,I0',e,t,cls,vs,H1,B,rfl,g2,g3,g4,g5,g6,g7,g8,g9,g10,g12,g11⟩:=q;have I0:Inv X pins σ0 H0 s0:=I0'.unpin;obtain⟨C,rfl,hmatch,hts⟩:=h2 cls H1 g11;have hfr:X.A.frames=some (X.env::X.outer):=by rw[I.ok.frames,F.stk]
  have g6':=g6;rw[F.stk] at g6';refine wpAny_looks_onW hfr F.frm g6' fun h3 held3 up3=>?_;refine wpAny_landsW held3 fun h4 fl4 up4=>?_;have fl4':Heap.FlyingW B X.stack e (.ref C) (.ref t) h4:=by rw[F.stk]; exact fl4
  have st4:=(aGb I0 g2 g3 g4 g5 g6.1 fl4' (up3.trans up4) g9 g10 g12).2;have K4:=st4.mark e;refine wpAny_handleBy_cons (codeAny_handlers_test (gA (X:=X.caught e (X.pn++pins)) K4 hg hm ?_ hd)) (by intro z; cases z);obtain⟨oe,ws,hoe,hoc,hod,_⟩:=fl4.first;have LT:PySem.W.Looks (model X.prog X.w) h4 (typeOf (.ref e)) (.ref C):=(show iN e C h4 from ⟨oe,ws,hoe,hoc,hod⟩).type
  refine (PySem.W.exm_one (M:=model X.prog X.w) K4.kIn LT hmatch).at ?_;refine codeAny_handlers_suite_as ?_;refine lands_againW fl4 fun h5 fl5 up5=>?_;have fl5':Heap.FlyingW B X.stack e (.ref C) (.ref t) h5:=by rw[F.stk]; exact fl5
  obtain⟨he,st5⟩:=aGb I0 g2 g3 g4 g5 g6.1 fl5' ((up3.trans up4).trans up5) g9 g10 g12;have K5:=st5.mark e;refine qV (X:=X.caught e (X.pn++pins)) K5 hN hi (.inl hl) (v:=.ref e) rfl (fun s6 I6=>?_) (.inr hl);refine wpAny_mono (hs e (X.pn++pins) [] s6 _ _ _ I6 (hts e σ0 (I0.len.trans I.len.symm) he)) (fun f s7 q7=>?_) fun _ _ z=>z.elim
  have gone:∀ {σ7:St}{H7:Hp}{Q:Unit->Shared->Prop}{E:Value->Shared->Prop},Inv (X.caught e (X.pn++pins)) [] σ7 H7 s7->(∀ s8,Inv X pins (nV σ7) H7 s8->Q () s8) ->
    wpAny (model X.prog X.w) X.A (do bindName X.env n .none; unbindBehindTheSuite X.env n hpos) Q E s7:=fun {σ7 H7 Q E} I7 k=>by
   have J7:Inv X pins σ7 H7 s7:=I7.unmark I.ok;obtain⟨m,hn,_⟩:=J7.loc;exact wpAny_nameGoes hl hn (by rw[I.ok.kind]; rfl) fun h8 m8 ns8 sb8=>k _ (J7.forget ns8 sb8)
  cases f with
  | next=>obtain⟨σ7,H7,I7,q7⟩:=q7; exact gone I7 fun s8 I8=>⟨_,H7,I8,q7⟩
  | brk=>obtain⟨σ7,H7,I7,q7⟩:=q7; exact gone I7 fun s8 I8=>⟨_,H7,I8,q7⟩
  | cont=>obtain⟨σ7,H7,I7,q7⟩:=q7; exact gone I7 fun s8 I8=>⟨_,H7,I8,q7⟩
  | ret u=>obtain⟨v,σ7,H7,I7,r7,q7⟩:=q7; exact gone I7 fun s8 I8=>⟨v,_,H7,I8,r7,q7⟩
end
end L2
namespace L2
open PySem PySem.Spec PySem.Calls PyProof.Rows
structure mE (k:Nat) (A:Around):Prop where
 dp:A.depth+3*k+5<recursionLimit
 un:A.units+16*k+200<cLine
theorem mE.deeper {k:Nat}{A:Around}(r:mE (k+1) A) (env:Env):mE k (A.deeper env):=
 ⟨by have:=r.dp; show A.depth+1+3*k+5<_; omega,by have:=r.un; show A.units+3+16*k+200<_; omega⟩
theorem mE.depth {k:Nat}{A:Around}(r:mE k A):A.depth<recursionLimit:=by have:=r.dp; omega
def cxU (P:Program) (w:World) (K:PySem.W.Frag) (mg:Str->Option Value) (base:Heap) (N:List Str) (qual:Str) (scope:Scope) (f:Addr) (cd:Value) (A:Around) (outer:List Env) (s:Shared) (H:Hp):Cx:=
 { gB CX0 P w K mg base N qual scope f cd A outer s H E0 with calm:=false,xe:=fun _ _=>False }
structure uS (P:Program) (w:World) (K:PySem.W.Frag) (mg:Str->Option Value) (base:Heap) (k:Nat) (f:Addr) (fd:FuncData) (ps:List Str) (sp:Sp):Prop where
 len:∀ vs H Q E,sp vs H Q E->vs.length=ps.length
 run:∀ (A:Around) (outer:List Env) (s:Shared) (H:Hp) (args:Args) (us:List Value) (vs:List V) (Q:VK),mE k A->pT P w K mg base A outer s H->BindsTo s fd args (ps.zip us)->bY vs us->sp vs H Q E0 ->
  codeAny (model P w) A (.call (.ref f) args) (CR CX0 outer P w H s Q E0) s
section
variable {P:Program}{w:World}{K:PySem.W.Frag}{mg:Str->Option Value}{base:Heap}
theorem zS {N ps:List Str}{qual:Str}{scope:Scope}{f:Addr}{cd:Value}{A:Around}{outer:List Env}{s s1:Shared}{H:Hp}{us:List Value}{vs:List V}
  (S:aR N ps scope) (e0:pT P w K mg base A outer s H) (hl:vs.length=ps.length) (r:bY vs us)
  (x:InCallC s s.heap.objs.size (bindL (envOfC qual scope s.heap.objs.size f cd).kindOf (ps.zip us) fun _=>none) (cellsFrom (s.heap.objs.size+1) scope.names []) (bindC (envOfC qual scope s.heap.objs.size f cd).kindOf (ps.zip us) fun _=>none) s1) :
  Inv (cxU P w K mg base N qual scope f cd A outer s H) [] (fV N vs) H s1:=by
 have J:=pL (CX:=CX0) (E:=E0) (A:={ A with handled:=none }) (f:=f) (cd:=cd) S rfl ⟨e0.frames,e0.mod,e0.bs,e0.bsz,e0.funs,e0.frf,e0.hok,e0.bare⟩ hl r x
 exact⟨⟨J.ok.mod,J.ok.kind,J.ok.glob,J.ok.blt,J.ok.above,J.ok.inj,J.ok.has,J.ok.cab,(fun z=>nomatch z),Around.frames_deeper e0.frames,J.ok.stk,J.ok.exf,J.ok.bs,J.ok.bsz,J.ok.noex,J.ok.exfs,J.ok.funs,J.ok.frf⟩,
  J.os,J.bare,J.base,J.loc,J.cell,J.free,J.freeC,J.pin,J.hok,J.len⟩
theorem Fun.okU {x qual:Str}{st:Stmt}{f:Addr}{fd:FuncData}{N ps:List Str}{k:Nat}{sp:Sp}(F:Fun K x qual st f fd) (S:aR N ps (aB st)) (len:∀ vs H Q E,sp vs H Q E->vs.length=ps.length)
  (hbody:∀ (cdv:Value) (A:Around) (outer:List Env) (s:Shared) (H:Hp) (vs:List V) (Q:VK),mE k (A.deeper (envOfC qual (aB st) s.heap.objs.size f cdv))->sp vs H Q E0 ->
   ∃ t,PSs (cxU P w K mg base N qual (aB st) f cdv A outer s H) (aG st) t∧t { nx:=fun _ H'=>Q .non H',rt:=Q } (fV N vs) H):uS P w K mg base (k+1) f fd ps sp:=by
 obtain⟨oc,od,kV,doc,pm,an,cdv,ct,osl,rfl,lk,hcd⟩:=F.ex;refine⟨len,fun A outer s H args us vs Q hr e0 hb r hsp=>?_⟩;have hl:=len _ _ _ _ hsp;have KX:K.In s.heap:=e0.mod.kin.keeps fun b o e=>(e0.bs b o e).1;have lim:s.heap.NoLimit:=e0.mod.nolimit.keeps fun b o e=>(e0.bs b o e).1
 have hkind:∀ y∈ps.zip us,(aB st).names.lookup y.1=some .local∨((aB st).names.lookup y.1=some .cell∧((cellsFrom (s.heap.objs.size+1) (aB st).names []).lookup y.1).isSome=true):=fun ⟨n,v⟩ hy=>by
  rcases S.par n (List.of_mem_zip hy).1 with q | q
  ·exact .inl q
  ·exact .inr ⟨q,PySem.W.cellsFrom_some _ _ _ (.inl q)⟩
 refine codeAny_call_function hr.depth (KX _ _ lk) rfl S.co S.gen rfl (PySem.W.codeRec_of KX hcd) (hb _ _ _ _ ?_);refine wpAny_newFunctionEnv_cells S.kind hkind fun env he s1 x=>?_;subst he;refine⟨lim.keeps x.toInCall.keep,codeAny_func ?_⟩;obtain⟨t,ht,hq⟩:=hbody cdv A outer s H vs Q (hr.deeper _) hsp;have I:Inv (cxU P w K mg base N qual (aB st) f cdv A outer s H) [] (fV N vs) H s1:=zS S e0 hl r x;refine wpAny_mono (ht [] s1 (fV N vs) H _ I hq) (fun fl s' hs=>?_) fun e s' hs=>hs.elim
 have fin:∀ {σ':St}{H':Hp}{v:V}{u:Value},Inv (cxU P w K mg base N qual (aB st) f cdv A outer s H) [] σ' H' s'->cE v u->Q v H'->CE outer P w H s Q u s':=
  fun {σ' H' v u} J rv q=>⟨v,H',J.os,J.bare,J.base,J.hok,rv,q⟩
 cases fl with
 | ret u=>obtain⟨v,σ',H',J,rv,q⟩:=hs; exact fin J rv q
 | next=>obtain⟨σ',H',J,q⟩:=hs; exact fin (v:=V.non) (u:=Value.none) J rfl q
 | brk=>obtain⟨_,_,_,q⟩:=hs; exact False.elim q
 | cont=>obtain⟨_,_,_,q⟩:=hs; exact False.elim q
end
section
variable {X:Cx}{k:Nat}{f:Addr}{fd:FuncData}{ps:List Str}{sp:Sp}{x:Str}{e:Expr}{es:List Expr}{t:TA}{p pos:Pos}
theorem wZ (F:uS X.prog X.w X.K X.mg X.base k f fd ps sp) (hr:mE k X.A) (hg:Gl X x) (hm:X.mg x=some (.ref f)) (hk:PySem.W.keepIn X.K (.ref f)=true) (hb:aX X.K fd ps [])
  (ha:PA X (e::es) t) (hs:nA e=false:=by rfl) (hdb:(x==("__debug__" : Str))=false:=by decide) (hpl:(backTo pos (starEach es X.env)).any (·.1)=false:=by rfl) :
  PE X (.Call (.Name x p) (e::es) [] pos) (aJw sp [] E0 t):=by
 intro pins s σ H Q I h;refine wpAny_Call_Name_kw (gA I hg hm ?_ hdb);refine PySem.W.callWith_K (h₀:=X.base) I.ok.mod.kin hk (thn (ha pos pins s σ H _ I h) fun us s1 ⟨vs,H1,I1,r,q⟩=>⟨I1.kIn,?_⟩) (bV hs) hpl;have q':sp vs H1 Q E0:=by have z:sp (vs++[]) H1 Q E0:=q; rw[List.append_nil] at z; exact z
 have hl:us.length=ps.length:=by rw[← r.length]; exact F.len _ _ _ _ q'
 have hb':=hb s1 us I1.kIn (by rw[List.append_nil]; exact hl);rw[List.append_nil] at hb';refine wpAny_call (codeAny_mono (F.run X.A X.stack s1 H1 ⟨us,[]⟩ us vs Q hr I1.env0 hb' r q') fun rr s' hq=>?_);cases rr with
 | error e=>exact False.elim hq
 | ok fl=>
  cases fl with
  | ret u=>exact I1.after hq
  | next=>exact False.elim hq
  | brk=>exact False.elim hq
  | cont=>exact False.elim hq
end
end L2
namespace L2
open PySem PySem.Spec PySem.Calls PyProof.Rows PySem.W
def iV (mg:Str->Option Value) (base:Heap):Prop:=∃ bm ob,mg "__builtins__" = some (.ref bm)∧bm≠builtinsNs∧base.get? bm=some ob∧ob.cls=.type "module" ∧ ob.dict=some builtinsNs∧ob.data=.plain
def dW (c:Addr) (q:Str) (h:Heap):Prop:=∃ o vs t,h.get? c=some o∧o.data=.fields vs∧vs[1]?=some (.str q t)
section
variable {X:Cx}{pins:List (Addr×Obj)}{σ:St}{H:Hp}{s:Shared}
theorem Inv.lamTab {P c':Addr}{q:Str}{ps more:Array Value}{h':Heap}{t':Nat}(I:Inv X pins σ H s) (hP:H P=some (.tbl ps)) (k:Heap.ExtBut P s.heap h') (hn:h'.get? P=some (tabObj (ps++more)))
  (hge:s.heap.objs.size<=c') (hcd:dW c' q h'):Inv X pins σ (upd (upd H P (.tbl (ps++more))) c' (.ext (dW c' q))) { s with heap:=h',toks:=t' }:=by
 have neP:∀ b,H b=none->b≠P:=fun b n z=>by rw[z,hP] at n; cases n
 have nec:∀ b o,s.heap.get? b=some o->b≠c':=fun b o e=>Nat.ne_of_lt (Nat.lt_of_lt_of_le (Heap.lt_size e) hge);have hc0:H c'=none:=I.hok.fresh hge;have cP:c'≠P:=neP c' hc0;have H2:∀ b u,H b=some u->b≠P->upd (upd H P (.tbl (ps++more))) c' (.ext (dW c' q)) b=some u:=fun b u e hb=>by rw[aI (aF e hc0),aI hb]; exact e
 refine I.step (g':=s.gens) (d':=s.drawn) (ch:=[]) (fun _ z=>nomatch z) (fun b o _ _ _ e n=>k b o (neP b n) e) (fun b o _ _ _ e n=>⟨o.slots,k b o (neP b n) e⟩)
  (fun b o _ e n=>by rw[aI (nec b o e),aI (neP b n)]; exact n) (fun b o _ e=>?_) (fun b xs e=>H2 b _ e fun z=>by rw[z,hP] at e; cases e) (fun b o u e=>H2 b _ e fun z=>by rw[z,hP] at e; cases e)
  (fun b ps' e=>?_) (fun m hm=>hm.extBut k (neP _ I.free)) (fun b u e=>?_) I.bare
 ·by_cases hb:b=P
  ·subst hb; exact⟨_,hn⟩
  ·exact⟨o,k b o hb e⟩
 ·by_cases hb:b=P
  ·subst hb;rw[hP] at e;cases e;exact⟨more,by rw[aI (Ne.symm cP),aD]⟩
  ·exact⟨#[],by rw[H2 b _ e hb]; simp⟩
 ·by_cases hb:b=c'
  ·subst hb;rw[aD] at e;cases e;obtain⟨o,vs,t,e1,e2,e3⟩:=id hcd;exact⟨hcd,⟨o,e1⟩,fun h1 h2 ⟨o,vs,t,p1,p2,p3⟩ kk=>⟨o,vs,t,kk o p1,p2,p3⟩⟩
  ·rw[aI hb] at e
   by_cases hbP:b=P
   ·subst hbP;rw[aD] at e;cases e;exact hn
   ·rw[aI hbP] at e;refine (I.hok b u e).stay (fun d v hd z=>k d v ?_ z) (fun d z=>H2 d _ z fun y=>by rw[y,hP] at z; cases z) fun d xs z=>H2 d _ z fun y=>by rw[y,hP] at z; cases z
    rcases hd with rfl | hd
    ·exact hbP
    ·intro y;rw[y,hP] at hd;cases hd
theorem xN {params:Arguments}{body:Expr}{scope:Scope}{pos:Pos}{c P:Addr}{ps:Array Value}{Q:Value->Shared->Prop}{E:Value->Shared->Prop}(I:Inv X pins σ H s) (hcode:X.env.code=.ref c) (hc:codeHdIn X.K c P=true) (bm:iV X.mg X.base)
  (hP:H P=some (.tbl ps)) (ht:TriplesOk ps.toList) (hnf:codeAmong pos ps.toList=none) (hdef:defaultsOf params X.env=([],[])) (hfr:∀ n∈cX scope,X.env.kindOf n=some .cell∨X.env.kindOf n=some .free)
  (k:∀ (f c':Addr) (pm ctv:Value) (s1:Shared),Inv X pins σ (upd (upd H P (.tbl (ps++#[rawInt pos.line,rawInt pos.col,.ref c']))) c' (.ext (dW c' (X.env.qual++"<lambda>")))) s1->H c'=none->c'≠P->c'<f->s.heap.objs.size<=c' ->
   (∀ b o,b≠P->s.heap.get? b=some o->s1.heap.get? b=some o) ->
   s1.heap.get? f=some (kla_obj "<lambda>" (X.env.qual++"<lambda>") params body scope (cZ scope X.env) pm c' ctv)->Q (.ref f) s1) :
  wpAny (model X.prog X.w) X.A (eval (.Lambda params body scope pos) X.env) Q E s:=by
 have hcl:closureFor scope X.env=pure (cZ scope X.env):=gP fun n hn=>I.ok.has n (hfr n hn);obtain⟨b,ob,b1,b2,b3,b4,b5,b6⟩:=bm;have hg:s.heap.Ns mainGlobals X.mg:=I.mod.glob.keeps I.bk;have bP:∀ d o,X.base.get? d=some o->d≠P:=fun d o e z=>by have:=(I.bs d o e).2; rw[z,hP] at this; cases this
 have hgP:mainGlobals≠P:=by
  obtain⟨o,_,_,e,_⟩:=I.mod.glob;exact bP _ o e
 have hbG:b≠mainGlobals:=fun z=>by
  obtain⟨o,es,ep,e,hd,_⟩:=I.mod.glob;rw[z,e] at b3;cases b3;rw[hd] at b6;cases b6
 have hob:s.heap.get? P=some (tabObj ps):=I.hok P _ hP;refine kla_eval hdef (kla_makeFunction (mg:=X.mg) hcl I.ok.glob hg hcode (codeHd_of_K I.kIn hc) hob ht hnf hgP ⟨b,ob,b1,b2,hbG,bP _ _ b3,I.bk _ _ b3,b4,b5,b6⟩ fun c' ctv h' tk hx hge hlt hrec htb=>?_);obtain⟨c2,o2,vs2,t2,e2,r1,r2,r3⟩:=hrec;cases e2;have hc0:H c'=none:=I.hok.fresh hge
 refine k h'.objs.size c' _ ctv _ (I.lamTab (t':=tk) hP (fun d o hd e=>Heap.get?_push_of_some _ (hx d o hd e)) (Heap.get?_push_of_some _ htb) hge ⟨o2,vs2,t2,Heap.get?_push_of_some _ r1,r2,r3⟩) hc0 (fun z=>by rw[z,hP] at hc0; cases hc0) hlt hge
  (fun d o hd e=>Heap.get?_push_of_some _ (hx d o hd e)) (Heap.get?_push_size _ rfl)
end
end L2
namespace L2
open PySem PySem.Spec PySem.Calls PyProof.Rows PySem.W
structure lD (h:Heap) (H:Hp) (fr:List Addr) (f c':Addr) (q:Str) (params:Arguments) (body:Expr) (scope:Scope) (cl:List (Str×Addr)) (NL:List Str) (σL:St):Prop where
 fn:∃ pm ctv,h.get? f=some (kla_obj "<lambda>" q params body scope cl pm c' ctv)
 fH:H f=none
 ff:f∉fr
 code:H c'=some (.ext (dW c' q))
 inj:∀ x y a,cl.lookup x=some a->cl.lookup y=some a->x=y
 cell:∀ x a,cl.lookup x=some a->(∃ v,h.IsCell a v)∧H a=none∧a∉fr
 val:∀ (i:Nat) x v,NL[i]?=some x->σL[i]?=some (some v)->∃ a u,cl.lookup x=some a∧cE v u∧h.IsCell a (some u)
 len:σL.length=NL.length
theorem lD.stay {h h':Heap}{H:Hp}{fr fr':List Addr}{f c':Addr}{q:Str}{params:Arguments}{body:Expr}{scope:Scope}{cl:List (Str×Addr)}{NL:List Str}{σL:St}(L:lD h H fr f c' q params body scope cl NL σL)
  (k:∀ b o,h.get? b=some o->H b=none->b∉fr->h'.get? b=some o) (hf:∀ b o,h.get? b=some o->b∉fr->b∉fr'):lD h' H fr' f c' q params body scope cl NL σL:=by
 obtain⟨pm,ctv,e⟩:=L.fn;have kc:∀ x a,cl.lookup x=some a->∀ v,h.IsCell a v->h'.IsCell a v:=fun x a hx v ⟨o,ho,hd⟩=>⟨o,k a o ho (L.cell x a hx).2.1 (L.cell x a hx).2.2,hd⟩;refine⟨⟨pm,ctv,k _ _ e L.fH L.ff⟩,L.fH,hf _ _ e L.ff,L.code,L.inj,fun x a hx=>?_,fun i x v h1 h2=>?_,L.len⟩
 ·obtain⟨⟨v,hv⟩,h1,h2⟩:=L.cell x a hx;obtain⟨o,ho,_⟩:=id hv;exact⟨⟨v,kc x a hx v hv⟩,h1,hf a o ho h2⟩
 ·obtain⟨a,u,hx,r,hc⟩:=L.val i x v h1 h2;exact⟨a,u,hx,r,kc x a hx _ hc⟩
structure sL (scope:Scope) (cl:List (Str×Addr)) (NL:List Str):Prop where
 kind:scope.kind=.function
 co:scope.isCoroutine=false
 gen:scope.isGenerator=false
 cell:∀ x∈scope.names,x.2≠.cell
 has:∀ x,scope.names.lookup x=some .free->∃ a,cl.lookup x=some a
 nl:∀ x∈NL,scope.names.lookup x=some .free
def oA (X:Cx) (q:Str) (scope:Scope) (f c':Addr) (cl:List (Str×Addr)) (s:Shared) (H:Hp) (NL:List Str) (E:XK):Cx where
 prog:=X.prog
 w:=X.w
 K:=X.K
 mg:=X.mg
 base:=X.base
 A:=X.A.deeper (envX q scope s.heap.objs.size f (.ref c') cl)
 N:=NL
 s₀:=s
 H₀:=H
 env:=envX q scope s.heap.objs.size f (.ref c') cl
 outer:=X.stack
 stack:=envX q scope s.heap.objs.size f (.ref c') cl::X.stack
 ex:=[]
 fn:=fun _=>false
 calm:=true
 pn:=[]
 xe:=fun e s'=>wpAny (model X.prog X.w) (X.A.deeper (envX q scope s.heap.objs.size f (.ref c') cl)) (leaving (envX q scope s.heap.objs.size f (.ref c') cl) e) (fun _ s''=>CXE X.prog X.w X.stack H s E e s'') (fun e' s''=>CXE X.prog X.w X.stack H s E e' s'') s'
section
variable {X:Cx}{q:Str}{scope:Scope}{f c':Addr}{cl:List (Str×Addr)}{H:Hp}{s:Shared}{NL:List Str}{E:XK}
theorem vR:(oA X q scope f c' cl s H NL E).Body E:=⟨rfl,rfl,rfl,rfl⟩
theorem aBb {pins:List (Addr×Obj)}{σ σL:St}{k:Nat}{params:Arguments}{body:Expr}{te:TE}{Q:VK}(I:Inv X pins σ H s) (L:lD s.heap H (frs X.stack) f c' q params body scope cl NL σL) (S:sL scope cl NL) (hr:cL (k+1) X.A)
  (hba:∀ pm ctv,bindArgs (kla_fn "<lambda>" q params body scope cl pm (.ref c') ctv) ⟨[],[]⟩=pure []) (hb:PE (oA X q scope f c' cl s H NL E) body te) (hq:te σL H Q) :
  codeAny (model X.prog X.w) X.A (.call (.ref f) ⟨[],[]⟩) (CR (CXE X.prog X.w) X.stack X.prog X.w H s Q E) s:=by
 obtain⟨pm,ctv,ho⟩:=L.fn;obtain⟨⟨oc,vs,t,e1,e2,e3⟩,_,_⟩:=(show dE X.prog X.w H s.heap c' (.ext (dW c' q)) from I.hok c' _ L.code)
 refine kla_callFunE hr.depth ho rfl S.co S.gen rfl ⟨c',oc,vs,t,rfl,e1,e2,e3⟩ ?_;rw[hba];refine wpAny_pure (wpAny_newFunctionEnv S.cell (by intro y hy; simp at hy) (fun h₁ hns hsb=>?_) S.kind);have hk:∀ b o,s.heap.get? b=some o->h₁.get? b=some o:=fun b o e=>hsb.extBut b o (Nat.ne_of_lt (Heap.lt_size e)) (Heap.get?_push_of_some _ e);refine⟨I.nolimit.keeps hk,?_⟩;have kc:∀ a v,s.heap.IsCell a v->h₁.IsCell a v:=fun a v ⟨o,h1,h2⟩=>⟨o,hk a o h1,h2⟩
 have J:Inv (oA X q scope f c' cl s H NL E) [] σL H { s with heap:=h₁,toks:=s.toks+([]:List (Str×Value)).length }:=by
  refine⟨⟨I.ok.mod,S.kind,rfl,rfl,Nat.le_refl _,L.inj,fun x hx=>?_,fun x c z _=>absurd z (by show ¬ false=true; decide),fun _=>hr.hd,Around.frames_deeper I.ok.frames,.inr ⟨rfl,rfl⟩,fun b z=>absurd (show b∈([]:List Addr) from z) (by simp),I.bs,Nat.le_trans I.ok.bsz I.sz,
   fun b _ _ z=>absurd (show b∈([]:List Addr) from z) (by simp),fun b z=>absurd (show b∈([]:List Addr) from z) (by simp),I.stack,I.stkFree⟩,
   rfl,I.bare,Un.kept hk,⟨_,hns,fun i x v h1 h2 h3=>?_⟩,fun x c e=>?_,I.hok.fresh (Nat.le_refl _),fun x c e=>(L.cell x c e).2.1,fun p hp=>absurd (show p∈([]:List (Addr×Obj)) from hp) (by simp),I.hok.kept hk,L.len⟩
  ·have hx:scope.names.lookup x=some .cell∨scope.names.lookup x=some .free:=hx;rcases hx with hx | hx
   ·exact absurd rfl (S.cell _ (PySem.mem_of_lookup hx))
   ·exact S.has x hx
  ·obtain⟨a,u,hx,r,hc⟩:=L.val i x v h1 h2;exact⟨u,r,.inr ⟨.inr (S.nl x (List.mem_of_getElem? h1)),a,hx,kc a _ hc⟩⟩
  ·obtain⟨⟨v,hv⟩,_⟩:=L.cell x c e;exact⟨v,kc c v hv⟩
 show codeAny _ _ (.expr body (envX q scope s.heap.objs.size f (.ref c') cl)) _ _;refine kla_codeExpr (wpAny_mono (hb [] _ σL H Q J hq) (fun v s' ⟨x,H',J',r,q'⟩=>?_) fun e s' h=>h);exact⟨x,H',J'.os,J'.bare,J'.base,J'.hok,r,q'⟩
end
end L2
namespace L2
open PySem PySem.Spec PySem.Calls PyProof.Rows PySem.W
section
variable {P:Program}{w:World}{K:Frag}{mg:Str->Option Value}{base:Heap}
theorem zX {CX:CXT}{x qual:Str}{st:Stmt}{f:Addr}{fd:FuncData}{N ps:List Str}{k:Nat}(F:Fun K x qual st f fd) (S:aR N ps (aB st)){A:Around}{outer:List Env}{s:Shared}{H:Hp}{args:Args}{us:List Value}{vs:List V}{Q:VK}{E:XK}
  (hr:cL (k+1) A) (e0:pT P w K mg base A outer s H) (hb:BindsTo s fd args (ps.zip us)) (hl:vs.length=ps.length) (r:bY vs us)
  (hbody:∀ cdv,cL k (A.deeper (envOfC qual (aB st) s.heap.objs.size f cdv))->∃ t,PSs (gB CX P w K mg base N qual (aB st) f cdv A outer s H E) (aG st) t∧t { nx:=fun _ H'=>Q .non H',rt:=Q } (fV N vs) H) :
  codeAny (model P w) A (.call (.ref f) args) (CR CX outer P w H s Q E) s:=by
 obtain⟨oc,od,kV,doc,pm,an,cdv,ct,osl,rfl,lk,hcd⟩:=F.ex;have KX:K.In s.heap:=e0.mod.kin.keeps fun b o e=>(e0.bs b o e).1;have lim:s.heap.NoLimit:=e0.mod.nolimit.keeps fun b o e=>(e0.bs b o e).1
 have hkind:∀ y∈ps.zip us,(aB st).names.lookup y.1=some .local∨((aB st).names.lookup y.1=some .cell∧((cellsFrom (s.heap.objs.size+1) (aB st).names []).lookup y.1).isSome=true):=fun ⟨n,v⟩ hy=>by
  rcases S.par n (List.of_mem_zip hy).1 with q | q
  ·exact .inl q
  ·exact .inr ⟨q,cellsFrom_some _ _ _ (.inl q)⟩
 refine codeAny_call_function hr.depth (KX _ _ lk) rfl S.co S.gen rfl (codeRec_of KX hcd) (hb _ _ _ _ ?_);refine wpAny_newFunctionEnv_cells S.kind hkind fun env he s1 x=>?_;subst he;refine⟨lim.keeps x.toInCall.keep,codeAny_func ?_⟩;obtain⟨t,ht,hq⟩:=hbody cdv (hr.deeper _);have I:Inv (gB CX P w K mg base N qual (aB st) f cdv A outer s H E) [] (fV N vs) H s1:=pL S hr.hd e0 hl r x;refine wpAny_mono (ht [] s1 (fV N vs) H _ I hq) (fun fl s' hs=>?_) fun e s' hs=>hs
 have fin:∀ {σ':St}{H':Hp}{v:V}{u:Value},Inv (gB CX P w K mg base N qual (aB st) f cdv A outer s H E) [] σ' H' s'->cE v u->Q v H'->CE outer P w H s Q u s':=
  fun {σ' H' v u} J rv q=>⟨v,H',J.os,J.bare,J.base,J.hok,rv,q⟩
 cases fl with
 | ret u=>obtain⟨v,σ',H',J,rv,q⟩:=hs; exact fin J rv q
 | next=>obtain⟨σ',H',J,q⟩:=hs; exact fin (v:=V.non) (u:=Value.none) J rfl q
 | brk=>obtain⟨_,_,_,q⟩:=hs; exact False.elim q
 | cont=>obtain⟨_,_,_,q⟩:=hs; exact False.elim q
end
abbrev NT:List Str:=["_law_deed","_law_e"]
abbrev cxT (X:Cx) (sc:Scope) (ft:Addr) (cdv:Value) (A:Around) (outer:List Env) (s:Shared) (H:Hp) (pn:List (Addr×Obj)) (E:Value->Shared->Prop):Cx:=
 ((gB CX0 X.prog X.w X.K X.mg X.base NT "_law_tried" sc ft cdv A outer s H E0).nox).pinned pn E
def aJo (st:Stmt):Prop:=∃ p1 p2 p3 p4 p5 p6 p7 p8 p9 p10 p11 p12 j,aG st =
 [.Try [.Expr (.Call (.Name "_law_deed" p1) [] [] p2) p3] [.ExceptHandler (some (.Name "WardError" p4)) (some "_law_e") [.Return (some (.Call (.Name "_law_word" p5) [.Name "_law_e" p6] [] p7)) p8] p9] [] [] p10,.Return (some (.Constant (.str "") j p11)) p12]
inductive uX (word:Addr->Option Str) (vs:List V) (H:Hp) (Q:VK) (x3_:XK):Prop
 | mk (e:_) (C:_) (x:_) (h0_:vs=[.ref e]) (h1_:aBr H e C) (h2_:word C=some x) (h3_:∀ H',aO H H'->Q (.str x) H')
structure yE (X:Cx) (st:Stmt) (ft:Addr) (fdt:FuncData) (W fw:Addr) (fdw:FuncData) (word:Addr->Option Str):Prop where
 fn:Fun X.K "_law_tried" "_law_tried" st ft fdt
 sc:aR NT ["_law_deed"] (aB st)
 is:aJo st
 b:aX X.K fdt ["_law_deed"] []
 m:X.mg "_law_tried"=some (.ref ft)
 mW:X.mg "WardError"=some (.ref W)
 mw:X.mg "_law_word"=some (.ref fw)
 kw:keepIn X.K (.ref fw)=true
 bw:aX X.K fdw ["_law_e"] []
 ok:uS X.prog X.w X.K X.mg X.base 1 fw fdw ["_law_e"] (uX word)
 k0:(aB st).names.lookup ("_law_deed" : Str)=some .local
 k1:(aB st).names.lookup ("_law_e" : Str)=some .local
 k2:(aB st).names.lookup ("WardError" : Str)=some .globalImplicit
 k3:(aB st).names.lookup ("_law_word" : Str)=some .globalImplicit
 wk:∀ C x,word C=some x->exmOne X.K (.ref C) (.ref W)=some true
inductive ExW (word:Addr->Option Str) (Q:VK) (cls:Value) (H:Hp):Prop
 | mk (C:Addr) (x:Str) (h1:cls=.ref C) (h2:word C=some x) (q:∀ H',aO H H'->Q (.str x) H')
def iH (word:Addr->Option Str) (Q:VK):XK:=fun cls _ H=>ExW word Q cls H
section
variable {X:Cx}
theorem rL {Y:Cx}{x:Str}{p pos:Pos}{i:Nat}{f:Addr}{H₁:Hp}{R:VK->Prop}{Ew:XK}(hN:Y.N[i]?=some x) (hv:Y.env.scope.names.lookup x=some .local) (hpass:eY (CXE Y.prog Y.w) Y Ew)
  (run:∀ pins s σ Q,Inv Y pins σ H₁ s->R Q->FnAt f s.heap∧codeAny (model Y.prog Y.w) Y.A (.call (.ref f) ⟨[],[]⟩) (CR (CXE Y.prog Y.w) Y.stack Y.prog Y.w H₁ s Q Ew) s)
  (hd:(x==("__debug__" : Str))=false:=by decide) (hcd:(x==("__classdict__" : Str))=false:=by decide) :
  PE Y (.Call (.Name x p) [] [] pos) (fun σ H Q=>H=H₁∧σ[i]?=some (some (.ref f))∧R Q):=by
 intro pins s σ H Q I h;obtain⟨rfl,he,hq⟩:=h;refine wpAny_Call_Name_kw (thn (oY hN (.inl hv) hd hcd pins s σ H (fun v H'=>v=.ref f∧H'=H) I ⟨_,he,rfl,rfl⟩) fun u s1 h1=>?_);obtain⟨v,H',I1,r1,rfl,rfl⟩:=h1;cases r1;obtain⟨fa,hc⟩:=run pins s1 σ Q I1 hq;refine callWith_F0 fa (wpAny_call (codeAny_mono hc fun r s' hq'=>?_));cases r with
 | error e=>exact hpass pins σ H' s1 e s' I1 hq'
 | ok fl=>
  cases fl with
  | ret u=>exact I1.after hq'
  | next=>exact False.elim hq'
  | brk=>exact False.elim hq'
  | cont=>exact False.elim hq'
structure aGz (scope:Scope) (NL:List Str):Prop where
 kind:scope.kind=.function
 co:scope.isCoroutine=false
 gen:scope.isGenerator=false
 cell:∀ x∈scope.names,x.2≠.cell
 nl:∀ x∈NL,scope.names.lookup x=some .free
inductive aEe (P:Addr) (pos:Pos) (q:Str) (word:Addr->Option Str) (js:List Nat) (te:XK->TE) (σ:St) (H:Hp) (Q:VK):Prop
 | mk (ps:_) (h0_:H P=some (.tbl ps)) (h1_:TriplesOk ps.toList) (h2_:codeAmong pos ps.toList=none) (h3_:∀ c' H1,H c'=none->c'≠P->H1=upd (upd H P (.tbl (ps++#[rawInt pos.line,rawInt pos.col,.ref c']))) c' (.ext (dW c' q))->te (iH word Q) (cB 0 js σ) H1 (fun _ H2=>Q (.str "") H2))
theorem rK {st:Stmt}{ft W fw c P:Addr}{fdt fdw:FuncData}{word:Addr->Option Str}{params:Arguments}{body:Expr}{scope:Scope}{lpos p pos:Pos}{NL:List Str}{js:List Nat}{te:XK->TE}{k:Nat}
  (T:yE X st ft fdt W fw fdw word) (hfn:∀ x,X.fn x=true) (hc:X.calm=true) (hr:cL (k+3) X.A) (hg:Gl X "_law_tried") (hcode:X.env.code=.ref c) (hcd:codeHdIn X.K c P=true) (bm:iV X.mg X.base)
  (S:aGz scope NL) (B:gD X scope NL 0 js) (hdef:defaultsOf params X.env=([],[])) (hba:∀ cl pm c' ctv,bindArgs (kla_fn "<lambda>" (X.env.qual++"<lambda>") params body scope cl pm (.ref c') ctv) ⟨[],[]⟩=pure [])
  (hb:∀ (Ew:XK) cdv A outer s H pn E f c' s' H',cL k (oA (cxT X (aB st) ft cdv A outer s H pn E) (X.env.qual++"<lambda>") scope f c' (cZ scope X.env) s' H' NL Ew).A ->
   PE (oA (cxT X (aB st) ft cdv A outer s H pn E) (X.env.qual++"<lambda>") scope f c' (cZ scope X.env) s' H' NL Ew) body (te Ew)) :
  PE X (.Call (.Name "_law_tried" p) [.Lambda params body scope lpos] [] pos) (aEe P lpos (X.env.qual++"<lambda>") word js te):=by
 intro pins s σ H Q I h;obtain⟨ps,hP,ht,hnf,hte⟩:=h;refine wpAny_Call_Name_kw (gA I hg T.m ?_);refine callWith_K (h₀:=X.base) I.ok.mod.kin T.fn.kp ?_ (bV rfl) rfl;rw[bV rfl];show wpAny _ _ (spliced ((false,eval (.Lambda params body scope lpos) X.env)::backTo pos (starEach [] X.env))) _ _ s;refine Calls.spliced_cons (xN I hcode hcd bm hP ht hnf hdef B.cel fun f c' pm ctv s1 I1 hc0 hcP hcf hcs hold hfo=>?_);refine Calls.spliced_nil ⟨I1.kIn,?_⟩;generalize hH1:upd (upd H P (.tbl (ps++#[rawInt lpos.line,rawInt lpos.col,.ref c']))) c' (.ext (dW c' (X.env.qual++"<lambda>")))=H1 at I1;have hq:=hte c' H1 hc0 hcP hH1.symm;have hcl:∀ n∈cX scope,∃ a,X.env.cells.lookup n=some a:=fun n hn=>I.ok.has n (B.cel n hn);have cl1:∀ x a,(cZ scope X.env).lookup x=some a->X.env.cells.lookup x=some a:=gT (cX scope) [] hcl fun x a e=>by simp at e
 have hfree:∀ x,scope.names.lookup x=some .free->x∈cX scope:=fun x e=>List.mem_map.mpr ⟨(x,.free),List.mem_filter.mpr ⟨PySem.mem_of_lookup e,by simp⟩,rfl⟩;have h1none:∀ b,H b=none->b≠P->b≠c'->H1 b=none:=fun b n h1 h2=>by rw[← hH1,aI h2,aI h1]; exact n
 have hPs:P<s.heap.objs.size:=I.hok.lt hP;have hsf:s.heap.objs.size<=f:=Nat.le_trans hcs (Nat.le_of_lt hcf)
 have stkLt:∀ b∈frs X.stack,b<s.heap.objs.size:=fun b hb=>by
  obtain⟨_,o,ho,_⟩:=I.stack.mem hb;exact Heap.lt_size ho
 have hcell:∀ x a,X.env.cells.lookup x=some a->a<s.heap.objs.size∧a≠P∧a≠c'∧a∉frs X.stack:=fun x a e=>by
  obtain⟨v,hv⟩:=I.cell x a e;have la:=hv.lt;refine⟨la,fun z=>?_,Nat.ne_of_lt (Nat.lt_of_lt_of_le la hcs),fun z=>?_⟩
  ·have:=I.freeC x a e
   rw[z,hP] at this;cases this
  ·rcases List.mem_cons.mp (I.stkSub a z) with z | z
   ·exact I.cne x a e z
   ·obtain⟨_,o,ho,_⟩:=I.ok.funs.mem z;exact absurd (Nat.lt_of_lt_of_le (Heap.lt_size ho) (I.ok.cab x a (hfn x) e)) (Nat.lt_irrefl _)
 have L1:lD s1.heap H1 (frs X.stack) f c' (X.env.qual++"<lambda>") params body scope (cZ scope X.env) NL (cB 0 js σ):=by
  refine⟨⟨pm,ctv,hfo⟩,h1none f (I.hok.fresh hsf) (Nat.ne_of_gt (Nat.lt_of_lt_of_le hPs hsf)) (Nat.ne_of_gt hcf),fun z=>?_,by rw[← hH1,aD],fun x y a e1 e2=>I.ok.inj x y a (cl1 x a e1) (cl1 y a e2),fun x a e=>?_,fun i x v e1 e2=>?_,?_⟩
  ·exact absurd (Nat.lt_of_lt_of_le (stkLt f z) hsf) (Nat.lt_irrefl _)
  ·have e':=cl1 x a e;obtain⟨la,n1,n2,n3⟩:=hcell x a e';obtain⟨v,o,ho,hd⟩:=I.cell x a e';exact⟨⟨v,o,hold a o n1 ho,hd⟩,h1none a (I.freeC x a e') n1 n2,n3⟩
  ·unfold cB at e2;rw[List.replicate_zero,List.nil_append,List.getElem?_map] at e2;cases hj:js[i]? with
   | none=>rw[hj] at e2; cases e2
   | some j=>
    rw[hj] at e2;have e2:some ((σ[j]?).join)=some (some v):=e2
    have e3:σ[j]?=some (some v):=by
     cases z:σ[j]? with
     | none=>rw[z] at e2; cases e2
     | some y=>rw[z] at e2; cases y with
      | none=>cases e2
      | some y=>cases e2; rfl
    have e4:X.N[j]?=some x:=by rw[B.at' i j hj,Nat.zero_add]; exact e1
    obtain⟨hfr,_⟩:=B.fre i x (Nat.zero_le _) e1;have kx:=B.cel x hfr;obtain⟨m,hm,hl⟩:=I.loc;obtain⟨u,r,l⟩:=hl j x v e4 e3 (by rcases kx with z | z; exact .inr (.inl z); exact .inr (.inr z));rcases l with⟨kk,_⟩ | ⟨kk,a,ea,o,ho,hd⟩
    ·rcases kx with k' | k' <;> rw[kk] at k' <;> cases k'
    ·obtain⟨a',ha'⟩:=gC (env:=X.env) (cX scope) [] x (.inl hfr)
     have:=cl1 x a' ha'
     rw[ea] at this;cases this;exact⟨a,u,ha',r,o,hold a o (hcell x a ea).2.1 ho,hd⟩
  ·unfold cB;rw[List.replicate_zero,List.nil_append,List.length_map,B.len,Nat.zero_add]
 have SL:sL scope (cZ scope X.env) NL:=⟨S.kind,S.co,S.gen,S.cell,fun x e=>gC (env:=X.env) (cX scope) [] x (.inl (hfree x e)),S.nl⟩;have hr1:cL (k+2+1) X.A:=hr
 have bt:BindsTo s1 fdt ⟨[.ref f],[]⟩ ((["_law_deed"]:List Str).zip [.ref f]):=by
  have:=T.b s1 [.ref f] I1.kIn rfl
  exact this
 refine wpAny_call (codeAny_mono (zX (CX:=CX0) (E:=E0) (Q:=Q) (vs:=[.ref f]) T.fn T.sc hr1 I1.env0 bt rfl (.cons rfl .nil) fun cdv hr2=>?_) fun r s' hq'=>?_)
 ·obtain⟨p1,p2,p3,p4,p5,p6,p7,p8,p9,p10,p11,p12,j,hbod⟩:=T.is;rw[hbod];have rw1:mE 1 (X.A.deeper (envOfC "_law_tried" (aB st) s1.heap.objs.size ft cdv)):=⟨by have:=hr2.dp; omega,by have:=hr2.un; omega⟩
  let Y:Cx:=(gB CX0 X.prog X.w X.K X.mg X.base NT "_law_tried" (aB st) ft cdv X.A X.stack s1 H1 E0).nox
  have run:∀ pn E,∀ (pl:List (Addr×Obj)) (s2:Shared) (σ2:St) (Q':VK),Inv (Y.pinned pn E) pl σ2 H1 s2->te (iH word Q) (cB 0 js σ) H1 Q' ->
    FnAt f s2.heap∧codeAny (model X.prog X.w) Y.A (.call (.ref f) ⟨[],[]⟩) (CR (CXE X.prog X.w) Y.stack X.prog X.w H1 s2 Q' (iH word Q)) s2:=by
   intro pn E pl s2 σ2 Q' J hR
   have L2':=L1.stay (h':=s2.heap) (fr':=frs Y.stack) (fun b o e n hb=>J.base.keep b o e n hb (by show b∉([]:List Addr); simp)) (fun b o e hb z=>by
    rcases List.mem_cons.mp (show b∈s1.heap.objs.size::frs X.stack from z) with z | z
    ·exact absurd (Heap.lt_size e) (by rw[z]; exact Nat.lt_irrefl _)
    ·exact hb z)
   obtain⟨pm',ctv',ho'⟩:=L2'.fn;exact⟨⟨_,_,_,_,ho'⟩,aBb (X:=Y.pinned pn E) (k:=k) J L2' SL (hr2.mono (by omega)) (fun pm ctv=>hba _ pm c' ctv) (hb _ _ _ _ _ _ _ _ _ _ _ _ (cL.deeper (hr2.mono (by omega)) _)) hR⟩
  have try1:=aEx (X:=Y) (x:="WardError") (n:="_law_e") (W:=W) (np:=p4) (hpos:=p9) (pos:=p10) (i:=1) (iH word Q) ⟨rfl,rfl⟩ rfl T.sc.nd rfl T.k1 T.k2 T.mW
   (fun pn E hp=>aL (dB (pos:=p3) (rL (Y:=Y.pinned pn E) (x:="_law_deed") (p:=p1) (pos:=p2) (i:=0) (f:=f) (H₁:=H1) (R:=fun Q'=>te (iH word Q) (cB 0 js σ) H1 Q') rfl T.k0 hp (run pn E)) rfl))
   (fun e pn=>aL (bO (pos:=p8) (wZ (X:=Y.caught e pn) (x:="_law_word") (p:=p5) (pos:=p7) T.ok ⟨rw1.dp,rw1.un⟩ T.k3 T.mw T.kw T.bw (pac (oY (X:=Y.caught e pn) (x:="_law_e") (pos:=p6) (i:=1) rfl (.inl T.k1)) aJ))))
  refine⟨_,PSs.nox (X:=gB CX0 X.prog X.w X.K X.mg X.base NT "_law_tried" (aB st) ft cdv X.A X.stack s1 H1 E0) (aK try1 (aL (bO aQ))),⟨rfl,rfl,hq⟩,?_⟩
  ·intro cls H2 ⟨C,x,e1,e2,e3⟩;refine⟨C,e1,T.wk C x e2,fun e σ1 hl he=>⟨_,?_,e,C,x,rfl,aD,e2,fun H3 sm=>e3 H3 fun b o z=>sm b o (by rw[aI (aF z he)]; exact z)⟩⟩;have hl2:σ1.length=2:=hl;exact List.getElem?_set_self (by omega)
 ·cases r with
  | error e=>exact False.elim hq'
  | ok fl=>
   cases fl with
   | ret u=>exact I1.after hq'
   | next=>exact False.elim hq'
   | brk=>exact False.elim hq'
   | cont=>exact False.elim hq'
end
end L2
namespace L2
open PySem PySem.Spec PySem.Calls PyProof.Rows PySem.W
theorem aDa {P:Program}{w:World}{K:Frag}{mg mb:Str->Option Value}{CX:CXT}{k:Nat}{fa a:Addr}{fd:FuncData}{x:Str}{sp:Sp}{s₁:Shared}{vs:List Value}{ns:List Int}{tabs:List (Addr×Addr)}
  (KX:K.In s₁.heap) (hns:s₁.heap.Ns mainGlobals mg) (hb:s₁.heap.Ns builtinsNs mb) (hbb:∀ x:Str,x≠"__name__" -> mb x=bootBuiltins x) (hlim:s₁.heap.NoLimit) (hg:s₁.gens=#[])
  (htab:∀ q∈tabs,codeHdIn K q.1 q.2=true∧K.lookup q.2=none∧s₁.heap.get? q.2=some (tabObj #[]))
  (hbm:∃ bm ob,mg "__builtins__" = some (.ref bm)∧bm≠builtinsNs∧s₁.heap.get? bm=some ob∧ob.cls=.type "module" ∧ ob.dict=some builtinsNs∧ob.data=.plain)
  (ha:s₁.heap.get? a=some { cls:=.type "list",data:=.seq vs.toArray }) (hi:IntsAre vs ns) (hl:ns.length<=sizeLine) (hr:cL k callerA)
  (F:∀ base:Heap,K.In base->base.Ns mainGlobals mg->iV mg base->bE P w K mg base CX k fa fd [x] sp) (hbind:∀ (s:Shared) (u:Value),BindsTo s fd ⟨[u],[]⟩ [(x,u)])
  (hsp:∀ H:Hp,(∀ q∈tabs,H q.2=some (.tbl #[]))->SqL K H a (ns.map V.int)->sp [.ref a] H (fun v _=>v=.bl true) fun _ _ _=>False)
  (hCX:∀ H e s',CX [] H s₁ (fun _ _ _=>False) e s'->False) :
  codeAny (model P w) callerA (.call (.ref fa) ⟨[.ref a],[]⟩) (fun r s'=>r=.ok (.ret (.bool true))∧OldK s₁.heap s'.heap∧s'.os=s₁.os∧AllBare s'.gens) s₁:=by
 have rv:=tD hi;have lenV:=hi.length
 have core:∀ H:Hp,SqL K H a (ns.map V.int)->HOk P w H s₁.heap->(∀ q∈tabs,H q.2=some (.tbl #[]))->(∀ b u,H b=some u->(∃ q∈tabs,b=q.2)∨(b=a∧K.lookup a=none∧∃ o ys,u=.frz o (.lst ys))) ->
   codeAny (model P w) callerA (.call (.ref fa) ⟨[.ref a],[]⟩) (fun r s'=>r=.ok (.ret (.bool true))∧OldK s₁.heap s'.heap∧s'.os=s₁.os∧AllBare s'.gens) s₁:=by
  intro H hS hok hT hA
  -- what is tracked is the script or a table
  have noA:∀ {b:Addr}{o:Obj},s₁.heap.get? b=some o->(∀ ws,o.data≠.fields ws)->(∀ ws n,o.data≠.seq ws n)->H b=none:=fun {b o} e d1 d2=>by
   cases z:H b with
   | none=>rfl
   | some u=>
    rcases hA b u z with⟨q,hq,rfl⟩ | ⟨rfl,_⟩
    ·have:=(htab q hq).2.2
     rw[e] at this;cases this;exact absurd rfl (d1 #[])
    ·rw[ha] at e;cases e;exact absurd rfl (d2 vs.toArray 0)
  have nsK:∀ {b:Addr}{m:Str->Option Value},s₁.heap.Ns b m->(vN s₁.heap H).Ns b m:=fun {b m} ⟨o,es,ep,e,d,r⟩=>⟨o,es,ep,rT e (noA e (fun ws z=>by rw[d] at z; cases z) fun ws n z=>by rw[d] at z; cases z),d,r⟩
  have hKb:K.In (vN s₁.heap H):=fun b o e=>rT (KX b o e) (by
   cases z:H b with
   | none=>rfl
   | some u=>
    rcases hA b u z with⟨q,hq,rfl⟩ | ⟨rfl,hk,_⟩
    ·rw[(htab q hq).2.1] at e; cases e
    ·rw[hk] at e; cases e)
  have hM:Mod K mg (vN s₁.heap H):=⟨hKb,nsK hns,⟨mb,nsK hb,hbb⟩,let ⟨mc,h1,h2⟩:=hlim; ⟨mc,nsK h1,h2⟩⟩
  have hB:iV mg (vN s₁.heap H):=by
   obtain⟨bm,ob,b1,b2,b3,b4,b5,b6⟩:=hbm;exact⟨bm,ob,b1,b2,rT b3 (noA b3 (fun ws z=>by rw[b6] at z; cases z) fun ws n z=>by rw[b6] at z; cases z),b4,b5,b6⟩
  have e0:pT P w K mg (vN s₁.heap H) callerA [] s₁ H:=⟨rfl,hM,fun b o e=>aIs e,Nat.le_of_eq (aDf _ _),trivial,fun b hb=>absurd (show b∈([]:List Addr) from hb) (by simp),hok,.of_eq hg⟩
  refine codeAny_mono ((F _ hKb (nsK hns) hB).run callerA [] s₁ H ⟨[.ref a],[]⟩ [.ref a] [.ref a] _ _ hr e0 (hbind s₁ (.ref a)) (.cons rfl .nil) (hsp H hT hS)) fun r s' h=>?_;cases r with
  | error e=>exact (hCX H e s' h).elim
  | ok fl=>
   cases fl with
   | next=>exact False.elim h
   | brk=>exact False.elim h
   | cont=>exact False.elim h
   | ret u=>
    obtain⟨v,H',os,bare,un,hok',r',q⟩:=h;have q':v=.bl true:=q;subst q';obtain rfl:u=Value.bool true:=r';refine⟨rfl,⟨fun b o e=>?_,fun b o e=>un.there b o e (by simp)⟩,os,bare⟩;cases z:H b with
    | none=>exact .inl (un.keep b o e z (by intro y; exact absurd (show b∈([]:List Addr) from y) (by simp)) (by simp))
    | some u=>
     rcases hA b u z with⟨q,hq,rfl⟩ | ⟨_,_,ob,ys,rfl⟩
     ·obtain⟨hc,_,hP⟩:=htab q hq;obtain⟨more,z2⟩:=un.tbls q.2 #[] (hT q hq);have e2:s'.heap.get? q.2=some { cls:=.none,data:=.fields (#[]++more) }:=hok' q.2 _ z2;rw[hP] at e;cases e;exact .inr (.inl ⟨((codeHd_of_K KX hc).tab hP).isCodeTable,rfl,#[],more,rfl,e2⟩)
     ·have z2:=un.frzs b ob _ z;obtain⟨e1,_⟩:=hok b _ z;obtain⟨e2,_⟩:=hok' b _ z2;rw[e] at e1;cases e1;exact .inl e2
 have aT:∀ q∈tabs,q.2≠a:=fun q hq z=>by
  have:=(htab q hq).2.2
  rw[z,ha] at this;cases this
 cases hk:K.lookup a with
 | some o=>
  have e:=KX a o hk;rw[ha] at e;cases e;refine core (fun b=>if b∈tabs.map (·.2) then some (.tbl #[]) else none) (.inr ⟨_,vs.toArray,_,hk,rfl,rfl,rfl,by rw[List.size_toArray,lenV]; exact hl,by simpa using rv⟩) (fun b u z=>?_) (fun q hq=>if_pos (List.mem_map_of_mem hq)) fun b u z=>?_
  ·by_cases hb:b∈tabs.map (·.2)
   ·have z':=(if_pos hb).symm.trans z;cases z';obtain⟨q,hq,rfl⟩:=List.mem_map.mp hb;exact (htab q hq).2.2
   ·have z':=(if_neg hb).symm.trans z;cases z'
  ·by_cases hb:b∈tabs.map (·.2)
   ·obtain⟨q,hq,rfl⟩:=List.mem_map.mp hb;exact .inl ⟨q,hq,rfl⟩
   ·have z':=(if_neg hb).symm.trans z;cases z'
 | none=>
  refine core (fun b=>if b∈tabs.map (·.2) then some (.tbl #[]) else if b=a then some (.frz { cls:=.type "list",data:=.seq vs.toArray } (.lst (ns.map V.int))) else none) ?_ (fun b u z=>?_) (fun q hq=>if_pos (List.mem_map_of_mem hq)) fun b u z=>?_
  ·refine .inl (.inr ⟨{ cls:=.type "list",data:=.seq vs.toArray },?_⟩)
   have na:a∉tabs.map (·.2):=fun z=>by
    obtain⟨q,hq,e⟩:=List.mem_map.mp z;exact aT q hq e
   exact (if_neg na).trans (if_pos rfl)
  ·by_cases hb:b∈tabs.map (·.2)
   ·have z':=(if_pos hb).symm.trans z;cases z';obtain⟨q,hq,rfl⟩:=List.mem_map.mp hb;exact (htab q hq).2.2
   ·have z':=(if_neg hb).symm.trans z
    by_cases hba:b=a
    ·have z'':=(if_pos hba).symm.trans z';cases z'';subst hba;exact⟨ha,by rw[List.length_map]; exact hl,vs,_,rv,ha⟩
    ·have z'':=(if_neg hba).symm.trans z';cases z''
  ·by_cases hb:b∈tabs.map (·.2)
   ·obtain⟨q,hq,rfl⟩:=List.mem_map.mp hb;exact .inl ⟨q,hq,rfl⟩
   ·have z':=(if_neg hb).symm.trans z
    by_cases hba:b=a
    ·have z'':=(if_pos hba).symm.trans z';cases z'';exact .inr ⟨hba,hk,_,_,rfl⟩
    ·have z'':=(if_neg hba).symm.trans z';cases z''
theorem walk_ofT {l:OpenLaw}{n k:Nat}{q:Program}{loose:List Str}{XP:(Str->Option Value)->Heap->Prop}{YP:World->Heap->Prop}{d:DefRec}{K:Params->Frag}{sp:World->Sp}{x:Str}(tabs:List (Addr×Addr))
  (hn:l.most=some n) (hn2:n<=sizeLine) (hdf:d.params.defaults=[]) (hr:cL k callerA)
  (hY:∀ (w:World) (h:Heap),YP w h->(K w.params).In h∧∀ p∈tabs,h.get? p.2=some (tabObj #[]))
  (hK:∀ (w:World),∀ p∈tabs,codeHdIn (K w.params) p.1 p.2=true∧(K w.params).lookup p.2=none)
  (F:∀ (w:World) (mg:Str->Option Value) (fa:Addr) (h:Heap),(K w.params).In h->h.Ns mainGlobals mg->mg d.name=some (.ref fa) ->
   ∃ fd:FuncData,(∀ (s:Shared) (u:Value),BindsTo s fd ⟨[u],[]⟩ [(x,u)]) ∧
    ∀ base:Heap,(K w.params).In base->base.Ns mainGlobals mg->iV mg base->bE l.prog w (K w.params) mg base CX0 k fa fd [x] (sp w))
  (hsp:∀ (w:World) (H:Hp) (a:Addr) (ns:List Int),ns.length<=n->(∀ p∈tabs,H p.2=some (.tbl #[]))->SqL (K w.params) H a (ns.map V.int)->sp w [.ref a] H (fun v _=>v=.bl true) fun _ _ _=>False) :
  WalkO q loose XP YP l.row.toRowW d [] (fun f vs=>PySem.call f vs):=by
 refine Att.attach_call hn hdf fun w s₀ s₁ mg mb fa o pm cd doc a vs ns G Y ho hd hcd hmg hobj hints hlen hg=>?_;obtain⟨KX,hts⟩:=hY w _ Y;obtain⟨fd,hb,hF⟩:=F w mg fa _ KX G.T.g hmg;exact aDa (tabs:=tabs) KX G.T.g G.T.b G.T.builtins G.T.nolimit hg (fun p hp=>⟨(hK w p hp).1,(hK w p hp).2,hts p hp⟩) G.T.bmain hobj hints (Nat.le_trans hlen hn2) hr hF hb (fun H hT hS=>hsp w H a ns hlen hT hS) fun H e s' z=>z
end L2
namespace L2
open PySem PySem.Spec PySem.Calls PyProof.Rows PySem.W
section
variable {X:Cx}
theorem mI:∀ {ss:List Str}{us:List Value},bY (ss.map V.str) us->StrsAre us ss
 | [],_,r=>by rw[List.map_nil] at r; cases r; exact .nil
 | x::ss,_,r=>by
  rw[List.map_cons] at r;cases r with
  | cons r1 r2=>
   obtain⟨t,rfl⟩:=r1;exact .cons _ _ (mI r2)
theorem oR:∀ {us:List Value}{ss:List Str},StrsAre us ss->bY (ss.map V.str) us
 | _,_,.nil=>.nil
 | _,_,.cons _ t r=>.cons ⟨t,rfl⟩ (oR r)
inductive aJp (K:PySem.W.Frag) (xs:List V) (H:Hp) (Q:VK):Prop
 | mk (a:Addr) (ss:List Str) (h0_:xs=[.ref a]) (h1_:SqL K H a (ss.map V.str)) (h2_:ss.length<64) (h3_:∀ (p:Addr) (ss':List Str),H p=none->ss'.Perm ss->sortedS ss'=true->Q (.ref p) (upd H p (.lst (ss'.map V.str))))
theorem oC:CallR X (.builtin "sorted") (aJp X.K):=by
 intro pins s σ H xs us Q I r h;obtain⟨a,ss,rfl,hs,h64,q⟩:=h;obtain⟨u,rfl,rx⟩:=iO r;cases rx;obtain⟨its,rv,pl,hz⟩:=I.list hs;have hl:its.length=ss.length:=by rw[← rv.length,List.length_map]
 refine sorted_strs pl.isList (mI rv) (by omega) fun out ss' a1 a2 a3=>?_;obtain⟨e,he⟩:=sortedAll_at s.heap its out;have hn:H (s.heap.objs.size+1)=none:=I.hok.fresh (Nat.le_succ _);refine⟨.ref (s.heap.objs.size+1),_,I.laid (t':=s.toks) (fun b o z=>sortedAll_old z) (Nat.le_succ _) ?_,rfl,q _ ss' hn a2 a3⟩;have hl':ss'.length=ss.length:=a2.length_eq;exact⟨by rw[List.length_map,hl',sizeLine_eq]; omega,out.toList,e,oR a1,he⟩
def aPv:V->Hp->VK->Prop:=fun x H Q=>∃ z,x=.str z∧z.length<=sizeLine∧Q (.str z) H
theorem aLh {e:Expr}{te:TE}{pos:Pos}(he:PE X e te):PE X (.FormattedValue e (-1) none pos) (tUn aPv te):=by
 intro pins s σ H Q I h;refine FormattedValue_plain (thn (he pins s σ H _ I h) fun v s1 ⟨x,H1,I1,r1,z,e1,hz,q⟩=>?_);subst e1;obtain⟨t,rfl⟩:=r1;exact formatField_str (fun t' tk=>⟨.str z,H1,I1.tok tk,⟨_,rfl⟩,q⟩) hz
def aEg:List TE->Str->TE
 | [],out=>fun _ H Q=>out.length<=sizeLine∧Q (.str out) H
 | t::r,out=>fun σ H Q=>t σ H fun x H1=>∃ y,x=.str y∧(out++y).length<=sizeLine∧aEg r (out++y) σ H1 Q
def PJ (X:Cx) (ps:List (Sem Value)) (ts:List TE):Prop:=
 ∀ (out:Str) (pins:List (Addr×Obj)) (s:Shared) (σ:St) (H:Hp) (Q:VK),Inv X pins σ H s->aEg ts out σ H Q->wpAny (model X.prog X.w) X.A (joinParts out ps) (EP X pins σ Q) X.xe s
theorem aLf:PJ X [] []:=fun out pins s σ H Q I ⟨hz,q⟩=>joinParts_nil ⟨.str out,H,I.tok _,⟨_,rfl⟩,q⟩ hz
theorem vG {e:Expr}{te:TE}{ps:List (Sem Value)}{ts:List TE}(he:PE X e te) (hr:PJ X ps ts):PJ X (eval e X.env::ps) (te::ts):=by
 intro out pins s σ H Q I h;refine joinParts_cons (thn (he pins s σ H _ I h) fun v s1 ⟨x,H1,I1,r1,y,e1,hz,q⟩=>?_);subst e1;obtain⟨t,rfl⟩:=r1;exact⟨hz,hr _ pins s1 σ H1 Q I1 q⟩
theorem wW {a b c:Expr}{ta tb tc:TE}{pos:Pos}(ha:PE X a ta) (hb:PE X b tb) (hc:PE X c tc):PE X (.JoinedStr [a,b,c] pos) (aEg [ta,tb,tc] Str.empty):=by
 intro pins s σ H Q I h;exact JoinedStr_many ((vG ha (vG hb (vG hc aLf))) Str.empty pins s σ H Q I h)
end
end L2
namespace L2
open PySem PySem.Spec PySem.Calls PyProof.Rows PySem.W
def Ite (K:Frag) (a:Addr):It:=
 ⟨fun i H=>∃ xs x,SqL K H a xs∧xs[i]?=some x,fun i H y H'=>∃ (t:Addr) (x:V),H t=none∧y=.ref t∧H'=upd H t (.tup [.int i,x])∧∀ xs,SqL K H a xs->xs[i]?=some x,fun i H=>∃ xs,SqL K H a xs∧xs.length<=i⟩
theorem aBu {P:Program}{w:World}{K:Frag}{elts:List Expr}{x1:Nat}{tpos:Pos}(a e it:Addr) (hne:e≠it) :
  aAe P w K (.Tuple elts x1 tpos) (Ite K a) [e,it] e (fun i h=>(∃ old,IsEnum h e it i old)∧h.IsListIter it a i) where
 mem:=by simp
 obj:=fun i h st b hb=>by
  obtain⟨⟨old,h1⟩,o,h2,c,d⟩:=st;rcases List.mem_cons.mp hb with rfl | hb
  ·exact⟨_,h1,fun v z=>by cases z⟩
  ·have e':b=it:=by simpa using hb
   subst e';exact⟨o,h2,fun v z=>by rw[d] at z; cases z⟩
 keep:=fun i h h' st k=>by
  obtain⟨⟨old,h1⟩,h2⟩:=st;exact⟨⟨old,k e (by simp) _ h1⟩,h2.at fun o z=>k it (by simp) o z⟩
 item:=by
  intro X hP hw hK hc i pins s σ H E I hf st hg;subst hP hw hK;obtain⟨xs,x,hq,hx⟩:=hg;obtain⟨its,rv,p,hz⟩:=I.list hq;obtain⟨u,hu,ru⟩:=rv.get hx;obtain⟨⟨old,he⟩,hit⟩:=st;have fe:=hf e (by simp);have fi:=hf it (by simp);refine wpAny_pyNext_enum_item he hit p.isList (x:=u) (by simpa using hu) hne fun h1 eo hit1 htup hsz hk=>⟨.ref s.heap.objs.size,rfl,wpAny_letOwnedTupleGo_enum eo fun h2 en sb=>?_⟩;have hn:H s.heap.objs.size=none:=I.hok.fresh (Nat.le_refl _);have nes:e≠s.heap.objs.size:=Nat.ne_of_lt (Heap.lt_size he);have kp:∀ b o,b≠e->b≠it->s.heap.get? b=some o->h2.get? b=some o:=fun b o n1 n2 z=>(sb.2 b n1).trans (hk b o n1 n2 z);have nH:∀ b v,H b=some v->b≠e∧b≠it:=fun b v z=>⟨fun y=>(by rw[y,fe.1] at z; cases z),fun y=>(by rw[y,fi.1] at z; cases z)⟩;have nS:∀ b v,H b=some v->b≠s.heap.objs.size:=fun b v z=>aF z hn
  have I2:Inv X pins σ (upd H s.heap.objs.size (.tup [.int i,x])) { s with heap:=h2,toks:=s.toks+1 }:=by
   refine I.step (g':=s.gens) (d':=s.drawn) (ch:=[e,it]) (fun b hb=>?_) (fun b o _ _ hc z _=>kp b o (fun y=>hc (by simp[y])) (fun y=>hc (by simp[y])) z) (fun b o _ _ hc z _=>⟨o.slots,kp b o (fun y=>hc (by simp[y])) (fun y=>hc (by simp[y])) z⟩)
    (fun b o _ z n=>by rw[aI (Nat.ne_of_lt (Heap.lt_size z))]; exact n) (fun b o hc z=>⟨o,kp b o (fun y=>hc (by simp[y])) (fun y=>hc (by simp[y])) z⟩) (fun b ys z=>by rw[aI (nS b _ z)]; exact z) (fun b o v z=>by rw[aI (nS b _ z)]; exact z)
    (fun b ps z=>⟨#[],by rw[aI (nS b _ z),z]; simp⟩) (fun m hm=>?_) (fun b v z=>?_) I.bare
   ·rcases List.mem_cons.mp hb with rfl | hb
    ·exact⟨fe.2.2.2.1,fe.2.1,fe.2.2.2.2.1,fe.2.2.2.2.2⟩
    ·have e':b=it:=by simpa using hb
     subst e';exact⟨fi.2.2.2.1,fi.2.1,fi.2.2.2.2.1,fi.2.2.2.2.2⟩
   ·obtain⟨o,es,ep,ho,r⟩:=hm;exact⟨o,es,ep,kp _ o (Ne.symm fe.2.1) (Ne.symm fi.2.1) ho,r⟩
   ·by_cases hb:b=s.heap.objs.size
    ·subst hb;rw[aD] at z;cases z;exact⟨by show 2<=sizeLine; decide,[.int i s.toks,u],.cons ⟨_,rfl⟩ (.cons ru .nil),⟨_,(sb.2 _ (Ne.symm nes)).trans htup,rfl,_,rfl⟩⟩
    ·rw[aI hb] at z;refine (I.hok b v z).stay (fun c y hc q=>kp c y ?_ ?_ q) (fun c q=>by rw[aI (nS c _ q)]; exact q) fun c ys q=>by rw[aI (nS c _ q)]; exact q
     ·rcases hc with rfl | hc
      ·exact (nH c v z).1
      ·exact (nH c _ hc).1
     ·rcases hc with rfl | hc
      ·exact (nH c v z).2
      ·exact (nH c _ hc).2
  refine⟨.ref s.heap.objs.size,_,I2,rfl,⟨s.heap.objs.size,x,hn,rfl,rfl,fun ys hy=>by rw[I.list_inj hy hq]; exact hx⟩,⟨⟨u,en⟩,?_⟩,fun b hb=>?_⟩
  ·obtain⟨o,z,c,d⟩:=hit1;exact⟨o,(sb.2 it (Ne.symm hne)).trans z,c,d⟩
  ·rw[aI ?_]
   ·exact (hf b hb).1
   ·rcases List.mem_cons.mp hb with rfl | hb
    ·exact nes
    ·have e':b=it:=by simpa using hb
     subst e';obtain⟨o,z,_⟩:=hit;exact Nat.ne_of_lt (Heap.lt_size z)
 done:=by
  intro X hP hw hK hc i pins s σ H E I hf st hg;subst hP hw hK;obtain⟨xs,hq,hlen⟩:=hg;obtain⟨its,rv,p,hz⟩:=I.list hq;obtain⟨⟨old,he⟩,hit⟩:=st;have fi:=hf it (by simp);have hl:=rv.length
  have hn:its.toArray[i]?=none:=by
   rw[List.getElem?_toArray];exact List.getElem?_eq_none_iff.mpr (by omega)
  exact wpAny_pyNext_enum_end (I.ok.hd hc) he hit p.isList hn fun h' ext=>⟨rfl,I.turned (t':=s.toks) (fun b o hb z=>ext b o hb z) fi.1 fi.2.1 fi.2.2.2.1 fi.2.2.2.2.1 fi.2.2.2.2.2⟩
 self:=fun _ i s _ _ ⟨⟨_,h1⟩,_⟩ h=>wpAny_pyIter_enum h1 h
section
variable {X:Cx}{elts:List Expr}{x1:Nat}{tpos:Pos}
inductive aQw (K:Frag) (vs:List V) (H1:Hp) (R:It->Hp->Prop):Prop
 | mk (a:Addr) (h1:vs=[.ref a]) (h2:∃ xs,SqL K H1 a xs) (r:R (Ite K a) H1)
def aNw (K:Frag) (ta:TA):TI:=fun σ H R=>ta σ H fun vs H1=>aQw K vs H1 R
theorem lP {l:Expr}{ta:TA}{p pos:Pos}(hg:Gl X "enumerate") (hm:X.mg "enumerate" = none) (ha:PA X [l] ta) (hs:nA l=false:=by rfl):PI X (.Tuple elts x1 tpos) (.Call (.Name "enumerate" p) [l] [] pos) (aNw X.K ta):=by
 intro pins s σ H R I h;have he:starEach [l] X.env=[(false,eval l X.env)]:=bV hs;refine Call_ (mX I hg hm Bo.enumerate (PyProof.Rows.callWith_type1 (thn (ha pos pins s σ H _ I h) fun us s1 ⟨vs,H1,I1,r1,a,e1,⟨xs,hq⟩,q⟩=>?_) he rfl));subst e1;obtain⟨u,rfl,rx⟩:=iO r1;cases rx;obtain⟨its,rv,pl,hz⟩:=I1.list hq;refine call_enumerate_list pl.isList fun h' h1 h2 h3 h4=>?_;have I2:Inv X pins σ H1 { s1 with heap:=h' }:=I1.kept (t':=s1.toks) h4;refine wpAny_pyIter_enum h1 ⟨s1.heap.objs.size+1,[s1.heap.objs.size+1,s1.heap.objs.size],_,Ite X.K a,H1,rfl,I2,aBu a _ _ (Nat.succ_ne_self _),⟨⟨_,h1⟩,h2⟩,fun b hb=>?_,q⟩
 have hge:s1.heap.objs.size<=b:=by
  rcases List.mem_cons.mp hb with rfl | hb
  ·exact Nat.le_succ _
  ·have e':b=s1.heap.objs.size:=by simpa using hb
   rw[e'];exact Nat.le_refl _
 exact I1.fpOk hge (I1.hok.fresh hge)
theorem oG {K:Frag}{a D:Addr}{xs:List V}{g:TG}{tc:TT}{te:TE}{R:Hp->Prop}{σ:St}{H:Hp}(Pv:Nat->St->Hp->Prop) (h0:Pv 0 σ H)
  (hl:∀ i σ H,i<=xs.length->Pv i σ H->SqL K H a xs)
  (hs:∀ i x σ H t,xs[i]?=some x->Pv i σ H->H t=none->g (.ref t) σ (upd H t (.tup [.int i,x])) fun σ2 H2=>tc σ2 H2 fun b H3=>if b=true then te σ2 H3 fun y H4=>∃ ys,H4 D=some (.lst ys)∧ys.length<sizeLine∧Pv (i+1) σ2 (upd H4 D (.lst (ys++[y]))) else Pv (i+1) σ2 H3)
  (hd:∀ σ H,Pv xs.length σ H->R H):yN (Ite K a) D g tc te R σ H:=by
 refine⟨fun i m σ H=>m=xs.length-i∧i<=xs.length∧Pv i σ H,⟨xs.length,by simp,Nat.zero_le _,h0⟩,?_⟩;rintro i m σ H ⟨rfl,hi,p⟩;have q:=hl i σ H hi p
 by_cases hlt:i<xs.length
 ·refine .inr ⟨⟨xs,xs[i],q,by simp[hlt]⟩,Pv (i+1),fun σ' H' p'=>⟨xs.length-(i+1),by omega,rfl,hlt,p'⟩,fun x H' y=>?_⟩;obtain⟨t,v,ht,rfl,rfl,hv⟩:=y;exact hs i v σ H t (hv xs q) p ht
 ·have e:i=xs.length:=by omega
  subst e;exact .inl ⟨⟨xs,q,Nat.le_refl _⟩,hd σ H p⟩
theorem xS {K:Frag}{a:Addr}{xs:List V}{g:TG}{tb:TS}{D:sN}{σ:St}{H:Hp}(Pv:Nat->St->Hp->Prop) (h0:Pv 0 σ H) (hl:∀ i σ H,i<=xs.length->Pv i σ H->SqL K H a xs)
  (hs:∀ i x σ H t,xs[i]?=some x->Pv i σ H->H t=none->g (.ref t) σ (upd H t (.tup [.int i,x])) fun σ2 H2=>tb { D with nx:=Pv (i+1),ct:=Pv (i+1),bk:=D.nx } σ2 H2) (hd:∀ σ H,Pv xs.length σ H->D.nx σ H) :
  ∃ W:Nat->Nat->St->Hp->Prop,(∃ m,W 0 m σ H)∧∀ i m σ H,W i m σ H ->
   ((Ite K a).stop i H∧D.nx σ H)∨((Ite K a).go i H∧∃ N:St->Hp->Prop,(∀ σ' H',N σ' H'->∃ m',m'<m∧W (i+1) m' σ' H')∧∀ x H',(Ite K a).yld i H x H'->g x σ H' fun σ2 H2=>tb { D with nx:=N,ct:=N,bk:=D.nx } σ2 H2):=by
 refine⟨fun i m σ H=>m=xs.length-i∧i<=xs.length∧Pv i σ H,⟨xs.length,by simp,Nat.zero_le _,h0⟩,?_⟩;rintro i m σ H ⟨rfl,hi,p⟩;have q:=hl i σ H hi p
 by_cases hlt:i<xs.length
 ·refine .inr ⟨⟨xs,xs[i],q,by simp[hlt]⟩,Pv (i+1),fun σ' H' p'=>⟨xs.length-(i+1),by omega,rfl,hlt,p'⟩,fun x H' y=>?_⟩;obtain⟨t,v,ht,rfl,rfl,hv⟩:=y;exact hs i v σ H t (hv xs q) p ht
 ·have e:i=xs.length:=by omega
  subst e;exact .inl ⟨⟨xs,q,Nat.le_refl _⟩,hd σ H p⟩
end
end L2
namespace L2
open PySem PySem.Spec PySem.Calls PyProof.Rows PySem.W
section
variable {X:Cx}
theorem aIx {k:Key}{v:Value}(h:qE k v=true):cE (kV k) v:=by
 rcases dG h with⟨i,t,rfl,rfl⟩ | ⟨x,t,rfl,rfl⟩
 ·exact⟨t,rfl⟩
 ·exact⟨t,rfl⟩
theorem uG:∀ {kvs:List (Key×V)}{vs:List (Key×Value)}{us:List Value},KV kvs vs->us.length=vs.length->(∀ (j:Nat) (u:Value),us[j]?=some u->∃ k x,vs[j]?=some (k,x)∧qE k u=true)->bY (kvs.map fun kv=>kV kv.1) us
 | [],_,us,r,hl,_=>by
  unfold KV at r;cases r
  have:us=[]:=List.length_eq_zero_iff.mp hl
  subst this;exact .nil
 | p::kvs,_,us,r,hl,h=>by
  unfold KV at r;cases r with
  | @cons a b as bs h1 h2=>
   cases us with
   | nil=>simp at hl
   | cons u us=>
    refine .cons ?_ (uG (vs:=bs) h2 (by simpa using hl) fun j v e=>?_)
    ·obtain⟨k,x,e1,e2⟩:=h 0 u rfl;have e1:some b=some (k,x):=e1;cases e1;show cE (kV p.1) u;rw[show p.1=k from h1.1]
     exact aIx e2
    ·obtain⟨k,x,e1,e2⟩:=h (j+1) v (by simpa using e);exact⟨k,x,by simpa using e1,e2⟩
theorem jJ {α:Type} [DecidableEq α]:∀ (xs ys:List α),xs.length=ys.length->((List.range xs.length).all fun j=>decide (xs[j]?=ys[j]?))=decide (xs=ys):=by
 intro xs ys hl;rw[Bool.eq_iff_iff,List.all_eq_true,decide_eq_true_iff];constructor
 ·intro h;refine List.ext_getElem? fun i=>?_
  by_cases hi:i<xs.length
  ·exact of_decide_eq_true (h i (List.mem_range.mpr hi))
  ·rw[List.getElem?_eq_none_iff.mpr (by omega),List.getElem?_eq_none_iff.mpr (by omega)]
 ·rintro rfl j _;exact decide_eq_true rfl
theorem aBv {A:Around}{s:Shared}{ss ts:List Str}{us ws:List Value}(r:bY (ss.map V.str) us) (r':bY (ts.map V.str) ws) (hl:ss.length=ts.length) :
  ∀ j (h1:j<us.toArray.size) (h2:j<ws.toArray.size),SeqAt.EqAt A s us.toArray[j] ws.toArray[j] (decide (ss[j]?=ts[j]?)):=by
 intro j h1 h2;have l1:=r.length;have l2:=r'.length;rw[List.length_map] at l1 l2;have g1:j<ss.length:=by rw[l1]; simpa using h1
 have g2:j<ts.length:=by rw[l2]; simpa using h2
 obtain⟨u,e1,q1⟩:=r.get (i:=j) (x:=.str ss[j]) (by simp[g1]);obtain⟨v,e2,q2⟩:=r'.get (i:=j) (x:=.str ts[j]) (by simp[g2]);obtain⟨t,rfl⟩:=q1;obtain⟨t',rfl⟩:=q2
 have f1:us.toArray[j]=.str ss[j] t:=by
  have:us[j]?=some us.toArray[j]:=by simp
  rw[e1] at this;exact (Option.some.inj this).symm
 have f2:ws.toArray[j]=.str ts[j] t':=by
  have:ws[j]?=some ws.toArray[j]:=by simp
  rw[e2] at this;exact (Option.some.inj this).symm
 rw[f1,f2];have eb:decide (ss[j]?=ts[j]?)=decide (ss[j]=ts[j]):=by simp[g1,g2]
 rw[eb];intro prog w E Q hq;exact wpAny_eqBool_str hq
end
end L2
namespace L2
open PySem PySem.Spec PySem.Calls PyProof.Rows PySem.W
section
variable {X:Cx}
inductive aJq (xs:List V) (H:Hp) (Q:VK):Prop
 | mk (d:Addr) (kvs:List (Key×V)) (ss:List Str) (h0_:xs=[.ref d]) (h1_:H d=some (.dK kvs)) (h2_:kvs.map (fun kv=>kV kv.1)=ss.map V.str) (h3_:ss.length<64) (h4_:∀ (p:Addr) (ss':List Str),H p=none->ss'.Perm ss->sortedS ss'=true->Q (.ref p) (upd H p (.lst (ss'.map V.str))))
theorem oE (hc:X.calm=true):CallR X (.builtin "sorted") aJq:=by
 intro pins s σ H xs us Q I r h;obtain⟨d,kvs,ss,rfl,hd,hks,h64,q⟩:=h;obtain⟨u,rfl,rx⟩:=iO r;cases rx;obtain⟨hz,lo,vs,rel,dd⟩:=aGn I.hok hd;obtain⟨ep,hat⟩:=dd.dictAt;have hl:kvs.length=vs.length:=Paired.length rel
 have hls:kvs.length=ss.length:=by
  have:=congrArg List.length hks
  simpa using this
 refine call_function_entry kind_sorted plain_sorted entry_sorted (args_sorted1 _) ?_;unfold Builtin.«sorted»;refine wpAny_bind (m:=checkCount "sorted" 1 1 _) (wpAny_pure ?_);refine wpAny_bind (kdu_collect (A:=X.A.in1) (kdl_dict (knd:=dD X.prog X.w) (kvs:=vs) (ep:=ep) lo) (I.ok.hd hc) hat (by omega) fun h' tk acc hk hacc=>?_);have hal:acc.toList.length=vs.length:=by rw[Array.length_toList]; exact hacc.1
 have rv:bY (ss.map V.str) acc.toList:=by
  rw[← hks];exact uG rel hal fun j v e=>hacc.2 j v (by rw[← Array.getElem?_toList]; exact e)
 have hS:=mI rv;refine wpAny_bind (wpAny_newList ?_ (by rw[hal]; omega));have hoL:(h'.push (seqObj "list" acc.toList.toArray 0)).get? h'.objs.size=some (seqObj "list" acc.toList.toArray 0):=Heap.get?_push_size _ rfl;refine wpAny_bind (wpAny_holding (wpAny_call_entry slot_list_sort ⟨_,hoL,rfl⟩ entry_list_sort (list_sort_treeK strKind_oneLt hoL hS.keysOf (fun v₁ v₂ rest e=>keyKind_strs (by rw[← e]; exact hS)) (by rw[hal]; omega) fun st' a1 a2=>⟨_,rfl,?_⟩) (args_list_sort _)));obtain⟨ss',b1,b2,b3⟩:=sorted_out_str hS a1 a2;refine wpAny_pure ⟨_,rfl,?_⟩;have I1:Inv X pins σ H { s with heap:=h',toks:=tk }:=I.kept (t':=tk) hk;have hn:H h'.objs.size=none:=I1.hok.fresh (Nat.le_refl _);obtain⟨e,he⟩:=sortedHeap_at (vs:=acc.toList) (out:=(arrOf st').map (·.2)) hoL;refine⟨.ref h'.objs.size,_,I1.laid (t':=tk) (fun b o z=>?_) (Nat.le_refl _) ?_,rfl,q _ ss' hn b2 b3⟩
 ·have hb:b<h'.objs.size:=Heap.lt_size z;rw[sortedHeap_old (Nat.ne_of_lt hb) (by rw[size_push']; exact Nat.lt_succ_of_lt hb)];exact Heap.get?_push_of_some _ z
 ·exact⟨by rw[List.length_map,b2.length_eq,sizeLine_eq]; omega,_,e,oR b1,he⟩
end
end L2
namespace L2
open PySem PySem.Spec PySem.Calls PyProof.Rows PySem.W
section
variable {X:Cx}{pins:List (Addr×Obj)}{σ:St}{H:Hp}{s:Shared}{d:Addr}{kvs:List (Key×V)}
theorem Inv.freeze (I:Inv X pins σ H s) (e:H d=some (.dK kvs)):∃ o,Inv X pins σ (upd H d (.frz o (.dK kvs))) s:=by
 have hO:=I.hok d _ e;obtain⟨o,ho⟩:=hO.ex
 have ne:∀ b u,H b=some u->(∀ k,u≠.dK k)->(upd H d (.frz o (.dK kvs))) b=some u:=fun b u z n=>by
  rw[aI (fun y=>by rw[y,e] at z; cases z; exact n kvs rfl)];exact z
 refine⟨o,I.step (h':=s.heap) (g':=s.gens) (d':=s.drawn) (t':=s.toks) (ch:=[]) (fun b hb=>nomatch hb) (fun b u _ _ _ z _=>z) (fun b u _ _ _ z _=>⟨u.slots,z⟩)
  (fun b u _ _ n=>by rw[aI (fun y=>by rw[y,e] at n; cases n)]; exact n) (fun b u _ z=>⟨u,z⟩) (fun b xs z=>ne b _ z fun k y=>by cases y) (fun b u v z=>ne b _ z fun k y=>by cases y)
  (fun b ps z=>⟨#[],by rw[ne b _ z fun k y=>by cases y]; simp⟩) (fun m hm=>hm) (fun b u z=>?_) I.bare⟩
 by_cases hb:b=d
 ·subst hb;rw[aD] at z;cases z;exact⟨ho,hO⟩
 ·rw[aI hb] at z;exact (I.hok b u z).stay (fun c y _ q=>q) (fun c q=>ne c _ q fun k y=>by cases y) fun c ys q=>ne c _ q fun k y=>by cases y
inductive aQv (v:V) (H':Hp) (Q:VK):Prop
 | mk (d:Addr) (kvs:List (Key×V)) (h1:v=.ref d) (h2:H' d=some (.dK kvs)) (q:∀ o,Q v (upd H' d (.frz o (.dK kvs))))
def aHl (t:TE):TE:=fun σ H Q=>t σ H fun v H'=>aQv v H' Q
theorem aCh {e:Expr}{t:TE}(h:PE X e t):PE X e (aHl t):=by
 intro pins s σ H Q I q;refine thn (h pins s σ H _ I q) fun v s1 ⟨x,H1,I1,r1,d,kvs,e1,e2,q1⟩=>?_;obtain⟨o,I2⟩:=I1.freeze e2;exact⟨x,_,I2,r1,q1 o⟩
end
section
variable {X:Cx}{tg:Expr}
end
end L2
namespace L2
open PySem PySem.Spec PySem.Calls PyProof.Rows PySem.W
section
variable {X:Cx}
end
end L2
namespace L2
open PySem PySem.Spec PySem.Calls PyProof.Rows PySem.W
section
variable {X:Cx}{pins:List (Addr×Obj)}{σ:St}{H:Hp}{s:Shared}
theorem aBc {params:Arguments}{body:Expr}{scope:Scope}{pos:Pos}{c c' P:Addr}{ps:Array Value}{Q:Value->Shared->Prop}{E:Value->Shared->Prop}(I:Inv X pins σ H s) (hcode:X.env.code=.ref c) (hc:codeHdIn X.K c P=true) (bm:iV X.mg X.base)
  (hP:H P=some (.tbl ps)) (ht:TriplesOk ps.toList) (hf:codeAmong pos ps.toList=some (.ref c')) (hdef:defaultsOf params X.env=([],[])) (hfr:∀ n∈cX scope,X.env.kindOf n=some .cell∨X.env.kindOf n=some .free)
  (k:∀ (f:Addr) (pm ctv:Value) (s1:Shared),Inv X pins σ H s1->s.heap.objs.size<=f->(∀ b o,s.heap.get? b=some o->s1.heap.get? b=some o) ->
   s1.heap.get? f=some (kla_obj "<lambda>" (X.env.qual++"<lambda>") params body scope (cZ scope X.env) pm c' ctv)->Q (.ref f) s1) :
  wpAny (model X.prog X.w) X.A (eval (.Lambda params body scope pos) X.env) Q E s:=by
 have hcl:closureFor scope X.env=pure (cZ scope X.env):=gP fun n hn=>I.ok.has n (hfr n hn);obtain⟨b,ob,b1,b2,b3,b4,b5,b6⟩:=bm;have hg:s.heap.Ns mainGlobals X.mg:=I.mod.glob.keeps I.bk;have bP:∀ d o,X.base.get? d=some o->d≠P:=fun d o e z=>by have:=(I.bs d o e).2; rw[z,hP] at this; cases this
 have hbG:b≠mainGlobals:=fun z=>by
  obtain⟨o,es,ep,e,hd,_⟩:=I.mod.glob;rw[z,e] at b3;cases b3;rw[hd] at b6;cases b6
 have hob:s.heap.get? P=some (tabObj ps):=I.hok P _ hP;refine kla_eval hdef (kla_makeFunctionHit (mg:=X.mg) hcl I.ok.glob hg hcode (codeHd_of_K I.kIn hc) hob ht hf ⟨b,ob,b1,b2,hbG,bP _ _ b3,I.bk _ _ b3,b4,b5,b6⟩ fun ctv h' tk hx hge=>?_);exact k h'.objs.size _ ctv _ (I.kept (t':=tk) fun d o e=>Heap.get?_push_of_some _ (hx d o e)) hge (fun d o e=>Heap.get?_push_of_some _ (hx d o e)) (Heap.get?_push_size _ rfl)
end
section
variable {X:Cx}
inductive tI (P:Addr) (pos:Pos) (q:Str) (word:Addr->Option Str) (js:List Nat) (te:XK->TE) (σ:St) (H:Hp) (Q:VK):Prop
 | mk (ps:_) (c':Addr) (h0_:H P=some (.tbl ps)) (h1_:TriplesOk ps.toList) (h2_:codeAmong pos ps.toList=some (.ref c')) (h3_:H c'=some (.ext (dW c' q))) (h4_:te (iH word Q) (cB 0 js σ) H (fun _ H2=>Q (.str "") H2))
theorem wV {st:Stmt}{ft W fw c P:Addr}{fdt fdw:FuncData}{word:Addr->Option Str}{params:Arguments}{body:Expr}{scope:Scope}{lpos p pos:Pos}{NL:List Str}{js:List Nat}{te:XK->TE}{k:Nat}
  (T:yE X st ft fdt W fw fdw word) (hfn:∀ x,X.fn x=true) (hc:X.calm=true) (hr:cL (k+3) X.A) (hg:Gl X "_law_tried") (hcode:X.env.code=.ref c) (hcd:codeHdIn X.K c P=true) (bm:iV X.mg X.base)
  (S:aGz scope NL) (B:gD X scope NL 0 js) (hdef:defaultsOf params X.env=([],[])) (hba:∀ cl pm c' ctv,bindArgs (kla_fn "<lambda>" (X.env.qual++"<lambda>") params body scope cl pm (.ref c') ctv) ⟨[],[]⟩=pure [])
  (hb:∀ (Ew:XK) cdv A outer s H pn E f c' s' H',cL k (oA (cxT X (aB st) ft cdv A outer s H pn E) (X.env.qual++"<lambda>") scope f c' (cZ scope X.env) s' H' NL Ew).A ->
   PE (oA (cxT X (aB st) ft cdv A outer s H pn E) (X.env.qual++"<lambda>") scope f c' (cZ scope X.env) s' H' NL Ew) body (te Ew)) :
  PE X (.Call (.Name "_law_tried" p) [.Lambda params body scope lpos] [] pos) (tI P lpos (X.env.qual++"<lambda>") word js te):=by
 intro pins s σ H Q I h;obtain⟨ps,c',hP,ht,hnf,hcx,hq⟩:=h;refine wpAny_Call_Name_kw (gA I hg T.m ?_);refine callWith_K (h₀:=X.base) I.ok.mod.kin T.fn.kp ?_ (bV rfl) rfl;rw[bV rfl];show wpAny _ _ (spliced ((false,eval (.Lambda params body scope lpos) X.env)::backTo pos (starEach [] X.env))) _ _ s;refine Calls.spliced_cons (aBc I hcode hcd bm hP ht hnf hdef B.cel fun f pm ctv s1 I1 hsf hold hfo=>?_);refine Calls.spliced_nil ⟨I1.kIn,?_⟩;obtain⟨H1,hH1⟩:∃ H1,H1=H:=⟨H,rfl⟩;rw[← hH1] at I1 hq;have hcl:∀ n∈cX scope,∃ a,X.env.cells.lookup n=some a:=fun n hn=>I.ok.has n (B.cel n hn);have cl1:∀ x a,(cZ scope X.env).lookup x=some a->X.env.cells.lookup x=some a:=gT (cX scope) [] hcl fun x a e=>by simp at e
 have hfree:∀ x,scope.names.lookup x=some .free->x∈cX scope:=fun x e=>List.mem_map.mpr ⟨(x,.free),List.mem_filter.mpr ⟨PySem.mem_of_lookup e,by simp⟩,rfl⟩;have h1none:∀ b,H b=none->b≠P->b≠c'->H1 b=none:=fun b n _ _=>by rw[hH1]; exact n
 have hPs:P<s.heap.objs.size:=I.hok.lt hP
 have stkLt:∀ b∈frs X.stack,b<s.heap.objs.size:=fun b hb=>by
  obtain⟨_,o,ho,_⟩:=I.stack.mem hb;exact Heap.lt_size ho
 have hcell:∀ x a,X.env.cells.lookup x=some a->a<s.heap.objs.size∧a≠P∧a≠c'∧a∉frs X.stack:=fun x a e=>by
  obtain⟨v,hv⟩:=I.cell x a e;have la:=hv.lt;refine⟨la,fun z=>?_,fun z=>(by have:=I.freeC x a e; rw[z,hcx] at this; cases this),fun z=>?_⟩
  ·have:=I.freeC x a e
   rw[z,hP] at this;cases this
  ·rcases List.mem_cons.mp (I.stkSub a z) with z | z
   ·exact I.cne x a e z
   ·obtain⟨_,o,ho,_⟩:=I.ok.funs.mem z;exact absurd (Nat.lt_of_lt_of_le (Heap.lt_size ho) (I.ok.cab x a (hfn x) e)) (Nat.lt_irrefl _)
 have L1:lD s1.heap H1 (frs X.stack) f c' (X.env.qual++"<lambda>") params body scope (cZ scope X.env) NL (cB 0 js σ):=by
  refine⟨⟨pm,ctv,hfo⟩,h1none f (I.hok.fresh hsf) (Nat.ne_of_gt (Nat.lt_of_lt_of_le hPs hsf)) (fun z=>by have:=I.hok.fresh hsf; rw[z,hcx] at this; cases this),fun z=>?_,by rw[hH1]; exact hcx,fun x y a e1 e2=>I.ok.inj x y a (cl1 x a e1) (cl1 y a e2),fun x a e=>?_,fun i x v e1 e2=>?_,?_⟩
  ·exact absurd (Nat.lt_of_lt_of_le (stkLt f z) hsf) (Nat.lt_irrefl _)
  ·have e':=cl1 x a e;obtain⟨la,n1,n2,n3⟩:=hcell x a e';obtain⟨v,o,ho,hd⟩:=I.cell x a e';exact⟨⟨v,o,hold a o ho,hd⟩,h1none a (I.freeC x a e') n1 n2,n3⟩
  ·unfold cB at e2;rw[List.replicate_zero,List.nil_append,List.getElem?_map] at e2;cases hj:js[i]? with
   | none=>rw[hj] at e2; cases e2
   | some j=>
    rw[hj] at e2;have e2:some ((σ[j]?).join)=some (some v):=e2
    have e3:σ[j]?=some (some v):=by
     cases z:σ[j]? with
     | none=>rw[z] at e2; cases e2
     | some y=>rw[z] at e2; cases y with
      | none=>cases e2
      | some y=>cases e2; rfl
    have e4:X.N[j]?=some x:=by rw[B.at' i j hj,Nat.zero_add]; exact e1
    obtain⟨hfr,_⟩:=B.fre i x (Nat.zero_le _) e1;have kx:=B.cel x hfr;obtain⟨m,hm,hl⟩:=I.loc;obtain⟨u,r,l⟩:=hl j x v e4 e3 (by rcases kx with z | z; exact .inr (.inl z); exact .inr (.inr z));rcases l with⟨kk,_⟩ | ⟨kk,a,ea,o,ho,hd⟩
    ·rcases kx with k' | k' <;> rw[kk] at k' <;> cases k'
    ·obtain⟨a',ha'⟩:=gC (env:=X.env) (cX scope) [] x (.inl hfr)
     have:=cl1 x a' ha'
     rw[ea] at this;cases this;exact⟨a,u,ha',r,o,hold a o ho,hd⟩
  ·unfold cB;rw[List.replicate_zero,List.nil_append,List.length_map,B.len,Nat.zero_add]
 have SL:sL scope (cZ scope X.env) NL:=⟨S.kind,S.co,S.gen,S.cell,fun x e=>gC (env:=X.env) (cX scope) [] x (.inl (hfree x e)),S.nl⟩;have hr1:cL (k+2+1) X.A:=hr
 have bt:BindsTo s1 fdt ⟨[.ref f],[]⟩ ((["_law_deed"]:List Str).zip [.ref f]):=by
  have:=T.b s1 [.ref f] I1.kIn rfl
  exact this
 refine wpAny_call (codeAny_mono (zX (CX:=CX0) (E:=E0) (Q:=Q) (vs:=[.ref f]) T.fn T.sc hr1 I1.env0 bt rfl (.cons rfl .nil) fun cdv hr2=>?_) fun r s' hq'=>?_)
 ·obtain⟨p1,p2,p3,p4,p5,p6,p7,p8,p9,p10,p11,p12,j,hbod⟩:=T.is;rw[hbod];have rw1:mE 1 (X.A.deeper (envOfC "_law_tried" (aB st) s1.heap.objs.size ft cdv)):=⟨by have:=hr2.dp; omega,by have:=hr2.un; omega⟩
  let Y:Cx:=(gB CX0 X.prog X.w X.K X.mg X.base NT "_law_tried" (aB st) ft cdv X.A X.stack s1 H1 E0).nox
  have run:∀ pn E,∀ (pl:List (Addr×Obj)) (s2:Shared) (σ2:St) (Q':VK),Inv (Y.pinned pn E) pl σ2 H1 s2->te (iH word Q) (cB 0 js σ) H1 Q' ->
    FnAt f s2.heap∧codeAny (model X.prog X.w) Y.A (.call (.ref f) ⟨[],[]⟩) (CR (CXE X.prog X.w) Y.stack X.prog X.w H1 s2 Q' (iH word Q)) s2:=by
   intro pn E pl s2 σ2 Q' J hR
   have L2':=L1.stay (h':=s2.heap) (fr':=frs Y.stack) (fun b o e n hb=>J.base.keep b o e n hb (by show b∉([]:List Addr); simp)) (fun b o e hb z=>by
    rcases List.mem_cons.mp (show b∈s1.heap.objs.size::frs X.stack from z) with z | z
    ·exact absurd (Heap.lt_size e) (by rw[z]; exact Nat.lt_irrefl _)
    ·exact hb z)
   obtain⟨pm',ctv',ho'⟩:=L2'.fn;exact⟨⟨_,_,_,_,ho'⟩,aBb (X:=Y.pinned pn E) (k:=k) J L2' SL (hr2.mono (by omega)) (fun pm ctv=>hba _ pm c' ctv) (hb _ _ _ _ _ _ _ _ _ _ _ _ (cL.deeper (hr2.mono (by omega)) _)) hR⟩
  have try1:=aEx (X:=Y) (x:="WardError") (n:="_law_e") (W:=W) (np:=p4) (hpos:=p9) (pos:=p10) (i:=1) (iH word Q) ⟨rfl,rfl⟩ rfl T.sc.nd rfl T.k1 T.k2 T.mW
   (fun pn E hp=>aL (dB (pos:=p3) (rL (Y:=Y.pinned pn E) (x:="_law_deed") (p:=p1) (pos:=p2) (i:=0) (f:=f) (H₁:=H1) (R:=fun Q'=>te (iH word Q) (cB 0 js σ) H1 Q') rfl T.k0 hp (run pn E)) rfl))
   (fun e pn=>aL (bO (pos:=p8) (wZ (X:=Y.caught e pn) (x:="_law_word") (p:=p5) (pos:=p7) T.ok ⟨rw1.dp,rw1.un⟩ T.k3 T.mw T.kw T.bw (pac (oY (X:=Y.caught e pn) (x:="_law_e") (pos:=p6) (i:=1) rfl (.inl T.k1)) aJ))))
  refine⟨_,PSs.nox (X:=gB CX0 X.prog X.w X.K X.mg X.base NT "_law_tried" (aB st) ft cdv X.A X.stack s1 H1 E0) (aK try1 (aL (bO aQ))),⟨rfl,rfl,hq⟩,?_⟩
  ·intro cls H2 ⟨C,x,e1,e2,e3⟩;refine⟨C,e1,T.wk C x e2,fun e σ1 hl he=>⟨_,?_,e,C,x,rfl,aD,e2,fun H3 sm=>e3 H3 fun b o z=>sm b o (by rw[aI (aF z he)]; exact z)⟩⟩;have hl2:σ1.length=2:=hl;exact List.getElem?_set_self (by omega)
 ·cases r with
  | error e=>exact False.elim hq'
  | ok fl=>
   cases fl with
   | ret u=>exact I1.after hq'
   | next=>exact False.elim hq'
   | brk=>exact False.elim hq'
   | cont=>exact False.elim hq'
inductive aAk (P:Addr) (pos:Pos) (q:Str) (word:Addr->Option Str) (js:List Nat) (te:XK->TE) (σ:St) (H:Hp) (Q:VK):Prop
 | made (h:aEe P pos q word js te σ H Q)
 | hit (h:tI P pos q word js te σ H Q)
theorem aCf {st:Stmt}{ft W fw c P:Addr}{fdt fdw:FuncData}{word:Addr->Option Str}{params:Arguments}{body:Expr}{scope:Scope}{lpos p pos:Pos}{NL:List Str}{js:List Nat}{te:XK->TE}{k:Nat}
  (T:yE X st ft fdt W fw fdw word) (hfn:∀ x,X.fn x=true) (hc:X.calm=true) (hr:cL (k+3) X.A) (hg:Gl X "_law_tried") (hcode:X.env.code=.ref c) (hcd:codeHdIn X.K c P=true) (bm:iV X.mg X.base)
  (S:aGz scope NL) (B:gD X scope NL 0 js) (hdef:defaultsOf params X.env=([],[])) (hba:∀ cl pm c' ctv,bindArgs (kla_fn "<lambda>" (X.env.qual++"<lambda>") params body scope cl pm (.ref c') ctv) ⟨[],[]⟩=pure [])
  (hb:∀ (Ew:XK) cdv A outer s H pn E f c' s' H',cL k (oA (cxT X (aB st) ft cdv A outer s H pn E) (X.env.qual++"<lambda>") scope f c' (cZ scope X.env) s' H' NL Ew).A ->
   PE (oA (cxT X (aB st) ft cdv A outer s H pn E) (X.env.qual++"<lambda>") scope f c' (cZ scope X.env) s' H' NL Ew) body (te Ew)) :
  PE X (.Call (.Name "_law_tried" p) [.Lambda params body scope lpos] [] pos) (aAk P lpos (X.env.qual++"<lambda>") word js te):=by
 intro pins s σ H Q I h;cases h with
 | made h=>exact rK T hfn hc hr hg hcode hcd bm S B hdef hba hb pins s σ H Q I h
 | hit h=>exact wV T hfn hc hr hg hcode hcd bm S B hdef hba hb pins s σ H Q I h

end
end L2
namespace L2
open PySem PySem.Spec PySem.Calls PyProof.Rows
def unl:List Str->List Str->List Str
 | [],k=>k
 | z::r,k=>unl r (if z∈k then k else k++[z])
theorem nd1 (y:Str):[y].Nodup:=List.nodup_cons.mpr ⟨fun h=>(nomatch h),.nil⟩
theorem aAj:∀ (r k:List Str) (z:Str),z∈unl r k↔z∈k∨z∈r
 | [],k,z=>by simp[unl]
 | y::r,k,z=>by
  show z∈unl r _↔_;rw[aAj r]
  by_cases h:y∈k
  ·rw[if_pos h,List.mem_cons];exact⟨fun q=>q.imp id .inr,fun q=>q.elim .inl fun q=>q.elim (fun e=>.inl (e▸h)) .inr⟩
  ·rw[if_neg h,List.mem_cons,List.mem_append,List.mem_singleton,or_assoc]
theorem oS:∀ (r k:List Str),k.Nodup->(unl r k).Nodup
 | [],k,h=>h
 | y::r,k,h=>by
  refine oS r _ ?_
  by_cases q:y∈k
  ·rw[if_pos q]; exact h
  ·rw[if_neg q];exact List.nodup_append.mpr ⟨h,nd1 _,fun a ha b hb e=>q (by rw[← List.mem_singleton.mp hb,← e]; exact ha)⟩
end L2
namespace L2
open PySem PySem.Spec PySem.Calls PyProof.Rows
section
variable {prog:Program}{w:World}{A:Around}{E:Value->Shared->Prop}{s:Shared}
end
end L2
namespace L2
open PySem PySem.Spec PySem.Calls PyProof.Rows
section
variable {M:Model}{A:Around}{E:Value->Shared->Prop}{s:Shared}{α:Type}
end
end L2
namespace L2
open PySem PySem.Spec PySem.Calls PyProof.Rows
section
variable {prog:Program}{w:World}
variable {A:Around}{R:Result->Shared->Prop}{It:Addr}{fp wr:List Addr}{G:Array GenState->Array GenState->Prop}{n:Nat}{Pv:Nat->Value->Prop}{St':Nat->Shared->Prop}
end
section
variable {prog:Program}{w:World}{A:Around}{E:Value->Shared->Prop}{s:Shared}
set_option maxHeartbeats 6000000 in
set_option maxHeartbeats 6000000 in
end
end L2
namespace L2
open PySem PySem.Spec PySem.Calls PyProof.Rows
section
variable {prog:Program}{w:World}{A:Around}{E:Value->Shared->Prop}{s:Shared}
end
end L2
namespace L2
open PySem PySem.Spec PySem.Calls PyProof.Rows
section
variable {prog:Program}{w:World}{A:Around}{E:Value->Shared->Prop}{s:Shared}
theorem pW {α:Type} [DecidableEq α]:∀ {l m:List α},l.Nodup->(∀ x∈l,x∈m)->m.length<=l.length->l.Perm m
 | [],[],_,_,_=>.nil
 | [],_::_,_,_,h=>absurd h (by simp)
 | a::l,m,hn,hs,hl=>by
  obtain⟨ha,hn⟩:=List.nodup_cons.mp hn;have hm:a∈m:=hs a (.head _);have p:=List.perm_cons_erase hm;refine ((pW (l:=l) (m:=m.erase a) hn (fun x hx=>?_) ?_).cons a).trans p.symm
  ·have:=p.mem_iff.mp (hs x (.tail _ hx))
   rcases List.mem_cons.mp this with e | e
   ·exact absurd (e▸hx) ha
   ·exact e
  ·rw[List.length_erase_of_mem hm];simp at hl;omega
end
end L2
namespace L2
open PySem PySem.Spec PySem.Calls PyProof.Rows PySem.W
section
variable {X:Cx}
end
end L2
namespace L2
open PySem PySem.Spec PySem.Calls PyProof.Rows PySem.W
section
variable {prog:Program}{w:World}{M:Model}{A:Around}{E:Value->Shared->Prop}{s:Shared}{K:Frag}{x C:Addr}{ox:Obj}{od:Option Obj}
end
section
variable {X:Cx}
end
end L2
namespace L2
open PySem PySem.Spec PySem.Calls PyProof.Rows PySem.W
open PySem.AutoSeq1 (wpAny_loadPart')
structure Src (P:Program) (w:World) (it l:Addr) (st:Nat->Heap->Prop) (bk:Array Value->Heap->Prop):Prop where
 one:∀ {A:Around}{E:Value->Shared->Prop}{s:Shared}{k:Nat}{us:Array Value}{x:Value}{Q:Value->Shared->Prop},st k s.heap->bk us s.heap->us[k]?=some x ->
  (∀ h',st (k+1) h'->Heap.SameBut it s.heap h'->Q x { s with heap:=h' })->wpAny (model P w) A (Builtin.SmallTypes.nextOf (.ref it)) Q E s
 out:∀ {A:Around}{E:Value->Shared->Prop}{s:Shared}{k:Nat}{us:Array Value}{Q:Value->Shared->Prop},A.handled=none->st k s.heap->bk us s.heap->us[k]?=none ->
  (∀ h' e,Heap.ExtBut it s.heap h'->(∃ o,h'.get? e=some o∧o.cls=.type "StopIteration")->E (.ref e) { s with heap:=h' })->wpAny (model P w) A (Builtin.SmallTypes.nextOf (.ref it)) Q E s
 kp:∀ {k:Nat}{h h':Heap},st k h->(∀ o,h.get? it=some o->h'.get? it=some o)->st k h'
 bp:∀ {us:Array Value}{h h':Heap},bk us h->(∀ o,h.get? l=some o->h'.get? l=some o)->bk us h'
 ob:∀ {k:Nat}{h:Heap},st k h->∃ o vs,h.get? it=some o∧o.data=.fields vs
section
variable {P:Program}{w:World}
theorem aEj (it l:Addr):Src P w it l (fun k h=>h.IsListIter it l k) (fun us h=>h.IsList l us):=
 ⟨fun h1 h2 hx q=>wpAny_nextOf_list_item h1 h2 hx q,fun hh h1 h2 hx q=>wpAny_nextOf_list_end hh h1 h2 hx q,fun h k=>h.at k,fun h k=>h.at k,fun ⟨o,e,_,d⟩=>⟨o,_,e,d⟩⟩
section
variable {A:Around}{E:Value->Shared->Prop}{s:Shared}
theorem aHi {it t:Addr}{k:Nat}{us:Array Value}{x:Value}{Q:Value->Shared->Prop}(h1:s.heap.IsTupleIter it t k) (h2:s.heap.IsTuple t us) (hx:us[k]?=some x)
  (q:∀ h',h'.IsTupleIter it t (k+1)->Heap.SameBut it s.heap h'->Q x { s with heap:=h' }):wpAny (model P w) A (Builtin.SmallTypes.nextOf (.ref it)) Q E s:=by
 obtain⟨o,e,c,d⟩:=id h1;obtain⟨ot,et,_,n,dt⟩:=h2;unfold Builtin.SmallTypes.nextOf;refine wpAny_bind (wpAny_callSpecial?_slot (name:=Str.ofString "__next__") h1.typeIs PySem.F.slot_tuple_iterator_next (wpAny_call_entry PySem.F.slot_tuple_iterator_next h1.typeIs PySem.F.entry_tuple_iterator_next ?_ (PySem.F.args_tuple_iterator_next_1 _)));show wpAny _ _ (field (.ref it) 0>>=_) _ E s;refine wpAny_bind (wpAny_field e d (x:=.ref t) rfl ?_);show wpAny _ _ (if (Value.ref t==Value.none)=true then _ else _) _ E s
 rw[if_neg (c:=(Value.ref t==Value.none)=true) fun z=>Bool.false_ne_true z];show wpAny _ _ (field (.ref it) 1>>=_) _ E s;refine wpAny_bind (wpAny_field e d (x:=.int k 0) rfl ?_);show wpAny _ _ (seqItems? (.ref t)>>=_) _ E s;refine wpAny_bind (wpAny_seqItems et dt ?_);simp only[hx,Int.toNat_natCast];refine wpAny_bind (wpAny_setField e d (by simp) (wpAny_pure ⟨x,rfl,wpAny_pure (q _ ⟨_,Heap.get?_update_self _ e (Obj.isFreed_of_fields (Obj.data_mapFields d _)),(Obj.cls_mapFields ..).trans c,?_⟩ (Heap.SameBut.update ..))⟩));rw[Obj.data_mapFields d];simp[rawInt]
theorem aHh {it t:Addr}{k:Nat}{us:Array Value}{Q:Value->Shared->Prop}(hh:A.handled=none) (h1:s.heap.IsTupleIter it t k) (h2:s.heap.IsTuple t us) (hx:us[k]?=none)
  (q:∀ h' e,Heap.ExtBut it s.heap h'->(∃ o,h'.get? e=some o∧o.cls=.type "StopIteration")->E (.ref e) { s with heap:=h' }):wpAny (model P w) A (Builtin.SmallTypes.nextOf (.ref it)) Q E s:=by
 obtain⟨o,e,c,d⟩:=id h1;obtain⟨ot,et,_,n,dt⟩:=h2;unfold Builtin.SmallTypes.nextOf;refine wpAny_bind (wpAny_callSpecial?_slot (name:=Str.ofString "__next__") h1.typeIs PySem.F.slot_tuple_iterator_next (wpAny_call_entry PySem.F.slot_tuple_iterator_next h1.typeIs PySem.F.entry_tuple_iterator_next ?_ (PySem.F.args_tuple_iterator_next_1 _)));show wpAny _ _ (field (.ref it) 0>>=_) _ E s;refine wpAny_bind (wpAny_field e d (x:=.ref t) rfl ?_);show wpAny _ _ (if (Value.ref t==Value.none)=true then _ else _) _ E s
 rw[if_neg (c:=(Value.ref t==Value.none)=true) fun z=>Bool.false_ne_true z];show wpAny _ _ (field (.ref it) 1>>=_) _ E s;refine wpAny_bind (wpAny_field e d (x:=.int k 0) rfl ?_);show wpAny _ _ (seqItems? (.ref t)>>=_) _ E s;refine wpAny_bind (wpAny_seqItems et dt ?_);simp only[hx,Int.toNat_natCast];refine wpAny_bind (wpAny_rule (wpAny_bind (wpAny_setField e d (by simp) ?_)));show wpAny _ _ (newExc (.type "StopIteration") []>>=_) _ E _;refine wpAny_bind ?_;simp only[newTuple,newExc];refine wpAny_bind (wpAny_newObj_type (wpAny_bind (m:=firstArgMember _ _) (wpAny_of_eq (a:=Value.none) (by first | rfl | (simp only[firstArgMember]; rfl)) (wpAny_newObj_type ?_ (by size_fits)))) (by size_fits));simp only[raiseNew];refine wpAny_bind (wpAny_handled ?_)
 first | rw[show A.in1.handled=none from hh] | rw[hh]
 exact wpAny_bind (wpAny_pure (wpAny_throw (q _ _ (((Heap.SameBut.update ..).extBut.push _).push _) ⟨_,Heap.get?_push_size _ rfl,rfl⟩)))
theorem aHo (it t:Addr):Src P w it t (fun k h=>h.IsTupleIter it t k) (fun us h=>h.IsTuple t us):=
 ⟨fun h1 h2 hx q=>aHi h1 h2 hx q,fun hh h1 h2 hx q=>aHh hh h1 h2 hx q,fun h k=>h.at k,fun ⟨o,e,r⟩ k=>⟨o,k o e,r⟩,fun ⟨o,e,_,d⟩=>⟨o,_,e,d⟩⟩
variable {z ti to i1 i2 l1 l2:Addr}{st1 st2:Nat->Heap->Prop}{bk1 bk2:Array Value->Heap->Prop}{k:Nat}{us vs:Array Value}{a b x y:Value}
theorem aHf {Q:Value->Shared->Prop}(S1:Src P w i1 l1 st1 bk1) (S2:Src P w i2 l2 st2 bk2) (D:ZipApart z ti to i1 i2 l1 l2) (hz:IsZip s.heap z ti to .none) (hti:IsPair s.heap ti (.ref i1) (.ref i2)) (hto:IsPair s.heap to a b)
  (h1:st1 k s.heap) (h2:st2 k s.heap) (b1:bk1 us s.heap) (b2:bk2 vs s.heap) (hx:us[k]?=some x) (hy:vs[k]?=some y)
  (hQ:∀ h',IsZip h' z ti to (rawInt s.heap.objs.size)->IsPair h' to x y->st1 (k+1) h'->st2 (k+1) h'->IsPair h' s.heap.objs.size x y->h'.objs.size=s.heap.objs.size+1 ->
   (∀ c o,c≠z->c≠to->c≠i1->c≠i2->s.heap.get? c=some o->h'.get? c=some o)->Q (.ref s.heap.objs.size) { s with heap:=h' }) :
  wpAny (model P w) A (Builtin.«zip.__next__» ⟨[.ref z],[]⟩) (fun fin s'=>∃ v,fin=.done (.ret v)∧Q v s') E s:=by
 show wpAny _ _ (field (.ref z) 2>>=_) _ E s;refine wpAny_bind (wpAny_field hz rfl (x:=.bool false) rfl (show wpAny _ _ (field (.ref z) 3>>=_) _ E s from wpAny_bind (wpAny_field hz rfl (x:=.ref ti) rfl (wpAny_bind (wpAny_seqItems hti rfl ?_)))))
 show wpAny _ _ (Builtin.SmallTypes.ownedTupleIsFree (.ref z)>>=_) _ E s;refine wpAny_bind ?_;unfold Builtin.SmallTypes.ownedTupleIsFree;refine wpAny_bind (wpAny_field hz rfl (x:=.none) rfl (wpAny_pure ?_));simp only[if_true];refine wpAny_bind (wpAny_rule (wpAny_bind (wpAny_field hz rfl (x:=.ref to) rfl (wpAny_bind (wpAny_setField_rec hz (by simp) fun g1 z1 c1=>?_)))));replace z1:IsZip g1 z ti to .ellipsis:=z1;refine wpAny_bind ?_;simp only[List.forIn_cons,List.forIn_nil,List.zipIdx_nil,List.zipIdx_cons];refine wpAny_bind (wpAny_bind (wpAny_onRaise (show wpAny _ _ (Builtin.SmallTypes.nextOf (.ref i1)>>=_) _ _ _ from wpAny_bind (S1.one (S1.kp h1 fun o e=>c1.extBut _ _ D.i1z e) (S1.bp b1 fun o e=>c1.extBut _ _ D.l1z e) hx fun g2 h12 c2=>wpAny_pure ?_))))
 have t2:IsPair g2 to a b:=c2.extBut _ _ D.TOi1 (c1.extBut _ _ D.TOz hto);refine wpAny_bind (wpAny_seqItems t2 rfl (wpAny_bind (wpAny_updateSeq_pair t2 fun g3 t3 c3=>wpAny_bind (wpAny_letGo (wpAny_pure ?_)))));replace t3:IsPair g3 to x b:=t3
 refine wpAny_bind (wpAny_bind (wpAny_onRaise (show wpAny _ _ (Builtin.SmallTypes.nextOf (.ref i2)>>=_) _ _ _ from wpAny_bind (S2.one (S2.kp h2 fun o e=>c3.extBut _ _ D.TOi2.symm (c2.extBut _ _ D.i12.symm (c1.extBut _ _ D.i2z e)))
  (S2.bp b2 fun o e=>c3.extBut _ _ D.l2TO (c2.extBut _ _ D.l2i1 (c1.extBut _ _ D.l2z e))) hy fun g4 h24 c4=>wpAny_pure ?_))))
 have t4:IsPair g4 to x b:=c4.extBut _ _ D.TOi2 t3;refine wpAny_bind (wpAny_seqItems t4 rfl (wpAny_bind (wpAny_updateSeq_pair t4 fun g5 t5 c5=>wpAny_bind (wpAny_letGo (wpAny_pure (wpAny_pure ?_))))));replace t5:IsPair g5 to x y:=t5;refine wpAny_bind (wpAny_seqItems t5 rfl (wpAny_bind (wpAny_newTuple ?_)));have sz:g5.objs.size=s.heap.objs.size:=by rw[c5.1,c4.1,c3.1,c2.1,c1.1]
 have z5:IsZip g5 z ti to .ellipsis:=c5.extBut _ _ D.TOz.symm (c4.extBut _ _ D.i2z.symm (c3.extBut _ _ D.TOz.symm (c2.extBut _ _ D.i1z.symm z1)));have k5:∀ c o,c≠z->c≠to->c≠i1->c≠i2->s.heap.get? c=some o->g5.get? c=some o:=fun c o n1 n2 n3 n4 e=>c5.extBut _ _ n2 (c4.extBut _ _ n4 (c3.extBut _ _ n2 (c2.extBut _ _ n3 (c1.extBut _ _ n1 e))));have h15:st1 (k+1) g5:=S1.kp h12 fun o e=>c5.extBut _ _ D.TOi1.symm (c4.extBut _ _ D.i12 (c3.extBut _ _ D.TOi1.symm e));have h25:st2 (k+1) g5:=S2.kp h24 fun o e=>c5.extBut _ _ D.TOi2.symm e;show wpAny _ _ (Builtin.SmallTypes.ownedTupleHandOut (.ref z) (.ref g5.objs.size)>>=_) _ E _;refine wpAny_bind ?_;unfold Builtin.SmallTypes.ownedTupleHandOut;have z6:IsZip (g5.push { cls:=.type "tuple",data:=.seq #[x,y] }) z ti to .ellipsis:=Heap.get?_push_of_some _ z5;refine wpAny_bind (wpAny_setField_rec z6 (by simp) fun g7 z7 c7=>wpAny_setField_rec (show IsZip g7 z ti to (rawInt g5.objs.size) from z7) (by simp) fun g8 z8 c8=>?_)
 replace z8:IsZip g8 z ti to (rawInt g5.objs.size):=z8;have up:∀ c o,c≠z->g5.get? c=some o->g8.get? c=some o:=fun c o n e=>c8.extBut _ _ n (c7.extBut _ _ n (Heap.get?_push_of_some _ e));have lz:=Heap.lt_size z5;have t8:IsPair g8 g5.objs.size x y:=c8.extBut _ _ (Nat.ne_of_gt lz) (c7.extBut _ _ (Nat.ne_of_gt lz) (Heap.get?_push_size _ rfl));have s8:g8.objs.size=g5.objs.size+1:=by rw[c8.1,c7.1,Heap.size_push]
 rw[sz] at z8 t8 s8;refine wpAny_pure ⟨_,rfl,?_⟩;show Q (.ref g5.objs.size) _;rw[sz];exact hQ g8 z8 (up _ _ D.TOz t5) (S1.kp h15 fun o e=>up _ o D.i1z e) (S2.kp h25 fun o e=>up _ o D.i2z e) t8 s8 fun c o n1 n2 n3 n4 e=>up c o n1 (k5 c o n1 n2 n3 n4 e)
theorem aHe {Q:Fin->Shared->Prop}(hh:A.handled=none) (S1:Src P w i1 l1 st1 bk1) (S2:Src P w i2 l2 st2 bk2) (D:ZipApart z ti to i1 i2 l1 l2) (hz:IsZip s.heap z ti to .none) (hti:IsPair s.heap ti (.ref i1) (.ref i2)) (hto:IsPair s.heap to a b)
  (h1:st1 k s.heap) (h2:st2 k s.heap) (b1:bk1 us s.heap) (b2:bk2 vs s.heap) (he:us[k]?=none∨vs[k]?=none)
  (hE:∀ h' e,(∀ c o,c≠z->c≠to->c≠i1->c≠i2->s.heap.get? c=some o->h'.get? c=some o)->(∃ o,h'.get? e=some o∧o.cls=.type "StopIteration")->E (.ref e) { s with heap:=h' }) :
  wpAny (model P w) A (Builtin.«zip.__next__» ⟨[.ref z],[]⟩) Q E s:=by
 show wpAny _ _ (field (.ref z) 2>>=_) _ E s;refine wpAny_bind (wpAny_field hz rfl (x:=.bool false) rfl (show wpAny _ _ (field (.ref z) 3>>=_) _ E s from wpAny_bind (wpAny_field hz rfl (x:=.ref ti) rfl (wpAny_bind (wpAny_seqItems hti rfl ?_)))))
 show wpAny _ _ (Builtin.SmallTypes.ownedTupleIsFree (.ref z)>>=_) _ E s;refine wpAny_bind ?_;unfold Builtin.SmallTypes.ownedTupleIsFree;refine wpAny_bind (wpAny_field hz rfl (x:=.none) rfl (wpAny_pure ?_));simp only[if_true];refine wpAny_bind (wpAny_rule (wpAny_bind (wpAny_field hz rfl (x:=.ref to) rfl (wpAny_bind (wpAny_setField_rec hz (by simp) fun g1 z1 c1=>?_)))));replace z1:IsZip g1 z ti to .ellipsis:=z1;refine wpAny_bind ?_;simp only[List.forIn_cons,List.forIn_nil,List.zipIdx_nil,List.zipIdx_cons];refine wpAny_bind (wpAny_bind (wpAny_onRaise ?_));show wpAny _ _ (Builtin.SmallTypes.nextOf (.ref i1)>>=_) _ _ _;have h1':=S1.kp h1 fun o e=>c1.extBut _ _ D.i1z e;have b1':=S1.bp b1 fun o e=>c1.extBut _ _ D.l1z e;cases hx:us[k]? with
 | none=>
  refine wpAny_bind (S1.out hh h1' b1' hx fun g2 e c2 ⟨oe,ho,hc⟩=>?_);have z2:IsZip g2 z ti to .ellipsis:=c2 _ _ D.i1z.symm z1;have nz:e≠z:=fun q=>by rw[q,z2] at ho; cases ho; simp at hc
  exact wpAny_setField_rec z2 (by simp) fun g3 _ c3=>hE g3 e (fun c o n1 _ n3 _ q=>c3.extBut _ _ n1 (c2 _ _ n3 (c1.extBut _ _ n1 q))) ⟨oe,c3.extBut _ _ nz ho,hc⟩
 | some x=>
  have hy:vs[k]?=none:=he.resolve_left fun q=>by rw[hx] at q; cases q
  refine wpAny_bind (S1.one h1' b1' hx fun g2 h12 c2=>wpAny_pure ?_);have t2:IsPair g2 to a b:=c2.extBut _ _ D.TOi1 (c1.extBut _ _ D.TOz hto);refine wpAny_bind (wpAny_seqItems t2 rfl (wpAny_bind (wpAny_updateSeq_pair t2 fun g3 t3 c3=>wpAny_bind (wpAny_letGo (wpAny_pure (wpAny_bind (wpAny_bind (wpAny_onRaise ?_))))))));show wpAny _ _ (Builtin.SmallTypes.nextOf (.ref i2)>>=_) _ _ _;refine wpAny_bind (S2.out hh (S2.kp h2 fun o e=>c3.extBut _ _ D.TOi2.symm (c2.extBut _ _ D.i12.symm (c1.extBut _ _ D.i2z e))) (S2.bp b2 fun o e=>c3.extBut _ _ D.l2TO (c2.extBut _ _ D.l2i1 (c1.extBut _ _ D.l2z e))) hy fun g4 e c4 ⟨oe,ho,hc⟩=>?_);have z4:IsZip g4 z ti to .ellipsis:=c4 _ _ D.i2z.symm (c3.extBut _ _ D.TOz.symm (c2.extBut _ _ D.i1z.symm z1));have nz:e≠z:=fun q=>by rw[q,z4] at ho; cases ho; simp at hc
  exact wpAny_setField_rec z4 (by simp) fun g5 _ c5=>hE g5 e (fun c o n1 n2 n3 n4 q=>c5.extBut _ _ n1 (c4 _ _ n4 (c3.extBut _ _ n2 (c2.extBut _ _ n3 (c1.extBut _ _ n1 q))))) ⟨oe,c5.extBut _ _ nz ho,hc⟩
theorem aFt {Q:Option Value->Shared->Prop}(S1:Src P w i1 l1 st1 bk1) (S2:Src P w i2 l2 st2 bk2) (D:ZipApart z ti to i1 i2 l1 l2) (hz:IsZip s.heap z ti to .none) (hti:IsPair s.heap ti (.ref i1) (.ref i2)) (hto:IsPair s.heap to a b)
  (h1:st1 k s.heap) (h2:st2 k s.heap) (b1:bk1 us s.heap) (b2:bk2 vs s.heap) (hx:us[k]?=some x) (hy:vs[k]?=some y)
  (hQ:∀ h',IsZip h' z ti to (rawInt s.heap.objs.size)->IsPair h' to x y->st1 (k+1) h'->st2 (k+1) h'->IsPair h' s.heap.objs.size x y->h'.objs.size=s.heap.objs.size+1 ->
   (∀ c o,c≠z->c≠to->c≠i1->c≠i2->s.heap.get? c=some o->h'.get? c=some o)->Q (some (.ref s.heap.objs.size)) { s with heap:=h' }):wpAny (model P w) A (pyNext (.ref z)) Q E s:=by
 have hT:s.TypeIs (.ref z) "zip":=⟨_,hz,rfl⟩;unfold pyNext;exact wpAny_bind (wpAny_attempt (wpAny_callSpecial?_slot (name:=Str.ofString "__next__") hT PySem.F.slot_zip_next (wpAny_call_entry PySem.F.slot_zip_next hT PySem.F.entry_zip_next (aHf S1 S2 D hz hti hto h1 h2 b1 b2 hx hy fun h' a1 a2 a3 a4 a5 a6 a7=>wpAny_pure (hQ h' a1 a2 a3 a4 a5 a6 a7)) (PySem.F.args_zip_next_1 _))))
theorem aFf {Q:Option Value->Shared->Prop}(hh:A.handled=none) (S1:Src P w i1 l1 st1 bk1) (S2:Src P w i2 l2 st2 bk2) (D:ZipApart z ti to i1 i2 l1 l2) (hz:IsZip s.heap z ti to .none) (hti:IsPair s.heap ti (.ref i1) (.ref i2)) (hto:IsPair s.heap to a b)
  (h1:st1 k s.heap) (h2:st2 k s.heap) (b1:bk1 us s.heap) (b2:bk2 vs s.heap) (he:us[k]?=none∨vs[k]?=none)
  (hQ:∀ h',(∀ c o,c≠z->c≠to->c≠i1->c≠i2->s.heap.get? c=some o->h'.get? c=some o)->Q none { s with heap:=h' }):wpAny (model P w) A (pyNext (.ref z)) Q E s:=by
 have hT:s.TypeIs (.ref z) "zip":=⟨_,hz,rfl⟩;unfold pyNext;refine wpAny_bind (wpAny_attempt (wpAny_callSpecial?_slot (name:=Str.ofString "__next__") hT PySem.F.slot_zip_next (wpAny_call_entry PySem.F.slot_zip_next hT PySem.F.entry_zip_next (aHe hh S1 S2 D hz hti hto h1 h2 b1 b2 he fun h' e hk ⟨o,ho,hc⟩=>?_) (PySem.F.args_zip_next_1 _))));exact wpAny_bind (wpAny_isInstance (T:="StopIteration") (b:=true) ⟨o,ho,hc⟩ isSubtype_stop (wpAny_pure (hQ _ hk)))
end
end
end L2
namespace L2
open PySem PySem.Spec PySem.Calls PyProof.Rows PySem.W
abbrev uT (n:String) (l:Addr):Obj:={ cls:=.type n,data:=.fields #[.ref l,.int 0 0] }
abbrev zg2 (h:Heap) (o1 o2:Obj):Heap:=(h.push o1).push o2
abbrev zg3 (h:Heap) (o1 o2:Obj):Heap:=(zg2 h o1 o2).push { cls:=.type "tuple",data:=.seq #[.ref h.objs.size,.ref (h.push o1).objs.size] }
abbrev zg4 (h:Heap) (o1 o2:Obj):Heap:=(zg3 h o1 o2).push { cls:=.type "tuple",data:=.seq #[.none,.none] }
abbrev zg5 (h:Heap) (o1 o2:Obj):Heap:=(zg4 h o1 o2).push { cls:=.type "zip",data:=.fields #[.none,.bool false,.bool false,.ref (zg2 h o1 o2).objs.size,.ref (zg3 h o1 o2).objs.size] }
theorem xL (l t:Addr) (xs ys:Array Value):Meets (Builtin.«zip.__new__» ⟨[.type "zip",.ref l,.ref t],[]⟩) (fun _ R s=>s.heap.IsList l xs∧s.heap.IsTuple t ys ∧
  R (.ok (.ret (.ref (zg4 s.heap (uT "list_iterator" l) (uT "tuple_iterator" t)).objs.size))) { s with heap:=zg5 s.heap (uT "list_iterator" l) (uT "tuple_iterator" t) }):=
 .of_wp fun prog w A R s h=>by
  obtain⟨hp,g,d,tk,os⟩:=s;obtain⟨h1,h2,h⟩:=h;have hsub:=sub_zip;have j1:Heap.IsList (Shared.heap ⟨hp,g,d,tk,os⟩) l xs:=h1;have j2:Heap.IsTuple (Shared.heap ⟨hp.push { cls:=.type "list_iterator",data:=.fields #[.ref l,.int 0 0] },g,d,tk,os⟩) t ys:=Heap.IsTuple.push h2 _
  wp_walk using wpAny_pyIter_list j1,wpAny_pyIter_tuple j2
  exact⟨_,rfl,h⟩
section
variable {P:Program}{w:World}{A:Around}{E:Value->Shared->Prop}{s:Shared}
theorem yH {l1 l2:Addr}{o1 o2:Obj}{Pre:Shared->Prop}{Q:Value->Shared->Prop}(c1:o1.isFreed=false) (c2:o2.isFreed=false)
  (M:Meets (Builtin.«zip.__new__» ⟨[.type "zip",.ref l1,.ref l2],[]⟩) (fun _ R s=>Pre s∧R (.ok (.ret (.ref (zg4 s.heap o1 o2).objs.size))) { s with heap:=zg5 s.heap o1 o2 })) (hp:Pre s)
  (q:∀ h',IsZip h' (s.heap.objs.size+4) (s.heap.objs.size+2) (s.heap.objs.size+3) .none->IsPair h' (s.heap.objs.size+2) (.ref s.heap.objs.size) (.ref (s.heap.objs.size+1))->IsPair h' (s.heap.objs.size+3) .none .none ->
   h'.get? s.heap.objs.size=some o1->h'.get? (s.heap.objs.size+1)=some o2->(∀ c o,s.heap.get? c=some o->h'.get? c=some o)->Q (.ref (s.heap.objs.size+4)) { s with heap:=h' }) :
  wpAny (model P w) A (call (.type "zip") [.ref l1,.ref l2]) Q E s:=by
 refine callType_new PySem.F.called_zip (by decide) (PySem.F.typeCall_zip_2 _ _) (PySem.F.newCall_zip_2 _ _) (fun obj=>PySem.F.args_object_init_3 obj _ _) PySem.F.entry_zip_new M ⟨hp,?_⟩;have z1:(s.heap.push o1).objs.size=s.heap.objs.size+1:=Heap.size_push ..;have z2:(zg2 s.heap o1 o2).objs.size=s.heap.objs.size+2:=by rw[Heap.size_push,z1]
 have z3:(zg3 s.heap o1 o2).objs.size=s.heap.objs.size+3:=by rw[Heap.size_push,z2]
 have z4:(zg4 s.heap o1 o2).objs.size=s.heap.objs.size+4:=by rw[Heap.size_push,z3]
 have g5:(zg5 s.heap o1 o2).get? (zg4 s.heap o1 o2).objs.size=some _:=Heap.get?_push_size _ rfl;have up4:∀ {c o},(zg4 s.heap o1 o2).get? c=some o->(zg5 s.heap o1 o2).get? c=some o:=fun e=>Heap.get?_push_of_some _ e;have g4:(zg4 s.heap o1 o2).get? (zg3 s.heap o1 o2).objs.size=some _:=Heap.get?_push_size _ rfl;have up3:∀ {c o},(zg3 s.heap o1 o2).get? c=some o->(zg5 s.heap o1 o2).get? c=some o:=fun e=>up4 (Heap.get?_push_of_some _ e);have g3:(zg3 s.heap o1 o2).get? (zg2 s.heap o1 o2).objs.size=some _:=Heap.get?_push_size _ rfl;have up2:∀ {c o},(zg2 s.heap o1 o2).get? c=some o->(zg5 s.heap o1 o2).get? c=some o:=fun e=>up3 (Heap.get?_push_of_some _ e);have g2:(zg2 s.heap o1 o2).get? (s.heap.push o1).objs.size=some o2:=Heap.get?_push_size _ c2;have g1:(s.heap.push o1).get? s.heap.objs.size=some o1:=Heap.get?_push_size _ c1;have a5:=g5;have a4:=up4 g4;have a3:=up3 g3;have a2:=up2 g2;have a1:=up2 (Heap.get?_push_of_some o2 g1);show _∧_;rw[z2,z3,z4] at a5;rw[z3] at a4;rw[z1,z2] at a3;rw[z1] at a2;rw[z4];exact⟨⟨_,a5,rfl⟩,q _ a5 a3 a4 a1 a2 fun c o e=>up2 (Heap.get?_push_of_some _ (Heap.get?_push_of_some _ e))⟩
end
def Itz (R1 R2:Hp->List V->Prop):It:=
 ⟨fun i H=>∃ xs ys x y,R1 H xs∧R2 H ys∧xs[i]?=some x∧ys[i]?=some y,
   fun i H v H'=>∃ (t:Addr) (x y:V),H t=none∧v=.ref t∧H'=upd H t (.tup [x,y])∧(∀ xs,R1 H xs->xs[i]?=some x)∧∀ ys,R2 H ys->ys[i]?=some y,
   fun i H=>∃ xs ys,R1 H xs∧R2 H ys∧(xs.length<=i∨ys.length<=i)⟩
structure Rdz (P:Program) (w:World) (K:Frag) (R:Hp->List V->Prop) (bk:Array Value->Heap->Prop):Prop where
 rd:∀ {X:Cx}{pins:List (Addr×Obj)}{s:Shared}{σ:St}{H:Hp}{xs:List V},X.prog=P->X.w=w->X.K=K->Inv X pins σ H s->R H xs->(∃ its:List Value,bY xs its∧bk its.toArray s.heap)∧∀ ys,R H ys->ys=xs
theorem aHw {P:Program}{w:World}{K:Frag}(a:Addr):Rdz P w K (fun H xs=>SqL K H a xs) (fun us h=>h.IsList a us):=⟨fun hP hw hK I h=>by
 subst hP hw hK;obtain⟨its,r,p,_⟩:=I.list h;exact⟨⟨its,r,p.isList⟩,fun ys hy=>I.list_inj hy h⟩⟩
theorem aLb {P:Program}{w:World}{K:Frag}(a:Addr):Rdz P w K (fun H xs=>SqT K H a xs) (fun us h=>h.IsTuple a us):=⟨fun hP hw hK I h=>by
 subst hP hw hK;obtain⟨its,r,p,_⟩:=I.tuple h;exact⟨⟨its,r,p⟩,fun ys hy=>I.tuple_inj hy h⟩⟩
theorem aEd {P:Program}{w:World}{K:Frag}{elts:List Expr}{x1:Nat}{tpos:Pos}{z ti to i1 i2 l1 l2:Addr}{st1 st2:Nat->Heap->Prop}{bk1 bk2:Array Value->Heap->Prop}{R1 R2:Hp->List V->Prop}
  (S1:Src P w i1 l1 st1 bk1) (S2:Src P w i2 l2 st2 bk2) (D1:Rdz P w K R1 bk1) (D2:Rdz P w K R2 bk2) (D:ZipApart z ti to i1 i2 l1 l2) :
  aAe P w K (.Tuple elts x1 tpos) (Itz R1 R2) [z,ti,to,i1,i2] z (fun i h=>IsZip h z ti to .none∧IsPair h ti (.ref i1) (.ref i2)∧(∃ a b,IsPair h to a b)∧st1 i h∧st2 i h) where
 mem:=by simp
 obj:=fun i h st b hb=>by
  obtain⟨h1,h2,⟨a,b',h3⟩,h4,h5⟩:=st;obtain⟨o4,v4,e4,d4⟩:=S1.ob h4;obtain⟨o5,v5,e5,d5⟩:=S2.ob h5;simp only[List.mem_cons,List.not_mem_nil,or_false] at hb;rcases hb with rfl | rfl | rfl | rfl | rfl
  ·exact⟨_,h1,fun v q=>nomatch q⟩
  ·exact⟨_,h2,fun v q=>nomatch q⟩
  ·exact⟨_,h3,fun v q=>nomatch q⟩
  ·exact⟨_,e4,fun v q=>by rw[d4] at q; cases q⟩
  ·exact⟨_,e5,fun v q=>by rw[d5] at q; cases q⟩
 keep:=fun i h h' st k=>by
  obtain⟨h1,h2,⟨a,b',h3⟩,h4,h5⟩:=st;exact⟨k z (by simp) _ h1,k ti (by simp) _ h2,⟨a,b',k to (by simp) _ h3⟩,S1.kp h4 (k i1 (by simp)),S2.kp h5 (k i2 (by simp))⟩
 item:=by
  intro X hP hw hK hc i pins s σ H E I hf st hg;obtain⟨xs,ys,x,y,r1,r2,hx,hy⟩:=hg;obtain⟨⟨its,rv,b1⟩,u1⟩:=D1.rd hP hw hK I r1;obtain⟨⟨jts,rw',b2⟩,u2⟩:=D2.rd hP hw hK I r2;subst hP hw hK;obtain⟨ux,hux,rx⟩:=rv.get hx;obtain⟨uy,huy,ry⟩:=rw'.get hy;obtain⟨h1,h2,⟨a,b',h3⟩,h4,h5⟩:=st;have fz:=hf z (by simp);have ft:=hf to (by simp);have f1:=hf i1 (by simp);have f2:=hf i2 (by simp);refine aFt S1 S2 D h1 h2 h3 h4 h5 b1 b2 (x:=ux) (y:=uy) (by simpa using hux) (by simpa using huy) fun g1 z1 t1 w1 w2 tu sz hk=>⟨.ref s.heap.objs.size,rfl,wpAny_letOwnedTupleGo_zip z1 fun g2 z2 sb=>?_⟩;have hn:H s.heap.objs.size=none:=I.hok.fresh (Nat.le_refl _);have lt:∀ {c o},s.heap.get? c=some o->c≠s.heap.objs.size:=fun e=>Nat.ne_of_lt (Heap.lt_size e);obtain⟨o4,v4,e4,d4⟩:=S1.ob h4;obtain⟨o5,v5,e5,d5⟩:=S2.ob h5
  have kp:∀ b o,b∉[z,to,i1,i2]->s.heap.get? b=some o->g2.get? b=some o:=fun b o n e=>by
   simp only[List.mem_cons,List.not_mem_nil,or_false,not_or] at n;exact (sb.2 b n.1).trans (hk b o n.1 n.2.1 n.2.2.1 n.2.2.2 e)
  have fch:∀ b∈[z,to,i1,i2],lF X pins H b:=fun b hb=>hf b (by
   simp only[List.mem_cons,List.not_mem_nil,or_false] at hb ⊢;rcases hb with h | h | h | h
   ·exact .inl h
   ·exact .inr (.inr (.inl h))
   ·exact .inr (.inr (.inr (.inl h)))
   ·exact .inr (.inr (.inr (.inr h))))
  have nH:∀ b v,H b=some v->b∉[z,to,i1,i2]:=fun b v q hb=>by rw[(fch b hb).1] at q; cases q
  have nS:∀ b v,H b=some v->b≠s.heap.objs.size:=fun b v q=>aF q hn
  have I2:Inv X pins σ (upd H s.heap.objs.size (.tup [x,y])) { s with heap:=g2 }:=by
   refine I.step (t':=s.toks) (g':=s.gens) (d':=s.drawn) (ch:=[z,to,i1,i2]) (fun b hb=>⟨(fch b hb).2.2.2.1,(fch b hb).2.1,(fch b hb).2.2.2.2.1,(fch b hb).2.2.2.2.2⟩) (fun b o _ _ hc e _=>kp b o hc e) (fun b o _ _ hc e _=>⟨o.slots,kp b o hc e⟩)
    (fun b o _ e n=>by rw[aI (lt e)]; exact n) (fun b o hc e=>⟨o,kp b o hc e⟩) (fun b ys e=>by rw[aI (nS b _ e)]; exact e) (fun b o v e=>by rw[aI (nS b _ e)]; exact e)
    (fun b ps e=>⟨#[],by rw[aI (nS b _ e),e]; simp⟩) (fun m hm=>?_) (fun b v q=>?_) I.bare
   ·obtain⟨o,es,ep,ho,r⟩:=hm;exact⟨o,es,ep,kp _ o (fun hb=>(fch _ hb).2.1 rfl) ho,r⟩
   ·by_cases hb:b=s.heap.objs.size
    ·subst hb;rw[aD] at q;cases q;exact⟨by show 2<=sizeLine; decide,[ux,uy],.cons rx (.cons ry .nil),⟨_,(sb.2 _ (Ne.symm (lt h1))).trans tu,rfl,_,rfl⟩⟩
    ·rw[aI hb] at q;refine (I.hok b v q).stay (fun c y hc e=>kp c y ?_ e) (fun c e=>by rw[aI (nS c _ e)]; exact e) fun c ys e=>by rw[aI (nS c _ e)]; exact e
     rcases hc with rfl | hc
     ·exact nH c v q
     ·exact nH c _ hc
  refine⟨.ref s.heap.objs.size,_,I2,rfl,⟨s.heap.objs.size,x,y,hn,rfl,rfl,fun xs' h'=>by rw[u1 xs' h']; exact hx,fun ys' h'=>by rw[u2 ys' h']; exact hy⟩,⟨z2,?_,⟨_,_,(sb.2 to D.TOz).trans t1⟩,S1.kp w1 fun o e=>(sb.2 i1 D.i1z).trans e,S2.kp w2 fun o e=>(sb.2 i2 D.i2z).trans e⟩,fun b hb=>?_⟩
  ·exact kp ti _ (by simp only[List.mem_cons,List.not_mem_nil,or_false,not_or]; exact⟨D.TIz,D.TITO,D.TIi1,D.TIi2⟩) h2
  ·have nb:b≠s.heap.objs.size:=by
    simp only[List.mem_cons,List.not_mem_nil,or_false] at hb;rcases hb with rfl | rfl | rfl | rfl | rfl
    ·exact lt h1
    ·exact lt h2
    ·exact lt h3
    ·exact lt e4
    ·exact lt e5
   rw[aI nb];exact (hf b hb).1
 done:=by
  intro X hP hw hK hc i pins s σ H E I hf st hg;obtain⟨xs,ys,r1,r2,hl⟩:=hg;obtain⟨⟨its,rv,b1⟩,_⟩:=D1.rd hP hw hK I r1;obtain⟨⟨jts,rw',b2⟩,_⟩:=D2.rd hP hw hK I r2;subst hP hw hK;obtain⟨h1,h2,⟨a,b',h3⟩,h4,h5⟩:=st;have e1:=rv.length;have e2:=rw'.length
  have he:its.toArray[i]?=none∨jts.toArray[i]?=none:=by
   rcases hl with h | h
   ·exact .inl (by rw[List.getElem?_toArray]; exact List.getElem?_eq_none_iff.mpr (by omega))
   ·exact .inr (by rw[List.getElem?_toArray]; exact List.getElem?_eq_none_iff.mpr (by omega))
  refine aFf (I.ok.hd hc) S1 S2 D h1 h2 h3 h4 h5 b1 b2 he fun g hk=>⟨rfl,?_⟩
  have fch:∀ b∈[z,to,i1,i2],lF X pins H b:=fun b hb=>hf b (by
   simp only[List.mem_cons,List.not_mem_nil,or_false] at hb ⊢;rcases hb with h | h | h | h
   ·exact .inl h
   ·exact .inr (.inr (.inl h))
   ·exact .inr (.inr (.inr (.inl h)))
   ·exact .inr (.inr (.inr (.inr h))))
  have kp:∀ b o,b∉[z,to,i1,i2]->s.heap.get? b=some o->g.get? b=some o:=fun b o n e=>by
   simp only[List.mem_cons,List.not_mem_nil,or_false,not_or] at n;exact hk b o n.1 n.2.1 n.2.2.1 n.2.2.2 e
  have nH:∀ b v,H b=some v->b∉[z,to,i1,i2]:=fun b v q hb=>by rw[(fch b hb).1] at q; cases q
  refine I.step (t':=s.toks) (g':=s.gens) (d':=s.drawn) (ch:=[z,to,i1,i2]) (fun b hb=>⟨(fch b hb).2.2.2.1,(fch b hb).2.1,(fch b hb).2.2.2.2.1,(fch b hb).2.2.2.2.2⟩) (fun b o _ _ hc e _=>kp b o hc e) (fun b o _ _ hc e _=>⟨o.slots,kp b o hc e⟩)
   (fun b o _ e n=>n) (fun b o hc e=>⟨o,kp b o hc e⟩) (fun b ys e=>e) (fun b o v e=>e) (fun b ps e=>⟨#[],by rw[e]; simp⟩) (fun m hm=>?_) (fun b v q=>?_) I.bare
  ·obtain⟨o,es,ep,ho,r⟩:=hm;exact⟨o,es,ep,kp _ o (fun hb=>(fch _ hb).2.1 rfl) ho,r⟩
  ·refine (I.hok b v q).stay (fun c y hc e=>kp c y ?_ e) (fun c e=>e) fun c ys e=>e;rcases hc with rfl | hc
   ·exact nH c v q
   ·exact nH c _ hc
 self:=fun _ i s _ _ ⟨h1,_⟩ h=>wpAny_pyIter_zip h1 h
end L2
namespace L2
open PySem PySem.Spec PySem.Calls PyProof.Rows PySem.W
theorem Bo.zip:bootBuiltins "zip" = some (.type "zip"):=by decide +kernel
section
variable {X:Cx}{elts:List Expr}{x1:Nat}{tpos:Pos}
inductive aOj (K:Frag) (vs:List V) (H1:Hp) (R:It->Hp->Prop):Prop
 | mk (a b:Addr) (h1:vs=[.ref a,.ref b]) (h2:∃ xs,SqL K H1 a xs) (h3:∃ ys,SqT K H1 b ys) (r:R (Itz (fun H xs=>SqL K H a xs) (fun H ys=>SqT K H b ys)) H1)
def aMc (K:Frag) (ta:TA):TI:=fun σ H R=>ta σ H fun vs H1=>aOj K vs H1 R
theorem aNp {s:Shared}{b:Addr}(hb:b∈[s.heap.objs.size+4,s.heap.objs.size+2,s.heap.objs.size+3,s.heap.objs.size,s.heap.objs.size+1]):s.heap.objs.size<=b:=by
 simp only[List.mem_cons,List.not_mem_nil,or_false] at hb;rcases hb with rfl | rfl | rfl | rfl | rfl
 ·exact Nat.le_add_right ..
 ·exact Nat.le_add_right ..
 ·exact Nat.le_add_right ..
 ·exact Nat.le_refl _
 ·exact Nat.le_add_right ..
theorem aEz {l m:Expr}{ta:TA}{p pos:Pos}(hg:Gl X "zip") (hm:X.mg "zip" = none) (ha:PA X [l,m] ta) (hs:starEach [l,m] X.env=(false,eval l X.env)::starEach [m] X.env:=by rfl) (hpl:(backTo pos (starEach [m] X.env)).any (·.1)=false:=by rfl) :
  PI X (.Tuple elts x1 tpos) (.Call (.Name "zip" p) [l,m] [] pos) (aMc X.K ta):=by
 intro pins s σ H R I h;refine wpAny_Call_Name_kw (mX I hg hm Bo.zip ?_ (by decide) (by decide));refine PyProof.Rows.callWith_type1 (thn (ha pos pins s σ H _ I h) fun us s1 ⟨vs,H1,I1,r1,a,b,e1,⟨xs,hx⟩,⟨ys,hy⟩,q⟩=>?_) hs hpl;subst e1;obtain⟨u,w',rfl,rx,ry⟩:=aDz r1;cases rx;cases ry;obtain⟨its,rv,pl,_⟩:=I1.list hx;obtain⟨jts,rw',pt,_⟩:=I1.tuple hy;have a1:a<s1.heap.objs.size:=let ⟨_,e,_⟩:=pl.isList; Heap.lt_size e;have a2:b<s1.heap.objs.size:=let ⟨_,e,_⟩:=pt; Heap.lt_size e;refine yH (Pre:=fun s=>s.heap.IsList a its.toArray∧s.heap.IsTuple b jts.toArray) rfl rfl (by simpa only[and_assoc] using xL a b its.toArray jts.toArray) ⟨pl.isList,pt⟩ fun h' z1 t1 t2 o1 o2 k=>?_;have I2:Inv X pins σ H1 { s1 with heap:=h' }:=I1.kept (t':=s1.toks) k
 exact wpAny_pyIter_zip z1 ⟨s1.heap.objs.size+4,[s1.heap.objs.size+4,s1.heap.objs.size+2,s1.heap.objs.size+3,s1.heap.objs.size,s1.heap.objs.size+1],_,_,H1,rfl,I2,
  aEd (aEj s1.heap.objs.size a) (aHo (s1.heap.objs.size+1) b) (aHw a) (aLb b) (zipApart_new a1 a2),⟨z1,t1,⟨_,_,t2⟩,⟨_,o1,rfl,rfl⟩,⟨_,o2,rfl,rfl⟩⟩,fun c hc=>I1.fpOk (aNp hc) (I1.hok.fresh (aNp hc)),q⟩
theorem aJl {R1 R2:Hp->List V->Prop}{D:Addr}{xs ys:List V}{g:TG}{tc:TT}{te:TE}{R:Hp->Prop}{σ:St}{H:Hp}(Pv:Nat->St->Hp->Prop) (h0:Pv 0 σ H) (hxy:xs.length=ys.length)
  (hl:∀ i σ H,i<=xs.length->Pv i σ H->R1 H xs∧R2 H ys)
  (hs:∀ i x y σ H t,xs[i]?=some x->ys[i]?=some y->Pv i σ H->H t=none->g (.ref t) σ (upd H t (.tup [x,y])) fun σ2 H2=>tc σ2 H2 fun b H3=>if b=true then te σ2 H3 fun y H4=>∃ ys,H4 D=some (.lst ys)∧ys.length<sizeLine∧Pv (i+1) σ2 (upd H4 D (.lst (ys++[y]))) else Pv (i+1) σ2 H3)
  (hd:∀ σ H,Pv xs.length σ H->R H):yN (Itz R1 R2) D g tc te R σ H:=by
 refine⟨fun i m σ H=>m=xs.length-i∧i<=xs.length∧Pv i σ H,⟨xs.length,by simp,Nat.zero_le _,h0⟩,?_⟩;rintro i m σ H ⟨rfl,hi,p⟩;obtain⟨q1,q2⟩:=hl i σ H hi p
 by_cases hlt:i<xs.length
 ·refine .inr ⟨⟨xs,ys,xs[i],ys[i]'(by omega),q1,q2,by simp[hlt],by simp⟩,Pv (i+1),fun σ' H' p'=>⟨xs.length-(i+1),by omega,rfl,hlt,p'⟩,fun v H' z=>?_⟩;obtain⟨t,x,y,ht,rfl,rfl,hx,hy⟩:=z;exact hs i x y σ H t (hx xs q1) (hy ys q2) p ht
 ·have e:i=xs.length:=by omega
  subst e;exact .inl ⟨⟨xs,ys,q1,q2,.inl (Nat.le_refl _)⟩,hd σ H p⟩
end
end L2
namespace L2
open PySem PySem.Spec PySem.Calls PyProof.Rows PySem.W
section
variable {X:Cx}
inductive aQa (K:Frag) (x y:V) (H:Hp) (Q:VK):Prop
 | mk (a:Addr) (os:List (Option Str)) (h0_:x=.non) (h1_:y=.ref a) (h2_:SqL K H a (os.map fun o=>(o.map V.str).getD .non)) (h3_:Q (.bl (os.any fun o=>o.isNone)) H)
theorem vV {us:List Value}:∀ {os:List (Option Str)},bY (os.map fun o=>(o.map V.str).getD .non) us->us.any (fun v=>v==.none)=os.any fun o=>o.isNone
 | [],r=>by cases r; rfl
 | o::os,r=>by
  cases r with
  | cons r1 r2=>
   rw[List.any_cons,List.any_cons,vV r2];cases o with
   | none=>cases r1; rfl
   | some z=>obtain⟨t,rfl⟩:=r1; rfl
theorem aLk:OpR X (compareOp .In) (aQa X.K):=by
 intro pins s σ H x y v u Q I rx ry h;obtain⟨a,os,rfl,rfl,ha,q⟩:=h;cases rx;cases ry;obtain⟨us,r1,p1,_⟩:=I.list ha;refine SeqAt.in_listAt (fun y=>y==.none) p1.isList (fun y hy=>?_) ⟨.bl (os.any fun o=>o.isNone),H,I,?_,q⟩
 ·obtain⟨i,hi⟩:=List.getElem?_of_mem (show y∈us by simpa using hy);have l1:=r1.length;have li:i<us.length:=(List.getElem?_eq_some_iff.mp hi).1;rw[List.length_map] at l1;have hoi:os[i]?=some os[i]:=List.getElem?_eq_getElem (by omega);obtain⟨u',e',ru⟩:=r1.get (i:=i) (x:=(os[i].map V.str).getD .non) (by rw[List.getElem?_map,hoi]; rfl);rw[hi] at e';cases e';cases ho:os[i] with
  | none=>rw[ho] at ru; cases ru; exact SeqAt.EqAt.same _
  | some z=>
   rw[ho] at ru;obtain⟨t,rfl⟩:=ru;exact SeqAt.EqAt.str_none z t
 ·show Value.bool _=Value.bool _;rw[← vV r1]
  simp
section
variable {prog:Program}{w:World}{A:Around}{E:Value->Shared->Prop}{s:Shared}
end
theorem aPu {xs:List V}{us:List Value}(r:bY xs us):bY xs.reverse us.reverse:=by
 induction r with
 | nil=>exact .nil
 | cons q t ih=>
  rw[List.reverse_cons,List.reverse_cons];exact ih.append (.cons q .nil)
end
end L2
namespace L2
open PySem PySem.Spec PySem.Calls PyProof.Rows PySem.W
section
variable {P:Program}{w:World}{A:Around}{R:Result->Shared->Prop}
end
section
variable {X:Cx}
end
end L2
namespace L2
open PySem PySem.Spec PySem.Calls PyProof.Rows PySem.W
section
variable {X:Cx}
inductive aOq (K:Frag) (x:V) (o:Option Int) (H:Hp) (Q:VK):Prop
 | mk (a:Addr) (xs:List V) (h0_:x=.ref a) (h1_:o=some (-1)) (h2_:SqL K H a xs) (h3_:∀ p,H p=none->Q (.ref p) (upd H p (.lst xs.reverse)))
def aKv (K:Frag) (te:TE) (tk:TO):TE:=fun σ H Q=>te σ H fun x H1=>tk σ H1 fun o H2=>aOq K x o H2 Q
theorem aFe {e:Expr}{te:TE}{ek:Expr}{tk:TO}{pos p2:Pos}(he:PE X e te) (hk:PO X (some ek) tk):PE X (.Subscript e (.Slice none none (some ek) p2) pos) (aKv X.K te tk):=by
 intro pins s σ H Q I h;refine Subscript_ (thn (he pins s σ H _ I h) fun v s1 ⟨x,H1,I1,r1,q1⟩=>wpAny_Slice (thn (lO pins s1 σ H1 (fun o H2=>o=none∧H2=H1) I1 ⟨rfl,rfl⟩) fun vl s2 ⟨l,H2,I2,pl,e1,e2⟩=>?_));subst e1 e2;refine thn (lO pins s2 σ H2 (fun o H3=>o=none∧H3=H2) I2 ⟨rfl,rfl⟩) fun vu s3 ⟨u,H3,I3,pu,e1,e2⟩=>?_;subst e1 e2;refine thn (hk pins s3 σ H3 _ I3 q1) fun vk s4 ⟨o,H4,I4,pk,q2⟩=>?_;obtain⟨a,xs,rfl,rfl,hx,q⟩:=q2;cases r1;have I5:Inv X pins σ H4 { s4 with heap:=s4.heap.push { cls:=.type "slice",data:=.fields #[vl,vu,vk] } }:=I4.kept (t':=s4.toks) fun b ob q=>Heap.get?_push_of_some _ q;obtain⟨its,r,ht,hz⟩:=I5.list hx;have hlen:=r.length;show wpAny (model X.prog X.w) X.A (subscriptTail e (.Slice none none (some ek) p2) (.ref a) (.ref s4.heap.objs.size)) (EP X pins σ Q) X.xe { s4 with heap:=s4.heap.push { cls:=.type "slice",data:=.fields #[vl,vu,vk] } };refine tail_any (ops:=[.ref a,.ref s4.heap.objs.size]) ht.isList.typeIs slot_list_getitem.lookup (wpAny_getItem_list_slice ht.isList (Heap.IsSliceOf.new ..) pl pu pk (by decide) ?_ (by rw[List.size_toArray]; omega)) (by with_unfolding_all rfl);rw[krv_pick];refine⟨.ref (s4.heap.push { cls:=.type "slice",data:=.fields #[vl,vu,vk] }).objs.size,_,I5.laid (t':=s4.toks) (o:=.lst xs.reverse) (fun b ob q=>Heap.get?_push_of_some _ q) (Nat.le_refl _) ?_,rfl,q _ (I5.hok.fresh (Nat.le_refl _))⟩;exact⟨by rw[List.length_reverse]; exact hz,its.reverse,0,aPu r,by rw[Heap.get?_push_size _ rfl]⟩
end
end L2
namespace L2
open PySem PySem.Spec PySem.Calls PyProof.Rows PySem.W
def Kp (fr fr':List Addr) (H H':Hp) (h h':Heap):Prop:=∀ b o,h.get? b=some o->H b=none->b∉fr->h'.get? b=some o∧H' b=none∧b∉fr'
theorem Kp.trans {f1 f2 f3:List Addr}{H1 H2 H3:Hp}{h1 h2 h3:Heap}(a:Kp f1 f2 H1 H2 h1 h2) (b:Kp f2 f3 H2 H3 h2 h3):Kp f1 f3 H1 H3 h1 h3:=fun c o e n f=>let ⟨x,y,z⟩:=a c o e n f; b c o x y z
structure nG (P:Program) (w:World) (K:Frag) (mg:Str->Option Value) (base:Heap) (k:Nat) (f:Addr) (sp:Sp) (outer:List Env) (s:Shared) (H:Hp):Prop where
 run:∀ (A:Around) (outer':List Env) (s':Shared) (H':Hp) (us:List Value) (vs:List V) (Q:VK) (E:XK),cL k A->pT P w K mg base A outer' s' H'->Kp (frs outer) (frs outer') H H' s.heap s'.heap->bY vs us->sp vs H' Q E ->
  codeAny (model P w) A (.call (.ref f) ⟨us,[]⟩) (CR (CXE P w) outer' P w H' s' Q E) s'
 fn:∀ (outer':List Env) (s':Shared) (H':Hp),Kp (frs outer) (frs outer') H H' s.heap s'.heap->FnAt f s'.heap
theorem nG.later {P:Program}{w:World}{K:Frag}{mg:Str->Option Value}{base:Heap}{k:Nat}{f:Addr}{sp:Sp}{outer outer':List Env}{s s':Shared}{H H':Hp}(h:nG P w K mg base k f sp outer s H)
  (kp:Kp (frs outer) (frs outer') H H' s.heap s'.heap):nG P w K mg base k f sp outer' s' H':=
 ⟨fun A o2 s2 H2 us vs Q E hr e0 k2=>h.run A o2 s2 H2 us vs Q E hr e0 (kp.trans k2),fun o2 s2 H2 k2=>h.fn o2 s2 H2 (kp.trans k2)⟩
section
variable {P:Program}{w:World}{K:Frag}{mg:Str->Option Value}{base:Heap}
theorem aKg {CX:CXT}{N:List Str}{qual:Str}{scope:Scope}{f:Addr}{cd:Value}{A:Around}{outer:List Env}{s s':Shared}{H H':Hp}{E:XK}{pins:List (Addr×Obj)}{σ:St}(I:Inv (gB CX P w K mg base N qual scope f cd A outer s H E) pins σ H' s') :
  Kp (frs outer) (frs (gB CX P w K mg base N qual scope f cd A outer s H E).stack) H H' s.heap s'.heap:=fun b o e n hb=>
 ⟨I.base.keep b o e n hb (by show b∉([]:List Addr); simp),I.base.free b o e n (by show b∉([]:List Addr); simp),fun z=>by
  rcases List.mem_cons.mp (show b∈s.heap.objs.size::frs outer from z) with z | z
  ·exact absurd (Heap.lt_size e) (by rw[z]; exact Nat.lt_irrefl _)
  ·exact hb z⟩
abbrev SpS:=List Env->Shared->List V->Hp->VK->XK->Prop
structure sM (P:Program) (w:World) (K:Frag) (mg:Str->Option Value) (base:Heap) (k:Nat) (f:Addr) (fd:FuncData) (ps:List Str) (sp:SpS):Prop where
 len:∀ o s vs H Q E,sp o s vs H Q E->vs.length=ps.length
 run:∀ (A:Around) (outer:List Env) (s:Shared) (H:Hp) (args:Args) (us:List Value) (vs:List V) (Q:VK) (E:XK),cL k A->pT P w K mg base A outer s H->BindsTo s fd args (ps.zip us)->bY vs us->sp outer s vs H Q E ->
  codeAny (model P w) A (.call (.ref f) args) (CR (CXE P w) outer P w H s Q E) s
theorem okS {x qual:Str}{st:Stmt}{f:Addr}{fd:FuncData}{N ps:List Str}{k:Nat}{sp:SpS}(F:Fun K x qual st f fd) (S:aR N ps (aB st)) (len:∀ o s vs H Q E,sp o s vs H Q E->vs.length=ps.length)
  (hbody:∀ (cdv:Value) (A:Around) (outer:List Env) (s:Shared) (H:Hp) (vs:List V) (Q:VK) (E:XK),cL k (A.deeper (envOfC qual (aB st) s.heap.objs.size f cdv))->sp outer s vs H Q E ->
   (gB (CXE P w) P w K mg base N qual (aB st) f cdv A outer s H E).Body E ->
   ∃ t,PSs (gB (CXE P w) P w K mg base N qual (aB st) f cdv A outer s H E) (aG st) t∧t { nx:=fun _ H'=>Q .non H',rt:=Q } (fV N vs) H):sM P w K mg base (k+1) f fd ps sp:=
 ⟨len,fun A outer s H args us vs Q E hr e0 hb hv hs=>zX F S hr e0 hb (len _ _ _ _ _ _ hs) hv fun cdv hr2=>hbody cdv A outer s H vs Q E hr2 hs qQ⟩
end
section
variable {X:Cx}
theorem sE {pins:List (Addr×Obj)}{σ:St}{H:Hp}{s:Shared}{Q:VK}{E:XK}{f:Addr}{us:List Value}(I:Inv X pins σ H s) (hx:eY (CXE X.prog X.w) X E)
  (hc:codeAny (model X.prog X.w) X.A (.call (.ref f) ⟨us,[]⟩) (CR (CXE X.prog X.w) X.stack X.prog X.w H s Q E) s):wpAny (model X.prog X.w) X.A (call (.ref f) us) (EP X pins σ Q) X.xe s:=by
 refine wpAny_call (codeAny_mono hc fun r s' hq'=>?_);cases r with
 | error e=>exact hx pins σ H s e s' I hq'
 | ok fl=>
  cases fl with
  | ret u=>exact I.after hq'
  | next=>exact False.elim hq'
  | brk=>exact False.elim hq'
  | cont=>exact False.elim hq'
inductive aHk (i:Nat) (f:Addr) (sp:Sp) (E:XK) (te:TE) (σ:St) (H:Hp) (Q:VK):Prop
 | mk (h0_:σ[i]?=some (some (.ref f))) (h1_:te σ H fun v H1=>sp [v] H1 Q E)
theorem aCg {x:Str}{p pos:Pos}{i k:Nat}{f:Addr}{sp:Sp}{E:XK}{e:Expr}{te:TE}(hN:X.N[i]?=some x) (hv:X.env.scope.names.lookup x=some .local) (hx:eY (CXE X.prog X.w) X E) (hr:cL k X.A)
  (hd:∀ pins σ H s,Inv X pins σ H s->nG X.prog X.w X.K X.mg X.base k f sp X.stack s H) (he:PE X e te) (hp:nA e=false:=by rfl) (h1:(x==("__debug__" : Str))=false:=by decide) (h2:(x==("__classdict__" : Str))=false:=by decide) :
  PE X (.Call (.Name x p) [e] [] pos) (aHk i f sp E te):=by
 intro pins s σ H Q I h;obtain⟨h0,h3⟩:=h;refine wpAny_Call_Name_kw (thn (oY hN (.inl hv) h1 h2 pins s σ H (fun v H'=>v=.ref f∧H'=H) I ⟨_,h0,rfl,rfl⟩) fun u s1 h4=>?_);obtain⟨v,H',I1,r1,rfl,rfl⟩:=h4;cases r1;have kr:∀ {s2:Shared}{H2:Hp},Kp (frs X.stack) (frs X.stack) H2 H2 s2.heap s2.heap:=fun b o e n hb=>⟨e,n,hb⟩;refine callWith_F ((hd _ _ _ _ I1).fn _ s1 H' kr) (thn ((pac he aJ hp:PA X [e] _) pos pins s1 σ H' (fun vs H1=>sp vs H1 Q E) I1 h3) fun us s2 ⟨vs,H2,I2,r,q⟩=>⟨(hd _ _ _ _ I2).fn _ s2 H2 kr,?_⟩) (bV hp) rfl;exact sE I2 hx ((hd _ _ _ _ I2).run X.A X.stack s2 H2 us vs Q E hr I2.env0 kr r q)
end
structure aGy (scope:Scope) (x:Str) (NL:List Str):Prop where
 kind:scope.kind=.function
 co:scope.isCoroutine=false
 gen:scope.isGenerator=false
 cell:∀ x∈scope.names,x.2≠.cell
 loc:scope.names.lookup x=some .local
 nl:∀ x∈NL,scope.names.lookup x=some .free
def aJj (P:Program) (w:World) (K:Frag) (mg:Str->Option Value) (base:Heap) (A:Around) (outer:List Env) (q:Str) (scope:Scope) (f c':Addr) (cl:List (Str×Addr)) (s:Shared) (H:Hp) (N:List Str) (E:XK):Cx where
 prog:=P
 w:=w
 K:=K
 mg:=mg
 base:=base
 A:=A.deeper (envX q scope s.heap.objs.size f (.ref c') cl)
 N:=N
 s₀:=s
 H₀:=H
 env:=envX q scope s.heap.objs.size f (.ref c') cl
 outer:=outer
 stack:=envX q scope s.heap.objs.size f (.ref c') cl::outer
 ex:=[]
 fn:=fun _=>false
 calm:=true
 pn:=[]
 xe:=fun e s'=>wpAny (model P w) (A.deeper (envX q scope s.heap.objs.size f (.ref c') cl)) (leaving (envX q scope s.heap.objs.size f (.ref c') cl) e) (fun _ s''=>CXE P w outer H s E e s'') (fun e' s''=>CXE P w outer H s E e' s'') s'
section
variable {P:Program}{w:World}{K:Frag}{mg:Str->Option Value}{base:Heap}{A:Around}{outer:List Env}{q:Str}{scope:Scope}{f c':Addr}{cl:List (Str×Addr)}{H:Hp}{s:Shared}{NL:List Str}{E:XK}
theorem aGc {σL:St}{k:Nat}{params:Arguments}{body:Expr}{te:TE}{Q:VK}{x:Str}{v:V}{u:Value}(e0:pT P w K mg base A outer s H) (L:lD s.heap H (frs outer) f c' q params body scope cl NL σL) (S:aGy scope x NL) (hc:∀ x,scope.names.lookup x=some .free->∃ a,cl.lookup x=some a) (hr:cL (k+1) A)
  (hba:∀ pm ctv,bindArgs (kla_fn "<lambda>" q params body scope cl pm (.ref c') ctv) ⟨[u],[]⟩=pure [(x,u)]) (rv:cE v u) (hb:PE (aJj P w K mg base A outer q scope f c' cl s H (x::NL) E) body te) (hq:te (some v::σL) H Q) :
  codeAny (model P w) A (.call (.ref f) ⟨[u],[]⟩) (CR (CXE P w) outer P w H s Q E) s:=by
 obtain⟨pm,ctv,ho⟩:=L.fn;obtain⟨⟨oc,vs,t,e1,e2,e3⟩,_,_⟩:=(show dE P w H s.heap c' (.ext (dW c' q)) from e0.hok c' _ L.code)
 refine kla_callFunE hr.depth ho rfl S.co S.gen rfl ⟨c',oc,vs,t,rfl,e1,e2,e3⟩ ?_;rw[hba];refine wpAny_pure (wpAny_newFunctionEnv S.cell (by intro y hy; rw[List.mem_singleton.mp hy]; exact S.loc) (fun h₁ hns hsb=>?_) S.kind);have hk:∀ b o,s.heap.get? b=some o->h₁.get? b=some o:=fun b o e=>hsb.extBut b o (Nat.ne_of_lt (Heap.lt_size e)) (Heap.get?_push_of_some _ e);have lim:s.heap.NoLimit:=e0.mod.nolimit.keeps fun b o e=>(e0.bs b o e).1;refine⟨lim.keeps hk,?_⟩;have kc:∀ a v,s.heap.IsCell a v->h₁.IsCell a v:=fun a v ⟨o,h1,h2⟩=>⟨o,hk a o h1,h2⟩
 have J:Inv (aJj P w K mg base A outer q scope f c' cl s H (x::NL) E) [] (some v::σL) H { s with heap:=h₁,toks:=s.toks+([(x,u)]:List (Str×Value)).length }:=by
  refine⟨⟨e0.mod,S.kind,rfl,rfl,Nat.le_refl _,L.inj,fun x hx=>?_,fun x c z _=>absurd z (by show ¬ false=true; decide),fun _=>hr.hd,Around.frames_deeper e0.frames,.inr ⟨rfl,rfl⟩,fun b z=>absurd (show b∈([]:List Addr) from z) (by simp),e0.bs,e0.bsz,
   fun b _ _ z=>absurd (show b∈([]:List Addr) from z) (by simp),fun b z=>absurd (show b∈([]:List Addr) from z) (by simp),e0.funs,e0.frf⟩,
   rfl,e0.bare,Un.kept hk,⟨_,hns,fun i y v' h1 h2 h3=>?_⟩,fun x c e=>?_,e0.hok.fresh (Nat.le_refl _),fun x c e=>(L.cell x c e).2.1,fun p hp=>absurd (show p∈([]:List (Addr×Obj)) from hp) (by simp),e0.hok.kept hk,by show (some v::σL).length=(x::NL).length; rw[List.length_cons,List.length_cons,L.len]⟩
  ·have hx:scope.names.lookup x=some .cell∨scope.names.lookup x=some .free:=hx;rcases hx with hx | hx
   ·exact absurd rfl (S.cell _ (PySem.mem_of_lookup hx))
   ·exact hc x hx
  ·cases i with
   | zero=>
    have h1:(x::NL)[0]?=some y:=h1;cases h1;cases h2;exact⟨u,rv,.inl ⟨S.loc,by simp⟩⟩
   | succ i=>
    have h1:NL[i]?=some y:=by simpa using (show (x::NL)[i+1]?=some y from h1)
    obtain⟨a,u',hx,r,hc'⟩:=L.val i y v' h1 (by simpa using h2);exact⟨u',r,.inr ⟨.inr (S.nl y (List.mem_of_getElem? h1)),a,hx,kc a _ hc'⟩⟩
  ·obtain⟨⟨v,hv⟩,_⟩:=L.cell x c e;exact⟨v,kc c v hv⟩
 show codeAny _ _ (.expr body (envX q scope s.heap.objs.size f (.ref c') cl)) _ _;refine kla_codeExpr (wpAny_mono (hb [] _ _ H Q J hq) (fun v s' ⟨x,H',J',r,q'⟩=>?_) fun e s' h=>h);exact⟨x,H',J'.os,J'.bare,J'.base,J'.hok,r,q'⟩
end
end L2
namespace L2
open PySem PySem.Spec PySem.Calls PyProof.Rows PySem.W
theorem lD.kp {h h':Heap}{H H':Hp}{fr fr':List Addr}{f c':Addr}{q:Str}{params:Arguments}{body:Expr}{scope:Scope}{cl:List (Str×Addr)}{NL:List Str}{σL:St}(L:lD h H fr f c' q params body scope cl NL σL)
  (k:Kp fr fr' H H' h h') (hc:H' c'=some (.ext (dW c' q))):lD h' H' fr' f c' q params body scope cl NL σL:=by
 obtain⟨pm,ctv,e⟩:=L.fn;obtain⟨k1,k2,k3⟩:=k _ _ e L.fH L.ff;have kc:∀ x a,cl.lookup x=some a->∀ v,h.IsCell a v->h'.IsCell a v:=fun x a hx v ⟨o,ho,hd⟩=>⟨o,(k a o ho (L.cell x a hx).2.1 (L.cell x a hx).2.2).1,hd⟩;refine⟨⟨pm,ctv,k1⟩,k2,k3,hc,L.inj,fun x a hx=>?_,fun i x v h1 h2=>?_,L.len⟩
 ·obtain⟨⟨v,hv⟩,h1,h2⟩:=L.cell x a hx;obtain⟨o,ho,_⟩:=id hv;exact⟨⟨v,kc x a hx v hv⟩,(k a o ho h1 h2).2.1,(k a o ho h1 h2).2.2⟩
 ·obtain⟨a,u,hx,r,hc⟩:=L.val i x v h1 h2;exact⟨a,u,hx,r,kc x a hx _ hc⟩
inductive aEo (c':Addr) (q:Str) (te:XK->TE) (σL:St) (vs:List V) (H:Hp) (Q:VK) (E:XK):Prop
 | mk (v:V) (h0_:vs=[v]) (h1_:H c'=some (.ext (dW c' q))) (h2_:te E (some v::σL) H Q)
inductive SpH (P:Program) (w:World) (K:Frag) (mg:Str->Option Value) (base:Heap) (kd:Nat) (spC:Addr->Sp->Sp) (outer:List Env) (s:Shared) (vs:List V) (H:Hp) (Q:VK) (E:XK):Prop
 | mk (df:Addr) (spD:Sp) (h0_:nG P w K mg base kd df spD outer s H) (h1_:spC df spD vs H Q E)
inductive aHa (P:Addr) (pos:Pos) (q:Str) (R:Addr->Hp->Prop) (H:Hp):Prop
 | made (ps:_) (h0_:H P=some (.tbl ps)) (h1_:TriplesOk ps.toList) (h2_:codeAmong pos ps.toList=none) (h3_:∀ c' H1,H c'=none->c'≠P->H1=upd (upd H P (.tbl (ps++#[rawInt pos.line,rawInt pos.col,.ref c']))) c' (.ext (dW c' q))->R c' H1)
 | hit (ps:_) (c':Addr) (h0_:H P=some (.tbl ps)) (h1_:TriplesOk ps.toList) (h2_:codeAmong pos ps.toList=some (.ref c')) (h3_:H c'=some (.ext (dW c' q))) (h4_:R c' H)
def aMx (P:Addr) (pos:Pos) (q:Str) (spC:Addr->Sp->Sp) (js:List Nat) (te:XK->TE) (t1:TE) (v3:V) (E:XK):TE:=fun σ H Q=>t1 σ H fun v1 H1=>aHa P pos q (fun c' H2=>∀ f,spC f (aEo c' q te (cB 0 js σ)) [v1,.ref f,v3] H2 Q E) H1
section
variable {X:Cx}
theorem aIe {f c P:Addr}{fd:FuncData}{ps:List Str}{g y x:Str}{params:Arguments}{body e1:Expr}{scope:Scope}{lpos p p3 pos:Pos}{NL:List Str}{js:List Nat}{te:XK->TE}{t1:TE}{v3:V}{u3:Value}{k kd:Nat}{spC:Addr->Sp->Sp}{E:XK}
  (F:sM X.prog X.w X.K X.mg X.base k f fd ps (SpH X.prog X.w X.K X.mg X.base (kd+1) spC)) (hr:cL k X.A) (hg:Gl X g) (hm:X.mg g=some (.ref f)) (hk:keepIn X.K (.ref f)=true) (hbi:aX X.K fd ps []) (hx:eY (CXE X.prog X.w) X E)
  (hfn:∀ x,X.fn x=true) (hcode:X.env.code=.ref c) (hcd:codeHdIn X.K c P=true) (bm:iV X.mg X.base)
  (S:aGy scope x NL) (B:gD X scope NL 0 js) (hdef:defaultsOf params X.env=([],[])) (hba:∀ cl pm c' ctv u,bindArgs (kla_fn "<lambda>" (X.env.qual++"<lambda>") params body scope cl pm (.ref c') ctv) ⟨[u],[]⟩=pure [(x,u)])
  (hb:∀ (Ew:XK) A outer f c' cl s' H',cL kd (aJj X.prog X.w X.K X.mg X.base A outer (X.env.qual++"<lambda>") scope f c' cl s' H' (x::NL) Ew).A ->
   PE (aJj X.prog X.w X.K X.mg X.base A outer (X.env.qual++"<lambda>") scope f c' cl s' H' (x::NL) Ew) body (te Ew))
  (h1:PE X e1 t1) (hg3:Gl X y) (hm3:X.mg y=some u3) (r3:cE v3 u3) (hs1:nA e1=false:=by rfl) (hdb:(g==("__debug__" : Str))=false:=by decide) (hdb3:(y==("__debug__" : Str))=false:=by decide) :
  PE X (.Call (.Name g p) [e1,.Lambda params body scope lpos,.Name y p3] [] pos) (aMx P lpos (X.env.qual++"<lambda>") spC js te t1 v3 E):=by
 intro pins s0 σ H0 Q I0 h;refine wpAny_Call_Name_kw (gA I0 hg hm ?_ hdb);refine callWith_K (h₀:=X.base) I0.ok.mod.kin hk ?_ (bV hs1) rfl;rw[bV hs1,bV rfl,bV rfl];show wpAny _ _ (spliced ((false,eval e1 X.env)::(false,eval (.Lambda params body scope lpos) X.env)::(false,eval (.Name y p3) X.env)::backTo pos (starEach [] X.env))) _ _ s0;refine Calls.spliced_cons (thn (h1 pins s0 σ H0 _ I0 h) fun u1 s ⟨v1,H,I,r1,hq⟩=>?_)
 have fin:∀ (fl c':Addr) (H1:Hp) (s1:Shared) (pm ctv:Value),Inv X pins σ H1 s1->(∀ f,spC f (aEo c' (X.env.qual++"<lambda>") te (cB 0 js σ)) [v1,.ref f,v3] H1 Q E)->s.heap.objs.size<=fl->H1 fl=none->H1 c'=some (.ext (dW c' (X.env.qual++"<lambda>"))) ->
   (∀ b o,s.heap.get? b=some o->H b=none->s1.heap.get? b=some o∧H1 b=none)->s1.heap.get? fl=some (kla_obj "<lambda>" (X.env.qual++"<lambda>") params body scope (cZ scope X.env) pm c' ctv) ->
   wpAny (model X.prog X.w) X.A (spliced ((false,eval (.Name y p3) X.env)::backTo pos (starEach [] X.env))) (fun vs s₁=>X.K.In s₁.heap∧wpAny (model X.prog X.w) X.A (call (.ref f) ([]++([u1]++([Value.ref fl]++vs)))) (EP X pins σ Q) X.xe s₁) X.xe s1:=by
  intro fl c' H1 s1 pm ctv I1 hsp hsf hfH hcx hold hfo;refine Calls.spliced_cons (gA I1 hg3 hm3 ?_ hdb3);refine Calls.spliced_nil ⟨I1.kIn,?_⟩;have hcl:∀ n∈cX scope,∃ a,X.env.cells.lookup n=some a:=fun n hn=>I.ok.has n (B.cel n hn);have cl1:∀ x a,(cZ scope X.env).lookup x=some a->X.env.cells.lookup x=some a:=gT (cX scope) [] hcl fun x a e=>by simp at e
  have hfree:∀ x,scope.names.lookup x=some .free->x∈cX scope:=fun x e=>List.mem_map.mpr ⟨(x,.free),List.mem_filter.mpr ⟨PySem.mem_of_lookup e,by simp⟩,rfl⟩
  have stkLt:∀ b∈frs X.stack,b<s.heap.objs.size:=fun b hb=>by
   obtain⟨_,o,ho,_⟩:=I.stack.mem hb;exact Heap.lt_size ho
  have hcell:∀ x a,X.env.cells.lookup x=some a->a∉frs X.stack:=fun x a e z=>by
   rcases List.mem_cons.mp (I.stkSub a z) with z | z
   ·exact I.cne x a e z
   ·obtain⟨_,o,ho,_⟩:=I.ok.funs.mem z;exact absurd (Nat.lt_of_lt_of_le (Heap.lt_size ho) (I.ok.cab x a (hfn x) e)) (Nat.lt_irrefl _)
  have L1:lD s1.heap H1 (frs X.stack) fl c' (X.env.qual++"<lambda>") params body scope (cZ scope X.env) NL (cB 0 js σ):=by
   refine⟨⟨pm,ctv,hfo⟩,hfH,fun z=>absurd (Nat.lt_of_lt_of_le (stkLt fl z) hsf) (Nat.lt_irrefl _),hcx,fun x y a e1 e2=>I.ok.inj x y a (cl1 x a e1) (cl1 y a e2),fun x a e=>?_,fun i x v e1 e2=>?_,?_⟩
   ·have e':=cl1 x a e;obtain⟨v,o,ho,hd⟩:=I.cell x a e';obtain⟨k1,k2⟩:=hold a o ho (I.freeC x a e');exact⟨⟨v,o,k1,hd⟩,k2,hcell x a e'⟩
   ·unfold cB at e2;rw[List.replicate_zero,List.nil_append,List.getElem?_map] at e2;cases hj:js[i]? with
    | none=>rw[hj] at e2; cases e2
    | some j=>
     rw[hj] at e2;have e2:some ((σ[j]?).join)=some (some v):=e2
     have e3:σ[j]?=some (some v):=by
      cases z:σ[j]? with
      | none=>rw[z] at e2; cases e2
      | some y=>rw[z] at e2; cases y with
       | none=>cases e2
       | some y=>cases e2; rfl
     have e4:X.N[j]?=some x:=by rw[B.at' i j hj,Nat.zero_add]; exact e1
     obtain⟨hfr,_⟩:=B.fre i x (Nat.zero_le _) e1;have kx:=B.cel x hfr;obtain⟨m,hm,hl⟩:=I.loc;obtain⟨u,r,l⟩:=hl j x v e4 e3 (by rcases kx with z | z; exact .inr (.inl z); exact .inr (.inr z));rcases l with⟨kk,_⟩ | ⟨kk,a,ea,o,ho,hd⟩
     ·rcases kx with k' | k' <;> rw[kk] at k' <;> cases k'
     ·obtain⟨a',ha'⟩:=gC (env:=X.env) (cX scope) [] x (.inl hfr)
      have:=cl1 x a' ha'
      rw[ea] at this;cases this;exact⟨a,u,ha',r,o,(hold a o ho (I.freeC x a ea)).1,hd⟩
   ·unfold cB;rw[List.replicate_zero,List.nil_append,List.length_map,B.len,Nat.zero_add]
  have hc:∀ x,scope.names.lookup x=some .free->∃ a,(cZ scope X.env).lookup x=some a:=fun x e=>gC (env:=X.env) (cX scope) [] x (.inl (hfree x e))
  have hd:nG X.prog X.w X.K X.mg X.base (kd+1) fl (aEo c' (X.env.qual++"<lambda>") te (cB 0 js σ)) X.stack s1 H1:=by
   refine⟨fun A outer' s' H' us vs Q' E' hr' e0 kp hv hsl=>?_,fun outer' s' H' kp=>?_⟩
   ·obtain⟨v,rfl,hc',hte⟩:=hsl;obtain⟨u,rfl,rv⟩:=iO hv;exact aGc (k:=kd) (E:=E') e0 (L1.kp kp hc') S hc hr' (fun pm ctv=>hba _ pm c' ctv u) rv (hb E' A outer' fl c' _ s' H' (hr'.deeper _)) hte
   ·exact⟨_,_,_,_,(kp _ _ hfo L1.fH L1.ff).1⟩
  have sp1:SpH X.prog X.w X.K X.mg X.base (kd+1) spC X.stack s1 [v1,.ref fl,v3] H1 Q E:=⟨fl,_,hd,hsp fl⟩;have hl:[u1,.ref fl,u3].length=ps.length:=F.len _ _ _ _ _ _ sp1
  have bt:BindsTo s1 fd ⟨[u1,.ref fl,u3],[]⟩ (ps.zip [u1,.ref fl,u3]):=by
   have:=hbi s1 [u1,.ref fl,u3] I1.kIn (by rw[List.append_nil]; exact hl)
   rw[List.append_nil] at this;exact this
  exact sE I1 hx (F.run X.A X.stack s1 H1 _ _ _ Q E hr I1.env0 bt (.cons r1 (.cons (show cE (.ref fl) (.ref fl) from rfl) (.cons r3 .nil))) sp1)
 cases hq with
 | made ps hP ht hnf hte=>
  refine Calls.spliced_cons (xN I hcode hcd bm hP ht hnf hdef B.cel fun fl c' pm ctv s1 I1 hc0 hcP hcf hcs hold hfo=>?_);have hPs:P<s.heap.objs.size:=I.hok.lt hP;have hsf:s.heap.objs.size<=fl:=Nat.le_trans hcs (Nat.le_of_lt hcf);refine fin fl c' _ s1 pm ctv I1 (hte c' _ hc0 hcP rfl) hsf ?_ aD (fun b o e n=>?_) hfo
  ·rw[aI (Nat.ne_of_gt hcf),aI (Nat.ne_of_gt (Nat.lt_of_lt_of_le hPs hsf))];exact I.hok.fresh hsf
  ·have nP:b≠P:=fun z=>by rw[z,hP] at n; cases n
   exact⟨hold b o nP e,by rw[aI (Nat.ne_of_lt (Nat.lt_of_lt_of_le (Heap.lt_size e) hcs)),aI nP]; exact n⟩
 | hit ps c' hP ht hf hcx hR=>
  refine Calls.spliced_cons (aBc I hcode hcd bm hP ht hf hdef B.cel fun fl pm ctv s1 I1 hsf hold hfo=>?_);exact fin fl c' H s1 pm ctv I1 hR hsf (I.hok.fresh hsf) hcx (fun b o e n=>⟨hold b o e,n⟩) hfo
end
end L2
namespace L2
open PySem PySem.Spec PySem.Calls PyProof.Rows PySem.W
def oJ (d:Addr) (es:Array DictEntry) (ep:Nat) (h:Heap):Prop:=∃ o,h.get? d=some o∧o.ExactDict∧o.data=.dict es ep
section
variable {prog:Program}{w:World}{A:Around}{E:Value->Shared->Prop}{s:Shared}{d:Addr}{es:Array DictEntry}{ep:Nat}
theorem oJ.ty (x:oJ d es ep s.heap):s.TypeIs (.ref d) "dict":=let ⟨o,a,b,_⟩:=x; ⟨o,a,b.1⟩
theorem oJ.to {h h':Heap}(x:oJ d es ep h) (k:∀ o,h.get? d=some o->h'.get? d=some o):oJ d es ep h':=let ⟨o,a,b⟩:=x; ⟨o,k o a,b⟩
theorem aGl {Q:Value->Shared->Prop}(lo:(d==sysModules)=false) (x:oJ d es ep s.heap)
  (q:Q (.ref s.heap.objs.size) { s with heap:=s.heap.push { cls:=.type "dict_keyiterator",data:=.fields #[.ref d,.int 0 0,.int es.size 0,.int ep 0] } }):wpAny (model prog w) A (pyIter (.ref d)) Q E s:=by
 obtain⟨od,e1,e2,e3⟩:=id x;refine wpAny_pyIter_slot x.ty F.slot_dict_iter (wpAny_call_entry F.slot_dict_iter x.ty F.entry_dict_iter ?_ (F.args_dict_iter_1 _)); unfold Builtin.«dict.__iter__»; refine wpAny_bind ?_;unfold Builtin.Dict.dictSlotNone; refine wpAny_bind (wpAny_notOrdered_dict x.ty ?_); show wpAny _ _ (pure (Value.ref d)) _ _ s;refine wpAny_pure ?_; show wpAny _ _ (Builtin.Dict.showsAll d>>=_) _ _ s;unfold Builtin.Dict.showsAll; rw[if_neg (by rw[lo]; exact Bool.false_ne_true)];refine wpAny_bind (wpAny_pure ?_); refine wpAny_bind (wpAny_dictEntries e1 e3 ?_); refine wpAny_bind (wpAny_dictEpoch e1 e3 ?_);refine wpAny_bind (wpAny_newObj_type (wpAny_pure ⟨_,rfl,"dict_keyiterator",_,⟨_,Heap.get?_push_size _ rfl,rfl⟩,F.slot_dict_keyiterator_next.lookup,?_⟩)); simpa [rawInt] using q
theorem xT {it:Addr}{i:Nat}{Q:Option Value->Shared->Prop}(hh:A.handled=none) (ht:s.heap.IsKeyIter it d i es.size ep) (x:oJ d es ep s.heap)
  (q1:∀ e h',es[i]?=some e->h'.IsKeyIter it d (i+1) es.size ep->Heap.SameBut it s.heap h'->Q (some e.key) { s with heap:=h' })
  (q2:∀ h',es[i]?=none->Heap.ExtBut it s.heap h'->Q none { s with heap:=h' }):wpAny (model prog w) A (pyNext (.ref it)) Q E s:=by
 obtain⟨oi,i1,i2,i3⟩:=id ht;obtain⟨od,e1,e2,e3⟩:=id x;have tyI:=ht.typeIs;unfold pyNext; refine wpAny_bind (wpAny_attempt (wpAny_callSpecial?_slot (name:=Str.ofString "__next__") tyI F.slot_dict_keyiterator_next (wpAny_call_entry F.slot_dict_keyiterator_next tyI F.entry_dict_keyiterator_next ?_ (F.args_dict_keyiterator_next_1 _))));refine wpAny_bind (wpAny_pure ?_); refine wpAny_bind ?_; refine wpAny_bind ?_
 first | refine wpAny_bind (wpAny_typeNameOfWhole_keyiter tyI (wpAny_pure ?_)) | refine wpAny_bind (wpAny_typeNameOf_keyiter tyI (wpAny_pure ?_))
 refine wpAny_bind (wpAny_fieldsOf i1 i3 ?_); have ow:Builtin.Dict_items.ownsTuple "dict_keyiterator"=false:=by decide
 simp only[ow,Bool.false_eq_true,if_false]; show wpAny _ _ (if (Value.ref d==Value.none)=true then _ else _) _ _ s
 rw[if_neg (show ¬ ((Value.ref d==Value.none)=true) from Bool.false_ne_true)]; refine wpAny_bind (wpAny_pure ?_); refine wpAny_bind (wpAny_dictEntries e1 e3 ?_)
 rw[if_neg (by simp)]; refine wpAny_bind (wpAny_pure ?_); refine wpAny_bind (wpAny_dictEpoch e1 e3 ?_); rw[if_neg (by simp)]; refine wpAny_pure ?_
 by_cases hl:i<es.size
 ·simp only[show ¬ ((i:Int)<0) from by omega,if_false,Int.toNat_natCast,Array.getElem?_eq_getElem hl]; refine wpAny_bind ?_
  first | refine wpAny_bind (wpAny_typeNameOfWhole_keyiter tyI (wpAny_pure ?_)) | refine wpAny_bind (wpAny_typeNameOf_keyiter tyI (wpAny_pure ?_))
  refine wpAny_bind (wpAny_isOneOf_keyiter tyI ?_); show wpAny _ _ (setField (.ref it) 1 (rawInt ((i:Int)+1))>>=_) _ _ s
  refine wpAny_bind (wpAny_setField i1 i3 (by simp) ?_); have nx:(s.heap.update it (Obj.mapFields (·.setIfInBounds 1 (rawInt ((i:Int)+1))))).IsKeyIter it d (i+1) es.size ep:=
   ⟨_,Heap.get?_update_self _ i1 (Obj.isFreed_of_fields (Obj.data_mapFields i3 _)),(Obj.cls_mapFields ..).trans i2,by rw[Obj.data_mapFields i3]; simp[rawInt]⟩
  refine wpAny_bind (wpAny_holding ?_); refine wpAny_bind (wpAny_isOneOf_keyiter (s:={ s with heap:=s.heap.update it (Obj.mapFields (·.setIfInBounds 1 (rawInt ((i:Int)+1)))) }) nx.typeIs ?_);show wpAny _ _ (pure es[i].key) _ _ _; exact wpAny_pure (wpAny_pure ⟨_,rfl,wpAny_pure (q1 _ _ (Array.getElem?_eq_getElem hl) nx (Heap.SameBut.update ..))⟩)
 ·have hn:es[i]?=none:=Array.getElem?_eq_none (by omega);simp only[show ¬ ((i:Int)<0) from by omega,if_false,Int.toNat_natCast,hn]; refine wpAny_bind ?_
  first | refine wpAny_bind (wpAny_typeNameOfWhole_keyiter tyI (wpAny_pure ?_)) | refine wpAny_bind (wpAny_typeNameOf_keyiter tyI (wpAny_pure ?_))
  show wpAny _ _ (setField (.ref it) 0 .none>>=_) _ _ s; refine wpAny_bind (wpAny_setField i1 i3 (by simp) ?_);show wpAny _ _ (newExc (.type "StopIteration") []>>=_) _ _ _; refine wpAny_bind ?_; simp only[newExc,newTuple]; refine wpAny_bind (wpAny_newObj_type ?_ (by size_fits));refine wpAny_bind (m:=firstArgMember _ _) (wpAny_of_eq (a:=Value.none) (by first | rfl | (simp only[firstArgMember]; rfl)) ?_); refine wpAny_newObj_type ?_ (by size_fits); simp only[raiseNew];refine wpAny_bind (wpAny_handled ?_); rw[show A.in1.handled=none from hh]; refine wpAny_bind (wpAny_pure (wpAny_throw ?_))
  refine wpAny_bind (wpAny_isInstance (T:="StopIteration") (b:=true) ⟨_,Heap.get?_push_size _ rfl,rfl⟩ isSubtype_stop ?_); exact wpAny_pure (q2 _ hn (((Heap.SameBut.update ..).extBut.push _).push _))
theorem aDj (hh:A.handled=none) (I:Addr) (hne:d≠I):Walks prog w A I [I,d] [I] es.size (fun i v=>∃ e,es[i]?=some e∧v=e.key) (fun i h=>h.IsKeyIter I d i es.size ep∧oJ d es ep h) where
 sub:=fun b hb=>by simp at hb; simp[hb]
 frame:=fun _ _ _ st hk=>⟨st.1.at fun o e=>hk I (by simp) o e,st.2.to fun o e=>hk d (by simp) o e⟩
 item:=fun i s Q E hi st hQ=>xT hh st.1 st.2
  (fun e h' he hi' hs=>hQ _ h' s.toks ⟨e,he,rfl⟩ ⟨hi',st.2.to fun o e'=>hs.extBut d o hne e'⟩ fun b o hb e'=>hs.extBut b o (fun z=>hb (by simp[z])) e')
  (fun h' he _=>absurd he (by simp[hi]))
 done:=fun s Q E st hQ=>xT hh st.1 st.2 (fun e h' he _ _=>absurd he (by simp)) fun h' _ hx=>hQ h' s.toks fun b o hb e'=>hx b o (fun z=>hb (by simp[z])) e'
 self:=fun _ _ _ _ st hQ=>wpAny_pyIter_keyiter st.1 hQ
theorem aIy (lo:(d==sysModules)=false):KdlSrc prog w "dict" d d es.size (fun i v=>∃ e,es[i]?=some e∧v=e.key) (oJ d es ep) where
 type:=fun _ hm=>hm.ty
 there:=fun _ hm=>let ⟨_,e,_⟩:=hm; ⟨Heap.lt_size e,Heap.lt_size e⟩
 keep:=fun _ _ hm hk=>hm.to fun o e=>hk d (.inl rfl) o e
 notList:=by decide
 notTuple:=by decide
 hint:=fun _ _ _ _ hm hq=>kdl_hint_dict hm.ty hq
 iter:=fun _ _ hh hm=>⟨_,_,(fun _ _ hq=>aGl lo hm hq),aDj hh _ (let ⟨_,e,_⟩:=hm; Nat.ne_of_lt (Heap.lt_size e)),⟨⟨_,Heap.get?_push_size _ rfl,rfl,rfl⟩,hm.to fun _ e=>Heap.get?_push_of_some _ e⟩⟩
end
abbrev fJ (H:Hp) (bs:List Addr) (rs:List (List Str)):Prop:=Paired (fun b (r:List Str)=>H b=some (.tup (r.map V.str))) bs rs
section
variable {X:Cx}
theorem aBf {H:Hp}:∀ {kvs:List (List Key×V)}{xs:List (List Key×Addr×Value)}{rs:List (List Str)},KT H kvs xs->kvs.map (·.1)=rs.map (fun r=>r.map Sum.inr)->fJ H (xs.map (·.2.1)) rs
 | _,_,[],.nil,_=>.nil
 | _,_,_::_,.nil,e=>by cases e
 | _,_,[],.cons _ _,e=>by cases e
 | _,_,r::rs,.cons a b,e=>by
  have e1:=List.cons.inj e;refine .cons ?_ (aBf b e1.2);refine a.2.1.trans ((congrArg (fun l=>some (HO.tup (l.map kV))) e1.1).trans ?_);show some (HO.tup ((r.map Sum.inr).map kV))=_;rw[List.map_map];rfl
theorem tX:∀ (bs:List Addr),bY (bs.map V.ref) (bs.map Value.ref)
 | []=>.nil
 | _::bs=>.cons rfl (tX bs)
inductive aOg (xs:List V) (H:Hp) (Q:VK):Prop
 | mk (d:Addr) (kvs:List (List Key×V)) (rs:List (List Str)) (h0_:xs=[.ref d]) (h1_:H d=some (.dT kvs)) (h2_:kvs.map (·.1)=rs.map (fun r=>r.map Sum.inr)) (h3_:∀ (p:Addr) (bs:List Addr),H p=none->fJ H bs rs->Q (.ref p) (upd H p (.lst (bs.map V.ref))))
theorem aAb (hc:X.calm=true):CallR X (.type "list") aOg:=by
 intro pins s σ H xs us Q I r h;obtain⟨d,kvs,rs,rfl,hd,hk,q⟩:=h;obtain⟨u,rfl,rx⟩:=iO r;cases rx;obtain⟨z,lo,ys,rel,o,es,ep,h1,h2,h3,h4,h5⟩:=(show dE X.prog X.w H s.heap d (.dT kvs) from I.hok d _ hd)
 have hl:kvs.length=ys.length:=Paired.length rel;have hsz:es.size=ys.length:=by rw[← Array.length_toList,h4,List.length_map]
 refine kdl_call (aIy (es:=es) (ep:=ep) lo) (I.ok.hd hc) ⟨o,h1,h2,h3⟩ (by omega) fun h' tk acc c' hkp hD hacc=>?_
 have ea:acc.toList=(ys.map (·.2.1)).map Value.ref:=by
  refine List.ext_getElem? fun j=>?_;cases hj:acc.toList[j]? with
  | none=>
   have l1:acc.toList.length<=j:=List.getElem?_eq_none_iff.mp hj
   have:=hacc.1
   rw[Array.length_toList] at l1;exact (List.getElem?_eq_none_iff.mpr (by rw[List.length_map,List.length_map]; omega)).symm
  | some v=>
   obtain⟨e,he,rfl⟩:=hacc.2 j v (by rw[← Array.getElem?_toList]; exact hj);rw[← Array.getElem?_toList,h4,List.getElem?_map] at he;cases hy:ys[j]? with
   | none=>rw[hy] at he; cases he
   | some y=>
    rw[hy] at he;cases he;rw[List.map_map,List.getElem?_map,hy];rfl
 refine⟨.ref s.heap.objs.size,_,I.laid (t':=tk) hkp (Nat.le_refl _) ?_,rfl,q _ (ys.map (·.2.1)) (I.hok.fresh (Nat.le_refl _)) (aBf rel hk)⟩;refine⟨by rw[List.length_map,List.length_map]; omega,acc.toList,c',by rw[ea]; exact tX _,by simpa using hD⟩
def aKq (tk tv:TE):TE:=fun σ H Q=>∀ p,H p=none->tk σ (upd H p (.dT [])) fun x H1=>tv σ H1 fun y H2=>H2 p=some (.dT [])∧∃ (b:Addr) (ks:List Key),x=.ref b∧H2 b=some (.tup (ks.map kV))∧Q (.ref p) (upd H2 p (.dT [(ks,y)]))
theorem aFb {pos:Pos}{k v:Expr}{tk tv:TE}(hu:X.A.units<cLine) (hk:PE X k tk) (hv:PE X v tv):PE X (.Dict [some k] [v] pos) (aKq tk tv):=by
 intro pins s σ H Q I q;have hn:=I.hok.fresh (Nat.le_refl s.heap.objs.size);have I1:=I.laid (a:=s.heap.objs.size) (o:=.dT []) (h':=s.heap.push { cls:=.type "dict",data:=.dict #[] }) (t':=s.toks) (fun _ _ q=>Heap.get?_push_of_some _ q) (Nat.le_refl _) (xU s.heap I.big);refine wpAny_Dict_any rfl rfl (fun z=>nomatch z) (Nat.succ_le_succ (Nat.zero_le _)) (pairTrees_cons_walk (thn (hk pins _ σ _ _ I1 (q _ hn)) fun u s1 ⟨x,H1,I1,rx,q1⟩=>thn (hv pins s1 σ H1 _ I1 q1) fun w2 s2 ⟨y,H2,I2,ry,q2⟩=>pairTrees_nil_walk ?_));obtain⟨e,b,ks,rfl,eb,q3⟩:=q2;cases rx;obtain⟨z,lo,xs,rel,dd⟩:=aKi I2.hok e;cases rel;unfold storeAll;rw[List.forIn_cons];refine wpAny_bind (wpAny_bind (wpAny_dictSet_heap (knd:=tupleKind (dD X.prog X.w)) (hsz:=Nat.zero_le _) hu (mY I2.hok eb) dd fun h' dd' hs=>wpAny_pure ?_));show wpAny _ _ (forIn [] PUnit.unit _) _ _ _;rw[List.forIn_nil];refine wpAny_pure ⟨.ref s.heap.objs.size,_,?_,rfl,q3⟩;obtain⟨q',es,ep,hq,h2,h3,h4,_,h5⟩:=dd';refine qP I2 (by rw[e]; exact True.intro) hs ⟨q',hq⟩ ⟨Nat.le_trans (by decide:1<=16) (by decide),lo,_,(KT.put (.nil:KT H2 [] []) ks eb ry).keeps fun c ys ec=>?_,q',es,ep,hq,h2,h3,h4,h5⟩;rw[aI (jC ec e (fun z=>nomatch z))];exact ec
end
end L2
namespace L2
open PySem PySem.Spec PySem.Calls PyProof.Rows PySem.W
theorem uW:∀ {ss ts:List Str},ss.map V.str=ts.map V.str->ss=ts
 | [],[],_=>rfl
 | [],_::_,h=>by cases h
 | _::_,[],h=>by cases h
 | a::ss,b::ts,h=>by
  have h':=List.cons.inj h;rw[V.str.inj h'.1,uW h'.2]
theorem fJ.get {H:Hp}:∀ {bs:List Addr}{rs:List (List Str)}{i:Nat}{b:Addr},fJ H bs rs->bs[i]?=some b->∃ r,rs[i]?=some r∧H b=some (.tup (r.map V.str))
 | _,_,_,_,.nil,e=>by simp at e
 | _,_,0,_,.cons r _,e=>by simp at e; subst e; exact⟨_,rfl,r⟩
 | _,_,i+1,b,.cons _ t,e=>by
  obtain⟨u,h1,h2⟩:=fJ.get (i:=i) (b:=b) t (by simpa using e);exact⟨u,by simpa using h1,h2⟩
theorem fJ.same {H H':Hp}{bs:List Addr}{rs:List (List Str)}(t:fJ H bs rs) (s:∀ b xs,H b=some (.tup xs)->H' b=some (.tup xs)):fJ H' bs rs:=Paired.mapP t fun _ _ e=>s _ _ e
theorem fJ.snoc {H:Hp}:∀ {bs:List Addr}{rs:List (List Str)}{b:Addr}{r:List Str},fJ H bs rs->H b=some (.tup (r.map V.str))->fJ H (bs++[b]) (rs++[r])
 | _,_,_,_,.nil,e=>.cons e .nil
 | _,_,_,_,.cons a t,e=>.cons a (fJ.snoc t e)
section
variable {X:Cx}{pins:List (Addr×Obj)}{σ:St}{H:Hp}{s:Shared}{A:Around}
theorem tF (I:Inv X pins σ H s){a b:Addr}{ss ts:List Str}(ha:H a=some (.tup (ss.map V.str))) (hb:H b=some (.tup (ts.map V.str))) (hu:A.units<cLine):SeqAt.EqAt A s (.ref a) (.ref b) (decide (ss=ts)):=by
 by_cases h:a=b
 ·subst h;rw[ha] at hb;rw[uW (HO.tup.inj (Option.some.inj hb)),decide_eq_true rfl];exact SeqAt.EqAt.same _
 ·obtain⟨us,r1,p1,_⟩:=I.tuple (SqT.of ha);obtain⟨ws,r2,p2,_⟩:=I.tuple (SqT.of hb);have l1:=r1.length;have l2:=r2.length;rw[List.length_map] at l1 l2;refine SeqAt.EqAt.of_refs h ?_
  by_cases hl:ss.length=ts.length
  ·have:=SeqAt.RcAt.tuples p1 p2 hu (aBv r1 r2 hl)
   rw[List.size_toArray,List.size_toArray,← l1,← l2,hl,Nat.min_self,← hl,jJ ss ts hl,beq_self_eq_true,Bool.and_true] at this;exact this
  ·have e:(us.toArray.size==ws.toArray.size)=false:=by rw[List.size_toArray,List.size_toArray,← l1,← l2]; exact beq_false_of_ne hl
   have:=SeqAt.RcAt.tuples (e:=fun j=>decide (ss[j]?=ts[j]?)) p1 p2 hu (fun j h1 h2=>by
    have l1':(ss.take (min ss.length ts.length)).length=(ts.take (min ss.length ts.length)).length:=by rw[List.length_take,List.length_take]; omega
    have g1:j<ss.length:=by rw[l1]; simpa using h1
    have g2:j<ts.length:=by rw[l2]; simpa using h2
    obtain⟨u,e1,q1⟩:=r1.get (i:=j) (x:=.str ss[j]) (by simp[g1]);obtain⟨v,e2,q2⟩:=r2.get (i:=j) (x:=.str ts[j]) (by simp[g2]);obtain⟨t,rfl⟩:=q1;obtain⟨t',rfl⟩:=q2
    have f1:us.toArray[j]=.str ss[j] t:=by
     have:us[j]?=some us.toArray[j]:=by simp
     rw[e1] at this;exact (Option.some.inj this).symm
    have f2:ws.toArray[j]=.str ts[j] t':=by
     have:ws[j]?=some ws.toArray[j]:=by simp
     rw[e2] at this;exact (Option.some.inj this).symm
    rw[f1,f2,show decide (ss[j]?=ts[j]?)=decide (ss[j]=ts[j]) by simp[g1,g2]];intro prog w E Q hq;exact wpAny_eqBool_str hq)
   rw[e,Bool.and_false] at this;rw[decide_eq_false fun z=>hl (by rw[z])];exact this
theorem tG (I:Inv X pins σ H s){bs cs:List Addr}{rs ts:List (List Str)}{us ws:List Value}(r1:bY (bs.map V.ref) us) (r2:bY (cs.map V.ref) ws) (h1:fJ H bs rs) (h2:fJ H cs ts) (hu:A.units<cLine) :
  ∀ j (h1:j<us.toArray.size) (h2:j<ws.toArray.size),SeqAt.EqAt A s us.toArray[j] ws.toArray[j] (decide (rs[j]?=ts[j]?)):=by
 intro j g1 g2;have l1:=r1.length;have l2:=r2.length;rw[List.length_map] at l1 l2;have k1:j<bs.length:=by rw[l1]; simpa using g1
 have k2:j<cs.length:=by rw[l2]; simpa using g2
 obtain⟨r,er,hr⟩:=h1.get (List.getElem?_eq_getElem k1);obtain⟨t,et,ht⟩:=h2.get (List.getElem?_eq_getElem k2);obtain⟨u,e1,q1⟩:=r1.get (i:=j) (x:=.ref bs[j]) (by simp[k1]);obtain⟨v,e2,q2⟩:=r2.get (i:=j) (x:=.ref cs[j]) (by simp[k2]);cases q1;cases q2
 have f1:us.toArray[j]=.ref bs[j]:=by
  have:us[j]?=some us.toArray[j]:=by simp
  rw[e1] at this;exact (Option.some.inj this).symm
 have f2:ws.toArray[j]=.ref cs[j]:=by
  have:ws[j]?=some ws.toArray[j]:=by simp
  rw[e2] at this;exact (Option.some.inj this).symm
 rw[f1,f2,er,et,show decide (some r=some t)=decide (r=t) by simp];exact tF I hr ht hu
inductive aKa (K:Frag) (neg:Bool) (x:V) (y:V) (H:Hp) (Q:VK):Prop
 | mk (a b:Addr) (bs cs:List Addr) (rs ts:List (List Str)) (h0_:x=.ref a) (h1_:y=.ref b) (h2_:SqL K H a (bs.map V.ref)) (h3_:SqL K H b (cs.map V.ref)) (h4_:fJ H bs rs) (h5_:fJ H cs ts) (h6_:Q (.bl (if neg then !decide (rs=ts) else decide (rs=ts))) H)
theorem aIi (hu:X.A.units+1<cLine):OpR X (compareOp .Eq) (aKa X.K false):=by
 intro pins s σ H x y v u Q I rx ry h;obtain⟨a,b,bs,cs,rs,ts,rfl,rfl,ha,hb,h1,h2,q⟩:=h;cases rx;cases ry;obtain⟨us,r1,p1,_⟩:=I.list ha;obtain⟨ws,r2,p2,_⟩:=I.list hb;have l1:=r1.length;have l2:=r2.length;have m1:=Paired.length h1;have m2:=Paired.length h2;rw[List.length_map] at l1 l2
 by_cases hl:rs.length=ts.length
 ·refine SeqAt.eq_listAt p1.isList p2.isList (by simp; omega) (Nat.lt_of_succ_lt hu) (tG I r1 r2 h1 h2 hu) ⟨.bl (decide (rs=ts)),H,I,?_,q⟩;rw[List.size_toArray,← l1,m1,jJ rs ts hl];rfl
 ·refine SeqAt.eq_list_lengthsAt p1.isList p2.isList (by simp; omega) (Nat.lt_of_succ_lt hu) ⟨.bl (decide (rs=ts)),H,I,?_,q⟩;rw[decide_eq_false fun z=>hl (by rw[z])];rfl
theorem aIh (hu:X.A.units+1<cLine):OpR X (compareOp .NotEq) (aKa X.K true):=by
 intro pins s σ H x y v u Q I rx ry h;obtain⟨a,b,bs,cs,rs,ts,rfl,rfl,ha,hb,h1,h2,q⟩:=h;cases rx;cases ry;obtain⟨us,r1,p1,_⟩:=I.list ha;obtain⟨ws,r2,p2,_⟩:=I.list hb;have l1:=r1.length;have l2:=r2.length;have m1:=Paired.length h1;have m2:=Paired.length h2;rw[List.length_map] at l1 l2
 by_cases hl:rs.length=ts.length
 ·refine SeqAt.RcNeAt.lists p1.isList p2.isList (by simp; omega) (Nat.lt_of_succ_lt hu) (tG I r1 r2 h1 h2 hu) X.prog X.w X.xe _ ⟨.bl (!decide (rs=ts)),H,I,?_,q⟩;rw[List.size_toArray,← l1,m1,jJ rs ts hl];rfl
 ·refine SeqAt.RcNeAt.lists_lengths p1.isList p2.isList (by simp; omega) (Nat.lt_of_succ_lt hu) X.prog X.w X.xe _ ⟨.bl (!decide (rs=ts)),H,I,?_,q⟩;rw[decide_eq_false fun z=>hl (by rw[z])];rfl
inductive aHx (K:Frag) (x y:V) (H:Hp) (Q:VK):Prop
 | mk (a l:Addr) (bs:List Addr) (ss:List Str) (rs:List (List Str)) (h0_:x=.ref a) (h1_:y=.ref l) (h2_:H a=some (.tup (ss.map V.str))) (h3_:SqL K H l (bs.map V.ref)) (h4_:fJ H bs rs) (h5_:Q (.bl (!decide (ss∈rs))) H)
theorem vY {H:Hp}{f:Value->Bool}{ss:List Str}(hf:∀ b r,H b=some (.tup (r.map V.str))->f (.ref b)=decide (r=ss)):∀ {bs:List Addr}{rs:List (List Str)}{us:List Value},fJ H bs rs->bY (bs.map V.ref) us->us.any f=decide (ss∈rs)
 | _,_,_,.nil,.nil=>by simp
 | _,_,_,.cons a t,.cons r q=>by
  cases r;rw[List.any_cons,vY hf t q,hf _ _ a,Bool.eq_iff_iff,Bool.or_eq_true,decide_eq_true_iff,decide_eq_true_iff,decide_eq_true_iff,List.mem_cons];exact⟨fun h=>h.imp Eq.symm id,fun h=>h.imp Eq.symm id⟩
theorem aCi (hu:X.A.units+1<cLine):OpR X (compareOp .NotIn) (aHx X.K):=by
 intro pins s σ H x y v u Q I rx ry h;obtain⟨a,l,bs,ss,rs,rfl,rfl,ha,hl,ht,q⟩:=h;cases rx;cases ry;obtain⟨us,r1,p1,_⟩:=I.list hl
 let f:Value->Bool:=fun v=>match v with
  | .ref b=>match H b with
   | some (.tup xs)=>decide (xs=ss.map V.str)
   | _=>false
  | _=>false
 have hf:∀ b r,H b=some (.tup (r.map V.str))->f (.ref b)=decide (r=ss):=fun b r e=>by
  show (match H b with | some (.tup xs)=>decide (xs=ss.map V.str) | _=>false)=_
  rw[e];show decide (r.map V.str=ss.map V.str)=_
  by_cases z:r=ss
  ·rw[z,decide_eq_true rfl,decide_eq_true rfl]
  ·rw[decide_eq_false z,decide_eq_false fun y=>z (uW y)]
 refine SeqAt.notIn_listAt f p1.isList (fun y hy=>?_) ⟨.bl (!decide (ss∈rs)),H,I,?_,q⟩
 ·obtain⟨i,hi⟩:=List.getElem?_of_mem (show y∈us by simpa using hy);have l1:=r1.length;have li:i<us.length:=(List.getElem?_eq_some_iff.mp hi).1;rw[List.length_map] at l1;have hb:bs[i]?=some bs[i]:=List.getElem?_eq_getElem (by omega);obtain⟨u',e',ru⟩:=r1.get (i:=i) (x:=.ref bs[i]) (by rw[List.getElem?_map,hb]; rfl);rw[hi] at e';cases e';cases ru;obtain⟨r,_,hr⟩:=ht.get hb;rw[hf _ _ hr];exact tF I hr ha hu
 ·show Value.bool _=Value.bool _;rw[show us.toArray.any f=us.any f by simp,vY hf ht r1]
def aPy:V->Hp->VK->Prop:=fun x H Q=>∃ i:Int,x=.int i∧i.natAbs.log2<1920∧Q (.str (Str.ofString (toString i))) H
theorem aIf {e:Expr}{te:TE}{pos:Pos}(he:PE X e te):PE X (.FormattedValue e (-1) none pos) (tUn aPy te):=by
 intro pins s σ H Q I h;refine FormattedValue_plain (thn (he pins s σ H _ I h) fun v s1 ⟨x,H1,I1,r1,i,e1,hi,q⟩=>?_);subst e1;obtain⟨t,rfl⟩:=r1;exact wpAny_formatField_int hi ⟨.str _,H1,I1.tok _,⟨_,rfl⟩,q⟩
end
end L2
namespace L2
open PySem PySem.Spec PySem.Calls PyProof.Rows PySem.W
section
variable {X:Cx}
def aKu (spC:Addr->Sp->Sp) (df:Addr) (spD:Sp) (E:XK) (t:TA):TE:=fun σ H Q=>t σ H fun vs H1=>spC df spD vs H1 Q E
theorem aFc {f:Addr}{fd:FuncData}{ps:List Str}{g:Str}{e:Expr}{es:List Expr}{p pos:Pos}{t:TA}{k kd:Nat}{spC:Addr->Sp->Sp}{df:Addr}{spD:Sp}{E:XK}
  (F:sM X.prog X.w X.K X.mg X.base k f fd ps (SpH X.prog X.w X.K X.mg X.base kd spC)) (hr:cL k X.A) (hg:Gl X g) (hm:X.mg g=some (.ref f)) (hk:keepIn X.K (.ref f)=true) (hb:aX X.K fd ps []) (hx:eY (CXE X.prog X.w) X E)
  (hd:∀ pins σ H s,Inv X pins σ H s->nG X.prog X.w X.K X.mg X.base kd df spD X.stack s H)
  (ha:PA X (e::es) t) (hdb:(g==("__debug__" : Str))=false:=by decide) (he:starEach (e::es) X.env=(false,eval e X.env)::starEach es X.env:=by rfl) (hpl:(backTo pos (starEach es X.env)).any (·.1)=false:=by rfl) :
  PE X (.Call (.Name g p) (e::es) [] pos) (aKu spC df spD E t):=by
 intro pins s σ H Q I h;refine wpAny_Call_Name_kw (gA I hg hm ?_ hdb);refine PySem.W.callWith_K (h₀:=X.base) I.ok.mod.kin hk (thn (ha pos pins s σ H _ I h) fun us s1 ⟨vs,H1,I1,r,q⟩=>⟨I1.kIn,?_⟩) he hpl;have sp1:SpH X.prog X.w X.K X.mg X.base kd spC X.stack s1 vs H1 Q E:=⟨df,spD,hd _ _ _ _ I1,q⟩;have hl:us.length=ps.length:=by rw[← r.length]; exact F.len _ _ _ _ _ _ sp1
 have bt:BindsTo s1 fd ⟨us,[]⟩ (ps.zip us):=by
  have:=hb s1 us I1.kIn (by rw[List.append_nil]; exact hl)
  rw[List.append_nil] at this;exact this
 exact sE I1 hx (F.run X.A X.stack s1 H1 _ us vs Q E hr I1.env0 bt r sp1)
end
end L2
namespace RW
def mixed (c k:Int):Int:=(((c+7919*k)*48271%2147483647)*((c+7919*k)*48271%2147483647+2*k+1))%2147483629
def cellAt (ns:List Int) (k:Nat):Int:=match ns[k]? with | some c=>mixed c k | none=>0
end RW
namespace KM
variable {α:Type} [DecidableEq α]
end KM
namespace Ky
open PySem L2 PySem.Spec PyProof.Rows PySem.W
abbrev iU:Str:="abcdefghijklmnopqrstuvwxyz"
abbrev jR:Str:="0123456789"
theorem zO:iU.cps.toList=List.range' 97 26:=by decide +kernel
theorem zY:jR.cps.toList=List.range' 48 10:=by decide +kernel
def kY (c:Nat):Bool:=decide (97<=c∧c<123)
def aGf (c:Nat):Bool:=decide (48<=c∧c<58)
def nB (c:Nat):Bool:=kY c||aGf c
theorem pY (c:Nat):decide (c∈iU.cps.toList)=kY c:=by
 rw[zO];unfold kY;rw[decide_eq_decide,List.mem_range'_1]
theorem xK (c:Nat):decide (c∈jR.cps.toList)=aGf c:=by
 rw[zY];unfold aGf;rw[decide_eq_decide,List.mem_range'_1]
theorem sC (x y:Str):(x++y).cps.toList=x.cps.toList++y.cps.toList:=by
 show (x.cps++y.cps).toList=_
 simp
theorem hJ (x y:Str):(x++y).length=x.length+y.length:=by
 have ln:∀ z:Str,z.cps.toList.length=z.length:=fun z=>by simp[Str.length]
 rw[← ln,sC,List.length_append,ln,ln]
theorem aCw (c:Nat):decide (c∈(iU++jR).cps.toList)=nB c:=by
 unfold nB;rw[← pY,← xK,sC,← Bool.decide_or,decide_eq_decide,List.mem_append]
def nX (cs:List Nat):Bool:=decide (1<=cs.length∧cs.length<=8)&&(match cs with | []=>false | c::_=>kY c)&&cs.all nB
def aZ (z:Str):Bool:=nX z.cps.toList
theorem nW {z:Str}(h:aZ z=true):z.length<=8:=by
 unfold aZ nX at h;rw[Bool.and_eq_true,Bool.and_eq_true] at h
 have:=of_decide_eq_true h.1.1
 have hl:z.cps.toList.length=z.length:=by simp[Str.length]
 omega
inductive Why | noName | noDeed | twice | tooMany
 deriving DecidableEq
def sQ:List Str->List Str->Option Why
 | _,[]=>none
 | seen,n::r=>if aZ n=true then (if n∈seen then some .twice else sQ (seen++[n]) r) else some .noName
def iP (ss:List Str):Option Why:=if 12<ss.length then some .tooMany else sQ [] ss
def lA (ss fs:List Str):Option Why:=match iP ss with
 | some k=>some k
 | none=>if fs.all (fun f=>aZ f&&decide (f∈ss))=true then none else some .noDeed
def wts:List Str->Int->List (Key×V)->List (Key×V)
 | [],_,k=>k
 | s::r,w,k=>wts r (w*2) (eB k (Sum.inr s) (.int w))
def mks:List Str->List (Key×V)->List (Key×V)
 | [],k=>k
 | s::r,k=>mks r (eB k (Sum.inr s) (.bl true))
inductive nK (vs:List V) (H:Hp) (Q:VK) (x3_:XK):Prop
 | mk (c k:Int) (h0_:vs=[.int c,.int k]) (h1_:Q (.int (RW.mixed c k)) H)
inductive aEr (K:PySem.W.Frag) (vs:List V) (H:Hp) (Q:VK) (x3_:XK):Prop
 | mk (a:Addr) (ns:List Int) (k:Nat) (h0_:vs=[.ref a,.int k]) (h1_:SqL K H a (ns.map V.int)) (h2_:Q (.int (RW.cellAt ns k)) H)
inductive uZ (K:PySem.W.Frag) (vs:List V) (H:Hp) (Q:VK) (x3_:XK):Prop
 | mk (x:_) (h0_:vs=[x]) (h1_:((∃ z,x=.str z∧z.length<=sizeLine∧∀ H',aO H H'->Q (.bl (aZ z)) H')∨∃ t,nF K H x t∧PySem.W.kitOne K t (.type "str")=some false∧Q (.bl false) H))
def ways (cl:Why->Addr) (r:Option Why) (q:Prop) (E:XK) (H:Hp):Prop:=match r with
 | none=>q
 | some k=>E (.ref (cl k)) none H
def qG (ss:List Str):Prop:=∀ z∈ss,z.length<=1000
inductive wD (K:PySem.W.Frag) (cl:Why->Addr) (vs:List V) (H:Hp) (Q:VK) (E:XK):Prop
 | mk (a:Addr) (ss:List Str) (h0_:vs=[.ref a]) (h1_:SqL K H a (ss.map V.str)) (h2_:qG ss) (h3_:∀ H',aO H H'->ways cl (iP ss) (Q .non H') E H')
inductive tK (K:PySem.W.Frag) (vs:List V) (H:Hp) (Q:VK) (x3_:XK):Prop
 | mk (a:Addr) (ss:List Str) (h0_:vs=[.ref a]) (h1_:SqL K H a (ss.map V.str)) (h2_:ss.length<64) (h3_:∀ (d:Addr) (ss':List Str) H',aO H H'->H d=none->ss'.Perm ss->sortedS ss'=true->H' d=some (.dK (wts ss' 1 []))->Q (.ref d) H')
inductive qL (K:PySem.W.Frag) (vs:List V) (H:Hp) (Q:VK) (x3_:XK):Prop
 | mk (a:Addr) (ss:List Str) (h0_:vs=[.ref a]) (h1_:SqL K H a (ss.map V.str)) (h2_:ss.length<=1000) (h3_:∀ (d:Addr) H',aO H H'->H d=none->H' d=some (.dK (mks ss []))->Q (.ref d) H')
abbrev aFv:List Str:=["has","require","names","free","is_free","bits","names_of"]
inductive WAt (C:Addr) (H:Hp) (p:Addr) (kvs:List (Key×V)):Prop
 | mk (dx:_) (fs:_) (dw:_) (o:_) (h0_:H p=some (.ins C dx fs)) (h1_:(∀ m∈aFv,fs.lookup m=none)) (h2_:fs.lookup ("weights" : Str)=some (.ref dw)) (h3_:H dw=some (.frz o (.dK kvs)))
def aBp (x:V):Prop:=(∃ z:Str,x=.str z∧z.length<=1000)∨x=.non∨x=.int 5
def eA (kvs:List (Key×V)):V->Bool
 | .str z=>aZ z&&(dF kvs (Sum.inr z)).isSome
 | _=>false
inductive aJy (K:PySem.W.Frag) (C:Addr) (vs:List V) (H:Hp) (Q:VK) (x3_:XK):Prop
 | mk (p:Addr) (x:V) (kvs:List (Key×V)) (h0_:vs=[.ref p,x]) (h1_:aBp x) (h2_:WAt C H p kvs) (h3_:∀ H',aO H H'->Q (.bl (eA kvs x)) H')
inductive lH (K:PySem.W.Frag) (C:Addr) (cl:Why->Addr) (vs:List V) (H:Hp) (Q:VK) (E:XK):Prop
 | mk (p b:Addr) (xs:List V) (kvs:List (Key×V)) (h0_:vs=[.ref p,.ref b]) (h1_:SqL K H b xs) (h2_:(∀ x∈xs,aBp x)) (h3_:WAt C H p kvs) (h4_:∀ H',aO H H'->ways cl (if xs.all (eA kvs)=true then none else some .noDeed) (Q .non H') E H')
def SameBut (x:Addr) (H H':Hp):Prop:=∀ b o,b≠x->H b=some o->H' b=some o
inductive aEp (K:PySem.W.Frag) (C:Addr) (cl:Why->Addr) (vs:List V) (H:Hp) (Q:VK) (E:XK):Prop
 | mk (x a:Addr) (y:V) (dx:Addr) (ss fs:List Str) (h0_:vs=[.ref x,.ref a,y]) (h1_:H x=some (.ins C dx [])) (h2_:SqL K H a (ss.map V.str)) (h3_:((y=.non∧fs=[])∨∃ b,y=.ref b∧SqL K H b (fs.map V.str))) (h4_:qG ss) (h5_:qG fs) (h6_:fs.length<=1000) (h7_:∀ H',SameBut x H H'->ways cl (lA ss fs) (∀ (dw df:Addr) (o:Obj) (ss':List Str),H' x=some (.ins C dx [("weights",.ref dw),("free_marks",.ref df)])->H' dw=some (.frz o (.dK (wts ss' 1 [])))->H' df=some (.dK (mks fs []))->ss'.Perm ss->sortedS ss'=true->Q .non H') E H')
section
variable {P:Program}{w:World}{K:PySem.W.Frag}{mg:Str->Option Value}{base:Heap}
theorem okE {x qual:Str}{st:Stmt}{f:Addr}{fd:FuncData}{N ps:List Str}{k:Nat}{sp:Sp}(F:Fun K x qual st f fd) (S:aR N ps (aB st)) (len:∀ vs H Q E,sp vs H Q E->vs.length=ps.length)
  (hbody:∀ (cdv:Value) (A:Around) (outer:List Env) (s:Shared) (H:Hp) (vs:List V) (Q:VK) (E:XK),cL k (A.deeper (envOfC qual (aB st) s.heap.objs.size f cdv))->sp vs H Q E ->
   (gB (CXE P w) P w K mg base N qual (aB st) f cdv A outer s H E).Body E ->
   ∃ t,PSs (gB (CXE P w) P w K mg base N qual (aB st) f cdv A outer s H E) (aG st) t∧t { nx:=fun _ H'=>Q .non H',rt:=Q } (fV N vs) H):bE P w K mg base (CXE P w) (k+1) f fd ps sp:=by
 obtain⟨oc,od,kV,doc,pm,an,cdv,ct,osl,rfl,lk,hcd⟩:=F.ex;exact uK lk hcd S len fun A outer s H vs Q E hr hsp=>hbody cdv A outer s H vs Q E hr hsp qQ
structure aHb (K:PySem.W.Frag) (x qual:Str) (st:Stmt) (f:Addr) (fd:FuncData):Prop where
 ex:∃ (oc:Value) (od:Option Addr) (dV kV doc pm:Value) (an:Option Addr) (cdv ct:Value) (osl:Array (Option Value)),
  fd=PySem.W.fnOf x qual (aH st) (aG st) (aB st) dV kV doc pm an cdv ct∧K.lookup f=some ⟨oc,od,.func fd,osl⟩∧PySem.W.codeIn K cdv qual=true
 kp:PySem.W.keepIn K (.ref f)=true
theorem aNn {x qual:Str}{st:Stmt}{f:Addr}{fd:FuncData}{N ps:List Str}{k:Nat}{sp:Sp}(F:aHb K x qual st f fd) (S:aR N ps (aB st)) (len:∀ vs H Q E,sp vs H Q E->vs.length=ps.length)
  (hbody:∀ (cdv:Value) (A:Around) (outer:List Env) (s:Shared) (H:Hp) (vs:List V) (Q:VK) (E:XK),cL k (A.deeper (envOfC qual (aB st) s.heap.objs.size f cdv))->sp vs H Q E ->
   (gB (CXE P w) P w K mg base N qual (aB st) f cdv A outer s H E).Body E ->
   ∃ t,PSs (gB (CXE P w) P w K mg base N qual (aB st) f cdv A outer s H E) (aG st) t∧t { nx:=fun _ H'=>Q .non H',rt:=Q } (fV N vs) H):bE P w K mg base (CXE P w) (k+1) f fd ps sp:=by
 obtain⟨oc,od,dV,kV,doc,pm,an,cdv,ct,osl,rfl,lk,hcd⟩:=F.ex;exact uK lk hcd S len fun A outer s H vs Q E hr hsp=>hbody cdv A outer s H vs Q E hr hsp qQ
end
end Ky
namespace Ky
open PySem L2 PySem.Spec PyProof.Rows PySem.W
abbrev Dr:=Str×Str×Str
structure cQ (H:Hp) (d:Addr) (ds:List Dr):Prop where
 ex:∃ ts:List Addr,H d=some (.lst (ts.map V.ref))∧ts.length=ds.length∧∀ (i:Nat) (t:Addr) (x:Dr),ts[i]?=some t->ds[i]?=some x->H t=some (.tup [.str x.1,.str x.2.1,.str x.2.2])
theorem cQ.same {H H':Hp}{d:Addr}{ds:List Dr}(D:cQ H d ds) (sm:aO H H'):cQ H' d ds:=by
 obtain⟨ts,h1,h2,h3⟩:=D.ex;exact⟨ts,sm _ _ h1,h2,fun i t x a b=>sm _ _ (h3 i t x a b)⟩
theorem smu {H:Hp}{p:Addr}{o:HO}(h:H p=none):aO H (upd H p o):=fun b u e=>by
 rw[aI (aF e h)];exact e
theorem kE {n:Nat}(h:n<=16000000):n<=sizeLine:=Nat.le_trans h (by decide)
def eU (ds:List Dr):List Str:=ds.flatMap fun x=>[x.1,x.2.2]
def cV (b:Str) (es:List Str) (ds:List Dr):List Str:=b::es++eU ds
theorem rZ {ds:List Dr}{i:Nat}{x:Dr}(h:ds[i]?=some x):eU (ds.take (i+1))=eU (ds.take i)++[x.1]++[x.2.2]:=by
 unfold eU;rw[List.take_succ,h]
 simp
theorem lZ (ds:List Dr):(eU ds).length=2*ds.length:=by
 induction ds with
 | nil=>rfl
 | cons x r ih => 
  have e:eU (x::r)=[x.1,x.2.2]++eU r:=rfl;have h2:([x.1,x.2.2]:List Str).length=2:=rfl;rw[e,List.length_append,ih,h2,List.length_cons];omega
inductive aAn (vs:List V) (H:Hp) (Q:VK) (E:XK):Prop
 | mk (b:Str) (e d:Addr) (es:List Str) (ds:List Dr) (h0_:vs=[.str b,.ref e,.ref d]) (h1_:H e=some (.lst (es.map V.str))) (h2_:cQ H d ds) (h3_:es.length<=1000) (h4_:ds.length<=1000)
  (h5_:∀ (p:Addr) H',aO H H'->H p=none->H' p=some (.lst ((cV b es ds).map V.str))->Q (.ref p) H')
def iK (ss:List Str):Option Why:=if ss.all aZ=true then none else some .noName
inductive qY (K:PySem.W.Frag) (cl:Why->Addr) (vs:List V) (H:Hp) (Q:VK) (E:XK):Prop
 | mk (a:Addr) (ss:List Str) (h0_:vs=[.ref a]) (h1_:SqL K H a (ss.map V.str)) (h2_:qG ss) (h3_:∀ H',aO H H'->ways cl (iK ss) (Q .non H') E H')
theorem sW {ss:List Str}{i:Nat}(h:(ss.take i).all aZ=true):iK ss=iK (ss.drop i):=by
 unfold iK
 have e:ss.all aZ=(ss.drop i).all aZ:=by
  conv=>lhs; rw[← List.take_append_drop i ss]
  rw[List.all_append,h,Bool.true_and]
 rw[e]
def inn (ds:List Dr) (z:Str):List (Key×V):=ds.filterMap fun x=>if x.1=z then some (Sum.inr x.2.1,V.str x.2.2) else none
theorem aJd (ds:List Dr) (z:Str):(inn ds z).length<=ds.length:=List.length_filterMap_le ..
theorem xO {ds:List Dr}{i:Nat}{x:Dr}(h:ds[i]?=some x) (z:Str):inn (ds.take (i+1)) z=inn (ds.take i) z++(if x.1=z then [(Sum.inr x.2.1,V.str x.2.2)] else []):=by
 unfold inn;rw[List.take_succ,h,List.filterMap_append]
 by_cases e:x.1=z
 ·simp[e]
 ·simp[e]
theorem aBs {kvs:List (Key×V)}{k:Key}(h:∀ p∈kvs,p.1≠k):dF kvs k=none:=by
 unfold dF;rw[List.find?_eq_none.mpr (fun p hp=>by simpa using h p hp)];rfl
theorem xP {ds:List Dr}{z y:Str}(h:∀ x∈ds,x.1=z->x.2.1≠y):dF (inn ds z) (Sum.inr y)=none:=by
 refine aBs fun p hp=>?_;obtain⟨x,hx,e⟩:=List.mem_filterMap.mp hp
 by_cases ez:x.1=z
 ·rw[if_pos ez] at e;cases e;exact fun q=>h x hx ez (Sum.inr.inj q)
 ·rw[if_neg ez] at e;cases e
def Apart (ds:List Dr):Prop:=(ds.map fun x=>(x.1,x.2.1)).Nodup
theorem Apart.at {ds:List Dr}(h:Apart ds){i:Nat}{x:Dr}(hx:ds[i]?=some x):∀ y∈ds.take i,y.1=x.1->y.2.1≠x.2.1:=by
 intro y hy e1 e2;obtain⟨j,hj,ej⟩:=List.mem_iff_getElem.mp hy;rw[List.length_take] at hj;have hi:i<ds.length:=(List.getElem?_eq_some_iff.mp hx).1;have hji:j<i:=by omega
 have ey:ds[j]?=some y:=by
  rw[List.getElem_take] at ej;rw[List.getElem?_eq_getElem (by omega),ej]
 have:=(List.getElem?_inj (i:=j) (j:=i) (by rw[List.length_map]; omega) h).mp (by rw[List.getElem?_map,List.getElem?_map,ey,hx]; show some (y.1,y.2.1)=some (x.1,x.2.1); rw[e1,e2])
 omega
theorem lB (kvs:List (Key×V)) (k:Key):(kvs.any fun kv=>decide (kv.1=k))=(kvs.map (·.1)).any fun j=>decide (j=k):=by
 rw[List.any_map];rfl
theorem aCc {kvs kvs':List (Key×V)}(k:Key) (v v':V) (h:kvs.map (·.1)=kvs'.map (·.1)):(eB kvs k v).map (·.1)=(eB kvs' k v').map (·.1):=by
 have m:∀ (l:List (Key×V)) (u:V),(l.map fun kv=>if kv.1=k then (kv.1,u) else kv).map (·.1)=l.map (·.1):=fun l u=>by
  rw[List.map_map];refine List.map_congr_left fun p _=>?_;show (if p.1=k then (p.1,u) else p).1=p.1
  split <;> rfl
 unfold eB;rw[lB,lB,h]
 by_cases q:((kvs'.map (·.1)).any fun j=>decide (j=k))=true
 ·rw[if_pos q,if_pos q,m,m,h]
 ·rw[if_neg q,if_neg q,List.map_append,List.map_append,h];rfl
theorem xH:∀ (a:List Str) (z:Str) (k:List (Key×V)),mks (a++[z]) k=eB (mks a k) (Sum.inr z) (.bl true)
 | [],z,k=>rfl
 | s::r,z,k=>xH r z _
structure dU (H:Hp) (l:Addr) (rs:List Str) (ds:List Dr) (kvs:List (Key×V)) (g:Str->Addr):Prop where
 dk:H l=some (.dK kvs)
 keys:kvs.map (·.1)=(mks rs []).map (·.1)
 val:∀ z∈rs,dF kvs (Sum.inr z)=some (.ref (g z))
 dd:∀ z∈rs,H (g z)=some (.dK (inn ds z))
 inj:∀ z∈rs,∀ y∈rs,g z=g y->z=y
 ne:∀ z∈rs,g z≠l
theorem dU.same {H H':Hp}{l:Addr}{rs:List Str}{ds:List Dr}{kvs:List (Key×V)}{g:Str->Addr}(L:dU H l rs ds kvs g) (sm:aO H H'):dU H' l rs ds kvs g:=
 ⟨sm _ _ L.dk,L.keys,L.val,fun z hz=>sm _ _ (L.dd z hz),L.inj,L.ne⟩
theorem dU.more {H:Hp}{l d:Addr}{rs:List Str}{kvs:List (Key×V)}{g:Str->Addr}(L:dU H l rs [] kvs g) (hd:H d=none) (z:Str) :
  dU (upd (upd H d (.dK [])) l (.dK (eB kvs (Sum.inr z) (.ref d)))) l (rs++[z]) [] (eB kvs (Sum.inr z) (.ref d)) (fun y=>if y=z then d else g y):=by
 have dl:d≠l:=fun e=>by rw[e,L.dk] at hd; cases hd
 have gd:∀ y∈rs,g y≠d:=fun y hy e=>by have:=L.dd y hy; rw[e,hd] at this; cases this
 have mem:∀ y∈rs++[z],y≠z->y∈rs:=fun y hy n=>(List.mem_append.mp hy).resolve_right fun q=>n (List.mem_singleton.mp q);refine⟨aD,?_,fun y hy=>?_,fun y hy=>?_,fun y hy x hx e=>?_,fun y hy=>?_⟩
 ·rw[xH]; exact aCc _ _ _ L.keys
 ·rw[jZ]
  by_cases e:y=z
  ·subst e;rw[if_pos rfl,if_pos rfl]
  ·rw[if_neg (fun q=>e (Sum.inr.inj q)),if_neg e];exact L.val y (mem y hy e)
 ·by_cases e:y=z
  ·subst e;rw[if_pos rfl,aI dl,aD];rfl
  ·rw[if_neg e,aI (L.ne y (mem y hy e)),aI (gd y (mem y hy e))];exact L.dd y (mem y hy e)
 ·by_cases e1:y=z
  ·by_cases e2:x=z
   ·rw[e1,e2]
   ·rw[if_pos e1,if_neg e2] at e;exact absurd e.symm (gd x (mem x hx e2))
  ·by_cases e2:x=z
   ·rw[if_neg e1,if_pos e2] at e;exact absurd e (gd y (mem y hy e1))
   ·rw[if_neg e1,if_neg e2] at e;exact L.inj y (mem y hy e1) x (mem x hx e2) e
 ·by_cases e:y=z
  ·rw[if_pos e]; exact dl
  ·rw[if_neg e]; exact L.ne y (mem y hy e)
theorem dU.door {H:Hp}{l:Addr}{rs:List Str}{ds:List Dr}{kvs:List (Key×V)}{g:Str->Addr}{i:Nat}{x:Dr}(L:dU H l rs (ds.take i) kvs g) (hx:ds[i]?=some x) (hr:x.1∈rs) (ha:Apart ds) :
  dU (upd H (g x.1) (.dK (eB (inn (ds.take i) x.1) (Sum.inr x.2.1) (.str x.2.2)))) l rs (ds.take (i+1)) kvs g:=by
 refine⟨?_,L.keys,L.val,fun z hz=>?_,L.inj,L.ne⟩
 ·rw[aI (Ne.symm (L.ne _ hr))]; exact L.dk
 ·by_cases e:z=x.1
  ·subst e;rw[aD,xO hx,if_pos rfl,aEw _ (xP (ha.at hx))]
  ·rw[aI (fun q=>e (L.inj z hz _ hr q)),xO hx,if_neg (fun q=>e q.symm),List.append_nil];exact L.dd z hz
inductive aAr (K:PySem.W.Frag) (vs:List V) (H:Hp) (Q:VK) (E:XK):Prop
 | mk (a d:Addr) (rs:List Str) (ds:List Dr) (h0_:vs=[.ref a,.ref d]) (h1_:SqL K H a (rs.map V.str)) (h2_:cQ H d ds) (h3_:rs.length<=1000) (h4_:ds.length<=1000) (h5_:∀ x∈ds,x.1∈rs) (h6_:Apart ds)
  (h7_:∀ (l:Addr) (kvs:List (Key×V)) (g:Str->Addr) H',aO H H'->H l=none->(∀ z∈rs,H (g z)=none)->dU H' l rs ds kvs g->Q (.ref l) H')
theorem aAv {X:Cx}{st:Stmt}:PS X st (fun _ _ _=>False):=fun _ _ _ _ _ _ h=>h.elim
def eP (ds:List Dr) (ms:List Str):List Str:=ds.map (·.2.1)++ms
abbrev aKc:List Str:=["deeds","begin","rooms","ends","knows","require_room","at","to","is_end","goes","behind"]
abbrev aKd (l dd e k:Addr) (b:Str):List (Str×V):=[("leads",.ref l),("deeds_made_of",.ref dd),("first_room",.str b),("end_marks",.ref e),("known_marks",.ref k)]
theorem lS (l dd e k:Addr) (b:Str):∀ m∈aKc,(aKd l dd e k b).lookup m=none:=by
 have h:∀ m∈aKc,(m==("leads" : Str))=false∧(m==("deeds_made_of" : Str))=false∧(m==("first_room" : Str))=false∧(m==("end_marks" : Str))=false∧(m==("known_marks" : Str))=false:=by decide +kernel
 intro m hm;obtain⟨h1,h2,h3,h4,h5⟩:=h m hm;simp only[List.lookup,h1,h2,h3,h4,h5]
structure MAt (CM:Addr) (H:Hp) (x dx l dd e k:Addr) (b:Str) (es kn:List Str) (ds:List Dr) (kvs:List (Key×V)) (g:Str->Addr):Prop where
 ins:H x=some (.ins CM dx (aKd l dd e k b))
 lead:dU H l (cV b es ds) ds kvs g
 ends:H e=some (.dK (mks es []))
 know:H k=some (.dK (mks kn []))
theorem MAt.same {CM:Addr}{H H':Hp}{x dx l dd e k:Addr}{b:Str}{es kn:List Str}{ds:List Dr}{kvs:List (Key×V)}{g:Str->Addr}(M:MAt CM H x dx l dd e k b es kn ds kvs g) (sm:aO H H'):MAt CM H' x dx l dd e k b es kn ds kvs g:=
 ⟨sm _ _ M.ins,M.lead.same sm,sm _ _ M.ends,sm _ _ M.know⟩
structure sX (K:PySem.W.Frag) (CM:Addr):Prop where
 cl:Cls K CM
 nl:fO K CM "leads"
 nd:fO K CM "deeds_made_of"
 nf:fO K CM "first_room"
 ne:fO K CM "end_marks"
 nk:fO K CM "known_marks"
inductive aAp (K:PySem.W.Frag) (C CM:Addr) (vs:List V) (H:Hp) (Q:VK) (E:XK):Prop
 | mk (x dd e d dx:Addr) (b:Str) (y:V) (es ms:List Str) (ds:List Dr) (wk:List (Key×V)) (h0_:vs=[.ref x,.ref dd,.str b,.ref e,.ref d,y]) (h1_:H x=some (.ins CM dx [])) (h2_:WAt C H dd wk)
  (h3_:H e=some (.lst (es.map V.str))) (h4_:cQ H d ds) (h5_:(y=.non∧ms=[])∨∃ m,y=.ref m∧H m=some (.lst (ms.map V.str)))
  (h6_:es.length<=200∧ds.length<=200∧ms.length<=200) (h7_:(cV b es ds).all aZ=true) (h8_:((eP ds ms).map V.str).all (eA wk)=true) (h9_:qG (eP ds ms)) (h10_:Apart ds) (h11_:(mks (cV b es ds) []).length<=60)
  (h12_:∀ (l e' k:Addr) (kvs:List (Key×V)) (g:Str->Addr) H',SameBut x H H'->MAt CM H' x dx l dd e' k b es (eP ds ms) ds kvs g->Q .non H')
theorem rA {ss:List Str}(h:ss.all aZ=true):qG ss:=fun z hz=>Nat.le_trans (nW (List.all_eq_true.mp h z hz)) (by decide)
theorem aGm {b:Str}{es:List Str}{ds:List Dr}:∀ x∈ds,x.1∈cV b es ds:=fun x hx=>List.mem_append_right _ (List.mem_flatMap.mpr ⟨x,hx,by simp⟩)
theorem wM (b:Str) (es:List Str) (ds:List Dr):(cV b es ds).length=1+es.length+2*ds.length:=by
 unfold cV;rw[List.length_append,lZ,List.length_cons];omega
inductive MM (CM:Addr) (H:Hp) (x dd:Addr) (b:Str) (es kn:List Str) (ds:List Dr):Prop
 | mk (dx l e k:Addr) (kvs:List (Key×V)) (g:Str->Addr) (m:MAt CM H x dx l dd e k b es kn ds kvs g)
theorem MM.same {CM:Addr}{H H':Hp}{x dd:Addr}{b:Str}{es kn:List Str}{ds:List Dr}(M:MM CM H x dd b es kn ds) (sm:aO H H'):MM CM H' x dd b es kn ds:=by
 obtain⟨dx,l,e,k,kvs,g,m⟩:=M;exact⟨dx,l,e,k,kvs,g,m.same sm⟩
def iI (ds:List Dr) (z y:Str):Option Str:=(ds.find? fun x=>decide (x.1=z)&&decide (x.2.1=y)).map (·.2.2)
theorem aJb {x:Dr}{r:List Dr}{z:Str}(e:x.1=z):inn (x::r) z=(Sum.inr x.2.1,V.str x.2.2)::inn r z:=by simp[inn,e]
theorem aJc {x:Dr}{r:List Dr}{z:Str}(e:¬ x.1=z):inn (x::r) z=inn r z:=by simp[inn,e]
theorem aJa (ds:List Dr) (z y:Str):dF (inn ds z) (Sum.inr y)=(iI ds z y).map V.str:=by
 induction ds with
 | nil=>rfl
 | cons x r ih=>
  unfold iI at ih ⊢;rw[List.find?_cons]
  by_cases e:x.1=z
  ·rw[aJb e]
   by_cases e2:x.2.1=y
   ·rw[dY (by show Sum.inr x.2.1=_; rw[e2]),decide_eq_true e,decide_eq_true e2];rfl
   ·have:dF ((Sum.inr x.2.1,V.str x.2.2)::inn r z) (Sum.inr y)=dF (inn r z) (Sum.inr y):=by
     unfold dF;rw[List.find?_cons,decide_eq_false (fun q=>e2 (Sum.inr.inj q))]
    rw[this,ih,decide_eq_true e,decide_eq_false e2];rfl
  ·rw[aJc e,decide_eq_false e,Bool.false_and,ih]
inductive wF (CM:Addr) (vs:List V) (H:Hp) (Q:VK) (E:XK):Prop
 | mk (x dd:Addr) (b:Str) (es kn:List Str) (ds:List Dr) (h0_:vs=[.ref x]) (h1_:MM CM H x dd b es kn ds) (h2_:Q (.str b) H)
def oV (o:Option Str):V:=(o.map V.str).getD .non
def lU (ds:List Dr) (kn:List Str) (z y:Str):Option Str:=if y∈kn then iI ds z y else some z
inductive aAq (CM:Addr) (vs:List V) (H:Hp) (Q:VK) (E:XK):Prop
 | mk (x dd:Addr) (b z y:Str) (es kn:List Str) (ds:List Dr) (h0_:vs=[.ref x,.str z,.str y]) (h1_:MM CM H x dd b es kn ds) (h2_:z∈cV b es ds) (h3_:Q (oV (lU ds kn z y)) H)
theorem aAa {ds:List Dr}{b:Str}{es:List Str}{z y u:Str}(h:iI ds z y=some u):u∈cV b es ds:=by
 unfold iI at h;obtain⟨x,hx,rfl⟩:=Option.map_eq_some_iff.mp h;exact List.mem_append_right _ (List.mem_flatMap.mpr ⟨x,List.mem_of_find?_eq_some hx,by simp⟩)
theorem aGh {ds:List Dr}{kn:List Str}{b:Str}{es:List Str}{z y u:Str}(hz:z∈cV b es ds) (h:lU ds kn z y=some u):u∈cV b es ds:=by
 unfold lU at h
 by_cases q:y∈kn
 ·rw[if_pos q] at h; exact aAa h
 ·rw[if_neg q] at h; cases h; exact hz
theorem cQ.push {H:Hp}{d t:Addr}{ds:List Dr}(D:cQ H d ds) (ht:H t=none) (x:Dr):∃ xs,H d=some (.lst xs)∧xs.length=ds.length∧cQ (upd (upd H t (.tup [.str x.1,.str x.2.1,.str x.2.2])) d (.lst (xs++[.ref t]))) d (ds++[x]):=by
 obtain⟨ts,h1,h2,h3⟩:=D.ex;refine⟨_,h1,by rw[List.length_map,h2],⟨ts++[t],?_,?_,fun i u y hu hy=>?_⟩⟩
 ·rw[aD,List.map_append]; rfl
 ·rw[List.length_append,List.length_append,h2]; rfl
 ·by_cases hi:i<ts.length
  ·rw[List.getElem?_append_left hi] at hu;rw[List.getElem?_append_left (by rw[← h2]; exact hi)] at hy;have e:=h3 i u y hu hy;rw[aI (fun z=>by rw[z,h1] at e; cases e),aI (aF e ht)];exact e
  ·have hl:i=ts.length:=by
    have:=(List.getElem?_eq_some_iff.mp hu).1
    rw[List.length_append] at this;simp only[List.length_cons,List.length_nil] at this;omega
   subst hl;rw[List.getElem?_append_right (Nat.le_refl _),Nat.sub_self] at hu;rw[h2,List.getElem?_append_right (Nat.le_refl _),Nat.sub_self] at hy;cases hu;cases hy;rw[aI (fun z=>by rw[z,h1] at ht; cases ht),aD]
theorem cQ.rev {H:Hp}{d:Addr}{ds:List Dr}(D:cQ H d ds):∃ xs,H d=some (.lst xs)∧xs.length=ds.length∧cQ (upd H d (.lst xs.reverse)) d ds.reverse:=by
 obtain⟨ts,h1,h2,h3⟩:=D.ex;refine⟨_,h1,by rw[List.length_map,h2],⟨ts.reverse,?_,?_,fun i u y hu hy=>?_⟩⟩
 ·rw[aD,List.map_reverse]
 ·rw[List.length_reverse,List.length_reverse,h2]
 ·have hi:i<ts.length:=by have:=(List.getElem?_eq_some_iff.mp hu).1; rw[List.length_reverse] at this; exact this
  rw[List.getElem?_reverse hi] at hu;rw[List.getElem?_reverse (by rw[← h2]; exact hi),← h2] at hy;have e:=h3 _ u y hu hy;rw[aI (fun z=>by rw[z,h1] at e; cases e)];exact e
def rJ (p:Nat->Bool) (ss:List Str) (i:Nat):List Str:=(List.range i).filterMap fun k=>if p k=true then ss[k]? else none
theorem hZ {p:Nat->Bool}{ss:List Str}{i:Nat}{z:Str}(h:ss[i]?=some z):rJ p ss (i+1)=rJ p ss i++(if p i=true then [z] else []):=by
 unfold rJ;rw[List.range_succ,List.filterMap_append]
 by_cases e:p i=true
 ·simp[e,h]
 ·simp[e]
theorem kT (p:Nat->Bool) (ss:List Str) (i:Nat):(rJ p ss i).length<=i:=by
 refine Nat.le_trans (List.length_filterMap_le ..) ?_;rw[List.length_range];exact Nat.le_refl _
theorem wU {p:Nat->Bool}{ss:List Str}{i:Nat}:∀ z∈rJ p ss i,z∈ss:=fun z hz=>by
 obtain⟨k,_,e⟩:=List.mem_filterMap.mp hz
 by_cases q:p k=true
 ·rw[if_pos q] at e; exact List.mem_of_getElem? e
 ·rw[if_neg q] at e; cases e
end Ky
namespace K22
open PySem L2 Ky
seal L2.PE L2.PS L2.PSs L2.PA L2.PT L2.PW L2.PG L2.PI L2.PTs L2.PO L2.PPs L2.OpR L2.IxR L2.CallR L2.MtM L2.MtR
def top (i:Nat):Stmt:=PySem.Challenge.pw_roomward_k22_rooms_come_to.main.body.getD i (.Pass ⟨0,0,0,0⟩)
abbrev lJ:Stmt:=top 18
abbrev lN:Stmt:=top 19
abbrev kJ:Stmt:=top 25
abbrev lK:Stmt:=top 26
abbrev iZ:Stmt:=top 27
abbrev oW:Stmt:=top 28
abbrev yS:Stmt:=top 29
abbrev oU:Stmt:=top 32
abbrev hV:Stmt:=top 33
abbrev oX:Stmt:=top 34
abbrev kQ:Stmt:=top 35
abbrev iF:Stmt:=top 38
abbrev mO:Stmt:=top 39
abbrev jB:Stmt:=top 40
abbrev kH:Stmt:=top 41
abbrev kO:Stmt:=top 43
abbrev tV:Stmt:=top 44
abbrev gS:Stmt:=top 45
abbrev iE:Stmt:=top 46
abbrev iB:Stmt:=top 47
abbrev dQ:Stmt:=top 48
abbrev iC:Stmt:=top 49
abbrev tU:Stmt:=top 50
abbrev gK:Stmt:=top 51
abbrev tS:Stmt:=top 52
abbrev jG:Stmt:=top 53
abbrev rB:Stmt:=top 54
abbrev tT:Stmt:=top 55
abbrev rC:Stmt:=top 56
abbrev pV:Stmt:=top 57
abbrev cU:Stmt:=top 58
abbrev jH:Stmt:=top 59
abbrev iD:Stmt:=aE yS 0
abbrev yR:Stmt:=aE yS 3
abbrev jA:Stmt:=aE yS 4
abbrev lX:Stmt:=aE kQ 0
abbrev pF:Stmt:=aE kQ 1
abbrev pG:Stmt:=aE kQ 2
abbrev pD:Stmt:=aE kQ 5
abbrev uF:Stmt:=aE kQ 10
abbrev sY:Stmt:=aE kH 0
abbrev oP:Stmt:=aE kH 1
abbrev oQ:Stmt:=aE kH 2
abbrev oO:Stmt:=aE kH 3
abbrev wAt:Stmt:=aE kH 4
abbrev wTo:Stmt:=aE kH 5
abbrev qT:Stmt:=aE kH 7
abbrev gH:Stmt:=aE kH 8
structure Txt (K:PySem.W.Frag) (mg:Str->Option Value):Prop where
 lett:∃ t,mg "LETTERS"=some (.str iU t)
 figu:∃ t,mg "FIGURES"=some (.str jR t)
 most:∃ t,mg "MOST_SIGNS"=some (.int 8 t)
 deeds:∃ t,mg "MOST_DEEDS"=some (.int 12 t)
 isi:mg "isinstance"=none
 str:mg "str"=none
 bool:mg "bool"=none
 int:mg "int"=none
 len:mg "len"=none
 all:mg "all"=none
 range:mg "range"=none
 sorted:mg "sorted"=none
 list:mg "list"=none
 enum:mg "enumerate"=none
section
variable {P:Program}{w:World}{K:PySem.W.Frag}{mg:Str->Option Value}{base:Heap}
theorem scM:aR ["_law_cell","_law_k","_law_one"] ["_law_cell","_law_k"] (aB kO):=⟨rfl,rfl,rfl,by decide +kernel,rfl,by decide +kernel,by decide +kernel⟩
theorem nU {f:Addr}{fd:FuncData}(F:Fun K "_law_mixed" "_law_mixed" kO f fd):bE P w K mg base CX0 1 f fd ["_law_cell","_law_k"] nK:=by
 refine F.ok scM (fun vs H Q E h=>?_) (fun cdv A outer s H vs Q E hr h=>?_)
 ·obtain⟨c,k,rfl,_⟩:=h;rfl
 ·obtain⟨c,k,rfl,q⟩:=h
  refine⟨_,aK (aW (i:=2) scM.nd rfl (Or.inl rfl) (aS cY (aS mV (aS dM (pv 0) (aS mV aN (pv 1))) aN) aN))
   (aL (bO (aS cY (aS mV (pv 2) (aS dM (aS dM (pv 2) (aS mV aN (pv 1))) aN)) aN))),?_⟩
  refine⟨_,rfl,_,rfl,_,_,rfl,rfl,.inl ⟨by decide,by decide⟩,_,_,rfl,rfl,_,_,rfl,rfl,.inr ⟨by decide,by decide⟩,_,_,rfl,rfl,(by show (0:Int)<2147483647; decide),?_⟩;have h0:0<=(c+7919*k)*48271%2147483647:=Int.emod_nonneg _ (by decide);have h1:(c+7919*k)*48271%2147483647<2147483647:=Int.emod_lt_of_pos _ (by decide);refine⟨_,rfl,_,rfl,_,rfl,_,_,rfl,rfl,.inl ⟨by decide,by decide⟩,_,_,rfl,rfl,_,_,rfl,rfl,_,_,rfl,rfl,.inl ⟨?_,?_⟩,_,_,rfl,rfl,(by show (0:Int)<2147483629; decide),q⟩
  ·exact Int.lt_of_lt_of_le (by decide) h0
  ·exact Int.lt_of_lt_of_le h1 (by decide)
theorem scC:aR ["_law_script","_law_k"] ["_law_script","_law_k"] (aB tV):=⟨rfl,rfl,rfl,by decide +kernel,rfl,by decide +kernel,by decide +kernel⟩
theorem aIq {f fM:Addr}{fd fdM:FuncData}(F:Fun K "_law_cell_at" "_law_cell_at" tV f fd) (T:Txt K mg) (FM:Fun K "_law_mixed" "_law_mixed" kO fM fdM) (bM:aX K fdM ["_law_cell","_law_k"] []) (mM:mg "_law_mixed" = some (.ref fM)) :
  bE P w K mg base CX0 2 f fd ["_law_script","_law_k"] (aEr K):=by
 have GM:bE P w K mg base CX0 1 fM fdM ["_law_cell","_law_k"] nK:=nU FM;refine F.ok scC (fun vs H Q E h=>?_) (fun cdv A outer s H vs Q E hr h=>?_)
 ·obtain⟨a,ns,k,rfl,_⟩:=h;rfl
 ·obtain⟨a,ns,k,rfl,hS,q⟩:=h
  refine⟨_,aK (dH (bX aFg (pv 1) (cH cK (by rfl) T.len PySem.boot_len (iT (pv 0) aJ)) (cN _))
    (aL (bO (bU GM hr rfl mM FM.kp bM .nil cC (iT (dJ cS (pv 0) (pv 1) (fun _ _=>rfl)) (iT (pv 1) aJ))))) cF)
   (aL (bO aN)),?_⟩
  refine⟨_,rfl,_,rfl,a,_,rfl,.inl hS,_,_,rfl,rfl,_,rfl,?_⟩;rw[List.length_map];refine eQ (fun hk=>?_) (fun hk=>?_)
  ·have hk':k<ns.length:=by have:=of_decide_eq_true hk; omega
   have ek:ns[k]?=some ns[k]:=by simp[hk']
   refine⟨_,rfl,_,rfl,a,_,_,_,rfl,rfl,hS,gR (v:=V.int ns[k]) (by rw[List.getElem?_map,ek]; rfl),_,rfl,ns[k],k,rfl,?_⟩;have e:RW.cellAt ns k=RW.mixed ns[k] k:=by unfold RW.cellAt; rw[ek]
   rw[← e];exact q
  ·have hk':¬ k<ns.length:=by intro z; exact hk (decide_eq_true (by omega))
   have e:RW.cellAt ns k=0:=by unfold RW.cellAt; rw[List.getElem?_eq_none (by omega)]
   rw[e] at q;exact q
theorem scN:aR ["thing","signs"] ["thing"] (aB kJ):=⟨rfl,rfl,rfl,by decide +kernel,rfl,by decide +kernel,by decide +kernel⟩
theorem vJ {f:Addr}{fd:FuncData}(F:Fun K "is_name" "is_name" kJ f fd) (T:Txt K mg):bE P w K mg base CX0 1 f fd ["thing"] (uZ K):=by
 obtain⟨tl,mL⟩:=T.lett;obtain⟨tf,mF⟩:=T.figu;obtain⟨tm,mM⟩:=T.most;refine F.ok scN (fun vs H Q E h=>?_) (fun cdv A outer s H vs Q E hr h=>?_)
 ·obtain⟨x,rfl,_⟩:=h;rfl
 ·obtain⟨x,rfl,h⟩:=h
  refine⟨_,aK (dH (wR (mU (rF (cH aGr (by rfl) T.isi Bo.isinstance (iT (pv 0) (iT (aAx (v:=.ty "str") (by rfl) T.str Bo.str rfl) aJ)))))
     (wR (mU (wS (pv 0) (fun _=>rfl)))
     (vD (bX pX (cH vQ (by rfl) T.len Bo.len (iT (pv 0) aJ)) (iS (v:=.int 8) (by rfl) mM ⟨_,rfl⟩) (cN _))))).pt
    (aL (bO rM)) cF)
   (aK (aW (i:=1) scN.nd rfl (Or.inr rfl) (aS rP (iS (v:=.str iU) (by rfl) mL ⟨_,rfl⟩) (iS (v:=.str jR) (by rfl) mF ⟨_,rfl⟩)))
   (aL (bO (yZ (qN tZ (dJ aMa (pv 0) aN (fun _ _=>rfl)) (iS (v:=.str iU) (by rfl) mL ⟨_,rfl⟩) (by with_unfolding_all rfl))
    (yY (cH (aDp rfl) (by rfl) T.all Bo.all (iT (eL (N':=["sign","signs"]) (nown:=1) (js:=[1]) rfl
     ⟨rfl,by decide +kernel,by decide +kernel⟩ (cJ (aB kJ) ["thing","signs"] rfl rfl (by decide +kernel))
     ⟨fun _ _ _ _=>aP (i:=0) (show List.Nodup (["sign","signs"]:List Str) by decide +kernel) rfl (Or.inl rfl) (.inr rfl),fun _ _ _ _=>eE,fun _ _ _ _=>qN tZ (pv 0) (pv 1) (by with_unfolding_all rfl)⟩
     (aLg (pv 0))) aJ))))))),?_⟩
  rcases h with⟨z,rfl,hz,q⟩ | ⟨t,ty,hk,q⟩
  ·refine⟨_,rfl,.str z,.ty "str",.type "str",.type "str",true,rfl,yV,nF.str z,rfl,_,rfl,hU ?_⟩;refine⟨_,rfl,_,⟨hz,rfl⟩,?_⟩
   by_cases h0:z.length=0
   ·rw[h0];refine jU (jU ?_)
    have e:aZ z=false:=by
     have:z.cps.toList.length=0:=by rw[Array.length_toList]; exact h0
     unfold aZ nX;rw[List.length_eq_zero_iff.mp this];rfl
    have q':=q H (aO.refl H);rw[e] at q';exact q'
   ·have hb:((z.length:Int) != 0)=true:=by simp[h0]
    rw[hb];refine hU ⟨_,rfl,z,rfl,hz,_,_,rfl,rfl,_,rfl,?_⟩;refine eQ (fun h8=>?_) (fun h8=>?_)
    ·have h8':8<z.length:=by have:=of_decide_eq_true h8; omega
     have e:aZ z=false:=by
      have hl:z.cps.toList.length=z.length:=by simp[Str.length]
      unfold aZ nX;rw[decide_eq_false (by omega)];rfl
     have q':=q H (aO.refl H);rw[e] at q';exact q'
    ·have h8':z.length<=8:=by
      by_cases z8:z.length<=8
      ·exact z8
      ·exact absurd (decide_eq_true (show (8:Int)<(z.length:Int) by omega)) h8
     have hl:z.cps.toList.length=z.length:=by simp[Str.length]
     obtain⟨c,cs,ec⟩:∃ c cs,z.cps.toList=c::cs:=by
      cases e:z.cps.toList with
      | nil=>rw[e] at hl; exact absurd hl.symm h0
      | cons c cs=>exact⟨c,cs,rfl⟩
     have hat:atI z.cps.toList 0=some c:=by
      rw[ec];exact gR (j:=0) rfl
     have hn:aZ z=(kY c&&z.cps.toList.all nB):=by
      unfold aZ nX;rw[decide_eq_true (show 1<=z.cps.toList.length∧z.cps.toList.length<=8 by omega)];rw[ec];rfl
     refine⟨_,_,rfl,rfl,by decide +kernel,?_⟩;refine⟨_,rfl,z,0,c,rfl,rfl,hz,hat,_,_,rfl,rfl,_,rfl,?_⟩;rw[StrLaws.found_one,pY];refine eQ (fun hc=>?_) (fun hc=>?_)
     ·refine⟨_,rfl,z,rfl,fun D hD=>aJm (x:=z) (fun i σ' H'=>∃ v,σ'=[v,some (.str (iU++jR))]∧H' D=some (.lst (((z.cps.toList.take i).map nB).map V.bl))∧aO H H') ?_ ?_ ?_⟩
      ·exact⟨none,rfl,aD,fun b o e=>by rw[aI (aF e hD)]; exact e⟩
      ·rintro i d σ' H' hd ⟨v,rfl,hl',sm⟩;refine⟨_,rfl,_,rfl,_,_,rfl,rfl,_,hl',?_,some (aAu d),rfl,?_,?_⟩
       ·refine aU ?_;rw[List.length_map,List.length_map,List.length_take];omega
       ·rw[aD,StrLaws.found_one,aCw];have hd':z.cps.toList[i]?=some d:=by rw[Array.getElem?_toList]; exact hd
        rw[List.take_succ,hd']
        simp
       ·intro b o e;have e':=sm b o e;rw[aI (aF e hD)];exact e'
      ·rintro σ' H' ⟨v,rfl,hl',sm⟩;refine⟨D,_,rfl,SqL.of hl',?_⟩;have q':=q H' sm;rw[hn,hc,Bool.true_and] at q'
       have ea:((z.cps.toList.take z.cps.size).map nB).all id=z.cps.toList.all nB:=by
        rw[List.take_of_length_le (by simp),List.all_map];rfl
       rw[ea];exact q'
     ·have q':=q H (aO.refl H);rw[hn,Bool.eq_false_iff.mpr hc,Bool.false_and] at q';exact q'
  ·refine⟨_,rfl,x,.ty "str",.type "str",t,false,rfl,yV,ty,hk,_,rfl,jU (jU ?_)⟩;exact q
theorem scW:aR ["names","weights","weight","name"] ["names"] (aB iZ):=⟨rfl,rfl,rfl,by decide +kernel,rfl,by decide +kernel,by decide +kernel⟩
theorem zB {f:Addr}{fd:FuncData}(F:Fun K "weights_of" "weights_of" iZ f fd) (T:Txt K mg):bE P w K mg base CX0 1 f fd ["names"] (tK K):=by
 refine F.ok scW (fun vs H Q E h=>?_) (fun cdv A outer s H vs Q E hr h=>?_)
 ·obtain⟨a,ss,rfl,_⟩:=h;rfl
 ·obtain⟨a,ss,rfl,hS,h64,q⟩:=h;have hu:=jS hr
  refine⟨_,aK (aW (i:=1) scW.nd rfl (Or.inl rfl) kU)
   (aK (aW (i:=2) scW.nd rfl (Or.inl rfl) aN)
   (aK (eJ PassesOwn.never rfl (dC (cH oC (by rfl) T.sorted Bo.sorted (pac (pv 0) aJ))) (aP (i:=3) scW.nd rfl (Or.inl rfl))
    (aK (jL hu (pv 1) (pv 3) (pv 2) rfl) (aL (aW (i:=2) scW.nd rfl (Or.inl rfl) (aS mV (pv 2) aN)))))
   (aL (bO (pv 1))))),?_⟩
  intro d hd;have s0:aO H (upd H d (.dK [])):=fun b o e=>by rw[aI (aF e hd)]; exact e
  refine⟨_,rfl,a,ss,rfl,s0.seq hS,h64,fun p ss' hp pm so=>⟨p,rfl,⟨_,SqL.of aD⟩,?_⟩⟩;have hpd:p≠d:=fun z=>by rw[z,aD] at hp; cases hp
  have hpH:H p=none:=by rw[aI hpd] at hp; exact hp
  have hlen:ss'.length=ss.length:=pm.length_eq;refine dN (xs:=ss'.map V.str) (fun i σ H'=>∃ wv kvs nv,σ=[some (.ref a),some (.ref d),some (.int wv),nv]∧H' d=some (.dK kvs)∧H' p=some (.lst (ss'.map V.str))∧aO H H'∧kvs.length<=i∧wts (ss'.drop i) wv kvs=wts ss' 1 []) ?_ ?_ ?_ ?_
  ·exact⟨1,[],none,rfl,by rw[aI (Ne.symm hpd),aD],aD,fun b o e=>by rw[aI (aF e hpH),aI (aF e hd)]; exact e,Nat.le_refl _,rfl⟩
  ·rintro i σ H' _ ⟨wv,kvs,nv,rfl,h1,h2,h3,h4,h5⟩;exact SqL.of h2
  ·rintro i x σ H' hx ⟨wv,kvs,nv,rfl,h1,h2,h3,h4,h5⟩;rw[List.getElem?_map] at hx;cases hz:ss'[i]? with
   | none=>rw[hz] at hx; cases hx
   | some z=>
    rw[hz] at hx;cases hx;have hi:i<ss'.length:=(List.getElem?_eq_some_iff.mp hz).1;refine⟨_,rfl,_,rfl,_,rfl,d,_,rfl,pU.k (k:=Sum.inr z) h1 (aU (by omega)),?_⟩;refine⟨_,rfl,_,_,rfl,rfl,.inr ⟨by decide,by decide⟩,wv*2,eB kvs (Sum.inr z) (.int wv),some (.str z),rfl,aD,by rw[aI hpd]; exact h2,fun b o e=>?_,?_,?_⟩
    ·rw[aI (aF e hd)]; exact h3 b o e
    ·exact Nat.le_trans (dP _ _ _) (by omega)
    ·rw[← h5,List.drop_eq_getElem_cons hi];rw[(List.getElem?_eq_some_iff.mp hz).2];rfl
  ·rintro σ H' ⟨wv,kvs,nv,rfl,h1,h2,h3,h4,h5⟩;rw[List.length_map,List.drop_length] at h5;refine⟨_,rfl,q d ss' H' h3 hd pm so ?_⟩;rw[h1];exact congrArg (fun z=>some (HO.dK z)) h5
theorem scK:aR ["names","marks","name"] ["names"] (aB oW):=⟨rfl,rfl,rfl,by decide +kernel,rfl,by decide +kernel,by decide +kernel⟩
theorem aFl {f:Addr}{fd:FuncData}(F:Fun K "marks_of" "marks_of" oW f fd) (T:Txt K mg):bE P w K mg base CX0 1 f fd ["names"] (qL K):=by
 refine F.ok scK (fun vs H Q E h=>?_) (fun cdv A outer s H vs Q E hr h=>?_)
 ·obtain⟨a,ss,rfl,_⟩:=h;rfl
 ·obtain⟨a,ss,rfl,hS,hlen,q⟩:=h;have hu:=jS hr
  refine⟨_,aK (aW (i:=1) scK.nd rfl (Or.inl rfl) kU)
   (aK (eJ PassesOwn.never rfl (dC (pv 0)) (aP (i:=2) scK.nd rfl (Or.inl rfl)) (aL (jL hu (pv 1) (pv 2) rM rfl)))
   (aL (bO (pv 1)))),?_⟩
  intro d hd;have s0:aO H (upd H d (.dK [])):=fun b o e=>by rw[aI (aF e hd)]; exact e
  refine⟨_,rfl,a,rfl,⟨_,s0.seq hS⟩,?_⟩;refine dN (xs:=ss.map V.str) (fun i σ H'=>∃ kvs nv,σ=[some (.ref a),some (.ref d),nv]∧H' d=some (.dK kvs)∧aO H H'∧kvs.length<=i∧mks (ss.drop i) kvs=mks ss []) ?_ ?_ ?_ ?_
  ·exact⟨[],none,rfl,aD,s0,Nat.le_refl _,rfl⟩
  ·rintro i σ H' _ ⟨kvs,nv,rfl,h1,h3,h4,h5⟩;exact h3.seq hS
  ·rintro i x σ H' hx ⟨kvs,nv,rfl,h1,h3,h4,h5⟩;rw[List.getElem?_map] at hx;cases hz:ss[i]? with
   | none=>rw[hz] at hx; cases hx
   | some z=>
    rw[hz] at hx;cases hx;have hi:i<ss.length:=(List.getElem?_eq_some_iff.mp hz).1;refine⟨_,rfl,_,rfl,d,_,rfl,pU.k (k:=Sum.inr z) h1 (aU (by omega)),eB kvs (Sum.inr z) (.bl true),some (.str z),rfl,aD,fun b o e=>?_,?_,?_⟩
    ·rw[aI (aF e hd)]; exact h3 b o e
    ·exact Nat.le_trans (dP _ _ _) (by omega)
    ·rw[← h5,List.drop_eq_getElem_cons hi];rw[(List.getElem?_eq_some_iff.mp hz).2];rfl
  ·rintro σ H' ⟨kvs,nv,rfl,h1,h3,h4,h5⟩;rw[List.length_map,List.drop_length] at h5;refine⟨_,rfl,q d H' h3 hd ?_⟩;rw[h1];exact congrArg (fun z=>some (HO.dK z)) h5
end
end K22
namespace K22
open PySem L2 Ky
seal L2.PE L2.PS L2.PSs L2.PA L2.PT L2.PW L2.PG L2.PI L2.PTs L2.PO L2.PPs L2.OpR L2.IxR L2.CallR L2.MtM L2.MtR
structure Exc (K:PySem.W.Frag) (mg:Str->Option Value) (cl:Why->Addr):Prop where
 nn:mg "NoName"=some (.ref (cl .noName))
 nd:mg "NoDeed"=some (.ref (cl .noDeed))
 tt:mg "TwiceTold"=some (.ref (cl .twice))
 tm:mg "TooMany"=some (.ref (cl .tooMany))
 x:∀ k,yG K (cl k)
section
variable {P:Program}{w:World}{K:PySem.W.Frag}{mg:Str->Option Value}{base:Heap}
theorem scR:aR ["names","ahead","name"] ["names"] (aB lK):=⟨rfl,rfl,rfl,by decide +kernel,rfl,by decide +kernel,by decide +kernel⟩
theorem aCo {f fN:Addr}{fd fdN:FuncData}{cl:Why->Addr}(F:Fun K "refuse_names" "refuse_names" lK f fd) (T:Txt K mg) (Ex:Exc K mg cl)
  (FN:Fun K "is_name" "is_name" kJ fN fdN) (bN:aX K fdN ["thing"] []) (mN:mg "is_name" = some (.ref fN)) :
  bE P w K mg base (CXE P w) 2 f fd ["names"] (wD K cl):=by
 have GN:bE P w K mg base CX0 1 fN fdN ["thing"] (uZ K):=vJ FN T;obtain⟨tm,mD⟩:=T.deeds;refine okE F scR (fun vs H Q E h=>?_) (fun cdv A outer s H vs Q E hr h D=>?_)
 ·obtain⟨a,ss,rfl,_⟩:=h;rfl
 ·obtain⟨a,ss,rfl,hS,hsh,q⟩:=h;have hu:=jS hr
  refine⟨_,aK (dH (bX pX (cH cK (by rfl) T.len Bo.len (pac (pv 0) aJ)) (iS (v:=.int 12) (by rfl) mD ⟨_,rfl⟩) (cN _))
    (aL (iG D rfl (by rfl) Ex.tm (Ex.x .tooMany) (pac aQ aJ))) cF)
   (aK (aW (i:=1) scR.nd rfl (Or.inl rfl) kU)
   (aL (eJ PassesOwn.leaving rfl (dC (pv 0)) (aP (i:=2) scR.nd rfl (Or.inl rfl))
    (aK (dH (mU (rF (bU GN hr rfl mN FN.kp bN .nil cC (pac (pv 2) aJ)))) (aL (iG D rfl (by rfl) Ex.nn (Ex.x .noName) (pac aQ aJ))) cF)
    (aK (dH (rG (vH hu (pv 2) (pv 1))) (aL (iG D rfl (by rfl) Ex.tt (Ex.x .twice) (pac (wW aQ (aLh (pv 2)) aQ) aJ))) cF)
    (aL (jL hu (pv 1) (pv 2) rM rfl))))))),?_⟩
  refine⟨_,rfl,a,_,rfl,.inl hS,_,_,rfl,rfl,_,rfl,?_⟩;rw[List.length_map]
  have fin:∀ (k:Why) H',aO H H'->iP ss=some k->E (.ref (cl k)) none H':=fun k H' sm e=>by
   have:=q H' sm
   rw[e] at this;exact this
  refine eQ (fun h12=>?_) (fun h12=>?_)
  ·have h12':12<ss.length:=by have:=of_decide_eq_true h12; omega
   exact⟨by show 1<=sizeLine; decide,fin .tooMany H (aO.refl H) (if_pos h12')⟩
  ·have h12':¬ 12<ss.length:=fun z=>h12 (decide_eq_true (by omega));have er:iP ss=sQ [] ss:=if_neg h12';intro d hd;have s0:aO H (upd H d (.dK [])):=fun b o e=>by rw[aI (aF e hd)]; exact e
   refine⟨_,rfl,a,rfl,⟨_,s0.seq hS⟩,?_⟩;refine dN (xs:=ss.map V.str) (fun i σ H'=>∃ kvs nv,σ=[some (.ref a),some (.ref d),nv]∧H' d=some (.dK kvs)∧aO H H'∧kvs.length<=i∧(∀ z,(dF kvs (Sum.inr z)).isSome=decide (z∈ss.take i))∧sQ (ss.take i) (ss.drop i)=sQ [] ss) ?_ ?_ ?_ ?_
   ·exact⟨[],none,rfl,aD,s0,Nat.le_refl _,fun z=>by simp[dF],rfl⟩
   ·rintro i σ H' _ ⟨kvs,nv,rfl,h1,h3,h4,h5,h6⟩;exact h3.seq hS
   ·rintro i x σ H' hx ⟨kvs,nv,rfl,h1,h3,h4,h5,h6⟩;rw[List.getElem?_map] at hx;cases hz:ss[i]? with
    | none=>rw[hz] at hx; cases hx
    | some z=>
     rw[hz] at hx;cases hx;obtain⟨hi,hzi⟩:=List.getElem?_eq_some_iff.mp hz;have hzl:z.length<=1000:=hsh z (List.mem_of_getElem? hz);have ed:ss.drop i=z::ss.drop (i+1):=by rw[List.drop_eq_getElem_cons hi,hzi]
     have et:ss.take (i+1)=ss.take i++[z]:=by rw[List.take_succ,hz]; rfl
     have sl:sizeLine=16777216:=sizeLine_eq;rw[ed] at h6;refine⟨_,rfl,.str z,rfl,.inl ⟨z,rfl,by omega,fun H2 sm2=>⟨_,rfl,?_⟩⟩⟩;have s2:aO H H2:=h3.trans sm2
     by_cases hn:aZ z=true
     ·rw[hn];refine hU ⟨_,rfl,_,rfl,d,_,rfl,fU.k (k:=Sum.inr z) (sm2 d _ h1),_,rfl,?_⟩;rw[h5 z]
      by_cases hm:z∈ss.take i
      ·rw[decide_eq_true hm];refine jU ⟨_,rfl,?_,_,rfl,z,rfl,by omega,_,rfl,?_,_,rfl,?_,?_,by show 1<=sizeLine; decide,fin .twice H2 s2 ?_⟩
       ·rw[hJ]; show 0+9<=sizeLine; decide
       ·rw[hJ,hJ]; show 0+9+z.length<=sizeLine; omega
       ·rw[hJ,hJ,hJ]; show 0+9+z.length+14<=sizeLine; omega
       ·rw[hJ,hJ,hJ]; show 0+9+z.length+14<=sizeLine; omega
       ·rw[er,← h6];show (if aZ z=true then (if z∈ss.take i then some Why.twice else sQ (ss.take i++[z]) (ss.drop (i+1))) else some .noName)=_
        rw[if_pos hn,if_pos hm]
      ·rw[decide_eq_false hm];refine hU ⟨_,rfl,_,rfl,d,_,rfl,pU.k (k:=Sum.inr z) (sm2 d _ h1) (aU (by omega)),eB kvs (Sum.inr z) (.bl true),some (.str z),rfl,aD,fun b o e=>?_,?_,fun y=>?_,?_⟩
       ·rw[aI (aF e hd)]; exact s2 b o e
       ·exact Nat.le_trans (dP _ _ _) (by omega)
       ·rw[jZ,et]
        by_cases hy:y=z
        ·subst hy;rw[if_pos rfl]
         simp
        ·rw[if_neg (fun e=>hy (Sum.inr.inj e)),h5 y];simp[hy]
       ·rw[et,← h6];show _=if aZ z=true then (if z∈ss.take i then some .twice else sQ (ss.take i++[z]) (ss.drop (i+1))) else some .noName
        rw[if_pos hn,if_neg hm]
     ·rw[Bool.eq_false_iff.mpr hn];refine jU ⟨by show 1<=sizeLine; decide,fin .noName H2 s2 ?_⟩;rw[er,← h6];exact if_neg hn
   ·rintro σ H' ⟨kvs,nv,rfl,h1,h3,h4,h5,h6⟩;rw[List.length_map,List.drop_length,List.take_length] at h6
    have:=q H' h3
    rw[er,← h6] at this;exact this
structure aDt (K:PySem.W.Frag) (C:Addr):Prop where
 cl:Cls K C
 nw:fO K C "weights"
 nf:fO K C "free_marks"
theorem scH:aR ["self","thing"] ["self","thing"] (aB yR):=⟨rfl,rfl,rfl,by decide +kernel,rfl,by decide +kernel,by decide +kernel⟩
theorem aQe (K:PySem.W.Frag):PySem.W.kitOne K (.type "NoneType") (.type "str")=some false:=by
 unfold PySem.W.kitOne PySem.W.kitCls;rw[if_neg (by decide)];dsimp only;rw[if_pos (by decide +kernel)];show (PySem.fastBuiltinMro "NoneType").map _=_
 decide +kernel
theorem aQf (K:PySem.W.Frag):PySem.W.kitOne K (.type "int") (.type "str")=some false:=by
 unfold PySem.W.kitOne PySem.W.kitCls;rw[if_neg (by decide)];dsimp only;rw[if_pos (by decide +kernel)];show (PySem.fastBuiltinMro "int").map _=_
 decide +kernel
theorem aLp {f fN C:Addr}{fd fdN:FuncData}(F:Fun K "has" "Deeds.has" yR f fd) (T:Txt K mg) (DC:aDt K C)
  (FN:Fun K "is_name" "is_name" kJ fN fdN) (bN:aX K fdN ["thing"] []) (mN:mg "is_name" = some (.ref fN)) :
  bE P w K mg base CX0 2 f fd ["self","thing"] (aJy K C):=by
 have GN:bE P w K mg base CX0 1 fN fdN ["thing"] (uZ K):=vJ FN T;refine F.ok scH (fun vs H Q E h=>?_) (fun cdv A outer s H vs Q E hr h=>?_)
 ·obtain⟨p,x,kvs,rfl,_⟩:=h;rfl
 ·obtain⟨p,x,kvs,rfl,hz,⟨dx,fs,dw,o,hp,hm,hw,hk⟩,q⟩:=h;have hu:=jS hr;refine⟨_,aL (bO (yZ (bU GN hr rfl mN FN.kp bN .nil cC (pac (pv 1) aJ)) (yY (aLi (vH hu (pv 1) (gZ (pv 0) rfl)))))),?_⟩;rcases hz with⟨z,rfl,hz⟩ | rfl | rfl
  ·refine⟨_,rfl,.str z,rfl,.inl ⟨z,rfl,by have sl:sizeLine=16777216:=sizeLine_eq; omega,fun H2 s2=>⟨_,rfl,?_⟩⟩⟩;have q2:=q H2 s2;refine eQ (fun hn=>?_) (fun hn=>?_)
   ·rw[eA,hn,Bool.true_and] at q2;exact⟨_,rfl,_,rfl,p,C,dx,fs,_,rfl,s2 p _ hp,DC.cl,DC.nw,hw,dw,_,rfl,.inl ⟨kvs,Sum.inr z,.inr ⟨o,s2 dw _ hk⟩,rfl,rfl⟩,q2⟩
   ·rw[eA,Bool.eq_false_iff.mpr hn,Bool.false_and] at q2;exact q2
  ·exact⟨_,rfl,.non,rfl,.inr ⟨_,.non,aQe K,_,rfl,hU (q H (aO.refl H))⟩⟩
  ·exact⟨_,rfl,.int 5,rfl,.inr ⟨_,.int 5,aQf K,_,rfl,hU (q H (aO.refl H))⟩⟩
theorem scQ:aR ["self","row","deed"] ["self","row"] (aB jA):=⟨rfl,rfl,rfl,by decide +kernel,rfl,by decide +kernel,by decide +kernel⟩
theorem zD {f fN fH C:Addr}{fd fdN fdH:FuncData}{cl:Why->Addr}(F:Fun K "require" "Deeds.require" jA f fd) (T:Txt K mg) (Ex:Exc K mg cl) (DC:aDt K C)
  (FN:Fun K "is_name" "is_name" kJ fN fdN) (bN:aX K fdN ["thing"] []) (mN:mg "is_name" = some (.ref fN))
  (FH:Fun K "has" "Deeds.has" yR fH fdH) (bH:aX K fdH ["self","thing"] []) (mH:eZ K C "has" fH) :
  bE P w K mg base (CXE P w) 3 f fd ["self","row"] (lH K C cl):=by
 have GH:bE P w K mg base CX0 2 fH fdH ["self","thing"] (aJy K C):=aLp FH T DC FN bN mN;refine okE F scQ (fun vs H Q E h=>?_) (fun cdv A outer s H vs Q E hr h D=>?_)
 ·obtain⟨p,b,fs,kvs,rfl,_⟩:=h;rfl
 ·obtain⟨p,b,fs,kvs,rfl,hS,hsh,⟨dx,fl,dw,o,hp,hm,hw,hk⟩,q⟩:=h
  refine⟨_,aL (eJ PassesOwn.leaving rfl (dC (pv 1)) (aP (i:=2) scQ.nd rfl (Or.inl rfl))
    (aL (dH (mU (rF (hG (pv 0) DC.cl mH GH hr bH .nil cC (pac (pv 2) aJ)))) (aL (iG D rfl (by rfl) Ex.nd (Ex.x .noDeed) (pac aQ aJ))) cF))),?_⟩
  refine⟨_,rfl,b,rfl,⟨_,hS⟩,?_⟩;refine dN (xs:=fs) (fun i σ H'=>∃ nv,σ=[some (.ref p),some (.ref b),nv]∧aO H H'∧(fs.take i).all (eA kvs)=true) ?_ ?_ ?_ ?_
  ·exact⟨none,rfl,aO.refl H,rfl⟩
  ·rintro i σ H' _ ⟨nv,rfl,h3,h4⟩;exact h3.seq hS
  ·rintro i x σ H' hz ⟨nv,rfl,h3,h4⟩;refine⟨_,rfl,p,dx,fl,rfl,h3 p _ hp,hm "has" (by decide),_,rfl,p,x,kvs,rfl,hsh x (List.mem_of_getElem? hz),⟨dx,fl,dw,o,h3 p _ hp,hm,hw,h3 dw _ hk⟩,fun H2 s2=>⟨_,rfl,?_⟩⟩;cases hb:eA kvs x with
   | true=>
    refine hU ⟨some x,rfl,h3.trans s2,?_⟩;rw[List.take_succ,hz,List.all_append,h4];simp[hb]
   | false=>
    refine jU ⟨by show 1<=sizeLine; decide,?_⟩
    have:=q H2 (h3.trans s2)
    rw[if_neg ?_] at this
    ·exact this
    ·intro z'
     have:=List.all_eq_true.mp z' x (List.mem_of_getElem? hz)
     rw[hb] at this;cases this
  ·rintro σ H' ⟨nv,rfl,h3,h4⟩;rw[List.take_length] at h4
   have:=q H' h3
   rw[if_pos h4] at this;exact this
end
end K22
namespace K22
open PySem L2 Ky
seal L2.PE L2.PS L2.PSs L2.PA L2.PT L2.PW L2.PG L2.PI L2.PTs L2.PO L2.PPs L2.OpR L2.IxR L2.CallR L2.MtM L2.MtR
theorem aKw {K:PySem.W.Frag}{H H':Hp}{a x C dx:Addr}{fs:List (Str×V)}{xs:List V}(e:SameBut x H H') (hx:H x=some (.ins C dx fs)) (h:SqL K H a xs):SqL K H' a xs:=by
 rcases h with (h | ⟨o,h⟩) | h
 ·exact .inl (.inl (e _ _ (fun z=>by rw[z,hx] at h; cases h) h))
 ·exact .inl (.inr ⟨o,e _ _ (fun z=>by rw[z,hx] at h; cases h) h⟩)
 ·exact .inr h
theorem noW (v:V):∀ m∈aFv,List.lookup m [(("weights" : Str),v)]=none:=by
 have h:∀ m∈aFv,(m==("weights" : Str))=false:=by decide +kernel
 intro m hm;simp only[List.lookup,h m hm]
theorem aNo (v u:V):∀ m∈aFv,List.lookup m [(("weights" : Str),v),(("free_marks" : Str),u)]=none:=by
 have h:∀ m∈aFv,(m==("weights" : Str))=false∧(m==("free_marks" : Str))=false:=by decide +kernel
 intro m hm;simp only[List.lookup,(h m hm).1,(h m hm).2]
theorem aGt (kvs:List (Key×V)) (fs:List Str):(fs.map V.str).all (eA kvs)=fs.all (fun z=>aZ z&&(dF kvs (Sum.inr z)).isSome):=by
 rw[List.all_map];rfl
theorem tH {fs:List Str}(h:qG fs):∀ x∈fs.map V.str,aBp x:=fun x hx=>by
 obtain⟨z,hz,rfl⟩:=List.mem_map.mp hx;exact .inl ⟨z,rfl,h z hz⟩
theorem qU:∀ (ss:List Str) (wv:Int) (kvs:List (Key×V)) (z:Str),(dF (wts ss wv kvs) (Sum.inr z)).isSome=(decide (z∈ss)||(dF kvs (Sum.inr z)).isSome)
 | [],_,kvs,z=>by simp[wts]
 | s::r,wv,kvs,z=>by
  rw[wts,qU r,jZ]
  by_cases h:z=s
  ·subst h
   simp
  ·rw[if_neg fun e=>h (Sum.inr.inj e)];simp[h]
section
variable {P:Program}{w:World}{K:PySem.W.Frag}{mg:Str->Option Value}{base:Heap}
theorem scI:aR ["self","names","free","free_names"] ["self","names","free"] (aB iD):=⟨rfl,rfl,rfl,by decide +kernel,rfl,by decide +kernel,by decide +kernel⟩
theorem aIo {f fR fW fK fQ C:Addr}{fd fdR fdW fdK fdQ:FuncData}{cl:Why->Addr}(F:aHb K "__init__" "Deeds.__init__" iD f fd) (T:Txt K mg) (DC:aDt K C)
  (GR:bE P w K mg base (CXE P w) 2 fR fdR ["names"] (wD K cl)) (kR:PySem.W.keepIn K (.ref fR)=true) (bR:aX K fdR ["names"] []) (mR:mg "refuse_names" = some (.ref fR))
  (GW:bE P w K mg base CX0 1 fW fdW ["names"] (tK K)) (kW:PySem.W.keepIn K (.ref fW)=true) (bW:aX K fdW ["names"] []) (mW:mg "weights_of" = some (.ref fW))
  (GK:bE P w K mg base CX0 1 fK fdK ["names"] (qL K)) (kK:PySem.W.keepIn K (.ref fK)=true) (bK:aX K fdK ["names"] []) (mK:mg "marks_of" = some (.ref fK))
  (GQ:bE P w K mg base (CXE P w) 3 fQ fdQ ["self","row"] (lH K C cl)) (bQ:aX K fdQ ["self","row"] []) (mQ:eZ K C "require" fQ) :
  bE P w K mg base (CXE P w) 4 f fd ["self","names","free"] (aEp K C cl):=by
 refine aNn F scI (fun vs H Q E h=>?_) (fun cdv A outer s H vs Q E hr h D=>?_)
 ·obtain⟨x,a,y,dx,ss,fs,rfl,_⟩:=h;rfl
 ·obtain⟨x,a,y,dx,ss,fs,rfl,hx,hA,hB,hsh,hfh,hfl,q⟩:=h;have hr1:cL 1 _:=hr.mono (by decide);have hr2:cL 2 _:=hr.mono (by decide)
  refine⟨_,aK (dB (bU GR hr2 rfl mR kR bR .nil (D.passes fun _ _ _ z=>z) (pac (pv 1) aJ)))
   (aK (jK (pv 0) (aCh (bU GW hr1 rfl mW kW bW .nil cC (pac (pv 1) aJ))) rfl)
   (dL (fun σ H'=>∃ b d o ss',σ=[some (.ref x),some (.ref a),some y,some (.ref b)]∧H' x=some (.ins C dx [("weights",.ref d)])∧H' d=some (.frz o (.dK (wts ss' 1 [])))∧SameBut x H H'∧SqL K H' b (fs.map V.str)∧ss'.Perm ss∧PyProof.Rows.sortedS ss'=true)
    (aW (i:=3) scI.nd rfl (Or.inl rfl) (wX (bX aFh (pv 2) iW (cN _)) (cM aJ) (pv 2)))
   (aK (dB (hG (pv 0) DC.cl mQ GQ hr bQ .nil (D.passes fun _ _ _ z=>z) (pac (pv 3) aJ)))
   (aL (jK (pv 0) (bU GK hr1 rfl mK kK bK .nil cC (pac (pv 3) aJ)) rfl))))),?_⟩
  refine⟨_,rfl,a,ss,rfl,hA,hsh,fun H1 s1=>?_⟩;have sb:∀ {H'},aO H H'->SameBut x H H':=fun sm b o _ e=>sm b o e;cases hR:iP ss with
  | some k=>
   have:=q H1 (sb s1)
   unfold lA at this;rw[hR] at this;exact this
  | none=>
   have h12:ss.length<=12:=by
    unfold iP at hR
    by_cases z:12<ss.length
    ·rw[if_pos z] at hR; cases hR
    ·omega
   refine⟨_,rfl,a,ss,rfl,s1.seq hA,by omega,fun d ss' H2 s2 hd pm so hd2=>⟨d,_,rfl,hd2,fun o=>?_⟩⟩;have hx2:=s2 x _ (s1 x _ hx);have ndx:d≠x:=fun z=>by rw[z,hx2] at hd2; cases hd2
   have hx2':(upd H2 d (.frz o (.dK (wts ss' 1 [])))) x=some (.ins C dx []):=by rw[aI (Ne.symm ndx)]; exact hx2
   refine⟨_,rfl,x,C,dx,[],rfl,hx2',DC.cl,DC.nw,by decide,?_⟩;generalize hH3:upd (upd H2 d (.frz o (.dK (wts ss' 1 [])))) x (.ins C dx (gE "weights" (.ref d) []))=H3;have hx3:H3 x=some (.ins C dx [("weights",.ref d)]):=by rw[← hH3,aD]; rfl
   have hd3:H3 d=some (.frz o (.dK (wts ss' 1 []))):=by rw[← hH3,aI ndx,aD]
   have hHd:H d=none:=by
    cases e:H d with
    | none=>rfl
    | some u=>rw[s1 d u e] at hd; cases hd
   have s3:SameBut x H H3:=fun b o n e=>by rw[← hH3,aI n,aI (aF e hHd)]; exact s2 b o (s1 b o e)
   have hB3:(y=.non∧fs=[])∨∃ b,y=.ref b∧SqL K H3 b (fs.map V.str):=hB.imp id fun ⟨b,e,h⟩=>⟨b,e,aKw s3 hx h⟩;refine⟨?_,?_⟩
   ·rcases hB3 with⟨rfl,rfl⟩ | ⟨b,rfl,hB3⟩
    ·refine⟨_,rfl,rfl,_,rfl,eQ (fun _=>⟨by show 0<=sizeLine; decide,fun l hl=>⟨l,d,o,ss',rfl,?_,?_,?_,SqL.of aD,pm,so⟩⟩) fun z=>absurd (decide_eq_true rfl) z⟩
     ·rw[aI (aF hx3 hl)]; exact hx3
     ·rw[aI (aF hd3 hl)]; exact hd3
     ·exact fun c u n e=>by rw[aI (aF (s3 c u n e) hl)]; exact s3 c u n e
    ·exact⟨_,rfl,rfl,_,rfl,eQ (fun z=>absurd (of_decide_eq_true z) (by intro z; cases z)) fun _=>⟨_,rfl,b,d,o,ss',rfl,hx3,hd3,s3,hB3,pm,so⟩⟩
   clear hB3 hd3 hx3 s3 hH3 H3 hx2' hx2 ndx hd2;rintro σ H3 ⟨b,d,o,ss',rfl,hx3,hd3,s3,hB3,pm,so⟩
   have e4:∀ z,(dF (wts ss' 1 []) (Sum.inr z)).isSome=decide (z∈ss):=fun z=>by
    rw[qU];simp[dF,pm.mem_iff]
   refine⟨_,rfl,x,dx,_,rfl,hx3,by rfl,_,rfl,x,b,fs.map V.str,_,rfl,hB3,tH hfh,⟨dx,_,d,o,hx3,noW _,by rfl,hd3⟩,fun H4 s4=>?_⟩;have s4':SameBut x H H4:=fun b o n e=>s4 b o (s3 b o n e);rw[aGt];simp only[e4];have q4:=q;unfold lA at q4;rw[hR] at q4;have ndx:d≠x:=fun z=>by rw[z,hx3] at hd3; cases hd3
   by_cases hall:fs.all (fun f=>aZ f&&decide (f∈ss))=true
   ·simp only[if_pos hall] at q4 ⊢;refine⟨_,rfl,b,fs,rfl,s4.seq hB3,hfl,fun df H5 s5 hdf hdf5=>?_⟩;have hx5:=s5 x _ (s4 x _ hx3);have ndf:df≠x:=fun z=>by rw[z,hx5] at hdf5; cases hdf5
    refine⟨_,rfl,x,C,dx,_,rfl,hx5,DC.cl,DC.nf,by show 1<1000; decide,?_⟩;refine q4 _ (fun b o n e=>by rw[aI n]; exact s5 b o (s4' b o n e)) d df o ss' (by rw[aD]; rfl) (by rw[aI ndx]; exact s5 d _ (s4 d _ hd3)) (by rw[aI ndf]; exact hdf5) pm so
   ·simp only[if_neg hall] at q4 ⊢;exact q4 H4 s4'
end
end K22
namespace K22
open PySem L2 Ky
seal L2.PE L2.PS L2.PSs L2.PA L2.PT L2.PW L2.PG L2.PI L2.PTs L2.PO L2.PPs L2.OpR L2.IxR L2.CallR L2.MtM L2.MtR
abbrev jF:List Str:=["go","a","b1","stop","r0","r1","open","x","yy","z9","longname","c"]
def gJ (c:Int):Int:=([1,5,7,11]:List Int).getD (c/12%4).toNat 1
def oZ (c:Int) (k:Nat):Str:=jF.getD ((c+gJ c*k)%12).toNat ""
def dS (c:Int) (n:Nat):List Str:=(List.range n).map (oZ c)
def gN (c:Int):Nat:=if c/8%16=1 then (c/128%2).toNat else ([2,3,3,4,4,5,6,12]:List Nat).getD (c%8).toNat 0
def pO (c:Int) (ss:List Str):List Str:=(List.range ss.length).filterMap fun (k:Nat)=>if RW.mixed c (k:Nat)%4=1 then ss[k]? else none
theorem iL {α β:Type}(f:α->β) (xs:List α) (d:α){i:Int}(h0:0<=i) (h1:i<xs.length):atI (xs.map f) i=some (f (xs.getD i.toNat d)):=by
 have hl:i.toNat<xs.length:=by omega
 have e:i=(i.toNat:Int):=by omega
 have h:=gR (xs:=xs.map f) (j:=i.toNat) (v:=f (xs.getD i.toNat d)) (by rw[List.getElem?_map,List.getD_eq_getElem?_getD,List.getElem?_eq_getElem hl]; rfl);rw[← e] at h;exact h
theorem cG (c:Int){m:Int}(h:0<m):0<=c%m∧c%m<m:=⟨Int.emod_nonneg _ (by omega),Int.emod_lt_of_pos _ h⟩
theorem aEi:∀ n,n<4->([1,5,7,11]:List Int).getD n 1=1∨([1,5,7,11]:List Int).getD n 1=5∨([1,5,7,11]:List Int).getD n 1=7∨([1,5,7,11]:List Int).getD n 1=11:=by decide +kernel
theorem jD (c:Int):gJ c=1∨gJ c=5∨gJ c=7∨gJ c=11:=by
 have h:=cG (c/12) (m:=4) (by decide);exact aEi _ (by omega)
theorem aFz:∀ n,n<8->([2,3,3,4,4,5,6,12]:List Nat).getD n 0<=12∧(([2,3,3,4,4,5,6,12]:List Int).getD n 0)=((([2,3,3,4,4,5,6,12]:List Nat).getD n 0:Nat):Int):=by decide +kernel
theorem uE (c:Int):([2,3,3,4,4,5,6,12]:List Nat).getD (c%8).toNat 0<=12∧(([2,3,3,4,4,5,6,12]:List Int).getD (c%8).toNat 0)=((([2,3,3,4,4,5,6,12]:List Nat).getD (c%8).toNat 0:Nat):Int):=by
 have h:=cG c (m:=8) (by decide);exact aFz _ (by omega)
theorem lQ (c:Int):gN c<=12:=by
 unfold gN;split
 ·have h:=cG (c/128) (m:=2) (by decide);omega
 ·exact (uE c).1
def kZ (c:Int) (ss:List Str) (i:Nat):List Str:=(List.range i).filterMap fun (k:Nat)=>if RW.mixed c (k:Nat)%4=1 then ss[k]? else none
inductive tN (K:PySem.W.Frag) (vs:List V) (H:Hp) (Q:VK) (x3_:XK):Prop
 | mk (c:Int) (n:Nat) (h0_:vs=[.int c,.int n]) (h1_:n<=1000) (h2_:∀ (l:Addr) H',aO H H'->H l=none->H' l=some (.lst ((dS c n).map V.str))->Q (.ref l) H')
inductive tP (K:PySem.W.Frag) (vs:List V) (H:Hp) (Q:VK) (x3_:XK):Prop
 | mk (c:Int) (h0_:vs=[.int c]) (h1_:∀ (t l m:Addr) H',aO H H'->H' t=some (.tup [.ref l,.ref m])->H' l=some (.lst ((dS (c/256) (gN c)).map V.str))->H' m=some (.lst ((pO c (dS (c/256) (gN c))).map V.str))->Q (.ref t) H')
section
variable {P:Program}{w:World}{K:PySem.W.Frag}{mg:Str->Option Value}{base:Heap}
abbrev NB:List Str:=["_law_cell","_law_many","_law_some","_law_step_here"]
theorem scB:aR NB ["_law_cell","_law_many"] (aB gS):=⟨rfl,rfl,rfl,by decide +kernel,rfl,by decide +kernel,by decide +kernel⟩
theorem zF {f:Addr}{fd:FuncData}(F:Fun K "_law_names_by" "_law_names_by" gS f fd) (T:Txt K mg):bE P w K mg base CX0 1 f fd ["_law_cell","_law_many"] (tN K):=by
 refine F.ok scB (fun vs H Q E h=>?_) (fun cdv A outer s H vs Q E hr h=>?_)
 ·obtain⟨c,n,rfl,_⟩:=h;rfl
 ·obtain⟨c,n,rfl,hn,q⟩:=h
  refine⟨_,aK (aW (i:=2) scB.nd rfl (Or.inr rfl) (cM (pac aQ (pac aQ (pac aQ (pac aQ (pac aQ (pac aQ (pac aQ (pac aQ (pac aQ (pac aQ (pac aQ (pac aQ aJ))))))))))))))
   (aK (aW (i:=3) scB.nd rfl (Or.inr rfl) (dJ cS (cM (pac aN (pac aN (pac aN (pac aN aJ))))) (aS cY (aS eG (pv 0) aN) aN) (fun _ _=>rfl)))
   (aL (bO (eL (N':=["_law_k","_law_some","_law_cell","_law_step_here"]) (nown:=1) (js:=[2,0,3]) rfl
     ⟨rfl,by decide +kernel,by decide +kernel⟩ (cJ (aB gS) NB rfl rfl (by decide +kernel))
     ⟨fun _ _ _ _=>aP (i:=0) (show List.Nodup (["_law_k","_law_some","_law_cell","_law_step_here"]:List Str) by decide +kernel) rfl (Or.inl rfl) (.inr rfl),fun _ _ _ _=>eE,
      fun _ _ _ _=>dJ (show IxR _ (wQ K) from cS) (pv 1) (aS cY (aS dM (pv 2) (aS mV (pv 3) (pv 0))) aN) (fun _ _=>rfl)⟩
     (gM rfl T.range (pac (pv 1) aJ)))))),?_⟩
  have sl:sizeLine=16777216:=sizeLine_eq;have g4:=cG (c/12) (m:=4) (by decide);refine⟨by show 12<=sizeLine; decide,fun p hp=>⟨by show 4<=sizeLine; decide,fun p2 hp2=>⟨_,rfl,_,_,rfl,rfl,⟨by decide,by decide⟩,_,_,rfl,rfl,(by show (0:Int)<4; decide),p2,_,_,V.int (gJ c),rfl,rfl,SqL.of aD,iL V.int [1,5,7,11] 1 g4.1 g4.2,?_⟩⟩⟩;have n12:p≠p2:=aF aD hp2;generalize hH2:upd (upd H p _) p2 _=H2;have e2:H2 p=some (.lst (jF.map V.str)):=by rw[← hH2,aI n12,aD]; rfl
  have s2:aO H H2:=fun b o e=>by
   have m1:b≠p:=aF e hp;have m2:b≠p2:=aF (show (upd H p _) b=some o by rw[aI m1]; exact e) hp2;rw[← hH2,aI m2,aI m1];exact e
  refine⟨_,rfl,n,rfl,by omega,by omega,fun D hD=>iA (n:=n) (fun i σ' H'=>∃ v,σ'=[v,some (.ref p),some (.int c),some (.int (gJ c))]∧H' D=some (.lst ((dS c i).map V.str))∧aO H2 H') ?_ ?_ ?_⟩
  ·exact⟨none,rfl,aD,fun b o e=>by rw[aI (aF e hD)]; exact e⟩
  ·rintro i σ' H' hi ⟨v,rfl,hl',sm⟩;have g12:=cG (c+gJ c*(0+(i:Int))) (m:=12) (by decide);refine⟨_,rfl,_,rfl,_,rfl,_,rfl,_,_,rfl,rfl,.inl ?_,_,_,rfl,rfl,_,_,rfl,rfl,(by show (0:Int)<12; decide),p,_,_,V.str (oZ c i),rfl,rfl,SqL.of (sm p _ e2),?_,_,hl',?_,_,rfl,?_,?_⟩
   ·rcases jD c with h | h | h | h <;> (rw[h]; exact⟨by decide,by decide⟩)
   ·have h:=iL V.str jF "" g12.1 g12.2;rw[h,Int.zero_add];rfl
   ·refine aU ?_;rw[List.length_map];unfold dS;rw[List.length_map,List.length_range];omega
   ·rw[aD];unfold dS;rw[List.range_succ,List.map_append,List.map_append];rfl
   ·intro b o e;rw[aI (aF e hD)];exact sm b o e
  ·rintro σ' H' ⟨v,rfl,hl',sm⟩;refine q D H' (s2.trans sm) ?_ hl';exact s2.free hD
abbrev ND:List Str:=["_law_cell","_law_many","_law_names"]
theorem scD:aR ND ["_law_cell"] (aB iE):=⟨rfl,rfl,rfl,by decide +kernel,rfl,by decide +kernel,by decide +kernel⟩
theorem zH {f fM fB:Addr}{fd fdM fdB:FuncData}(F:Fun K "_law_deeds_by" "_law_deeds_by" iE f fd) (T:Txt K mg)
  (FM:Fun K "_law_mixed" "_law_mixed" kO fM fdM) (bM:aX K fdM ["_law_cell","_law_k"] []) (mM:mg "_law_mixed" = some (.ref fM))
  (FB:Fun K "_law_names_by" "_law_names_by" gS fB fdB) (bB:aX K fdB ["_law_cell","_law_many"] []) (mB:mg "_law_names_by" = some (.ref fB)):bE P w K mg base CX0 2 f fd ["_law_cell"] (tP K):=by
 have GM:bE P w K mg base CX0 1 fM fdM ["_law_cell","_law_k"] nK:=nU FM;have GB:bE P w K mg base CX0 1 fB fdB ["_law_cell","_law_many"] (tN K):=zF FB T;refine F.ok scD (fun vs H Q E h=>?_) (fun cdv A outer s H vs Q E hr h=>?_)
 ·obtain⟨c,rfl,_⟩:=h;rfl
 ·obtain⟨c,rfl,q⟩:=h
  refine⟨_,aK (aW (i:=1) scD.nd rfl (Or.inl rfl) (dJ cS (cM (pac aN (pac aN (pac aN (pac aN (pac aN (pac aN (pac aN (pac aN aJ))))))))) (aS cY (pv 0) aN) (fun _ _=>rfl)))
   (dL (fun σ H'=>σ=[some (.int c),some (.int (gN c)),none]∧aO H H')
    (dH (bX nQ (aS cY (aS eG (pv 0) aN) aN) aN (cN _))
     (aL (aW (i:=1) scD.nd rfl (Or.inl rfl) (aS cY (aS eG (pv 0) aN) aN))) cF)
   (aK (aW (i:=2) scD.nd rfl (Or.inl rfl) (bU GB hr rfl mB FB.kp bB .nil cC (pac (aS eG (pv 0) aN) (pac (pv 1) aJ))))
   (aL (bO (gY (pac (pv 2) (pac (eL (N':=["_law_k","_law_name","_law_cell"]) (nown:=2) (js:=[0]) rfl
     ⟨rfl,by decide +kernel,by decide +kernel⟩ (cJ (aB iE) ND rfl rfl (by decide +kernel))
     ⟨fun _ _ _ _=>show PG _ _ (xQ K 2 (gG (eV 0) (gG (eV 1) xR))) from fE rfl (aY (aP (i:=0) (show List.Nodup (["_law_k","_law_name","_law_cell"]:List Str) by decide +kernel) rfl (Or.inl rfl) (.inr rfl)) (aY (aP (i:=1) (show List.Nodup (["_law_k","_law_name","_law_cell"]:List Str) by decide +kernel) rfl (Or.inl rfl) (.inr rfl)) dR)),
      fun _ _ _ _=>nL (bX nQ (aS cY (bU GM hr rfl mM FM.kp bM .nil cC (pac (pv 2) (pac (pv 0) aJ))) aN) aN (cN _)),
      fun _ _ _ _=>pv 1⟩
     (lP rfl T.enum (pac (pv 2) aJ))) aJ))))))),?_⟩
  have sl:sizeLine=16777216:=sizeLine_eq;have g8:=cG c (m:=8) (by decide);refine⟨by show 8<=sizeLine; decide,fun p hp=>⟨_,rfl,_,_,rfl,rfl,(by show (0:Int)<8; decide),p,_,_,V.int _,rfl,rfl,SqL.of aD,iL V.int [2,3,3,4,4,5,6,12] 0 g8.1 g8.2,?_,?_⟩⟩
  ·have s1:∀ o,aO H (upd H p o):=fun o b u e=>by rw[aI (aF e hp)]; exact e
   refine⟨_,rfl,_,_,rfl,rfl,⟨by decide,by decide⟩,_,_,rfl,rfl,(by show (0:Int)<16; decide),rfl,_,rfl,eQ (fun h1=>?_) (fun h1=>?_)⟩
   ·have e1:c/8%16=1:=by have:=of_decide_eq_true h1; exact V.int.inj this
    have g2:=cG (c/128) (m:=2) (by decide);refine⟨_,rfl,_,_,rfl,rfl,⟨by decide,by decide⟩,_,_,rfl,rfl,(by show (0:Int)<2; decide),?_,s1 _⟩;have e:((gN c:Nat):Int)=c/128%2:=by unfold gN; rw[if_pos e1]; omega
    rw[e];rfl
   ·have e1:¬ c/8%16=1:=fun z=>h1 (decide_eq_true (congrArg V.int z));refine⟨?_,s1 _⟩;have e:((gN c:Nat):Int)=([2,3,3,4,4,5,6,12]:List Int).getD (c%8).toNat 0:=by unfold gN; rw[if_neg e1]; exact (uE c).2.symm
    rw[e];rfl
  ·rintro σ H1 ⟨rfl,s1⟩;refine⟨_,rfl,_,_,rfl,rfl,⟨by decide,by decide⟩,_,rfl,c/256,gN c,rfl,Nat.le_trans (lQ c) (by decide),fun l H2 s2 hl hl2=>?_⟩;generalize hss:dS (c/256) (gN c)=ss at *;have hlen:ss.length=gN c:=by rw[← hss]; unfold dS; rw[List.length_map,List.length_range]
   have hle:=lQ c;refine⟨_,rfl,_,rfl,l,rfl,⟨_,SqL.of hl2⟩,fun D hD=>oG (xs:=ss.map V.str) (fun i σ' H'=>∃ v0 v1,σ'=[v0,v1,some (.int c)]∧H' D=some (.lst ((kZ c ss i).map V.str))∧aO H2 H'∧(kZ c ss i).length<=i) ?_ ?_ ?_ ?_⟩
   ·exact⟨none,none,rfl,aD,fun b o e=>by rw[aI (aF e hD)]; exact e,Nat.le_refl _⟩
   ·rintro i σ' H' _ ⟨v0,v1,rfl,h1,h2,h3⟩;exact SqL.of (h2 l _ hl2)
   ·rintro i x σ' H' t hx ⟨v0,v1,rfl,h1,h2,h3⟩ ht;rw[List.getElem?_map] at hx;cases hz:ss[i]? with
    | none=>rw[hz] at hx; cases hx
    | some z=>
     rw[hz] at hx;cases hx;have hi:i<ss.length:=(List.getElem?_eq_some_iff.mp hz).1;have nD:D≠t:=fun e=>by rw[e,ht] at h1; cases h1
     have sT:aO H2 (upd H' t (.tup [.int i,.str z])):=fun b o e=>by rw[aI (aF (h2 b o e) ht)]; exact h2 b o e
     refine⟨t,_,rfl,SqT.of aD,rfl,_,_,rfl,_,_,rfl,rfl,_,rfl,_,rfl,c,i,rfl,_,_,rfl,rfl,(by show (0:Int)<4; decide),rfl,_,rfl,eQ (fun h4=>?_) (fun h4=>?_)⟩
     ·have e4:RW.mixed c i%4=1:=by have:=of_decide_eq_true h4; exact V.int.inj this
      have eu:kZ c ss (i+1)=kZ c ss i++[z]:=by
       unfold kZ;rw[List.range_succ,List.filterMap_append];simp[e4,hz]
      refine⟨_,rfl,_,by rw[aI nD]; exact h1,aU (by rw[List.length_map]; omega),some (.int i),some (.str z),rfl,?_,?_,?_⟩
      ·rw[aD,eu,List.map_append];rfl
      ·intro b o e;rw[aI (aF e hD)];exact sT b o e
      ·rw[eu,List.length_append];show _+1<=_;omega
     ·have e4:¬ RW.mixed c i%4=1:=fun z=>h4 (decide_eq_true (congrArg V.int z))
      have eu:kZ c ss (i+1)=kZ c ss i:=by
       unfold kZ;rw[List.range_succ,List.filterMap_append];simp[e4]
      refine⟨some (.int i),some (.str z),rfl,?_,sT,by rw[eu]; omega⟩;rw[aI nD,eu];exact h1
   ·rintro σ' H' ⟨v0,v1,rfl,h1,h2,h3⟩;refine⟨by show 2<=sizeLine; decide,fun t ht=>?_⟩;rw[List.length_map] at h1;have sT:∀ o,aO H' (upd H' t o):=fun o b u e=>by rw[aI (aF e ht)]; exact e
    exact q t l D _ (((s1.trans s2).trans h2).trans (sT _)) aD (sT _ _ _ (h2 l _ hl2)) (sT _ _ _ h1)
end
end K22
namespace K22
open PySem L2 Ky
seal L2.PE L2.PS L2.PSs L2.PA L2.PT L2.PW L2.PG L2.PI L2.PTs L2.PO L2.PPs L2.OpR L2.IxR L2.CallR L2.MtM L2.MtR

theorem aOp:bootBuiltins "ValueError" = some (.type "ValueError"):=by decide +kernel
theorem PE.weak {X:Cx}{e:Expr}{t t':TE}(h:PE X e t) (k:∀ σ H Q,t' σ H Q->t σ H Q):PE X e t':=by
 unfold PE at h ⊢;exact fun pins s σ H Q I q=>h pins s σ H Q I (k σ H Q q)
abbrev nms:List Str:=["NoName","NoDeed","NoRoom","TwiceTold","TooMany","NoRule","NoRow","NoHold","NoHolder","FreeDeed","NotNow","NoWarden","NoText","NoBook"]
abbrev gI:List Nat:=[4]
def jY (ds:Nat->Addr) (C:Addr):Option Str:=if C=ds 4 then some "TooMany" else none
theorem oM {ds:Nat->Addr}{C:Addr}{x:Str}(h:jY ds C=some x):∃ i∈gI,C=ds i∧nms[i]?=some x:=by
 unfold jY at h
 by_cases h4:C=ds 4
 ·rw[if_pos h4] at h; cases h; exact⟨4,by decide,h4,rfl⟩
 rw[if_neg h4] at h;cases h
def aHd (mg:Str->Option Value):List Str->List Addr->Prop
 | n::ns,a::as=>mg n=some (.ref a)∧aHd mg ns as
 | [],_=>True
 | _,_=>False
theorem uL {mg:Str->Option Value}:∀ {ns:List Str}{as:List Addr},aHd mg ns as->∀ (j:Nat) x,ns[j]?=some x->mg x=some (.ref (as.getD j 0))
 | [],_,_,j,x,h=>by simp at h
 | _::_,[],e,_,_,_=>e.elim
 | n::ns,a::as,e,0,x,h=>by
  have:n=x:=by simpa using h
  rw[← this];exact e.1
 | n::ns,a::as,e,j+1,x,h=>uL e.2 j x (by simpa using h)
structure Wd (K:PySem.W.Frag) (mg:Str->Option Value) (ds:Nat->Addr):Prop where
 m:∀ (j:Nat) x,nms[j]?=some x->mg x=some (.ref (ds j))
 ek:∀ i∈gI,yF K (ds i)
 kit:∀ i∈gI,∀ j,j<14->PySem.W.kitOne K (.ref (ds i)) (.ref (ds j))=some (decide (i=j))
 ve:∀ i∈gI,PySem.W.kitOne K (.ref (ds i)) (.type "ValueError")=some true
 mve:mg "ValueError"=none
def tWd (K:PySem.W.Frag) (W:Str) (d:Addr):TE:=fun σ H Q=>∃ e C b,σ[0]?=some (some (.ref e))∧aBr H e C∧yF K C∧PySem.W.kitOne K (.ref C) (.ref d)=some b ∧
 ∀ p H',aO H H'->H' p=some (.lst ((if b then [W] else []).map V.str))->Q (.ref p) H'
def uU (i n:Nat):List Str:=(List.range n).filterMap fun j=>if i=j then nms[j]? else none
theorem lG (i n:Nat){W:Str}(h:nms[n]?=some W):uU i (n+1)=uU i n++(if decide (i=n) then [W] else []):=by
 unfold uU;rw[List.range_succ,List.filterMap_append]
 by_cases e:i=n
 ·subst e; simp[h]
 ·simp[e]
theorem aEa (i n:Nat):(uU i n).length<=n:=by
 unfold uU;exact Nat.le_trans (List.length_filterMap_le ..) (by rw[List.length_range]; exact Nat.le_refl _)
theorem aMs {H:Hp}{l p:Addr}{o o':HO}(hl:H l=none) (hp:(upd H l o) p=none):aO H (upd (upd H l o) p o'):=fun b u e=>by
 have m1:b≠l:=aF e hl;have m2:b≠p:=aF (show (upd H l o) b=some u by rw[aI m1]; exact e) hp;rw[aI m2,aI m1];exact e
theorem iQ {X:Cx}{W:Str}{d:Addr}{j:Nat}{p1 p2 p3 p4 p5 p6 p7 p8 p9:Pos}(hN:X.N[0]?=some ("_law_e" : Str)) (hv:Vis X.env.scope ("_law_e" : Str)) (gi:Gl X "int") (mi:X.mg "int" = none) (gs:Gl X "isinstance") (ms:X.mg "isinstance" = none)
  (gW:Gl X W) (mW:X.mg W=some (.ref d)) (hd:(W==("__debug__" : Str))=false) :
  PE X (.BinOp (.List [.Constant (.str W) j p1] p2) .Mult (.Call (.Name "int" p3) [.Call (.Name "isinstance" p4) [.Name "_law_e" p5,.Name W p6] [] p7] [] p8) p9) (tWd X.K W d):=
 PE.weak (aS zA (cM (pac aQ aJ)) (eN aDo gi mi Bo.int (pac (cH uM gs ms Bo.isinstance (pac (oY hN hv) (pac (iS (v:=.ref d) gW mW rfl hd) aJ)) (he:=bV rfl) (hpl:=rfl)) aJ) (he:=bV rfl) (hpl:=rfl)))
  (fun σ H Q ⟨e,C,b,h0,hx,ek,kt,q⟩=>⟨by show 1<=sizeLine; decide,fun l hl=>⟨_,h0,e,C,_,_,b,rfl,aHv,(show upd H l _ e=_ by rw[aI (aF hx hl)]; exact hx),ek,kt,.inr ⟨_,rfl,l,_,_,rfl,rfl,aD,by cases b <;> decide,by cases b <;> decide,(by cases b <;> (show _<=16777216; simp)),fun p hp=>q p _ (aMs hl hp) (by rw[aD]; cases b <;> rfl)⟩⟩⟩)
def wdJ (e:Addr) (H:Hp) (i n:Nat) (σ:St) (H':Hp):Prop:=∃ p,σ=[some (.ref e),some (.ref p)]∧aO H H'∧H' p=some (.lst ((uU i n).map V.str))
section
variable {K:PySem.W.Frag}{mg:Str->Option Value}{ds:Nat->Addr}(W:Wd K mg ds){i:Nat}(hi:i∈gI){e:Addr}{H:Hp}(hx:aBr H e (ds i))
include W hi hx
theorem aDy {D:sN}{v:Option V}:aEh (tOp aHz (tWd K "NoName" (ds 0)) (tWd K "NoDeed" (ds 1))) (eV 1) { D with nx:=wdJ e H i 2 } [some (.ref e),v] H:=by
 have ek:=W.ek i hi;refine⟨e,_,_,rfl,hx,ek,W.kit i hi 0 (by decide),fun p0 H0 s0 h0=>⟨e,_,_,rfl,s0 e _ hx,ek,W.kit i hi 1 (by decide),fun p1 H1 s1 h1=>⟨p0,p1,_,_,rfl,rfl,s1 _ _ h0,h1,?_,fun p hp=>⟨p,rfl,(s0.trans s1).trans (fun b u z=>by rw[aI (aF z hp)]; exact z),?_⟩⟩⟩⟩
 ·have sl:sizeLine=16777216:=sizeLine_eq
  have:∀ (b:Bool) (x:Str),((if b then [x] else []).map V.str).length<=1:=fun b x=>by cases b <;> simp
  have a1:=this (decide (i=0)) "NoName";have a2:=this (decide (i=1)) "NoDeed";omega
 ·rw[aD,lG i 1 (W:="NoDeed") rfl,lG i 0 (W:="NoName") rfl,List.map_append,List.map_append];rfl
theorem oN {D:sN}{n:Nat}{U U':Str}(hn:n+1<14) (h1:nms[n]?=some U) (h2:nms[n+1]?=some U'){σ:St}{H1:Hp}(J:wdJ e H i n σ H1) :
  aEh (tOp aHz (tOp aHz (yK 1) (tWd K U (ds n))) (tWd K U' (ds (n+1)))) (eV 1) { D with nx:=wdJ e H i (n+2) } σ H1:=by
 obtain⟨p,rfl,sm,hp⟩:=J;have ek:=W.ek i hi;have sl:sizeLine=16777216:=sizeLine_eq;have l1:∀ (b:Bool) (x:Str),((if b then [x] else []).map V.str).length<=1:=fun b x=>by cases b <;> simp
 have l2:=aEa i n;refine⟨_,rfl,e,_,_,rfl,sm e _ hx,ek,W.kit i hi n (by omega),fun pa Ha sa ha=>⟨p,pa,_,_,rfl,rfl,sa _ _ hp,ha,?_,fun pc hpc=>?_⟩⟩
 ·have:=l1 (decide (i=n)) U
  rw[List.length_map];omega
 have sc:aO Ha (upd Ha pc (.lst ((uU i n).map V.str++(if decide (i=n) then [U] else []).map V.str))):=fun b u z=>by rw[aI (aF z hpc)]; exact z
 refine⟨e,_,_,rfl,sc e _ (sa e _ (sm e _ hx)),ek,W.kit i hi (n+1) hn,fun pb Hb sb hb=>⟨pc,pb,_,_,rfl,rfl,sb _ _ aD,hb,?_,fun pd hpd=>⟨pd,rfl,(((sm.trans sa).trans sc).trans sb).trans (fun b u z=>by rw[aI (aF z hpd)]; exact z),?_⟩⟩⟩
 ·have a1:=l1 (decide (i=n)) U;have a2:=l1 (decide (i=n+1)) U';rw[List.length_append,List.length_map];omega
 ·rw[aD,lG i (n+1) h2,lG i n h1,List.map_append,List.map_append]
end
section
variable {P:Program}{w:World}{K:PySem.W.Frag}{mg:Str->Option Value}{base:Heap}
abbrev NW:List Str:=["_law_e","_law_words"]
theorem wI:aR NW ["_law_e"] (aB tS):=⟨rfl,rfl,rfl,by decide +kernel,rfl,by decide +kernel,by decide +kernel⟩
theorem aEb:∀ i∈gI,∀ x,nms[i]?=some x->uU i 14=[x]:=by
 intro i hi x hx
 have:∀ i∈gI,uU i 14=(nms[i]?).toList:=by decide +kernel
 rw[this i hi,hx];rfl
theorem aIj {f:Addr}{fd:FuncData}{ds:Nat->Addr}(F:Fun K "_law_word" "_law_word" tS f fd) (T:Txt K mg) (W:Wd K mg ds):uS P w K mg base 1 f fd ["_law_e"] (uX (jY ds)):=by
 refine F.okU wI (fun vs H Q E h=>?_) (fun cdv A outer s H vs Q hr h=>?_)
 ·obtain⟨e,C,x,rfl,_⟩:=h;rfl
 ·obtain⟨e,C,x,rfl,hx,hw,q⟩:=h;obtain⟨i,hi,rfl,hnm⟩:=oM hw
  refine⟨_,dL (wdJ e H i 2) (aW (i:=1) wI.nd rfl (Or.inl rfl) (aS eC (iQ (W:="NoName") rfl (Or.inl rfl) rfl T.int rfl T.isi rfl (W.m 0 _ rfl) (by decide)) (iQ (W:="NoDeed") rfl (Or.inl rfl) rfl T.int rfl T.isi rfl (W.m 1 _ rfl) (by decide))))
   (dL (wdJ e H i 4) (aW (i:=1) wI.nd rfl (Or.inl rfl) (aS eC (aS eC (pv 1) (iQ (W:="NoRoom") rfl (Or.inl rfl) rfl T.int rfl T.isi rfl (W.m 2 _ rfl) (by decide))) (iQ (W:="TwiceTold") rfl (Or.inl rfl) rfl T.int rfl T.isi rfl (W.m 3 _ rfl) (by decide))))
   (dL (wdJ e H i 6) (aW (i:=1) wI.nd rfl (Or.inl rfl) (aS eC (aS eC (pv 1) (iQ (W:="TooMany") rfl (Or.inl rfl) rfl T.int rfl T.isi rfl (W.m 4 _ rfl) (by decide))) (iQ (W:="NoRule") rfl (Or.inl rfl) rfl T.int rfl T.isi rfl (W.m 5 _ rfl) (by decide))))
   (dL (wdJ e H i 8) (aW (i:=1) wI.nd rfl (Or.inl rfl) (aS eC (aS eC (pv 1) (iQ (W:="NoRow") rfl (Or.inl rfl) rfl T.int rfl T.isi rfl (W.m 6 _ rfl) (by decide))) (iQ (W:="NoHold") rfl (Or.inl rfl) rfl T.int rfl T.isi rfl (W.m 7 _ rfl) (by decide))))
   (dL (wdJ e H i 10) (aW (i:=1) wI.nd rfl (Or.inl rfl) (aS eC (aS eC (pv 1) (iQ (W:="NoHolder") rfl (Or.inl rfl) rfl T.int rfl T.isi rfl (W.m 8 _ rfl) (by decide))) (iQ (W:="FreeDeed") rfl (Or.inl rfl) rfl T.int rfl T.isi rfl (W.m 9 _ rfl) (by decide))))
   (dL (wdJ e H i 12) (aW (i:=1) wI.nd rfl (Or.inl rfl) (aS eC (aS eC (pv 1) (iQ (W:="NotNow") rfl (Or.inl rfl) rfl T.int rfl T.isi rfl (W.m 10 _ rfl) (by decide))) (iQ (W:="NoWarden") rfl (Or.inl rfl) rfl T.int rfl T.isi rfl (W.m 11 _ rfl) (by decide))))
   (dL (wdJ e H i 14) (aW (i:=1) wI.nd rfl (Or.inl rfl) (aS eC (aS eC (pv 1) (iQ (W:="NoText") rfl (Or.inl rfl) rfl T.int rfl T.isi rfl (W.m 12 _ rfl) (by decide))) (iQ (W:="NoBook") rfl (Or.inl rfl) rfl T.int rfl T.isi rfl (W.m 13 _ rfl) (by decide))))
   (aK (dH (wR (bX xA (cH cK (by rfl) T.len Bo.len (pac (pv 1) aJ)) aN (cN _))
     (vD (mU (rF (cH uM (by rfl) T.isi Bo.isinstance (pac (pv 0) (pac (aAx (v:=.ty "ValueError") (by rfl) W.mve aOp rfl) aJ))))))).pt
    (aL (bO aQ)) cF)
   (aL (bO (dJ cS (pv 1) aN (fun _ _=>rfl))))))))))),?_⟩
  refine⟨aDy W hi hx,fun σ1 K1 J1=>⟨oN W hi hx (n:=2) (by decide) rfl rfl J1,fun σ2 K2 J2=>⟨oN W hi hx (n:=4) (by decide) rfl rfl J2,fun σ3 K3 J3=>⟨oN W hi hx (n:=6) (by decide) rfl rfl J3,fun σ4 K4 J4=>⟨oN W hi hx (n:=8) (by decide) rfl rfl J4,
   fun σ5 K5 J5=>⟨oN W hi hx (n:=10) (by decide) rfl rfl J5,fun σ6 K6 J6=>⟨oN W hi hx (n:=12) (by decide) rfl rfl J6,fun σ7 K7 J7=>?_⟩⟩⟩⟩⟩⟩⟩
  obtain⟨p,rfl,sm,hp⟩:=J7;rw[aEb i hi x hnm] at hp;exact⟨_,rfl,p,_,rfl,.inl (SqL.of hp),rfl,_,rfl,hU ⟨_,rfl,e,_,_,_,_,rfl,yV,sm e _ hx,W.ek i hi,W.ve _ hi,_,rfl,hU ⟨_,rfl,p,_,_,_,rfl,rfl,SqL.of hp,rfl,q K7 sm⟩⟩⟩
end
end K22
namespace K22
open PySem L2 Ky
seal L2.PE L2.PS L2.PSs L2.PA L2.PT L2.PW L2.PG L2.PI L2.PTs L2.PO L2.PPs L2.OpR L2.IxR L2.CallR L2.MtM L2.MtR
theorem aBa:∀ x y:List Nat,PySem.Spec.ltCps x y=false->PySem.Spec.ltCps y x=false->x=y
 | [],[],_,_=>rfl
 | [],_::_,h,_=>by simp[PySem.Spec.ltCps] at h
 | _::_,[],_,h=>by simp[PySem.Spec.ltCps] at h
 | a::r,b::t,h,h'=>by
  simp only[PySem.Spec.ltCps,Bool.or_eq_false_iff,decide_eq_false_iff_not,Bool.and_eq_false_iff,beq_eq_false_iff_ne] at h h';have e:a=b:=by omega
  subst e;have h1:PySem.Spec.ltCps r t=false:=by rcases h.2 with z | z; exact absurd rfl z; exact z
  have h2:PySem.Spec.ltCps t r=false:=by rcases h'.2 with z | z; exact absurd rfl z; exact z
  rw[aBa r t h1 h2]
theorem aKe:∀ x y z:List Nat,PySem.Spec.ltCps y x=false->PySem.Spec.ltCps z y=false->PySem.Spec.ltCps z x=false
 | [],_,[],_,_=>rfl
 | [],_,_::_,_,_=>rfl
 | _::_,[],_,h,_=>by simp[PySem.Spec.ltCps] at h
 | _::_,_::_,[],_,h=>by simp[PySem.Spec.ltCps] at h
 | a::r,b::t,c::u,h,h'=>by
  simp only[PySem.Spec.ltCps,Bool.or_eq_false_iff,decide_eq_false_iff_not,Bool.and_eq_false_iff,beq_eq_false_iff_ne] at h h' ⊢;refine⟨by omega,?_⟩
  by_cases e:c=a
  ·refine .inr ?_;have h1:PySem.Spec.ltCps t r=false:=by rcases h.2 with z | z; exact absurd (by omega) z; exact z
   have h2:PySem.Spec.ltCps u t=false:=by rcases h'.2 with z | z; exact absurd (by omega) z; exact z
   exact aKe r t u h1 h2
  ·exact .inl e
abbrev leS (a b:Str):Prop:=PySem.Spec.ltCps b.cps.toList a.cps.toList=false
theorem rE:∀ (r:List Str) (p:Str),PyProof.Rows.risingS p r=true->(∀ z∈r,leS p z)∧r.Pairwise leS
 | [],_,_=>⟨fun _ h=>absurd h (by simp),List.Pairwise.nil⟩
 | x::r,p,h=>by
  simp only[PyProof.Rows.risingS,Bool.and_eq_true,Bool.not_eq_true'] at h;obtain⟨h1,h2⟩:=rE r x h.2;refine⟨fun z hz=>?_,.cons h1 h2⟩;rcases List.mem_cons.mp hz with rfl | hz
  ·exact h.1
  ·exact aKe _ _ _ h.1 (h1 z hz)
theorem oT {l:List Str}(h:PyProof.Rows.sortedS l=true):l.Pairwise leS:=by
 cases l with
 | nil=>exact .nil
 | cons x r=>
  obtain⟨h1,h2⟩:=rE r x h;exact .cons h1 h2
theorem aAw:∀ (l m:List Str),l.Perm m->l.Pairwise leS->m.Pairwise leS->l=m
 | [],m,p,_,_=>(List.Perm.nil_eq p)
 | a::r,[],p,_,_=>by have:=p.length_eq; simp at this
 | a::r,b::t,p,h,h'=>by
  have e:a=b:=by
   by_cases e:a=b
   ·exact e
   ·have h1:a∈t:=by
     rcases List.mem_cons.mp (p.mem_iff.mp (List.mem_cons_self ..)) with z | z
     ·exact absurd z e
     ·exact z
    have h2:b∈r:=by
     rcases List.mem_cons.mp (p.mem_iff.mpr (List.mem_cons_self ..)) with z | z
     ·exact absurd z.symm e
     ·exact z
    have g1:leS a b:=List.rel_of_pairwise_cons h h2;have g2:leS b a:=List.rel_of_pairwise_cons h' h1;have g:=aBa _ _ g2 g1;obtain⟨⟨x⟩⟩:=a;obtain⟨⟨y⟩⟩:=b;have g':x=y:=g;rw[g']
  subst e;rw[aAw r t p.cons_inv (List.Pairwise.of_cons h) (List.Pairwise.of_cons h')]
theorem qZ {l m s:List Str}(p:l.Perm s) (q:m.Perm s) (h:PyProof.Rows.sortedS l=true) (h':PyProof.Rows.sortedS m=true):l=m:=
 aAw l m (p.trans q.symm) (oT h) (oT h')
def aAz (r s k:Nat):Str:=jF.getD ((r+s*k)%12) ""
theorem aIu (c:Int) (m:Nat):((c+(m:Int))%12).toNat=((c%12).toNat+m)%12:=by
 have h:=cG c (m:=12) (by decide);have e:c%12=((c%12).toNat:Int):=(Int.toNat_of_nonneg h.1).symm;generalize (c%12).toNat=r at e;rw[← Int.emod_add_emod,e,← Int.natCast_add];exact congrArg Int.toNat (Int.natCast_emod (r+m) 12).symm
theorem aFu (c:Int) (k:Nat):oZ c k=aAz (c%12).toNat (gJ c).toNat k:=by
 unfold oZ aAz;congr 1;rcases jD c with e | e | e | e
 ·rw[e];exact aIu c (1*k)
 ·rw[e];exact aIu c (5*k)
 ·rw[e];exact aIu c (7*k)
 ·rw[e];exact aIu c (11*k)
theorem jP {α:Type}{p:List α->Prop}(h:∀ a,p [a]):∀ us:List α,us.length=1->p us
 | [a],_=>h a
theorem pI {α:Type}{p:List α->Prop}(h:∀ a b,p [a,b]):∀ us:List α,us.length=2->p us
 | [a,b],_=>h a b
theorem qH {α:Type}{p:List α->Prop}(h:∀ a b c,p [a,b,c]):∀ us:List α,us.length=3->p us
 | [a,b,c],_=>h a b c
theorem aLr:∀ r,r<12->∀ s∈([1,5,7,11]:List Nat),((List.range 12).map (aAz r s)).Nodup:=by decide +kernel
theorem yO:∀ z∈jF,aZ z=true:=by decide +kernel
theorem zK (c:Int) (k:Nat):oZ c k∈jF:=by
 unfold oZ;have h:=cG (c+gJ c*k) (m:=12) (by decide);have hl:((c+gJ c*k)%12).toNat<jF.length:=by show _<12; omega
 rw[List.getD_eq_getElem?_getD,List.getElem?_eq_getElem hl];exact List.getElem_mem hl
theorem xG {c:Int}{n:Nat}{z:Str}(h:z∈dS c n):z∈jF:=by
 obtain⟨k,_,rfl⟩:=List.mem_map.mp h;exact zK c k
theorem sU (c:Int){n:Nat}(hn:n<=12):(dS c n).Nodup:=by
 have h:=cG c (m:=12) (by decide);have hs:(gJ c).toNat∈([1,5,7,11]:List Nat):=by rcases jD c with e | e | e | e <;> rw[e] <;> decide
 have hN:=aLr (c%12).toNat (by omega) _ hs
 have e:dS c n=((List.range 12).map (aAz (c%12).toNat (gJ c).toNat)).take n:=by
  unfold dS;rw[← List.map_take,List.take_range,Nat.min_eq_left hn];exact List.map_congr_left fun k _=>aFu c k
 rw[e];exact hN.sublist (List.take_sublist n _)
theorem wH:∀ (pre seen suf:List Str),(∀ z∈pre,aZ z=true)->(seen++pre).Nodup->sQ seen (pre++suf)=sQ (seen++pre) suf
 | [],seen,suf,_,_=>by simp
 | z::r,seen,suf,h,hn=>by
  show (if aZ z=true then (if z∈seen then some Why.twice else sQ (seen++[z]) (r++suf)) else some .noName)=_
  have hz:z∉seen:=fun m=>by
   have:=(List.nodup_append.mp hn).2.2 z m z (List.mem_cons_self ..)
   exact this rfl
  rw[if_pos (h z (List.mem_cons_self ..)),if_neg hz,wH r (seen++[z]) suf (fun y hy=>h y (List.mem_cons_of_mem _ hy)) (by simpa using hn)]
  simp
theorem yW {ss:List Str}(h:ss.length<=12) (hn:∀ z∈ss,aZ z=true) (hd:ss.Nodup):iP ss=none:=by
 unfold iP;rw[if_neg (by omega)]
 have:=wH ss [] [] hn (by simpa using hd)
 rw[List.append_nil] at this;rw[this];rfl
theorem zV {c:Int}{ss:List Str}{z:Str}(h:z∈pO c ss):z∈ss:=by
 unfold pO at h;obtain⟨k,_,e⟩:=List.mem_filterMap.mp h;split at e
 ·exact List.mem_of_getElem? e
 ·cases e
theorem zW (c:Int) (ss:List Str):(pO c ss).length<=ss.length:=by
 unfold pO;exact Nat.le_trans (List.length_filterMap_le ..) (by rw[List.length_range]; exact Nat.le_refl _)
theorem xZ {ss fs:List Str}(h:ss.length<=12) (hn:∀ z∈ss,aZ z=true) (hd:ss.Nodup) (hf:∀ z∈fs,z∈ss):lA ss fs=none:=by
 unfold lA;rw[yW h hn hd];exact if_pos (List.all_eq_true.mpr fun z hz=>by rw[hn z (hf z hz),decide_eq_true (hf z hz)]; rfl)
end K22
namespace K22
open PySem L2 Ky
seal L2.PE L2.PS L2.PSs L2.PA L2.PT L2.PW L2.PG L2.PI L2.PTs L2.PO L2.PPs L2.OpR L2.IxR L2.CallR L2.MtM L2.MtR
unseal L2.MtM L2.MtR
section
variable {P:Program}{w:World}{K:PySem.W.Frag}{mg:Str->Option Value}{base:Heap}
theorem aEs:aR ["begin","ends","doors","rooms","room","deed","far"] ["begin","ends","doors"] (aB oU):=⟨rfl,rfl,rfl,by decide +kernel,rfl,by decide +kernel,by decide +kernel⟩
theorem aFk {f:Addr}{fd:FuncData}(F:Fun K "named_rooms" "named_rooms" oU f fd):bE P w K mg base CX0 1 f fd ["begin","ends","doors"] aAn:=by
 refine F.ok aEs (fun vs H Q E h=>?_) (fun cdv A outer s H vs Q E hr h=>?_)
 ·obtain⟨b,e,d,es,ds,rfl,_⟩:=h;rfl
 ·obtain⟨b,e,d,es,ds,rfl,hE,hD,hle,hld,q⟩:=h
  refine⟨_,aK (aW (i:=3) aEs.nd rfl (Or.inl rfl) (cM (pac (pv 0) aJ)))
   (aK (dB (kX PySem.F.plainAttrs_list PySem.F.slot_list_extend PySem.F.type_list_extend pA (pv 3) (pac (pv 1) aJ)))
   (aK (eJ PassesOwn.never rfl (dC (pv 2)) (fE rfl (aY (aP (i:=4) aEs.nd rfl (Or.inl rfl)) (aY (aP (i:=5) aEs.nd rfl (Or.inl rfl)) (aY (aP (i:=6) aEs.nd rfl (Or.inl rfl)) dR))))
    (aK (dB (kX PySem.F.plainAttrs_list PySem.F.slot_list_append PySem.F.type_list_append eO (pv 3) (pac (pv 4) aJ)))
    (aL (dB (kX PySem.F.plainAttrs_list PySem.F.slot_list_append PySem.F.type_list_append eO (pv 3) (pac (pv 6) aJ))))))
   (aL (bO (pv 3))))),?_⟩
  obtain⟨ts,hd,htl,htt⟩:=hD.ex;refine⟨_,rfl,by show 1<=sizeLine; decide,fun p hp=>⟨_,rfl,.inl ⟨rfl,_,SqL.of aD⟩,_,rfl,p,e,_,_,rfl,rfl,aD,smu hp _ _ hE,kE (by rw[List.length_map]; show 1+_<=_; omega),?_⟩⟩;have s0:aO H _:=smu (o:=.lst [.str b]) hp;have s1:∀ ys,aO H (upd (upd H p (.lst [.str b])) p (.lst ys)):=fun ys c o h=>by rw[aI (aF h hp)]; exact s0 c o h
  refine⟨_,rfl,d,rfl,⟨_,SqL.of (s1 _ _ _ hd)⟩,?_⟩;refine dN (xs:=ts.map V.ref) (fun i σ H'=>∃ x4 x5 x6,σ=[some (.str b),some (.ref e),some (.ref d),some (.ref p),x4,x5,x6]∧H' p=some (.lst ((b::es++eU (ds.take i)).map V.str))∧aO H H') ?_ ?_ ?_ ?_
  ·refine⟨none,none,none,rfl,?_,s1 _⟩;rw[aD];show some (HO.lst ([V.str b]++es.map V.str))=some (HO.lst ((b::es++[]).map V.str));rw[List.append_nil];rfl
  ·rintro i σ H' _ ⟨x4,x5,x6,rfl,h1,h2⟩;exact SqL.of (h2 _ _ hd)
  ·rintro i x σ H' hx ⟨x4,x5,x6,rfl,h1,h2⟩;rw[List.getElem?_map] at hx;cases ht:ts[i]? with
   | none=>rw[ht] at hx; cases hx
   | some t=>
    rw[ht] at hx;cases hx;have hi:i<ds.length:=by rw[← htl]; exact (List.getElem?_eq_some_iff.mp ht).1
    have hz:ds[i]?=some ds[i]:=List.getElem?_eq_getElem hi;generalize ds[i]=z at hz;have e1:=rZ hz;have hl:(eU (ds.take i)).length<=2000:=by rw[lZ,List.length_take]; omega
    refine⟨t,_,rfl,SqT.of (h2 _ _ (htt i t z ht hz)),rfl,_,_,rfl,_,_,rfl,_,_,rfl,rfl,?_⟩;refine⟨_,rfl,.inl ⟨rfl,_,SqL.of h1⟩,_,rfl,p,_,_,rfl,rfl,h1,?_,?_⟩
    ·rw[List.length_map,List.length_append,List.length_cons];exact Nat.lt_of_le_of_lt (m:=3001) (by omega) (by decide)
    refine⟨_,rfl,.inl ⟨rfl,_,SqL.of aD⟩,_,rfl,p,_,_,rfl,rfl,aD,?_,?_⟩
    ·rw[List.length_append,List.length_map,List.length_append,List.length_cons];exact Nat.lt_of_le_of_lt (m:=3002) (by show _+1<=_; omega) (by decide)
    refine⟨_,_,_,rfl,?_,fun c o h=>?_⟩
    ·rw[aD,e1]
     simp
    ·rw[aI (aF h hp),aI (aF h hp)];exact h2 c o h
  ·rintro σ H' ⟨x4,x5,x6,rfl,h1,h2⟩;rw[List.length_map,htl,List.take_length] at h1;exact⟨_,rfl,q p H' h2 hp h1⟩
end
theorem aNd:aR ["rooms","room"] ["rooms"] (aB hV):=⟨rfl,rfl,rfl,by decide +kernel,rfl,by decide +kernel,by decide +kernel⟩
section
variable {P:Program}{w:World}{K:PySem.W.Frag}{mg:Str->Option Value}{base:Heap}
theorem xB {f fN:Addr}{fd fdN:FuncData}{cl:Why->Addr}(F:Fun K "refuse_rooms" "refuse_rooms" hV f fd) (T:Txt K mg) (Ex:Exc K mg cl)
  (FN:Fun K "is_name" "is_name" kJ fN fdN) (bN:aX K fdN ["thing"] []) (mN:mg "is_name" = some (.ref fN)) :
  bE P w K mg base (CXE P w) 2 f fd ["rooms"] (qY K cl):=by
 have GN:bE P w K mg base CX0 1 fN fdN ["thing"] (uZ K):=vJ FN T;refine okE F aNd (fun vs H Q E h=>?_) (fun cdv A outer s H vs Q E hr h D=>?_)
 ·obtain⟨a,ss,rfl,_⟩:=h;rfl
 ·obtain⟨a,ss,rfl,hS,hsh,q⟩:=h
  refine⟨_,aL (eJ PassesOwn.leaving rfl (dC (pv 0)) (aP (i:=1) aNd.nd rfl (Or.inl rfl))
    (aL (dH (mU (rF (bU GN hr rfl mN FN.kp bN .nil cC (pac (pv 1) aJ)))) (aL (iG D rfl (by rfl) Ex.nn (Ex.x .noName) (pac aQ aJ))) cF))),?_⟩
  refine⟨_,rfl,a,rfl,⟨_,hS⟩,?_⟩;refine dN (xs:=ss.map V.str) (fun i σ H'=>∃ nv,σ=[some (.ref a),nv]∧aO H H'∧(ss.take i).all aZ=true) ?_ ?_ ?_ ?_
  ·exact⟨none,rfl,aO.refl H,rfl⟩
  ·rintro i σ H' _ ⟨nv,rfl,h1,h2⟩;exact h1.seq hS
  ·rintro i x σ H' hx ⟨nv,rfl,h1,h2⟩;rw[List.getElem?_map] at hx;cases hz:ss[i]? with
   | none=>rw[hz] at hx; cases hx
   | some z=>
    rw[hz] at hx;cases hx;obtain⟨hi,hzi⟩:=List.getElem?_eq_some_iff.mp hz;have hzl:z.length<=1000:=hsh z (List.mem_of_getElem? hz);refine⟨_,rfl,.str z,rfl,.inl ⟨z,rfl,Nat.le_of_lt (aU hzl),fun H2 sm2=>⟨_,rfl,?_⟩⟩⟩
    by_cases hn:aZ z=true
    ·rw[hn];refine hU ⟨some (.str z),rfl,h1.trans sm2,?_⟩;rw[List.take_succ,hz,List.all_append,h2];show (true&&(aZ z&&true))=true;rw[hn];rfl
    ·rw[Bool.eq_false_iff.mpr hn];refine jU ⟨by show 1<=sizeLine; decide,?_⟩
     have:=q H2 (h1.trans sm2)
     rw[sW h2,List.drop_eq_getElem_cons hi,hzi] at this;unfold iK at this;rw[if_neg (by rw[List.all_cons,Bool.eq_false_iff.mpr hn]; exact Bool.false_ne_true)] at this;exact this
  ·rintro σ H' ⟨nv,rfl,h1,h2⟩;rw[List.length_map,List.take_length] at h2
   have:=q H' h1
   unfold iK at this;rw[if_pos h2] at this;exact this
end
theorem aBx:aR ["rooms","doors","leads","room","deed","far"] ["rooms","doors"] (aB oX):=⟨rfl,rfl,rfl,by decide +kernel,rfl,by decide +kernel,by decide +kernel⟩
section
variable {P:Program}{w:World}{K:PySem.W.Frag}{mg:Str->Option Value}{base:Heap}
theorem aFo {f:Addr}{fd:FuncData}(F:Fun K "leads_of" "leads_of" oX f fd):bE P w K mg base CX0 1 f fd ["rooms","doors"] (aAr K):=by
 refine F.ok aBx (fun vs H Q E h=>?_) (fun cdv A outer s H vs Q E hr h=>?_)
 ·obtain⟨a,d,rs,ds,rfl,_⟩:=h;rfl
 ·obtain⟨a,d,rs,ds,rfl,hR,hD,hlr,hld,hin,hap,q⟩:=h;have hu:=jS hr
  refine⟨_,aK (aW (i:=2) aBx.nd rfl (Or.inl rfl) kU)
   (aK (eJ PassesOwn.never rfl (dC (pv 0)) (aP (i:=3) aBx.nd rfl (Or.inl rfl)) (aL (jL hu (pv 2) (pv 3) kU rfl)))
   (aK (eJ PassesOwn.never rfl (dC (pv 1)) (fE rfl (aY (aP (i:=3) aBx.nd rfl (Or.inl rfl)) (aY (aP (i:=4) aBx.nd rfl (Or.inl rfl)) (aY (aP (i:=5) aBx.nd rfl (Or.inl rfl)) dR))))
    (aK (dH (rG (vH hu (pv 4) (jM hu (pv 2) (pv 3) (fun _ _=>rfl)))) (aL aAv) cF)
    (aL (jL hu (jM hu (pv 2) (pv 3) (fun _ _=>rfl)) (pv 4) (pv 5) rfl))))
   (aL (bO (pv 2))))),?_⟩
  obtain⟨ts,hd,htl,htt⟩:=hD.ex;intro l hl;have s0:aO H (upd H l (.dK [])):=smu hl;refine⟨_,rfl,a,rfl,⟨_,s0.seq hR⟩,?_⟩;refine dN (xs:=rs.map V.str) (fun i σ H'=>∃ x3 kvs g,σ=[some (.ref a),some (.ref d),some (.ref l),x3,none,none]∧dU H' l (rs.take i) [] kvs g∧(∀ z∈rs.take i,H (g z)=none)∧kvs.length<=i∧aO H H') ?_ ?_ ?_ ?_
  ·exact⟨none,[],fun _=>0,rfl,⟨aD,rfl,fun z hz=>(nomatch hz),fun z hz=>(nomatch hz),fun z hz=>(nomatch hz),fun z hz=>(nomatch hz)⟩,fun z hz=>(nomatch hz),Nat.le_refl _,s0⟩
  ·rintro i σ H' _ ⟨x3,kvs,g,rfl,L,hg,hk,sm⟩;exact sm.seq hR
  ·rintro i x σ H' hx ⟨x3,kvs,g,rfl,L,hg,hk,sm⟩;rw[List.getElem?_map] at hx;cases hz:rs[i]? with
   | none=>rw[hz] at hx; cases hx
   | some z=>
    rw[hz] at hx;cases hx;have hi:i<rs.length:=(List.getElem?_eq_some_iff.mp hz).1;have et:rs.take (i+1)=rs.take i++[z]:=by rw[List.take_succ,hz]; rfl
    intro c hc;have cl:c≠l:=fun e=>by rw[e,L.dk] at hc; cases hc
    have hcH:H c=none:=by
     cases e:H c with
     | none=>rfl
     | some o=>rw[sm _ _ e] at hc; cases hc
    refine⟨_,rfl,_,rfl,l,_,rfl,pU.k (k:=Sum.inr z) (by rw[aI (Ne.symm cl)]; exact L.dk) (aU (by omega)),?_⟩;refine⟨_,_,_,rfl,by rw[et]; exact L.more hc z,fun y hy=>?_,?_,fun b o e=>?_⟩
    ·rw[et] at hy
     by_cases e:y=z
     ·show H (if y=z then c else g y)=none
      rw[if_pos e]; exact hcH
     ·show H (if y=z then c else g y)=none
      rw[if_neg e];exact hg y ((List.mem_append.mp hy).resolve_right fun w=>e (List.mem_singleton.mp w))
    ·exact Nat.le_trans (dP _ _ _) (Nat.succ_le_succ hk)
    ·rw[aI (aF e hl),aI (aF e hcH)];exact sm b o e
  ·rintro σ H1 ⟨x3,kvs,g,rfl,L,hg,hk,sm⟩;rw[List.length_map,List.take_length] at L hg;refine⟨_,rfl,d,rfl,⟨_,SqL.of (sm _ _ hd)⟩,?_⟩;refine dN (xs:=ts.map V.ref) (fun i σ H'=>∃ x3 x4 x5,σ=[some (.ref a),some (.ref d),some (.ref l),x3,x4,x5]∧dU H' l rs (ds.take i) kvs g∧aO H H') ?_ ?_ ?_ ?_
   ·exact⟨_,_,_,rfl,L,sm⟩
   ·rintro i σ H' _ ⟨x3,x4,x5,rfl,h1,h2⟩;exact SqL.of (h2 _ _ hd)
   ·rintro i x σ H' hx ⟨x3,x4,x5,rfl,L',sm'⟩;rw[List.getElem?_map] at hx;cases ht:ts[i]? with
    | none=>rw[ht] at hx; cases hx
    | some t=>
     rw[ht] at hx;cases hx;have hi:i<ds.length:=by rw[← htl]; exact (List.getElem?_eq_some_iff.mp ht).1
     have hz:ds[i]?=some ds[i]:=List.getElem?_eq_getElem hi;generalize ds[i]=z at hz;have zin:=hin z (List.mem_of_getElem? hz)
     have gv:fU H' l (.str z.1) (some (.ref (g z.1))):=by
      have:=fU.k (k:=Sum.inr z.1) L'.dk
      rw[L'.val _ zin] at this;exact this
     have gi:=fU.k (k:=Sum.inr z.2.1) (L'.dd _ zin);rw[xP (hap.at hz)] at gi;refine⟨t,_,rfl,SqT.of (sm' _ _ (htt i t z ht hz)),rfl,_,_,rfl,_,_,rfl,_,_,rfl,rfl,?_⟩;refine⟨_,rfl,_,rfl,_,rfl,l,_,rfl,gv,g z.1,none,rfl,gi,_,rfl,hU ?_⟩;refine⟨_,rfl,_,rfl,_,rfl,l,_,rfl,gv,_,rfl,g z.1,_,rfl,pU.k (k:=Sum.inr z.2.1) (L'.dd _ zin) (aU (Nat.le_trans (aJd _ _) (by rw[List.length_take]; omega))),?_⟩;refine⟨_,_,_,rfl,L'.door hz zin hap,fun b o e=>?_⟩;rw[aI (aF e (hg _ zin))];exact sm' b o e
   ·rintro σ H' ⟨x3,x4,x5,rfl,h1,h2⟩;rw[List.length_map,htl,List.take_length] at h1;exact⟨_,rfl,q l kvs g H' h2 hl hg h1⟩
end
end K22
namespace K22
open PySem L2 Ky
seal L2.PE L2.PS L2.PSs L2.PA L2.PT L2.PW L2.PG L2.PI L2.PTs L2.PO L2.PPs L2.OpR L2.IxR L2.CallR L2.MtM L2.MtR
unseal L2.MtM L2.MtR
abbrev NMI:List Str:=["self","deeds","begin","ends","doors","more","rooms","known"]
theorem aKz:aR NMI ["self","deeds","begin","ends","doors","more"] (aB lX):=⟨rfl,rfl,rfl,by decide +kernel,rfl,by decide +kernel,by decide +kernel⟩
section
variable {P:Program}{w:World}{K:PySem.W.Frag}{mg:Str->Option Value}{base:Heap}
theorem aFm {f fN fR fL fK fQ C CM:Addr}{fd fdN fdR fdL fdK fdQ:FuncData}{cl:Why->Addr}(F:aHb K "__init__" "Machine.__init__" lX f fd) (T:Txt K mg) (DC:aDt K C) (MC:sX K CM)
  (mMR:∃ t,mg "MOST_ROOMS"=some (.int 60 t))
  (GN:bE P w K mg base CX0 1 fN fdN ["begin","ends","doors"] aAn) (kN:PySem.W.keepIn K (.ref fN)=true) (bN:aX K fdN ["begin","ends","doors"] []) (mN:mg "named_rooms" = some (.ref fN))
  (GR:bE P w K mg base (CXE P w) 2 fR fdR ["rooms"] (qY K cl)) (kR:PySem.W.keepIn K (.ref fR)=true) (bR:aX K fdR ["rooms"] []) (mR:mg "refuse_rooms" = some (.ref fR))
  (GL:bE P w K mg base CX0 1 fL fdL ["rooms","doors"] (aAr K)) (kL:PySem.W.keepIn K (.ref fL)=true) (bL:aX K fdL ["rooms","doors"] []) (mL:mg "leads_of" = some (.ref fL))
  (GK:bE P w K mg base CX0 1 fK fdK ["names"] (qL K)) (kK:PySem.W.keepIn K (.ref fK)=true) (bK:aX K fdK ["names"] []) (mK:mg "marks_of" = some (.ref fK))
  (GQ:bE P w K mg base (CXE P w) 3 fQ fdQ ["self","row"] (lH K C cl)) (bQ:aX K fdQ ["self","row"] []) (mQ:eZ K C "require" fQ) :
  bE P w K mg base (CXE P w) 4 f fd ["self","deeds","begin","ends","doors","more"] (aAp K C CM):=by
 obtain⟨tr,mMR⟩:=mMR;refine aNn F aKz (fun vs H Q E h=>?_) (fun cdv A outer s H vs Q E hr h D=>?_)
 ·obtain⟨x,dd,e,d,dx,b,y,es,ms,ds,wk,rfl,_⟩:=h;rfl
 ·obtain⟨x,dd,e,d,dx,b,y,es,ms,ds,wk,rfl,hx,hW,hE,hD,hM,⟨hle,hld,hlm⟩,hnm,hgd,hsh,hap,h60,q⟩:=h;have hr1:cL 1 _:=hr.mono (by decide);have hr2:cL 2 _:=hr.mono (by decide)
  refine⟨_,aK (aW (i:=6) aKz.nd rfl (Or.inl rfl) (bU GN hr1 rfl mN kN bN .nil cC (pac (pv 2) (pac (pv 3) (pac (pv 4) aJ)))))
   (aK (dB (bU GR hr2 rfl mR kR bR .nil (D.passes fun _ _ _ z=>z) (pac (pv 6) aJ)))
   (aK (gL (i:=7) (N':=["room","deed","far"]) (nown:=3) (js:=[]) rfl aKz.nd rfl rfl rfl
     ⟨rfl,by decide +kernel,by decide +kernel⟩ (cJ (aB lX) NMI rfl rfl (by decide +kernel))
     ⟨fun _ _ _ _=>show PG _ _ (xQ K 3 (gG (eV 0) (gG (eV 1) (gG (eV 2) xR)))) from fE rfl (aY (aP (i:=0) (show List.Nodup (["room","deed","far"]:List Str) by decide +kernel) rfl (Or.inl rfl) (.inr rfl)) (aY (aP (i:=1) (show List.Nodup (["room","deed","far"]:List Str) by decide +kernel) rfl (Or.inl rfl) (.inr rfl)) (aY (aP (i:=2) (show List.Nodup (["room","deed","far"]:List Str) by decide +kernel) rfl (Or.inl rfl) (.inr rfl)) dR))),
      fun _ _ _ _=>eE,fun _ _ _ _=>pv 1⟩
     (dC (pv 4)))
   (dL (fun σ H'=>∃ p c,σ=[some (.ref x),some (.ref dd),some (.str b),some (.ref e),some (.ref d),some y,some (.ref p),some (.ref c)]∧H' p=some (.lst ((cV b es ds).map V.str))∧H' c=some (.lst ((eP ds ms).map V.str))∧aO H H')
    (dH (bX vI (pv 5) iW (cN _)) (aL (dB (kX PySem.F.plainAttrs_list PySem.F.slot_list_extend PySem.F.type_list_extend pA (pv 7) (pac (pv 5) aJ)))) cF)
   (aK (dB (hG (pv 1) DC.cl mQ GQ hr bQ .nil (D.passes fun _ _ _ z=>z) (pac (pv 7) aJ)))
   (aK (jK (pv 0) (bU GL hr1 rfl mL kL bL .nil cC (pac (pv 6) (pac (pv 4) aJ))) rfl)
   (aK (dH (bX pX (cH aDn (by rfl) T.len Bo.len (pac (gZ (pv 0) rfl) aJ)) (iS (v:=.int 60) (by rfl) mMR ⟨_,rfl⟩) (cN _)) (aL aAv) cF)
   (aK (jK (pv 0) (pv 1) rfl)
   (aK (jK (pv 0) (pv 2) rfl)
   (aK (jK (pv 0) (bU GK hr1 rfl mK kK bK .nil cC (pac (pv 3) aJ)) rfl)
   (aL (jK (pv 0) (bU GK hr1 rfl mK kK bK .nil cC (pac (pv 7) aJ)) rfl))))))))))),?_⟩
  have hxe:∀ {a:Addr}{o:HO},H a=some o->(∀ fs,o≠.ins CM dx fs)->a≠x:=fun {a o} h n e=>by rw[e,hx] at h; exact n _ (Option.some.inj h).symm
  refine⟨_,rfl,_,rfl,_,rfl,b,e,d,es,ds,rfl,hE,hD,by omega,by omega,fun p H1 s1 hp hp1=>?_⟩;refine⟨_,rfl,p,_,rfl,SqL.of hp1,rA hnm,fun H2 s2=>?_⟩;unfold iK;rw[if_pos hnm];have s12:=s1.trans s2;obtain⟨ts,hd,htl,htt⟩:=(hD.same s12).ex;have hp2:=s2 _ _ hp1;clear hp1;refine⟨_,rfl,d,rfl,⟨_,SqL.of hd⟩,fun c hc=>?_⟩;refine iJ (xs:=ts.map V.ref) (fun i σ' H'=>∃ v0 v1 v2,σ'=[v0,v1,v2]∧H' c=some (.lst (((ds.take i).map (·.2.1)).map V.str))∧aO H2 H') ?_ ?_ ?_ ?_
  ·exact⟨none,none,none,rfl,aD,smu hc⟩
  ·rintro i σ' H' _ ⟨v0,v1,v2,rfl,h1,h2⟩;exact SqL.of (h2 _ _ hd)
  ·rintro i v σ' H' hv ⟨v0,v1,v2,rfl,h1,h2⟩;rw[List.getElem?_map] at hv;cases ht:ts[i]? with
   | none=>rw[ht] at hv; cases hv
   | some t=>
    rw[ht] at hv;cases hv;have hi:i<ds.length:=by rw[← htl]; exact (List.getElem?_eq_some_iff.mp ht).1
    have hz:ds[i]?=some ds[i]:=List.getElem?_eq_getElem hi;generalize ds[i]=z at hz;refine⟨t,_,rfl,SqT.of (h2 _ _ (htt i t z ht hz)),rfl,_,_,rfl,_,_,rfl,_,_,rfl,rfl,?_⟩;refine⟨_,rfl,_,h1,aU (by rw[List.length_map,List.length_map,List.length_take]; omega),some (.str z.1),some (.str z.2.1),some (.str z.2.2),rfl,?_,fun a o h=>?_⟩
    ·rw[aD,List.take_succ,hz]
     simp
    ·rw[aI (aF h hc)];exact h2 a o h
  ·rintro σ' H3 ⟨v0,v1,v2,rfl,h1,h2⟩;rw[List.length_map,htl,List.take_length] at h1
   have hcH:H c=none:=by
    cases h:H c with
    | none=>rfl
    | some o=>rw[s12 _ _ h] at hc; cases hc
   refine⟨?_,?_⟩
   ·rcases hM with⟨rfl,rfl⟩ | ⟨m,rfl,hm⟩
    ·refine⟨_,rfl,rfl,_,rfl,hU ?_⟩;refine⟨p,c,rfl,h2 _ _ hp2,?_,s12.trans h2⟩;rw[h1];unfold eP;rw[List.append_nil]
    ·refine⟨_,rfl,rfl,_,rfl,jU ?_⟩;refine⟨_,rfl,.inl ⟨rfl,_,SqL.of h1⟩,_,rfl,c,m,_,_,rfl,rfl,h1,h2 _ _ (s12 _ _ hm),kE (by rw[List.length_map,List.length_map,List.length_map]; omega),p,c,rfl,?_,?_,fun a o h=>?_⟩
     ·rw[aI (aF hp2 hc)];exact h2 _ _ hp2
     ·rw[aD];unfold eP;rw[List.map_append]
     ·rw[aI (aF h hcH)];exact h2 _ _ (s12 _ _ h)
   ·clear h1 h2 hp2 s12 s1 s2 hd htl htt hc hcH;rintro σ H4 ⟨p,c,rfl,hp4,hc4,s4⟩;obtain⟨wx,wf,ww,wo,hw0,hw1,hw2,hw3⟩:=hW;refine⟨_,rfl,dd,wx,wf,rfl,s4 _ _ hw0,hw1 "require" (by decide),_,rfl,dd,c,_,wk,rfl,SqL.of hc4,tH hsh,⟨wx,wf,ww,wo,s4 _ _ hw0,hw1,hw2,s4 _ _ hw3⟩,fun H5 s5=>?_⟩;rw[if_pos hgd];have s45:=s4.trans s5;have hx5:=s45 _ _ hx;refine⟨_,rfl,_,rfl,p,d,_,ds,rfl,SqL.of (s5 _ _ hp4),hD.same s45,by rw[wM]; omega,by omega,aGm,hap,fun l kvs g H6 s6 hl hg L=>?_⟩;have hx6:=s6 _ _ hx5;have lx:l≠x:=fun z=>by rw[z,hx5] at hl; cases hl
    have gx:∀ z∈cV b es ds,g z≠x:=fun z hz z'=>by have:=hg z hz; rw[z',hx5] at this; cases this
    refine⟨_,rfl,x,CM,dx,[],rfl,hx6,MC.cl,MC.nl,by decide,?_⟩
    have hkl:kvs.length<=60:=by
     have:=congrArg List.length L.keys
     rw[List.length_map,List.length_map] at this;rw[this]; exact h60
    have L7:dU (upd H6 x (.ins CM dx (gE "leads" (.ref l) []))) l (cV b es ds) ds kvs g:=⟨by rw[aI lx]; exact L.dk,L.keys,L.val,fun z hz=>by rw[aI (gx z hz)]; exact L.dd z hz,L.inj,L.ne⟩;have hx7:(upd H6 x (.ins CM dx (gE "leads" (.ref l) []))) x=some (.ins CM dx [("leads",.ref l)]):=aD;have s7:SameBut x H (upd H6 x (.ins CM dx (gE "leads" (.ref l) []))):=fun a o n h=>by rw[aI n]; exact s6 _ _ (s45 _ _ h)
    have hc7:(upd H6 x (.ins CM dx (gE "leads" (.ref l) []))) c=some (.lst ((eP ds ms).map V.str)):=by
     rw[aI fun z=>by rw[z,s4 _ _ hx] at hc4; cases hc4];exact s6 _ _ (s5 _ _ hc4)
    generalize upd H6 x (.ins CM dx (gE "leads" (.ref l) []))=H7 at L7 hx7 s7 hc7 ⊢;have he7:=s7 _ _ (hxe hE fun _ z=>by cases z) hE;refine⟨_,rfl,x,CM,dx,_,.ref l,rfl,hx7,MC.cl,MC.nl,by rfl,l,kvs,rfl,L7.dk,_,_,rfl,rfl,_,rfl,eQ (fun z=>absurd (of_decide_eq_true z) (by omega)) fun _=>?_⟩;refine⟨_,rfl,_,rfl,x,CM,dx,_,rfl,hx7,MC.cl,MC.nd,by show 1<1000; decide,?_⟩;refine⟨_,rfl,_,rfl,x,CM,dx,_,rfl,aD,MC.cl,MC.nf,by show 2<1000; decide,?_⟩;have hL8:∀ (f2 f3:List (Str×V)),dU (upd (upd H7 x (.ins CM dx f2)) x (.ins CM dx f3)) l (cV b es ds) ds kvs g:=fun f2 f3=>⟨by rw[aI lx,aI lx]; exact L7.dk,L7.keys,L7.val,fun z hz=>by rw[aI (gx z hz),aI (gx z hz)]; exact L7.dd z hz,L7.inj,L7.ne⟩;have h8:∀ (f2 f3:List (Str×V)),SameBut x H7 (upd (upd H7 x (.ins CM dx f2)) x (.ins CM dx f3)):=fun f2 f3 a o n h=>by rw[aI n,aI n]; exact h
    have cx:c≠x:=fun z=>by rw[z,hx7] at hc7; cases hc7
    have ex:e≠x:=hxe hE fun _ z=>by cases z
    refine⟨_,rfl,e,es,rfl,SqL.of (h8 _ _ _ _ ex he7),by omega,fun de H9 s9 hde hde9=>?_⟩;have hx9:=s9 x _ aD;have dex:de≠x:=fun z=>by rw[z,aD] at hde; cases hde
    refine⟨_,rfl,x,CM,dx,_,rfl,hx9,MC.cl,MC.ne,by show 3<1000; decide,?_⟩;have s79:∀ f4:List (Str×V),SameBut x H7 (upd H9 x (.ins CM dx f4)):=fun f4 a o n h=>by rw[aI n]; exact s9 _ _ (h8 _ _ _ _ n h)
    refine⟨_,rfl,c,_,rfl,SqL.of (s79 _ _ _ cx hc7),by unfold eP; rw[List.length_append,List.length_map]; omega,fun dk H10 s10 hdk hdk10=>?_⟩;have hx10:=s10 x _ aD;have dkx:dk≠x:=fun z=>by rw[z,aD] at hdk; cases hdk
    refine⟨_,rfl,x,CM,dx,_,rfl,hx10,MC.cl,MC.nk,by show 4<1000; decide,?_⟩;have sF:∀ f5:List (Str×V),SameBut x H7 (upd H10 x (.ins CM dx f5)):=fun f5 a o n h=>by rw[aI n]; exact s10 _ _ (s79 _ _ _ n h)
    refine q l de dk kvs g _ (fun a o n h=>sF _ a o n (s7 a o n h)) ⟨by rw[aD]; rfl,⟨sF _ _ _ lx L7.dk,L7.keys,L7.val,fun z hz=>sF _ _ _ (gx z hz) (L7.dd z hz),L7.inj,L7.ne⟩,?_,?_⟩
    ·rw[aI dex];exact s10 _ _ (by rw[aI dex]; exact hde9)
    ·rw[aI dkx];exact hdk10
end
end K22
namespace K22
open PySem L2 Ky
seal L2.PE L2.PS L2.PSs L2.PA L2.PT L2.PW L2.PG L2.PI L2.PTs L2.PO L2.PPs L2.OpR L2.IxR L2.CallR L2.MtM L2.MtR
unseal L2.MtM L2.MtR
abbrev tabs:List (List Str):=[["a","b","c","d","e"],["r0","r1","r2","r3","r4"],["go","stop","x","room1","zz"],["a","ab","b","ba","aba"],["a","ab","b","ba","aba"]]
def eX (c:Int) (k:Nat):Str:=(tabs.getD (c%5).toNat []).getD ((c/5+k)%5).toNat ""
def bJ (c:Int) (n:Nat):List Str:=(List.range n).map (eX c)
theorem dO (c:Int) (n:Nat):(bJ c n).length=n:=by unfold bJ; rw[List.length_map,List.length_range]
theorem aJu:∀ i,i<5->(tabs.getD i []).length=5∧(tabs.getD i []).all aZ=true∧(tabs.getD i []).Nodup:=by decide +kernel
inductive tL (vs:List V) (H:Hp) (Q:VK) (E:XK):Prop
 | mk (c:Int) (n:Nat) (h0_:vs=[.int c,.int n]) (h1_:n<=1000) (h2_:∀ (l:Addr) H',aO H H'->H l=none->H' l=some (.lst ((bJ c n).map V.str))->Q (.ref l) H')
section
variable {P:Program}{w:World}{K:PySem.W.Frag}{mg:Str->Option Value}{base:Heap}
abbrev NRB:List Str:=["_law_cell","_law_many","_law_some"]
theorem aKx:aR NRB ["_law_cell","_law_many"] (aB iB):=⟨rfl,rfl,rfl,by decide +kernel,rfl,by decide +kernel,by decide +kernel⟩
theorem zC {f:Addr}{fd:FuncData}(F:Fun K "_law_rooms_by" "_law_rooms_by" iB f fd) (T:Txt K mg):bE P w K mg base CX0 1 f fd ["_law_cell","_law_many"] tL:=by
 refine F.ok aKx (fun vs H Q E h=>?_) (fun cdv A outer s H vs Q E hr h=>?_)
 ·obtain⟨c,n,rfl,_⟩:=h;rfl
 ·obtain⟨c,n,rfl,hn,q⟩:=h
  refine⟨_,aK (aW (i:=2) aKx.nd rfl (Or.inr rfl) (cM (pac (cM (pac aQ (pac aQ (pac aQ (pac aQ (pac aQ aJ)))))) (pac (cM (pac aQ (pac aQ (pac aQ (pac aQ (pac aQ aJ)))))) aJ))))
   (aK (aW (i:=2) aKx.nd rfl (Or.inr rfl) (aS eC (aS eC (pv 2) (cM (pac (cM (pac aQ (pac aQ (pac aQ (pac aQ (pac aQ aJ)))))) aJ)))
     (aS zA (cM (pac (cM (pac aQ (pac aQ (pac aQ (pac aQ (pac aQ aJ)))))) aJ)) aN)))
   (aL (bO (eL (N':=["_law_k","_law_some","_law_cell"]) (nown:=1) (js:=[2,0]) rfl
     ⟨rfl,by decide +kernel,by decide +kernel⟩ (cJ (aB iB) NRB rfl rfl (by decide +kernel))
     ⟨fun _ _ _ _=>aP (i:=0) (show List.Nodup (["_law_k","_law_some","_law_cell"]:List Str) by decide +kernel) rfl (Or.inl rfl) (.inr rfl),fun _ _ _ _=>eE,
      fun _ _ _ _=>dJ (show IxR _ (wQ K) from cS) (dJ (show IxR _ (wQ K) from cS) (pv 1) (aS cY (pv 2) aN) (fun _ _=>rfl)) (aS cY (aS dM (aS eG (pv 2) aN) (pv 0)) aN) (fun _ _=>rfl)⟩
     (gM rfl T.range (pac (pv 1) aJ)))))),?_⟩
  refine⟨by show 5<=sizeLine; decide,fun p1 h1=>⟨by show 5<=sizeLine; decide,fun p2 h2=>⟨by show 2<=sizeLine; decide,fun p3 h3=>⟨_,rfl,by show 5<=sizeLine; decide,fun p4 h4=>⟨by show 1<=sizeLine; decide,fun p5 h5=>⟨p3,p5,_,_,rfl,rfl,smu h5 _ _ (smu h4 _ _ aD),aD,by show 3<=sizeLine; decide,fun p6 h6=>⟨by show 5<=sizeLine; decide,fun p7 h7=>⟨by show 1<=sizeLine; decide,fun p8 h8=>⟨p8,2,_,rfl,rfl,aD,by decide,by decide,by show 1*2<=sizeLine; decide,fun p9 h9=>⟨p6,p9,_,_,rfl,rfl,smu h9 _ _ (smu h8 _ _ (smu h7 _ _ aD)),aD,by show 3+2<=sizeLine; decide,fun p10 h10=>?_⟩⟩⟩⟩⟩⟩⟩⟩⟩⟩;generalize hH2:upd (upd (upd (upd (upd (upd (upd (upd (upd (upd H p1 _) p2 _) p3 _) p4 _) p5 _) p6 _) p7 _) p8 _) p9 _) p10 _=H2;have s2:aO H H2:=by rw[← hH2]; exact (smu h1).trans ((smu h2).trans ((smu h3).trans ((smu h4).trans ((smu h5).trans ((smu h6).trans ((smu h7).trans ((smu h8).trans ((smu h9).trans (smu h10)))))))))
  have e10:H2 p10=some (.lst ([p1,p2,p4,p7,p7].map V.ref)):=by rw[← hH2,aD]; rfl
  have ee:∀ i,i<5->H2 ([p1,p2,p4,p7,p7].getD i 0)=some (.lst ((tabs.getD i []).map V.str)):=by
   rw[← hH2];intro i hi
   match i,hi with
   | 0,_=>exact smu h10 _ _ (smu h9 _ _ (smu h8 _ _ (smu h7 _ _ (smu h6 _ _ (smu h5 _ _ (smu h4 _ _ (smu h3 _ _ (smu h2 _ _ aD))))))))
   | 1,_=>exact smu h10 _ _ (smu h9 _ _ (smu h8 _ _ (smu h7 _ _ (smu h6 _ _ (smu h5 _ _ (smu h4 _ _ (smu h3 _ _ aD)))))))
   | 2,_=>exact smu h10 _ _ (smu h9 _ _ (smu h8 _ _ (smu h7 _ _ (smu h6 _ _ (smu h5 _ _ aD)))))
   | 3,_=>exact smu h10 _ _ (smu h9 _ _ (smu h8 _ _ aD))
   | 4,_=>exact smu h10 _ _ (smu h9 _ _ (smu h8 _ _ aD))
  clear hH2 h1 h2 h3 h4 h5 h6 h7 h8 h9 h10;refine⟨_,rfl,n,rfl,by omega,by omega,fun D hD=>iA (n:=n) (fun i σ' H'=>∃ v,σ'=[v,some (.ref p10),some (.int c)]∧H' D=some (.lst ((bJ c i).map V.str))∧aO H2 H') ?_ ?_ ?_⟩
  ·exact⟨none,rfl,aD,smu hD⟩
  ·rintro i σ' H' hi ⟨v,rfl,hl',sm⟩;have g5:=cG c (m:=5) (by decide);have g5':=cG (c/5+(0+(i:Int))) (m:=5) (by decide);have ti:=aJu (c%5).toNat (by omega);have el:=ee (c%5).toNat (by omega);refine⟨_,rfl,_,rfl,_,_,rfl,rfl,(by show (0:Int)<5; decide),p10,_,_,V.ref ([p1,p2,p4,p7,p7].getD (c%5).toNat 0),rfl,rfl,SqL.of (sm _ _ e10),iL V.ref [p1,p2,p4,p7,p7] 0 g5.1 g5.2,?_⟩;refine⟨_,rfl,_,_,rfl,rfl,⟨by decide,by decide⟩,_,rfl,_,_,rfl,rfl,_,_,rfl,rfl,(by show (0:Int)<5; decide),_,_,_,V.str (eX c i),rfl,rfl,SqL.of (sm _ _ el),?_,_,hl',?_,_,rfl,?_,?_⟩
   ·have h:=iL V.str (tabs.getD (c%5).toNat []) "" g5'.1 (by rw[ti.1]; exact g5'.2);rw[h,Int.zero_add];rfl
   ·exact aU (by rw[List.length_map,dO]; omega)
   ·rw[aD];unfold bJ;rw[List.range_succ,List.map_append,List.map_append];rfl
   ·intro b o e;rw[aI (aF e hD)];exact sm b o e
  ·rintro σ' H' ⟨v,rfl,hl',sm⟩;exact q D H' (s2.trans sm) (s2.free hD) hl'
end
end K22
namespace K22
open PySem L2 Ky
seal L2.PE L2.PS L2.PSs L2.PA L2.PT L2.PW L2.PG L2.PI L2.PTs L2.PO L2.PPs L2.OpR L2.IxR L2.CallR L2.MtM L2.MtR
unseal L2.MtM L2.MtR
section
variable {P:Program}{w:World}{K:PySem.W.Frag}{mg:Str->Option Value}{base:Heap}
abbrev NMB:List Str:=["_law_cell","_law_names","_law_many","_law_rooms","_law_known","_law_doors","_law_i","_law_room","_law_k","_law_deed","_law_draw","_law_ends","_law_more_here"]
theorem kG:aR NMB ["_law_cell","_law_names","_law_many"] (aB dQ):=⟨rfl,rfl,rfl,by decide +kernel,rfl,by decide +kernel,by decide +kernel⟩
theorem aDh (fs:List Str):(fs.map V.str).all nY=true:=by
 rw[List.all_map,List.all_eq_true];intro z _;rfl
theorem aBh (z:Str) (fs:List Str):inV (.str z) (fs.map V.str)=decide (z∈fs):=by
 have e:∀ y:Str,eqV (.str y) (.str z)=(y==z):=fun _=>rfl;unfold inV;rw[List.any_map,Bool.eq_iff_iff,List.any_eq_true,decide_eq_true_iff];constructor
 ·rintro⟨y,hy,h⟩;have h':(y==z)=true:=h;rw[← eq_of_beq h']; exact hy
 ·exact fun h=>⟨z,h,(e z).trans (beq_self_eq_true z)⟩
def pK (c:Int) (k:Nat):Bool:=decide (RW.mixed c (300+(k:Int))%4>0)
def pE (c:Int) (k:Nat):Bool:=decide (RW.mixed c (400+(k:Int))%2=0)
def pM (c:Int) (k:Nat):Bool:=decide (RW.mixed c (500+(k:Int))%8=1)
def drw (c:Int) (i k:Nat):Int:=RW.mixed c (20*(i:Int)+(k:Int))
def dr (c:Int) (kn rs nm:List Str) (n i k:Nat):Option Dr:=match rs[i]?,nm[k]? with
 | some r,some d=>if (decide (d∈kn)&&decide (drw c i k%3>0))=true then some (r,d,rs.getD (drw c i k/3%n).toNat "") else none
 | _,_=>none
def vB (c:Int) (kn rs nm:List Str) (n i j:Nat):List Dr:=(List.range j).filterMap (dr c kn rs nm n i)
def nC (c:Int) (kn rs nm:List Str) (n i:Nat):List Dr:=(List.range i).flatMap fun a=>vB c kn rs nm n a nm.length
def cW (c:Int) (nm:List Str):List Str:=rJ (pK c) nm nm.length
def dA (c:Int) (nm:List Str) (n:Nat):List Dr:=let d:=nC c (cW c nm) (bJ c n) nm n n; if c/15%2=1 then d.reverse else d
def gO (c:Int) (n:Nat):List Str:=rJ (pE c) (bJ c n) n
def jN (c:Int) (nm:List Str):List Str:=rJ (pM c) nm nm.length
theorem aBz {c:Int}{kn rs nm:List Str}{n i k:Nat}{r d:Str}(hr:rs[i]?=some r) (hd:nm[k]?=some d):vB c kn rs nm n i (k+1)=vB c kn rs nm n i k++(if (decide (d∈kn)&&decide (drw c i k%3>0))=true then [(r,d,rs.getD (drw c i k/3%n).toNat "")] else []):=by
 unfold vB;rw[List.range_succ,List.filterMap_append]
 have e:dr c kn rs nm n i k=if (decide (d∈kn)&&decide (drw c i k%3>0))=true then some (r,d,rs.getD (drw c i k/3%n).toNat "") else none:=by
  unfold dr;rw[hr,hd]
 by_cases q:(decide (d∈kn)&&decide (drw c i k%3>0))=true
 ·rw[if_pos q] at e ⊢;rw[List.filterMap_cons_some e];rfl
 ·rw[if_neg q] at e ⊢;rw[List.filterMap_cons_none e];rfl
theorem uR (c:Int) (kn rs nm:List Str) (n i:Nat):nC c kn rs nm n (i+1)=nC c kn rs nm n i++vB c kn rs nm n i nm.length:=by
 unfold nC;rw[List.range_succ,List.flatMap_append]
 simp
theorem wL (c:Int) (kn rs nm:List Str) (n i j:Nat):(vB c kn rs nm n i j).length<=j:=by
 refine Nat.le_trans (List.length_filterMap_le ..) ?_;rw[List.length_range];exact Nat.le_refl _
theorem sG (c:Int) (kn rs nm:List Str) (n:Nat):∀ i,(nC c kn rs nm n i).length<=nm.length*i
 | 0=>Nat.le_refl _
 | i+1=>by
  rw[uR,List.length_append,Nat.mul_succ];exact Nat.add_le_add (sG c kn rs nm n i) (wL ..)
inductive kA (K:PySem.W.Frag) (vs:List V) (H:Hp) (Q:VK) (E:XK):Prop
 | mk (c:Int) (a:Addr) (n:Nat) (ss:List Str) (h0_:vs=[.int c,.ref a,.int n]) (h1_:SqL K H a (ss.map V.str)) (h2_:1<=n) (h3_:n<=5) (h4_:ss.length<=12)
  (h5_:∀ (t e d m:Addr) H',aO H H'->H e=none->H d=none->H m=none->H' t=some (.tup [.str (eX c 0),.ref e,.ref d,.ref m])->H' e=some (.lst ((gO c n).map V.str))->cQ H' d (dA c ss n)->H' m=some (.lst ((jN c ss).map V.str))->Q (.ref t) H')
inductive J1 (H:Hp) (c:Int) (a:Addr) (n:Nat) (ss:List Str) (σ:St) (H':Hp):Prop
 | mk (l kn:Addr) (h0_:σ=[some (.int c),some (.ref a),some (.int n),some (.ref l),some (.ref kn),none,none,none,none,none,none,none,none]) (h1_:H' l=some (.lst ((bJ c n).map V.str))) (h2_:H' kn=some (.lst ((cW c ss).map V.str))) (h3_:aO H H')
inductive J2 (H:Hp) (c:Int) (a:Addr) (n:Nat) (ss:List Str) (i:Nat) (ds:List Dr) (x11 x12:Option V) (σ:St) (H':Hp):Prop
 | mk (l kn d:Addr) (x6 x7 x8 x9 x10:Option V) (h0_:σ=[some (.int c),some (.ref a),some (.int n),some (.ref l),some (.ref kn),some (.ref d),x6,x7,x8,x9,x10,x11,x12]) (h1_:H' l=some (.lst ((bJ c n).map V.str))) (h2_:H' kn=some (.lst ((cW c ss).map V.str))) (h3_:cQ H' d ds) (h4_:H d=none) (h5_:l≠d) (h6_:kn≠d) (h7_:aO H H') (h8_:∀ p,(x11=some (.ref p)∨x12=some (.ref p))->p≠d∧H p=none)
abbrev nd3:List Str:=["_law_k","_law_name","_law_cell"]
abbrev nd4:List Str:=["_law_i","_law_room","_law_cell"]
theorem vK {f fM fR:Addr}{fd fdM fdR:FuncData}(F:Fun K "_law_machine_by" "_law_machine_by" dQ f fd) (T:Txt K mg)
  (GM:bE P w K mg base CX0 1 fM fdM ["_law_cell","_law_k"] nK) (kM:PySem.W.keepIn K (.ref fM)=true) (bM:aX K fdM ["_law_cell","_law_k"] []) (mM:mg "_law_mixed" = some (.ref fM))
  (GR:bE P w K mg base CX0 1 fR fdR ["_law_cell","_law_many"] tL) (kR:PySem.W.keepIn K (.ref fR)=true) (bR:aX K fdR ["_law_cell","_law_many"] []) (mR:mg "_law_rooms_by" = some (.ref fR)) :
  bE P w K mg base CX0 2 f fd ["_law_cell","_law_names","_law_many"] (kA K):=by
 refine F.ok kG (fun vs H Q E h=>?_) (fun cdv A outer s H vs Q E hr h=>?_)
 ·obtain⟨c,a,n,ss,rfl,_⟩:=h;rfl
 ·obtain⟨c,a,n,ss,rfl,hA,hn1,hn5,hs12,q⟩:=h
  refine⟨_,aK (aW (i:=3) kG.nd rfl (Or.inl rfl) (bU GR hr rfl mR kR bR .nil cC (pac (pv 0) (pac (pv 2) aJ))))
   (dL (J1 H c a n ss) (gL (i:=4) (N':=nd3) (nown:=2) (js:=[0]) rfl kG.nd rfl rfl rfl
     ⟨rfl,by decide +kernel,by decide +kernel⟩ (cJ (aB dQ) NMB rfl rfl (by decide +kernel))
     ⟨fun _ _ _ _=>show PG _ _ (xQ K 2 (gG (eV 0) (gG (eV 1) xR))) from fE rfl (aY (aP (i:=0) (show List.Nodup nd3 by decide +kernel) rfl (Or.inl rfl) (.inr rfl)) (aY (aP (i:=1) (show List.Nodup nd3 by decide +kernel) rfl (Or.inl rfl) (.inr rfl)) dR)),
      fun _ _ _ _=>nL (bX pX (aS cY (bU GM hr rfl mM kM bM .nil cC (pac (pv 2) (pac (aS dM aN (pv 0)) aJ))) aN) aN (cN _)),
      fun _ _ _ _=>pv 1⟩
     (lP rfl T.enum (pac (pv 1) aJ)))
   (aK (aW (i:=5) kG.nd rfl (Or.inl rfl) (cM aJ))
   (dL (J2 H c a n ss n (nC c (cW c ss) (bJ c n) ss n n) none none) (eJ PassesOwn.never rfl (lP rfl T.enum (pac (pv 3) aJ)) (fE rfl (aY (aP (i:=6) kG.nd rfl (Or.inl rfl)) (aY (aP (i:=7) kG.nd rfl (Or.inl rfl)) dR)))
    (aL (eJ PassesOwn.never rfl (lP rfl T.enum (pac (pv 1) aJ)) (fE rfl (aY (aP (i:=8) kG.nd rfl (Or.inl rfl)) (aY (aP (i:=9) kG.nd rfl (Or.inl rfl)) dR)))
     (aK (aW (i:=10) kG.nd rfl (Or.inl rfl) (bU GM hr rfl mM kM bM .nil cC (pac (pv 0) (pac (aS dM (aS mV aN (pv 6)) (pv 8)) aJ))))
     (aL (dH (yX (bX (show OpR _ _ (rIn K false) from uA) (pv 9) (pv 4) (by with_unfolding_all rfl)) (vE (bX pX (aS cY (pv 10) aN) aN (cN _)))).pt
      (aL (dB (kX PySem.F.plainAttrs_list PySem.F.slot_list_append PySem.F.type_list_append eO (pv 5) (pac (gY (pac (pv 7) (pac (pv 9) (pac (dJ cS (pv 3) (aS cY (aS eG (pv 10) aN) (pv 2)) (fun _ _=>rfl)) aJ)))) aJ)))) cF))))))
   (dL (fun σ H'=>∃ e,J2 H c a n ss n (nC c (cW c ss) (bJ c n) ss n n) (some (.ref e)) none σ H'∧H' e=some (.lst ((gO c n).map V.str))) (gL (i:=11) (N':=nd4) (nown:=2) (js:=[0]) rfl kG.nd rfl rfl rfl
     ⟨rfl,by decide +kernel,by decide +kernel⟩ (cJ (aB dQ) NMB rfl rfl (by decide +kernel))
     ⟨fun _ _ _ _=>show PG _ _ (xQ K 2 (gG (eV 0) (gG (eV 1) xR))) from fE rfl (aY (aP (i:=0) (show List.Nodup nd4 by decide +kernel) rfl (Or.inl rfl) (.inr rfl)) (aY (aP (i:=1) (show List.Nodup nd4 by decide +kernel) rfl (Or.inl rfl) (.inr rfl)) dR)),
      fun _ _ _ _=>nL (bX nQ (aS cY (bU GM hr rfl mM kM bM .nil cC (pac (pv 2) (pac (aS dM aN (pv 0)) aJ))) aN) aN (cN _)),
      fun _ _ _ _=>pv 1⟩
     (lP rfl T.enum (pac (pv 3) aJ)))
   (dL (fun σ H'=>∃ e m,J2 H c a n ss n (nC c (cW c ss) (bJ c n) ss n n) (some (.ref e)) (some (.ref m)) σ H'∧H' e=some (.lst ((gO c n).map V.str))∧H' m=some (.lst ((jN c ss).map V.str))) (gL (i:=12) (N':=nd3) (nown:=2) (js:=[0]) rfl kG.nd rfl rfl rfl
     ⟨rfl,by decide +kernel,by decide +kernel⟩ (cJ (aB dQ) NMB rfl rfl (by decide +kernel))
     ⟨fun _ _ _ _=>show PG _ _ (xQ K 2 (gG (eV 0) (gG (eV 1) xR))) from fE rfl (aY (aP (i:=0) (show List.Nodup nd3 by decide +kernel) rfl (Or.inl rfl) (.inr rfl)) (aY (aP (i:=1) (show List.Nodup nd3 by decide +kernel) rfl (Or.inl rfl) (.inr rfl)) dR)),
      fun _ _ _ _=>nL (bX nQ (aS cY (bU GM hr rfl mM kM bM .nil cC (pac (pv 2) (pac (aS dM aN (pv 0)) aJ))) aN) aN (cN _)),
      fun _ _ _ _=>pv 1⟩
     (lP rfl T.enum (pac (pv 1) aJ)))
   (aK (dH (bX nQ (aS cY (aS eG (pv 0) aN) aN) aN (cN _)) (aL (dB (aFd PySem.F.plainAttrs_list PySem.F.slot_list_reverse PySem.F.type_list_reverse zL (pv 5)))) cF)
   (aL (bO (gY (pac (dJ cS (pv 3) aN (fun _ _=>rfl)) (pac (pv 11) (pac (pv 5) (pac (pv 12) aJ))))))))))))),?_⟩
  refine⟨_,rfl,_,rfl,c,n,rfl,by omega,fun l H1 s1 hl hl1=>⟨?_,?_⟩⟩
  ·refine⟨_,rfl,a,rfl,⟨_,s1.seq hA⟩,fun D hD=>oG (xs:=ss.map V.str) (fun i σ' H'=>∃ v0 v1,σ'=[v0,v1,some (.int c)]∧H' D=some (.lst ((rJ (pK c) ss i).map V.str))∧aO H1 H') ?_ ?_ ?_ ?_⟩
   ·exact⟨none,none,rfl,aD,smu hD⟩
   ·rintro i σ' H' _ ⟨v0,v1,rfl,h1,h2⟩;exact h2.seq (s1.seq hA)
   ·rintro i x σ' H' t hx ⟨v0,v1,rfl,h1,h2⟩ ht;rw[List.getElem?_map] at hx;cases hz:(ss)[i]? with
    | none=>rw[hz] at hx; cases hx
    | some z=>
     rw[hz] at hx;cases hx;have hi:i<(ss).length:=(List.getElem?_eq_some_iff.mp hz).1;have nD:D≠t:=fun e=>by rw[e,ht] at h1; cases h1
     have sT:aO H1 (upd H' t (.tup [.int i,.str z])):=h2.trans (smu ht);have hlu:=kT (pK c) (ss) i;refine⟨t,_,rfl,SqT.of aD,rfl,_,_,rfl,_,_,rfl,rfl,_,rfl,_,rfl,_,_,rfl,rfl,c,_,rfl,_,_,rfl,rfl,(by show (0:Int)<4; decide),_,_,rfl,rfl,_,rfl,eQ (fun h4=>?_) (fun h4=>?_)⟩
     ·have e4:pK c i=true:=h4;refine⟨_,rfl,_,by rw[aI nD]; exact h1,aU (by rw[List.length_map]; omega),some (.int i),some (.str z),rfl,?_,?_⟩
      ·rw[aD,hZ hz,if_pos e4,List.map_append];rfl
      ·intro b o e;rw[aI (aF e hD)];exact sT b o e
     ·have e4:¬ pK c i=true:=h4;refine⟨some (.int i),some (.str z),rfl,?_,sT⟩;rw[aI nD,hZ hz,if_neg e4,List.append_nil];exact h1
   ·rintro σ' H' ⟨v0,v1,rfl,h1,h2⟩;rw[List.length_map] at h1;exact⟨l,D,rfl,h2 _ _ hl1,h1,s1.trans h2⟩
  rintro σ H2 ⟨l,kn,rfl,hl2,hk2,s2⟩;refine⟨by show 0<=sizeLine; decide,fun d hd=>⟨?_,?_⟩⟩
  ·have hdH:H d=none:=s2.free hd;have ld:l≠d:=aF hl2 hd;have kd:kn≠d:=aF hk2 hd;have sd:aO H2 (upd H2 d (.lst [])):=smu hd;have D0:cQ (upd H2 d (.lst [])) d []:=⟨⟨[],aD,rfl,fun i t x h=>by cases h⟩⟩;refine⟨_,rfl,l,rfl,⟨_,SqL.of (sd _ _ hl2)⟩,?_⟩;have hl0:=sd _ _ hl2;have hk0:=sd _ _ hk2;have hA2:=sd.seq (s2.seq hA)
   have aA:∀ {H':Hp},(∀ b o,b≠d->H2 b=some o->H' b=some o)->(∃ ys,H' d=some (.lst ys))->SqL K H' a (ss.map V.str):=fun {H'} k z=>by
    rcases s2.seq hA with (h | ⟨o,h⟩) | h
    ·exact .inl (.inl (k _ _ (aF h hd) h))
    ·exact .inl (.inr ⟨o,k _ _ (aF h hd) h⟩)
    ·exact .inr h
   refine xS (xs:=(bJ c n).map V.str) (fun i σ H'=>∃ x6 x7 x8 x9 x10,σ=[some (.int c),some (.ref a),some (.int n),some (.ref l),some (.ref kn),some (.ref d),x6,x7,x8,x9,x10,none,none]∧cQ H' d (nC c (cW c ss) (bJ c n) ss n i)∧∀ b o,b≠d->H2 b=some o->H' b=some o) ?_ ?_ ?_ ?_
   ·exact⟨none,none,none,none,none,rfl,D0,fun b o _ h=>sd _ _ h⟩
   ·rintro i σ H' _ ⟨x6,x7,x8,x9,x10,rfl,h1,h2⟩;exact SqL.of (h2 _ _ ld hl2)
   ·rintro i x σ H' t hx ⟨x6,x7,x8,x9,x10,rfl,h1,h2⟩ ht;rw[List.getElem?_map] at hx;cases hz:(bJ c n)[i]? with
    | none=>rw[hz] at hx; cases hx
    | some r=>
     rw[hz] at hx;cases hx;have hi:i<n:=by have:=(List.getElem?_eq_some_iff.mp hz).1; rw[dO] at this; exact this
     have sT:=smu (o:=.tup [.int i,.str r]) ht;have h2':∀ b o,b≠d->H2 b=some o->upd H' t (.tup [.int i,.str r]) b=some o:=fun b o n h=>sT _ _ (h2 b o n h);have D1:=h1.same sT;refine⟨t,_,rfl,SqT.of aD,rfl,_,_,rfl,_,_,rfl,rfl,?_⟩;generalize upd H' t (.tup [.int i,.str r])=H3 at h2' D1 ⊢;refine⟨_,rfl,a,rfl,⟨_,aA h2' (let ⟨_,z,_⟩:=D1.ex; ⟨_,z⟩)⟩,?_⟩;refine xS (xs:=ss.map V.str) (fun k σ H'=>∃ x8 x9 x10,σ=[some (.int c),some (.ref a),some (.int n),some (.ref l),some (.ref kn),some (.ref d),some (.int i),some (.str r),x8,x9,x10,none,none]∧cQ H' d (nC c (cW c ss) (bJ c n) ss n i++vB c (cW c ss) (bJ c n) ss n i k)∧∀ b o,b≠d->H2 b=some o->H' b=some o) ?_ ?_ ?_ ?_
     ·exact⟨x8,x9,x10,rfl,by rw[show vB c (cW c ss) (bJ c n) ss n i 0=[] from rfl,List.append_nil]; exact D1,h2'⟩
     ·rintro k σ H' _ ⟨x8,x9,x10,rfl,h3,h4⟩;exact aA h4 (let ⟨_,z,_⟩:=h3.ex; ⟨_,z⟩)
     ·rintro k x σ H' t' hx ⟨x8,x9,x10,rfl,h3,h4⟩ ht';rw[List.getElem?_map] at hx;cases hy:ss[k]? with
      | none=>rw[hy] at hx; cases hx
      | some y=>
       rw[hy] at hx;cases hx;have hk:k<ss.length:=(List.getElem?_eq_some_iff.mp hy).1;have es:=aBz (c:=c) (kn:=cW c ss) (n:=n) hz hy;have sT':=smu (o:=.tup [.int k,.str y]) ht';have h4':∀ b o,b≠d->H2 b=some o->upd H' t' (.tup [.int k,.str y]) b=some o:=fun b o n h=>sT' _ _ (h4 b o n h);have D3:=h3.same sT';refine⟨t',_,rfl,SqT.of aD,rfl,_,_,rfl,_,_,rfl,rfl,?_⟩;generalize upd H' t' (.tup [.int k,.str y])=H4 at h4' D3 ⊢;refine⟨_,rfl,_,rfl,_,_,rfl,rfl,.inl ⟨by decide,by decide⟩,_,rfl,_,_,rfl,rfl,c,_,rfl,?_⟩;refine⟨_,rfl,_,rfl,kn,_,rfl,.inl (SqL.of (h4' _ _ kd hk2)),rfl,aDh _,_,rfl,?_⟩;have ei:inV (.str y) ((cW c ss).map V.str)=decide (y∈cW c ss):=aBh _ _
       have stay:(decide (y∈cW c ss)&&decide (drw c i k%3>0))=false->cQ H4 d (nC c (cW c ss) (bJ c n) ss n i++vB c (cW c ss) (bJ c n) ss n i (k+1)):=fun z=>by
        rw[es,if_neg (by rw[z]; exact Bool.false_ne_true),List.append_nil];exact D3
       refine eQ (fun g1=>?_) (fun g1=>?_)
       ·have g1':decide (y∈cW c ss)=true:=ei.symm.trans g1;refine⟨_,rfl,_,_,rfl,rfl,(by show (0:Int)<3; decide),_,_,rfl,rfl,_,rfl,eQ (fun g2=>?_) (fun g2=>?_)⟩
        ·have g2':decide (drw c i k%3>0)=true:=g2;have gi:=cG (drw c i k/3) (m:=(n:Int)) (by omega);have hat:atI ((bJ c n).map V.str) (drw c i k/3%n)=some (.str ((bJ c n).getD (drw c i k/3%n).toNat "")):=iL V.str (bJ c n) "" gi.1 (by rw[dO]; exact gi.2);obtain⟨_,hdd,_⟩:=D3.ex;refine⟨_,rfl,.inl ⟨rfl,_,SqL.of hdd⟩,_,rfl,_,rfl,_,rfl,_,rfl,_,_,rfl,rfl,⟨by decide,by decide⟩,_,rfl,_,_,rfl,rfl,(by show (0:Int)<n; omega),l,_,_,_,rfl,rfl,SqL.of (h4' _ _ ld hl2),hat,by show 3<=sizeLine; decide,fun t2 ht2=>?_⟩;obtain⟨xs,hx1,hx2,hx3⟩:=D3.push ht2 (r,y,(bJ c n).getD (drw c i k/3%n).toNat "");have td:t2≠d:=fun z=>by rw[z,hx1] at ht2; cases ht2
         refine⟨d,xs,_,rfl,rfl,by rw[aI (Ne.symm td)]; exact hx1,?_,_,_,_,rfl,?_,fun b o nb h=>?_⟩
         ·have a1:=sG c (cW c ss) (bJ c n) ss n i;have a2:=wL c (cW c ss) (bJ c n) ss n i k;rw[hx2,List.length_append];have a3:ss.length*i<=12*5:=Nat.mul_le_mul hs12 (by omega);exact aU (by omega)
         ·rw[es,if_pos (by rw[g1',g2']; rfl),← List.append_assoc];exact hx3
         ·rw[aI nb];exact smu ht2 _ _ (h4' b o nb h)
        ·exact⟨_,_,_,rfl,stay (by rw[g1',Bool.true_and]; exact Bool.eq_false_iff.mpr g2),h4'⟩
       ·have g1':¬ inV (.str y) ((cW c ss).map V.str)=true:=g1;exact⟨_,_,_,rfl,stay (by rw[← ei,Bool.eq_false_iff.mpr g1',Bool.false_and]),h4'⟩
     ·rintro σ H' ⟨x8,x9,x10,rfl,h3,h4⟩;rw[List.length_map,← uR] at h3;exact⟨_,_,_,_,_,rfl,h3,h4⟩
   ·rintro σ H' ⟨x6,x7,x8,x9,x10,rfl,h1,h2⟩;rw[List.length_map,dO] at h1;exact⟨l,kn,d,x6,x7,x8,x9,x10,rfl,h2 _ _ ld hl2,h2 _ _ kd hk2,h1,hdH,ld,kd,fun b o h=>h2 _ _ (aF h hdH) (s2 _ _ h),fun p h=>by rcases h with h | h <;> cases h⟩
  clear hl hl1 s1 hl2 hk2 s2 hd;rintro σ H3 ⟨l,kn,d,x6,x7,x8,x9,x10,rfl,hl3,hk3,hd3,hd0,n1,n2,s3,nn⟩;refine⟨?_,?_⟩
  ·refine⟨_,rfl,l,rfl,⟨_,SqL.of hl3⟩,fun D hD=>oG (xs:=(bJ c n).map V.str) (fun i σ' H'=>∃ v0 v1,σ'=[v0,v1,some (.int c)]∧H' D=some (.lst ((rJ (pE c) (bJ c n) i).map V.str))∧aO H3 H') ?_ ?_ ?_ ?_⟩
   ·exact⟨none,none,rfl,aD,smu hD⟩
   ·rintro i σ' H' _ ⟨v0,v1,rfl,h1,h2⟩;exact h2.seq (SqL.of hl3)
   ·rintro i x σ' H' t hx ⟨v0,v1,rfl,h1,h2⟩ ht;rw[List.getElem?_map] at hx;cases hz:((bJ c n))[i]? with
    | none=>rw[hz] at hx; cases hx
    | some z=>
     rw[hz] at hx;cases hx;have hi:i<((bJ c n)).length:=(List.getElem?_eq_some_iff.mp hz).1;have nD:D≠t:=fun e=>by rw[e,ht] at h1; cases h1
     have sT:aO H3 (upd H' t (.tup [.int i,.str z])):=h2.trans (smu ht);have hlu:=kT (pE c) ((bJ c n)) i;refine⟨t,_,rfl,SqT.of aD,rfl,_,_,rfl,_,_,rfl,rfl,_,rfl,_,rfl,_,_,rfl,rfl,c,_,rfl,_,_,rfl,rfl,(by show (0:Int)<2; decide),rfl,_,rfl,eQ (fun h4=>?_) (fun h4=>?_)⟩
     ·have e4:pE c i=true:=decide_eq_true (V.int.inj (of_decide_eq_true h4));refine⟨_,rfl,_,by rw[aI nD]; exact h1,aU (by rw[List.length_map]; rw[dO] at hi; omega),some (.int i),some (.str z),rfl,?_,?_⟩
      ·rw[aD,hZ hz,if_pos e4,List.map_append];rfl
      ·intro b o e;rw[aI (aF e hD)];exact sT b o e
     ·have e4:¬ pE c i=true:=fun z=>h4 (decide_eq_true (congrArg V.int (of_decide_eq_true z)));refine⟨some (.int i),some (.str z),rfl,?_,sT⟩;rw[aI nD,hZ hz,if_neg e4,List.append_nil];exact h1
   ·rintro σ' H' ⟨v0,v1,rfl,h1,h2⟩;rw[List.length_map] at h1;rw[dO] at h1
    exact⟨D,⟨l,kn,d,x6,x7,x8,x9,x10,rfl,h2 _ _ hl3,h2 _ _ hk3,hd3.same h2,hd0,n1,n2,s3.trans h2,fun p h=>by
     obtain⟨_,hdd,_⟩:=hd3.ex;rcases h with h | h
     ·cases h; exact⟨Ne.symm (aF hdd hD),s3.free hD⟩
     ·cases h⟩,h1⟩
  clear hl3 hk3 hd3 hd0 n1 n2 s3 nn;rintro σ H4 ⟨e,⟨l,kn,d,x6,x7,x8,x9,x10,rfl,hl4,hk4,hd4,hd0,n1,n2,s4,nn⟩,he4⟩;refine⟨?_,?_⟩
  ·refine⟨_,rfl,a,rfl,⟨_,s4.seq hA⟩,fun D hD=>oG (xs:=ss.map V.str) (fun i σ' H'=>∃ v0 v1,σ'=[v0,v1,some (.int c)]∧H' D=some (.lst ((rJ (pM c) ss i).map V.str))∧aO H4 H') ?_ ?_ ?_ ?_⟩
   ·exact⟨none,none,rfl,aD,smu hD⟩
   ·rintro i σ' H' _ ⟨v0,v1,rfl,h1,h2⟩;exact h2.seq (s4.seq hA)
   ·rintro i x σ' H' t hx ⟨v0,v1,rfl,h1,h2⟩ ht;rw[List.getElem?_map] at hx;cases hz:(ss)[i]? with
    | none=>rw[hz] at hx; cases hx
    | some z=>
     rw[hz] at hx;cases hx;have hi:i<(ss).length:=(List.getElem?_eq_some_iff.mp hz).1;have nD:D≠t:=fun e=>by rw[e,ht] at h1; cases h1
     have sT:aO H4 (upd H' t (.tup [.int i,.str z])):=h2.trans (smu ht);have hlu:=kT (pM c) (ss) i;refine⟨t,_,rfl,SqT.of aD,rfl,_,_,rfl,_,_,rfl,rfl,_,rfl,_,rfl,_,_,rfl,rfl,c,_,rfl,_,_,rfl,rfl,(by show (0:Int)<8; decide),rfl,_,rfl,eQ (fun h4=>?_) (fun h4=>?_)⟩
     ·have e4:pM c i=true:=decide_eq_true (V.int.inj (of_decide_eq_true h4));refine⟨_,rfl,_,by rw[aI nD]; exact h1,aU (by rw[List.length_map]; omega),some (.int i),some (.str z),rfl,?_,?_⟩
      ·rw[aD,hZ hz,if_pos e4,List.map_append];rfl
      ·intro b o e;rw[aI (aF e hD)];exact sT b o e
     ·have e4:¬ pM c i=true:=fun z=>h4 (decide_eq_true (congrArg V.int (of_decide_eq_true z)));refine⟨some (.int i),some (.str z),rfl,?_,sT⟩;rw[aI nD,hZ hz,if_neg e4,List.append_nil];exact h1
   ·rintro σ' H' ⟨v0,v1,rfl,h1,h2⟩;rw[List.length_map] at h1
    exact⟨e,D,⟨l,kn,d,x6,x7,x8,x9,x10,rfl,h2 _ _ hl4,h2 _ _ hk4,hd4.same h2,hd0,n1,n2,s4.trans h2,fun p h=>by
     obtain⟨_,hdd,_⟩:=hd4.ex;rcases h with h | h
     ·exact nn p (.inl h)
     ·cases h; exact⟨Ne.symm (aF hdd hD),s4.free hD⟩⟩,h2 _ _ he4,h1⟩
  clear hl4 hk4 hd4 hd0 n1 n2 s4 he4 nn;rintro σ H5 ⟨e,m,⟨l,kn,d,x6,x7,x8,x9,x10,rfl,hl5,hk5,hd5,hd0,n1,n2,s5,nn⟩,he5,hm5⟩
  have r0:atI ((bJ c n).map V.str) 0=some (.str (eX c 0)):=by
   have:=gR (xs:=(bJ c n).map V.str) (j:=0) (v:=.str (eX c 0)) (by
    rw[List.getElem?_map];unfold bJ;rw[List.getElem?_map,List.getElem?_range (by omega)];rfl)
   exact this
  refine⟨_,rfl,_,_,rfl,rfl,⟨by decide,by decide⟩,_,_,rfl,rfl,(by show (0:Int)<2; decide),rfl,_,rfl,eQ (fun h4=>?_) (fun h4=>?_)⟩
  ·have e4:c/15%2=1:=V.int.inj (of_decide_eq_true h4);obtain⟨xs,hx1,hx2,hx3⟩:=hd5.rev;have sb:∀ {b:Addr}{o:HO},H5 b=some o->b≠d->upd H5 d (.lst xs.reverse) b=some o:=fun h nb=>by rw[aI nb]; exact h
   refine⟨_,rfl,.inl ⟨rfl,_,SqL.of hx1⟩,d,xs,rfl,rfl,hx1,?_⟩;refine⟨_,rfl,l,_,_,_,rfl,rfl,SqL.of (sb hl5 n1),r0,_,rfl,_,rfl,_,rfl,by show 4<=sizeLine; decide,fun t ht=>?_⟩;refine q t e d m _ (fun b o h=>smu ht _ _ (by rw[aI (aF h hd0)]; exact s5 _ _ h)) (nn _ (.inl rfl)).2 hd0 (nn _ (.inr rfl)).2 aD (smu ht _ _ (sb he5 (nn _ (.inl rfl)).1)) ?_ (smu ht _ _ (sb hm5 (nn _ (.inr rfl)).1));unfold dA;rw[if_pos e4];exact hx3.same (smu ht)
  ·have e4:¬ c/15%2=1:=fun z=>h4 (decide_eq_true (congrArg V.int z));refine⟨_,rfl,l,_,_,_,rfl,rfl,SqL.of hl5,r0,_,rfl,_,rfl,_,rfl,by show 4<=sizeLine; decide,fun t ht=>?_⟩;refine q t e d m _ (s5.trans (smu ht)) (nn _ (.inl rfl)).2 hd0 (nn _ (.inr rfl)).2 aD (smu ht _ _ he5) ?_ (smu ht _ _ hm5);unfold dA;rw[if_neg e4];exact hd5.same (smu ht)
end
end K22
namespace K22
open PySem L2 Ky
seal L2.PE L2.PS L2.PSs L2.PA L2.PT L2.PW L2.PG L2.PI L2.PTs L2.PO L2.PPs L2.OpR L2.IxR L2.CallR L2.MtM L2.MtR
unseal L2.MtM L2.MtR
inductive aKk (H:Hp) (t:Addr) (c:Int) (n:Nat) (ss:List Str):Prop
 | mk (e d m:Addr) (h0_:H t=some (.tup [.str (eX c 0),.ref e,.ref d,.ref m])) (h1_:H e=some (.lst ((gO c n).map V.str))) (h2_:cQ H d (dA c ss n)) (h3_:H m=some (.lst ((jN c ss).map V.str)))
structure oI (H:Hp) (p:Addr) (l:List (Int×Nat)) (ss:List Str):Prop where
 ex:∃ ts:List Addr,H p=some (.lst (ts.map V.ref))∧ts.length=l.length∧∀ (i:Nat) (t:Addr) (x:Int×Nat),ts[i]?=some t->l[i]?=some x->aKk H t x.1 x.2 ss
def z1 (c:Int):Nat:=1+(c/7%5).toNat
def z2 (c:Int):Nat:=1+(c/7%3).toNat
def z3 (c:Int):Nat:=1+(c/7%2).toNat
def pZ (c:Int):Nat:=([1,2,2,3]:List Nat).getD (c/35%4).toNat 1
def tW (c1 c2 c3:Int):List (Int×Nat):=[(c1,z1 c1),(c2,z2 c2),(c3,z3 c3)]
def plant (c1 c2 c3:Int):List (Int×Nat):=(tW c1 c2 c3).take (pZ c1)
theorem aCx:∀ n,n<4->1<=([1,2,2,3]:List Nat).getD n 1∧([1,2,2,3]:List Nat).getD n 1<=3∧([1,2,2,3]:List Int).getD n 1=((([1,2,2,3]:List Nat).getD n 1:Nat):Int):=by decide +kernel
theorem xM (c:Int):1<=pZ c∧pZ c<=3∧([1,2,2,3]:List Int).getD (c/35%4).toNat 1=((pZ c:Nat):Int):=by
 have h:=cG (c/35) (m:=4) (by decide);exact aCx _ (by omega)
theorem aJs (c1 c2 c3:Int):∀ x∈tW c1 c2 c3,1<=x.2∧x.2<=5:=by
 have h1:=cG (c1/7) (m:=5) (by decide);have h2:=cG (c2/7) (m:=3) (by decide);have h3:=cG (c3/7) (m:=2) (by decide);intro x hx;rcases List.mem_cons.mp hx with rfl | hx
 ·exact⟨by show 1<=z1 c1; unfold z1; omega,by show z1 c1<=5; unfold z1; omega⟩
 rcases List.mem_cons.mp hx with rfl | hx
 ·exact⟨by show 1<=z2 c2; unfold z2; omega,by show z2 c2<=5; unfold z2; omega⟩
 rcases List.mem_cons.mp hx with rfl | hx
 ·exact⟨by show 1<=z3 c3; unfold z3; omega,by show z3 c3<=5; unfold z3; omega⟩
 cases hx
theorem aEu (c1 c2 c3:Int) (i:Nat) (h:i<3):∃ x:Int×Nat,(tW c1 c2 c3)[i]?=some x∧atI ([c1,c2,c3].map V.int) (i:Int)=some (.int x.1)∧atI ([z1 c1,z2 c2,z3 c3].map fun n:Nat=>V.int n) (i:Int)=some (.int x.2):=by
 match i,h with
 | 0,_=>exact⟨_,rfl,rfl,rfl⟩
 | 1,_=>exact⟨_,rfl,rfl,rfl⟩
 | 2,_=>exact⟨_,rfl,rfl,rfl⟩
inductive pS (D:Addr) (H:Hp) (t:Addr) (c:Int) (n:Nat) (ss:List Str):Prop
 | mk (e d m:Addr) (h0_:H t=some (.tup [.str (eX c 0),.ref e,.ref d,.ref m])) (h1_:H e=some (.lst ((gO c n).map V.str))) (h2_:cQ H d (dA c ss n)) (h3_:H m=some (.lst ((jN c ss).map V.str))) (h4_:e≠D) (h5_:d≠D) (h6_:m≠D)
theorem pS.same {D:Addr}{H H':Hp}{t:Addr}{c:Int}{n:Nat}{ss:List Str}(R:pS D H t c n ss) (sm:aO H H'):pS D H' t c n ss:=by
 obtain⟨e,d,m,h0,h1,h2,h3,h4,h5,h6⟩:=R;exact⟨e,d,m,sm _ _ h0,sm _ _ h1,h2.same sm,sm _ _ h3,h4,h5,h6⟩
theorem pS.put {H:Hp}{t D:Addr}{c:Int}{n:Nat}{ss:List Str}{ys:List V}(R:pS D H t c n ss) (hD:∃ xs,H D=some (.lst xs)):pS D (upd H D (.lst ys)) t c n ss:=by
 obtain⟨e,d,m,h0,h1,h2,h3,h4,h5,h6⟩:=R;obtain⟨xs,hD⟩:=hD;obtain⟨ts,b1,b2,b3⟩:=h2.ex;refine⟨e,d,m,by rw[aI (fun z=>by rw[z,hD] at h0; cases h0)]; exact h0,by rw[aI h4]; exact h1,⟨ts,by rw[aI h5]; exact b1,b2,fun i u x hu hx=>?_⟩,by rw[aI h6]; exact h3,h4,h5,h6⟩
 have:=b3 i u x hu hx
 rw[aI (fun z=>by rw[z,hD] at this; cases this)];exact this
theorem pS.row {D:Addr}{H:Hp}{t:Addr}{c:Int}{n:Nat}{ss:List Str}(R:pS D H t c n ss):aKk H t c n ss:=by
 obtain⟨e,d,m,h0,h1,h2,h3,_⟩:=R;exact⟨e,d,m,h0,h1,h2,h3⟩
inductive tM (K:PySem.W.Frag) (vs:List V) (H:Hp) (Q:VK) (E:XK):Prop
 | mk (a b:Addr) (c1 c2 c3:Int) (ss:List Str) (h0_:vs=[.ref a,.ref b]) (h1_:SqL K H a ([c1,c2,c3].map V.int)) (h2_:SqL K H b (ss.map V.str)) (h3_:ss.length<=12)
  (h4_:∀ (p:Addr) H',aO H H'->oI H' p (plant c1 c2 c3) ss->Q (.ref p) H')
section
variable {P:Program}{w:World}{K:PySem.W.Frag}{mg:Str->Option Value}{base:Heap}
abbrev NPB:List Str:=["_law_cells","_law_names","_law_sizes"]
theorem aNe:aR NPB ["_law_cells","_law_names"] (aB iC):=⟨rfl,rfl,rfl,by decide +kernel,rfl,by decide +kernel,by decide +kernel⟩
abbrev nd5:List Str:=["_law_k","_law_cells","_law_names","_law_sizes"]
theorem zE {f fB:Addr}{fd fdB:FuncData}(F:Fun K "_law_plant_by" "_law_plant_by" iC f fd) (T:Txt K mg)
  (GB:bE P w K mg base CX0 2 fB fdB ["_law_cell","_law_names","_law_many"] (kA K)) (kB:PySem.W.keepIn K (.ref fB)=true) (bB:aX K fdB ["_law_cell","_law_names","_law_many"] []) (mB:mg "_law_machine_by" = some (.ref fB)) :
  bE P w K mg base CX0 3 f fd ["_law_cells","_law_names"] (tM K):=by
 refine F.ok aNe (fun vs H Q E h=>?_) (fun cdv A outer s H vs Q E hr h=>?_)
 ·obtain⟨a,b,c1,c2,c3,ss,rfl,_⟩:=h;rfl
 ·obtain⟨a,b,c1,c2,c3,ss,rfl,hA,hB,hs12,q⟩:=h
  refine⟨_,aK (aW (i:=2) aNe.nd rfl (Or.inr rfl) (cM (pac (aS dM aN (aS cY (aS eG (dJ cS (pv 0) aN (fun _ _=>rfl)) aN) aN))
    (pac (aS dM aN (aS cY (aS eG (dJ cS (pv 0) aN (fun _ _=>rfl)) aN) aN))
    (pac (aS dM aN (aS cY (aS eG (dJ cS (pv 0) aN (fun _ _=>rfl)) aN) aN)) aJ)))))
   (aL (bO (eL (N':=nd5) (nown:=1) (js:=[0,1,2]) rfl
     ⟨rfl,by decide +kernel,by decide +kernel⟩ (cJ (aB iC) NPB rfl rfl (by decide +kernel))
     ⟨fun _ _ _ _=>aP (i:=0) (show List.Nodup nd5 by decide +kernel) rfl (Or.inl rfl) (.inr rfl),fun _ _ _ _=>eE,
      fun _ _ _ _=>bU GB hr rfl mB kB bB .nil cC (pac (dJ (show IxR _ (wQ K) from cS) (pv 1) (pv 0) (fun _ _=>rfl)) (pac (pv 2) (pac (dJ (show IxR _ (wQ K) from cS) (pv 3) (pv 0) (fun _ _=>rfl)) aJ)))⟩
     (gM rfl T.range (pac (dJ cS (cM (pac aN (pac aN (pac aN (pac aN aJ))))) (aS cY (aS eG (dJ cS (pv 0) aN (fun _ _=>rfl)) aN) aN) (fun _ _=>rfl)) aJ))))),?_⟩
  have g1:=cG (c1/7) (m:=5) (by decide);have g2:=cG (c2/7) (m:=3) (by decide);have g3:=cG (c3/7) (m:=2) (by decide);have g4:=cG (c1/35) (m:=4) (by decide);have hm:=xM c1;refine⟨_,rfl,a,_,_,.int c1,rfl,rfl,hA,rfl,_,_,rfl,rfl,⟨by decide,by decide⟩,_,_,rfl,rfl,(by show (0:Int)<5; decide),_,_,rfl,rfl,_,rfl,a,_,_,.int c2,rfl,rfl,hA,rfl,_,_,rfl,rfl,⟨by decide,by decide⟩,_,_,rfl,rfl,(by show (0:Int)<3; decide),_,_,rfl,rfl,_,rfl,a,_,_,.int c3,rfl,rfl,hA,rfl,_,_,rfl,rfl,⟨by decide,by decide⟩,_,_,rfl,rfl,(by show (0:Int)<2; decide),_,_,rfl,rfl,by show 3<=sizeLine; decide,fun p1 hp1=>?_⟩
  have e1:(upd H p1 (.lst [.int (1+c1/7%5),.int (1+c2/7%3),.int (1+c3/7%2)])) p1=some (.lst ([z1 c1,z2 c2,z3 c3].map fun n:Nat=>V.int n)):=by
   rw[aD];have a1:1+c1/7%5=((z1 c1:Nat):Int):=by unfold z1; omega
   have a2:1+c2/7%3=((z2 c2:Nat):Int):=by unfold z2; omega
   have a3:1+c3/7%2=((z3 c3:Nat):Int):=by unfold z3; omega
   rw[a1,a2,a3];rfl
  have s1:aO H (upd H p1 (.lst [.int (1+c1/7%5),.int (1+c2/7%3),.int (1+c3/7%2)])):=smu hp1;generalize upd H p1 (.lst [.int (1+c1/7%5),.int (1+c2/7%3),.int (1+c3/7%2)])=H1 at e1 s1 ⊢;have hat:atI ([1,2,2,3].map V.int) (c1/35%4)=some (.int ((pZ c1:Nat):Int)):=by rw[← hm.2.2]; exact iL V.int [1,2,2,3] 1 g4.1 g4.2
  refine⟨by show 4<=sizeLine; decide,fun p2 hp2=>⟨_,rfl,a,_,_,.int c1,rfl,rfl,(s1.trans (smu hp2)).seq hA,rfl,_,_,rfl,rfl,⟨by decide,by decide⟩,_,_,rfl,rfl,(by show (0:Int)<4; decide),p2,_,_,_,rfl,rfl,SqL.of aD,hat,_,rfl,by omega,by omega,?_⟩⟩;have s2:=s1.trans (smu (o:=.lst ([1,2,2,3].map V.int)) hp2);have e2:=smu (o:=.lst ([1,2,2,3].map V.int)) hp2 _ _ e1;intro D hD;refine iA (n:=pZ c1) (fun i σ' H'=>∃ v,σ'=[v,some (.ref a),some (.ref b),some (.ref p1)]∧(∃ ts:List Addr,H' D=some (.lst (ts.map V.ref))∧ts.length=i∧∀ (j:Nat) (t:Addr) (x:Int×Nat),ts[j]?=some t->(tW c1 c2 c3)[j]?=some x->pS D H' t x.1 x.2 ss)∧∀ b o,b≠D->upd H1 p2 (.lst ([1,2,2,3].map V.int)) b=some o->H' b=some o) ?_ ?_ ?_
  ·exact⟨none,rfl,⟨[],aD,rfl,fun j t x h=>by cases h⟩,fun b o n h=>by rw[aI n]; exact h⟩
  ·rintro i σ' H' hi ⟨v,rfl,⟨ts,t1,t2,t3⟩,k⟩;obtain⟨x,hx0,hx1,hx2⟩:=aEu c1 c2 c3 i (by omega);have hxz:=aJs c1 c2 c3 x (List.mem_of_getElem? hx0)
   have sq:∀ {p:Addr}{xs:List V},SqL K (upd H1 p2 (.lst ([1,2,2,3].map V.int))) p xs->SqL K H' p xs:=fun {p xs} h=>by
    rcases h with (h | ⟨o,h⟩) | h
    ·exact .inl (.inl (k _ _ (aF h hD) h))
    ·exact .inl (.inr ⟨o,k _ _ (aF h hD) h⟩)
    ·exact .inr h
   refine⟨_,rfl,_,rfl,a,_,_,.int x.1,rfl,rfl,sq (s2.seq hA),by rw[Int.zero_add]; exact hx1,_,rfl,_,rfl,_,rfl,p1,_,_,.int x.2,rfl,rfl,sq (SqL.of e2),by rw[Int.zero_add]; exact hx2,x.1,b,x.2,ss,rfl,sq (s2.seq hB),hxz.1,hxz.2,hs12,fun t e d m H3 s3 he hd hm' ht he3 hd3 hm3=>?_⟩;have t13:=s3 _ _ t1;refine⟨_,t13,aU (by rw[List.length_map]; omega),_,rfl,⟨ts++[t],by rw[aD,List.map_append]; rfl,by rw[List.length_append,t2]; rfl,fun j u y hu hy=>?_⟩,fun b o n h=>by rw[aI n]; exact s3 _ _ (k b o n h)⟩
   by_cases hj:j<ts.length
   ·rw[List.getElem?_append_left hj] at hu;exact ((t3 j u y hu hy).same s3).put ⟨_,t13⟩
   ·have hl:j=ts.length:=by
     have:=(List.getElem?_eq_some_iff.mp hu).1
     rw[List.length_append] at this;simp only[List.length_cons,List.length_nil] at this;omega
    subst hl;rw[List.getElem?_append_right (Nat.le_refl _),Nat.sub_self] at hu;cases hu;rw[t2,hx0] at hy;cases hy;have nD:∀ {p:Addr},H' p=none->p≠D:=fun h z=>by rw[z,t1] at h; cases h
    exact (pS.mk e d m ht he3 hd3 hm3 (nD he) (nD hd) (nD hm')).put ⟨_,t13⟩
  ·rintro σ' H' ⟨v,rfl,⟨ts,t1,t2,t3⟩,k⟩;refine q D H' (fun b o h=>k _ _ (aF h (s2.free hD)) (s2 _ _ h)) ⟨ts,t1,?_,fun j t x hj hx=>?_⟩
   ·rw[t2];unfold plant;rw[List.length_take];show _=min (pZ c1) 3;omega
   ·unfold plant at hx;have hjl:j<pZ c1:=by rw[← t2]; exact (List.getElem?_eq_some_iff.mp hj).1
    rw[List.getElem?_take_of_lt hjl] at hx;exact (t3 j t x hj hx).row
end
end K22
namespace K22
open PySem L2 Ky
seal L2.PE L2.PS L2.PSs L2.PA L2.PT L2.PW L2.PG L2.PI L2.PTs L2.PO L2.PPs L2.OpR L2.IxR L2.CallR L2.MtM L2.MtR
unseal L2.MtM L2.MtR
theorem uV {rs:List Str}{z:Str}:z∈unl rs []↔z∈rs:=by
 rw[aAj];exact⟨fun h=>h.elim (fun h=>nomatch h) id,.inr⟩
theorem aGe (k:List (Key×V)) (l:List Str) (s:Str) (v:V) (h:k.map (·.1)=l.map Sum.inr):(eB k (Sum.inr s) v).map (·.1)=(if s∈l then l else l++[s]).map Sum.inr:=by
 unfold eB;rw[lB,h]
 have m:(k.map fun kv=>if kv.1=(Sum.inr s:Key) then (kv.1,v) else kv).map (·.1)=k.map (·.1):=by
  rw[List.map_map];refine List.map_congr_left fun p _=>?_;show (if p.1=_ then (p.1,v) else p).1=p.1
  split <;> rfl
 by_cases q:s∈l
 ·rw[if_pos q,if_pos (by rw[List.any_eq_true]; exact⟨_,List.mem_map.mpr ⟨s,q,rfl⟩,decide_eq_true rfl⟩),m,h]
 ·rw[if_neg q,if_neg fun z=>by
   obtain⟨x,hx,e⟩:=List.any_eq_true.mp z;obtain⟨y,hy,rfl⟩:=List.mem_map.mp hx;exact q (Sum.inr.inj (of_decide_eq_true e)▸hy),List.map_append,h,List.map_append]
  rfl
theorem vL:∀ (ss:List Str) (k:List (Key×V)) (l:List Str),k.map (·.1)=l.map Sum.inr->(mks ss k).map (·.1)=(unl ss l).map Sum.inr
 | [],k,l,h=>h
 | s::r,k,l,h=>vL r _ _ (aGe k l s _ h)
theorem uD {kvs:List (Key×V)}{rs:List Str}(h:kvs.map (·.1)=(mks rs []).map (·.1)):kvs.map (fun kv=>L2.kV kv.1)=(unl rs []).map V.str:=by
 have e:kvs.map (fun kv=>L2.kV kv.1)=(kvs.map (·.1)).map L2.kV:=by rw[List.map_map]; rfl
 rw[e,h,vL rs [] [] rfl,List.map_map];rfl
theorem pB:∀ (fs:List Str) (kvs:List (Key×V)) (z:Str),(dF (mks fs kvs) (Sum.inr z)).isSome=(decide (z∈fs)||(dF kvs (Sum.inr z)).isSome)
 | [],kvs,z=>by simp[mks]
 | s::r,kvs,z=>by
  rw[mks,pB r,jZ]
  by_cases h:z=s
  ·subst h
   simp
  ·rw[if_neg fun e=>h (Sum.inr.inj e)];simp[h]
theorem aDb {kvs:List (Key×V)}{rs:List Str}(h:kvs.map (·.1)=(mks rs []).map (·.1)) (z:Str):(dF kvs (Sum.inr z)).isSome=decide (z∈rs):=by
 have:=pB rs [] z
 rw[show (dF ([]:List (Key×V)) (Sum.inr z)).isSome=false from rfl,Bool.or_false] at this
 rw[← this,← fX,← fX,lB,lB,h]
theorem iY {rs N:List Str}(h:∀ z∈rs,z∈N):(unl rs []).length<=N.length:=by
 have:∀ (l m:List Str),l.Nodup->(∀ z∈l,z∈m)->l.length<=m.length:=fun l m hd hs=>by
  induction l generalizing m with
  | nil=>exact Nat.zero_le _
  | cons x r ih=>
   have hn:=List.nodup_cons.mp hd;have h1:=ih (m.erase x) hn.2 (fun z hz=>(List.mem_erase_of_ne (fun (e:z=x)=>hn.1 (e▸hz))).mpr (hs z (List.mem_cons_of_mem _ hz)));have hx:=hs x (List.mem_cons_self ..);have h2:=List.length_pos_of_mem hx;rw[List.length_erase_of_mem hx] at h1;simp only[List.length_cons];omega
 exact this _ _ (oS _ _ .nil) fun z hz=>h z (uV.mp hz)
inductive wE (CM:Addr) (vs:List V) (H:Hp) (Q:VK) (E:XK):Prop
 | mk (x dd:Addr) (b:Str) (es kn:List Str) (ds:List Dr) (h0_:vs=[.ref x]) (h1_:MM CM H x dd b es kn ds) (h2_:Q (.ref dd) H)
inductive aAo (CM:Addr) (f:Str->List Str->List Str->List Dr->List Str) (vs:List V) (H:Hp) (Q:VK) (E:XK):Prop
 | mk (x dd:Addr) (b:Str) (es kn:List Str) (ds:List Dr) (h0_:vs=[.ref x]) (h1_:MM CM H x dd b es kn ds) (h2_:(unl (f b es kn ds) []).length<64)
  (h3_:∀ (l:Addr) (ts:List Str) H',aO H H'->H l=none->H' l=some (.lst (ts.map V.str))->PyProof.Rows.sortedS ts=true->ts.Perm (unl (f b es kn ds) [])->Q (.ref l) H')
section
variable {P:Program}{w:World}{K:PySem.W.Frag}{mg:Str->Option Value}{base:Heap}
theorem aPp:aR ["self"] ["self"] (aB pF):=⟨rfl,rfl,rfl,by decide +kernel,rfl,by decide +kernel,by decide +kernel⟩
theorem aCq {f CM:Addr}{fd:FuncData}(F:Fun K "deeds" "Machine.deeds" pF f fd) (MC:sX K CM):bE P w K mg base CX0 1 f fd ["self"] (wE CM):=by
 refine F.ok aPp (fun vs H Q E h=>?_) (fun cdv A outer s H vs Q E hr h=>?_)
 ·obtain⟨x,dd,b,es,kn,ds,rfl,_⟩:=h;rfl
 ·obtain⟨x,dd,b,es,kn,ds,rfl,⟨dx,l,e,k,kvs,g,M⟩,q⟩:=h;exact⟨_,aL (bO (gZ (pv 0) rfl)),_,rfl,x,CM,dx,_,_,rfl,M.ins,MC.cl,MC.nd,by rfl,q⟩
theorem aPq:aR ["self"] ["self"] (aB pG):=⟨rfl,rfl,rfl,by decide +kernel,rfl,by decide +kernel,by decide +kernel⟩
theorem aCr {f CM:Addr}{fd:FuncData}(F:Fun K "begin" "Machine.begin" pG f fd) (MC:sX K CM):bE P w K mg base CX0 1 f fd ["self"] (wF CM):=by
 refine F.ok aPq (fun vs H Q E h=>?_) (fun cdv A outer s H vs Q E hr h=>?_)
 ·obtain⟨x,dd,b,es,kn,ds,rfl,_⟩:=h;rfl
 ·obtain⟨x,dd,b,es,kn,ds,rfl,⟨dx,l,e,k,kvs,g,M⟩,q⟩:=h;exact⟨_,aL (bO (gZ (pv 0) rfl)),_,rfl,x,CM,dx,_,_,rfl,M.ins,MC.cl,MC.nf,by rfl,q⟩
abbrev aGj (_b:Str) (_es kn:List Str) (_ds:List Dr):List Str:=kn
theorem aPn:aR ["self"] ["self"] (aB pD):=⟨rfl,rfl,rfl,by decide +kernel,rfl,by decide +kernel,by decide +kernel⟩
theorem aCp {f CM:Addr}{fd:FuncData}(F:Fun K "knows" "Machine.knows" pD f fd) (T:Txt K mg) (MC:sX K CM):bE P w K mg base CX0 1 f fd ["self"] (aAo CM aGj):=by
 refine F.ok aPn (fun vs H Q E h=>?_) (fun cdv A outer s H vs Q E hr h=>?_)
 ·obtain⟨x,dd,b,es,kn,ds,rfl,_⟩:=h;rfl
 ·obtain⟨x,dd,b,es,kn,ds,rfl,⟨dx,l,e,k,kvs,g,M⟩,h64,q⟩:=h;refine⟨_,aL (bO (cH (oE rfl) (by rfl) T.sorted Bo.sorted (pac (gZ (pv 0) rfl) aJ))),?_⟩;exact⟨_,rfl,x,CM,dx,_,_,rfl,M.ins,MC.cl,MC.nk,by rfl,k,_,_,rfl,M.know,uD rfl,h64,fun p ts' hp pm so=>q p ts' _ (smu hp) hp aD so pm⟩
theorem aQc {CM:Addr}{H:Hp}{x dx l dd e k:Addr}{b:Str}{es kn:List Str}{ds:List Dr}{kvs:List (Key×V)}{g:Str->Addr}(M:MAt CM H x dx l dd e k b es kn ds kvs g){z:Str}(hz:z∈cV b es ds):fU H l (.str z) (some (.ref (g z))):=by
 have gv:=fU.k (k:=Sum.inr z) M.lead.dk;rw[M.lead.val z hz] at gv;exact gv
theorem aLq (ds:List Dr) (z y:Str):(dF (inn ds z) (Sum.inr y)).getD .non=oV (iI ds z y):=by rw[aJa]; rfl
end
end K22
namespace K22
open PySem L2 Ky
seal L2.PE L2.PS L2.PSs L2.PA L2.PT L2.PW L2.PG L2.PI L2.PTs L2.PO L2.PPs L2.OpR L2.IxR L2.CallR L2.MtM L2.MtR
theorem nZ {c:Int}{kn rs nm:List Str}{n i k:Nat}{x:Dr}(h:dr c kn rs nm n i k=some x):rs[i]?=some x.1∧nm[k]?=some x.2.1∧x.2.1∈kn∧x.2.2=rs.getD (drw c i k/3%n).toNat "":=by
 unfold dr at h;split at h
 ·rename_i r d hr hd
  by_cases q:(decide (d∈kn)&&decide (drw c i k%3>0))=true
  ·rw[if_pos q] at h;cases h;exact⟨hr,hd,of_decide_eq_true (Bool.and_eq_true_iff.mp q).1,rfl⟩
  ·rw[if_neg q] at h;cases h
 ·cases h
theorem rD (c:Int) (k:Nat):∃ T:List Str,T.length=5∧T.all aZ=true∧T.Nodup∧∀ j:Nat,T[((c/5+j)%5).toNat]?=some (eX c j):=by
 have g:=cG c (m:=5) (by decide);have t:=aJu (c%5).toNat (by omega);refine⟨tabs.getD (c%5).toNat [],t.1,t.2.1,t.2.2,fun j=>?_⟩;have g':=cG (c/5+(j:Int)) (m:=5) (by decide);unfold eX;generalize tabs.getD (c%5).toNat []=T at t ⊢;rw[List.getD_eq_getElem?_getD,List.getElem?_eq_getElem (by rw[t.1]; omega)];rfl
theorem wN (c:Int) (k:Nat):aZ (eX c k)=true:=by
 obtain⟨T,_,h2,_,h4⟩:=rD c k;exact List.all_eq_true.mp h2 _ (List.mem_of_getElem? (h4 k))
theorem vC {c:Int}{n:Nat}:∀ z∈bJ c n,aZ z=true:=fun z hz=>by
 obtain⟨k,_,rfl⟩:=List.mem_map.mp hz;exact wN c k
theorem sS (c:Int){n:Nat}(hn:n<=5):(bJ c n).Nodup:=by
 obtain⟨T,h1,_,h3,h4⟩:=rD c 0;unfold bJ;refine List.pairwise_map.mpr (List.Pairwise.imp_of_mem (fun {i j} hi hj hlt e=>?_) (List.pairwise_lt_range (n:=n)));have hi':=List.mem_range.mp hi;have hj':=List.mem_range.mp hj;have g1:=cG (c/5+(i:Int)) (m:=5) (by decide);have g2:=cG (c/5+(j:Int)) (m:=5) (by decide)
 have:=(List.getElem?_inj (i:=((c/5+i)%5).toNat) (j:=((c/5+j)%5).toNat) (by rw[h1]; omega) h3).mp (by rw[h4,h4,e])
 omega
theorem yU {c:Int}{n i:Nat}(h:i<n):eX c i∈bJ c n:=List.mem_map.mpr ⟨i,List.mem_range.mpr h,rfl⟩
theorem aGu {c:Int}{kn rs nm:List Str}{n i:Nat}{x:Dr}(hn:rs.length=n) (h1:1<=n) (h:x∈nC c kn rs nm n i):x.1∈rs∧x.2.1∈nm∧x.2.2∈rs:=by
 obtain⟨a,_,hx⟩:=List.mem_flatMap.mp h;obtain⟨k,_,e⟩:=List.mem_filterMap.mp hx;obtain⟨e1,e2,_,e3⟩:=nZ e;refine⟨List.mem_of_getElem? e1,List.mem_of_getElem? e2,?_⟩;have g:=cG (drw c a k/3) (m:=(n:Int)) (by omega);rw[e3,List.getD_eq_getElem?_getD,List.getElem?_eq_getElem (by omega)];exact List.getElem_mem _
theorem aAd {c:Int}{kn rs nm:List Str}{n i:Nat}(hr:rs.Nodup) (hm:nm.Nodup):Apart (nC c kn rs nm n i):=by
 refine List.pairwise_map.mpr (List.pairwise_flatMap.mpr ⟨fun a _=>?_,?_⟩)
 ·refine List.pairwise_filterMap.mpr (List.Pairwise.imp (fun {k k'} hlt x hx y hy e=>?_) (List.pairwise_lt_range (n:=nm.length)));obtain⟨_,e2,_⟩:=nZ hx;obtain⟨_,f2,_⟩:=nZ hy
  have:=(List.getElem?_inj (i:=k) (j:=k') (List.getElem?_eq_some_iff.mp e2).1 hm).mp (by rw[e2,f2,(Prod.mk.inj e).2])
  omega
 ·refine List.Pairwise.imp (fun {a a'} hlt x hx y hy e=>?_) (List.pairwise_lt_range (n:=i));obtain⟨k,_,hx⟩:=List.mem_filterMap.mp hx;obtain⟨k',_,hy⟩:=List.mem_filterMap.mp hy;obtain⟨e1,_⟩:=nZ hx;obtain⟨f1,_⟩:=nZ hy
  have:=(List.getElem?_inj (i:=a) (j:=a') (List.getElem?_eq_some_iff.mp e1).1 hr).mp (by rw[e1,f1,(Prod.mk.inj e).1])
  omega
structure aBq (c:Int) (n:Nat) (ss:List Str):Prop where
 le:(gO c n).length<=200∧(dA c ss n).length<=200∧(jN c ss).length<=200
 nm:(cV (eX c 0) (gO c n) (dA c ss n)).all aZ=true
 ap:Apart (dA c ss n)
 dd:∀ x∈dA c ss n,x.2.1∈ss
 kn:∀ z∈eP (dA c ss n) (jN c ss),z∈ss
 rb:∀ z∈cV (eX c 0) (gO c n) (dA c ss n),z∈bJ c n
 sm:(gO c n).length<=5∧(dA c ss n).length<=60∧(jN c ss).length<=12
theorem xV {c:Int}{n:Nat}{ss:List Str}{x:Dr}(h:x∈dA c ss n):x∈nC c (cW c ss) (bJ c n) ss n n:=by
 unfold dA at h;dsimp only at h;split at h
 ·exact List.mem_reverse.mp h
 ·exact h
theorem aNi {c:Int}{n:Nat}{ss:List Str}(h1:1<=n) (h5:n<=5) (hs:ss.length<=12) (hd:ss.Nodup):aBq c n ss:=by
 have mem:=fun (x:Dr) (h:x∈dA c ss n)=>aGu (dO c n) h1 (xV h)
 have rm:∀ z∈cV (eX c 0) (gO c n) (dA c ss n),z∈bJ c n:=fun z hz=>by
  rcases List.mem_append.mp hz with hz | hz
  ·rcases List.mem_cons.mp hz with rfl | hz
   ·exact yU (by omega)
   ·exact wU z hz
  ·obtain⟨x,hx,hz⟩:=List.mem_flatMap.mp hz;rcases List.mem_cons.mp hz with rfl | hz
   ·exact (mem x hx).1
   ·rw[List.mem_singleton.mp hz]; exact (mem x hx).2.2
 have dl:(dA c ss n).length<=60:=by
  have a1:=sG c (cW c ss) (bJ c n) ss n n;have a3:ss.length*n<=12*5:=Nat.mul_le_mul hs h5;unfold dA;dsimp only;split
  ·rw[List.length_reverse]; omega
  ·omega
 have el:(gO c n).length<=5:=Nat.le_trans (kT ..) (by omega);have ml:(jN c ss).length<=12:=Nat.le_trans (kT ..) (by omega);refine⟨⟨by omega,by omega,by omega⟩,List.all_eq_true.mpr fun z hz=>vC z (rm z hz),?_,fun x hx=>(mem x hx).2.1,fun z hz=>?_,rm,el,dl,ml⟩
 ·have ap:Apart (nC c (cW c ss) (bJ c n) ss n n):=aAd (sS c h5) hd;unfold dA;dsimp only;split
  ·unfold Ky.Apart at ap ⊢;rw[List.map_reverse];exact List.pairwise_reverse.mpr (List.Pairwise.imp (fun h=>Ne.symm h) ap)
  ·exact ap
 ·rcases List.mem_append.mp hz with hz | hz
  ·obtain⟨x,hx,rfl⟩:=List.mem_map.mp hz;exact (mem x hx).2.1
  ·exact wU z hz
end K22
namespace K22
open PySem L2 Ky
seal L2.PE L2.PS L2.PSs L2.PA L2.PT L2.PW L2.PG L2.PI L2.PTs L2.PO L2.PPs L2.OpR L2.IxR L2.CallR L2.MtM L2.MtR
unseal L2.MtM L2.MtR
structure MW where
 b:Str
 es:List Str
 kn:List Str
 ds:List Dr
abbrev MW.rs (m:MW):List Str:=cV m.b m.es m.ds
def parts (ms:List MW) (room:List Str) (y:Str):List (Option Str):=List.zipWith (fun m z=>lU m.ds m.kn z y) ms room
def yI (ms:List MW) (room:List Str) (y:Str):Option (List Str):=if (parts ms room y).any (fun o=>o.isNone)=true then none else some ((parts ms room y).map fun o=>o.getD "")
def wkn (ms:List MW):List Str:=ms.flatMap (·.kn)
def wto (ms:List MW) (room:List Str) (y:Str):Option (List Str):=if y∈wkn ms then yI ms room y else none
structure ROk (ms:List MW) (room:List Str):Prop where
 len:ms.length=room.length
 mem:∀ (i:Nat) (m:MW) (z:Str),ms[i]?=some m->room[i]?=some z->aZ z=true∧z∈m.rs
structure lC (CM:Addr) (H:Hp) (x p:Addr) (ms:List MW):Prop where
 ex:∃ Xs:List Addr,H p=some (.lst (Xs.map V.ref))∧Xs.length=ms.length∧∀ (i:Nat) (X:Addr) (m:MW),Xs[i]?=some X->ms[i]?=some m->MM CM H X x m.b m.es m.kn m.ds
theorem lC.same {CM:Addr}{H H':Hp}{x p:Addr}{ms:List MW}(M:lC CM H x p ms) (sm:aO H H'):lC CM H' x p ms:=by
 obtain⟨Xs,h0,h1,h2⟩:=M.ex;exact⟨Xs,sm _ _ h0,h1,fun i X m a b=>(h2 i X m a b).same sm⟩
def yD (H:Hp) (Q:VK):Option (List Str)->Prop
 | none=>∀ H',aO H H'->Q .non H'
 | some ss=>∀ (l:Addr) H',aO H H'->H l=none->H' l=some (.tup (ss.map V.str))->Q (.ref l) H'
inductive tQ (CM:Addr) (vs:List V) (H:Hp) (Q:VK) (E:XK):Prop
 | mk (x p:Addr) (ms:List MW) (h0_:vs=[.ref p]) (h1_:lC CM H x p ms) (h2_:ms.length<=100) (h3_:yD H Q (some (ms.map (·.b))))
inductive aAt (K:PySem.W.Frag) (CM:Addr) (vs:List V) (H:Hp) (Q:VK) (E:XK):Prop
 | mk (x p t:Addr) (ms:List MW) (room:List Str) (y:Str) (h0_:vs=[.ref p,.ref t,.str y]) (h1_:lC CM H x p ms) (h2_:SqT K H t (room.map V.str)) (h3_:ROk ms room) (h4_:ms.length<=100) (h5_:yD H Q (yI ms room y))
inductive tO (CM:Addr) (vs:List V) (H:Hp) (Q:VK) (E:XK):Prop
 | mk (x p:Addr) (ms:List MW) (N:List Str) (h0_:vs=[.ref p]) (h1_:lC CM H x p ms) (h2_:ms.length<=10) (h3_:∀ m∈ms,∀ z∈m.kn,z∈N) (h4_:N.length<64)
  (h5_:∀ (l:Addr) (kn:List Str) H',aO H H'->H l=none->(∀ z,z∈kn↔z∈wkn ms)->H' l=some (.dK (mks kn []))->Q (.ref l) H')
theorem qR {α β γ:Type}{f:α->β->γ}:∀ {as:List α}{bs:List β}{i:Nat}{a:α}{b:β},as[i]?=some a->bs[i]?=some b->List.zipWith f (as.take (i+1)) (bs.take (i+1))=List.zipWith f (as.take i) (bs.take i)++[f a b]
 | [],_,_,_,_,h,_=>by simp at h
 | _::_,[],_,_,_,_,h=>by simp at h
 | a'::as,b'::bs,0,a,b,h1,h2=>by
  have e1:a'=a:=by simpa using h1
  have e2:b'=b:=by simpa using h2
  rw[e1,e2]
  simp
 | a'::as,b'::bs,i+1,a,b,h1,h2=>by
  have:=qR (f:=f) (as:=as) (bs:=bs) (i:=i) (a:=a) (b:=b) (by simpa using h1) (by simpa using h2)
  simp only[List.take_succ_cons,List.zipWith_cons_cons,List.cons_append] at this ⊢;rw[this]
section
variable {P:Program}{w:World}{K:PySem.W.Frag}{mg:Str->Option Value}{base:Heap}
theorem aPo:aR ["self","room","deed"] ["self","room","deed"] (aB uF):=⟨rfl,rfl,rfl,by decide +kernel,rfl,by decide +kernel,by decide +kernel⟩
theorem aFn {f CM:Addr}{fd:FuncData}(F:Fun K "goes" "Machine.goes" uF f fd) (MC:sX K CM):bE P w K mg base CX0 1 f fd ["self","room","deed"] (aAq CM):=by
 refine F.ok aPo (fun vs H Q E h=>?_) (fun cdv A outer s H vs Q E hr h=>?_)
 ·obtain⟨x,dd,b,z,y,es,kn,ds,rfl,_⟩:=h;rfl
 ·obtain⟨x,dd,b,z,y,es,kn,ds,rfl,⟨dx,l,e,k,kvs,g,M⟩,hz,q⟩:=h;have hu:=jS hr
  refine⟨_,aK (dH (rG (vH hu (pv 2) (gZ (pv 0) rfl))) (aL (bO (wY hu (jM hu (gZ (pv 0) rfl) (pv 1) (fun _ _=>rfl)) (pv 2) ⟨by rfl,by rfl,by rfl,by rfl⟩))) cF)
   (aL (bO (pv 1))),?_⟩
  refine⟨_,rfl,_,rfl,x,CM,dx,_,_,rfl,M.ins,MC.cl,MC.nk,by rfl,k,_,rfl,fU.k (k:=Sum.inr y) M.know,_,rfl,?_⟩;rw[pB];unfold lU at q
  by_cases hy:y∈kn
  ·rw[if_pos hy] at q;rw[decide_eq_true hy,Bool.true_or];refine jU ⟨_,rfl,x,CM,dx,_,_,rfl,M.ins,MC.cl,MC.nl,by rfl,_,rfl,l,_,rfl,aQc M hz,g z,rfl,?_,_,rfl,_,fU.k (k:=Sum.inr y) (M.lead.dd z hz),?_⟩
   ·exact .inl ⟨_,.inl (M.lead.dd z hz)⟩
   ·rw[aLq];exact q
  ·rw[if_neg hy] at q;rw[decide_eq_false hy];exact hU ⟨_,rfl,q⟩
end
end K22
namespace K22
open PySem L2 Ky
seal L2.PE L2.PS L2.PSs L2.PA L2.PT L2.PW L2.PG L2.PI L2.PTs L2.PO L2.PPs L2.OpR L2.IxR L2.CallR L2.MtM L2.MtR
unseal L2.MtM L2.MtR
theorem nJ {K:PySem.W.Frag}{H H':Hp}{a:Addr}{xs:List V}(h:SqT K H a xs) (e:aO H H'):SqT K H' a xs:=by
 rcases h with (h | ⟨o,h⟩) | h
 ·exact .inl (.inl (e _ _ h))
 ·exact .inl (.inr ⟨o,e _ _ h⟩)
 ·exact .inr h
theorem aFs:∀ {os:List (Option Str)},os.any (fun o=>o.isNone)=false->os.map oV=(os.map fun o=>o.getD "").map V.str
 | [],_=>rfl
 | none::_,h=>by simp at h
 | some z::os,h=>by
  rw[List.map_cons,List.map_cons,List.map_cons,aFs (by simpa using h)];rfl
section
variable {P:Program}{w:World}{K:PySem.W.Frag}{mg:Str->Option Value}{base:Heap}
theorem aPs:aR ["machines"] ["machines"] (aB iF):=⟨rfl,rfl,rfl,by decide +kernel,rfl,by decide +kernel,by decide +kernel⟩
abbrev nd1:List Str:=["machine"]
theorem zI {f fB CM:Addr}{fd fdB:FuncData}(F:Fun K "begin_of" "begin_of" iF f fd) (mT:mg "tuple" = none) (MC:sX K CM)
  (GB:bE P w K mg base CX0 1 fB fdB ["self"] (wF CM)) (bB:aX K fdB ["self"] []) (mB:eZ K CM "begin" fB):bE P w K mg base CX0 2 f fd ["machines"] (tQ CM):=by
 refine F.ok aPs (fun vs H Q E h=>?_) (fun cdv A outer s H vs Q E hr h=>?_)
 ·obtain⟨x,p,ms,rfl,_⟩:=h;rfl
 ·obtain⟨x,p,ms,rfl,M,hl,q⟩:=h
  refine⟨_,aL (bO (eN gQ (by rfl) mT Bo.tuple (pac (eL (N':=nd1) (nown:=1) (js:=[]) rfl
     ⟨rfl,by decide +kernel,by decide +kernel⟩ (cJ (aB iF) ["machines"] rfl rfl (by decide +kernel))
     ⟨fun _ _ _ _=>aP (i:=0) (show List.Nodup nd1 by decide +kernel) rfl (Or.inl rfl) (.inr rfl),fun _ _ _ _=>eE,fun _ _ _ _=>eK (pv 0) MC.cl mB GB hr bB .nil cC⟩
     (dC (pv 0))) aJ))),?_⟩
  obtain⟨Xs,h0,h1,h2⟩:=M.ex;refine⟨_,rfl,p,rfl,⟨_,SqL.of h0⟩,fun D hD=>iJ (xs:=Xs.map V.ref) (fun i σ' H'=>∃ v,σ'=[v]∧H' D=some (.lst (((ms.take i).map (·.b)).map V.str))∧aO H H') ?_ ?_ ?_ ?_⟩
  ·exact⟨none,rfl,aD,smu hD⟩
  ·rintro i σ' H' _ ⟨v,rfl,a1,a2⟩;exact SqL.of (a2 _ _ h0)
  ·rintro i v σ' H' hv ⟨v0,rfl,a1,a2⟩;rw[List.getElem?_map] at hv;cases hX:Xs[i]? with
   | none=>rw[hX] at hv; cases hv
   | some X=>
    rw[hX] at hv;cases hv;have hi:i<ms.length:=by rw[← h1]; exact (List.getElem?_eq_some_iff.mp hX).1
    have hm:=List.getElem?_eq_getElem hi;generalize ms[i]=m at hm;have MX:=(h2 i X m hX hm).same a2;obtain⟨dx,l,e,k,kvs,g,M0⟩:=MX;refine⟨_,rfl,X,dx,_,rfl,M0.ins,lS _ _ _ _ _ _ (by decide),X,x,m.b,m.es,m.kn,m.ds,rfl,⟨dx,l,e,k,kvs,g,M0⟩,_,a1,aU (by rw[List.length_map,List.length_map,List.length_take]; omega),_,rfl,?_,fun b o z=>?_⟩
    ·rw[aD,List.take_succ,hm]
     simp
    ·rw[aI (aF z hD)];exact a2 b o z
  ·rintro σ' H' ⟨v,rfl,a1,a2⟩;rw[List.length_map,h1,List.take_length] at a1;exact⟨D,_,rfl,.inl ⟨SqL.of a1,fun l hl'=>q l _ (a2.trans (smu hl')) (a2.free hl') aD⟩⟩
abbrev NFO:List Str:=["machines","room","deed","parts"]
theorem aNf:aR NFO ["machines","room","deed"] (aB mO):=⟨rfl,rfl,rfl,by decide +kernel,rfl,by decide +kernel,by decide +kernel⟩
abbrev ndf:List Str:=["machine","part","deed"]
theorem aFp {f fG CM:Addr}{fd fdG:FuncData}(F:Fun K "far_of" "far_of" mO f fd) (mT:mg "tuple" = none) (mZ:mg "zip" = none) (MC:sX K CM)
  (GG:bE P w K mg base CX0 1 fG fdG ["self","room","deed"] (aAq CM)) (bG:aX K fdG ["self","room","deed"] []) (mG:eZ K CM "goes" fG):bE P w K mg base CX0 2 f fd ["machines","room","deed"] (aAt K CM):=by
 refine F.ok aNf (fun vs H Q E h=>?_) (fun cdv A outer s H vs Q E hr h=>?_)
 ·obtain⟨x,p,t,ms,room,y,rfl,_⟩:=h;rfl
 ·obtain⟨x,p,t,ms,room,y,rfl,M,hT,R,hl,q⟩:=h
  refine⟨_,aK (gL (i:=3) (N':=ndf) (nown:=2) (js:=[2]) rfl aNf.nd rfl rfl rfl
     ⟨rfl,by decide +kernel,by decide +kernel⟩ (cJ (aB mO) NFO rfl rfl (by decide +kernel))
     ⟨fun _ _ _ _=>show PG _ _ (xQ K 2 (gG (eV 0) (gG (eV 1) xR))) from fE rfl (aY (aP (i:=0) (show List.Nodup ndf by decide +kernel) rfl (Or.inl rfl) (.inr rfl)) (aY (aP (i:=1) (show List.Nodup ndf by decide +kernel) rfl (Or.inl rfl) (.inr rfl)) dR)),
      fun _ _ _ _=>eE,fun _ _ _ _=>hG (pv 0) MC.cl mG GG hr bG .nil cC (pac (pv 1) (pac (pv 2) aJ))⟩
     (aEz rfl mZ (pac (pv 0) (pac (pv 1) aJ))))
   (aL (bO (wX (bX aLk iW (pv 3) (by with_unfolding_all rfl)) iW (eN gQ (by rfl) mT Bo.tuple (pac (pv 3) aJ))))),?_⟩
  obtain⟨Xs,h0,h1,h2⟩:=M.ex;refine⟨_,rfl,_,rfl,p,t,rfl,⟨_,SqL.of h0⟩,⟨_,hT⟩,fun D hD=>aJl (xs:=Xs.map V.ref) (ys:=room.map V.str) (fun i σ' H'=>∃ v0 v1,σ'=[v0,v1,some (.str y)]∧H' D=some (.lst ((parts (ms.take i) (room.take i) y).map oV))∧aO H H') ?_ ?_ ?_ ?_ ?_⟩
  ·exact⟨none,none,rfl,aD,smu hD⟩
  ·rw[List.length_map,List.length_map,h1,R.len]
  ·rintro i σ' H' _ ⟨v0,v1,rfl,a1,a2⟩;exact⟨SqL.of (a2 _ _ h0),nJ hT a2⟩
  ·rintro i v1 v2 σ' H' tt hv1 hv2 ⟨w0,w1,rfl,a1,a2⟩ htt;rw[List.getElem?_map] at hv1 hv2;cases hX:Xs[i]? with
   | none=>rw[hX] at hv1; cases hv1
   | some X=>
    cases hzz:room[i]? with
    | none=>rw[hzz] at hv2; cases hv2
    | some z=>
     rw[hX] at hv1;rw[hzz] at hv2;cases hv1;cases hv2;have hi:i<ms.length:=by rw[← h1]; exact (List.getElem?_eq_some_iff.mp hX).1
     have hm:=List.getElem?_eq_getElem hi;generalize ms[i]=m at hm;have s3:=a2.trans (smu (o:=.tup [.ref X,.str z]) htt);have a1':(upd H' tt (.tup [.ref X,.str z])) D=some (.lst ((parts (ms.take i) (room.take i) y).map oV)):=smu htt _ _ a1;have eT:(upd H' tt (.tup [.ref X,.str z])) tt=some (.tup [.ref X,.str z]):=aD;generalize upd H' tt (.tup [.ref X,.str z])=H3 at s3 a1' eT ⊢;obtain⟨dx,l,e,k,kvs,g,M0⟩:=(h2 i X m hX hm).same s3;refine⟨tt,_,rfl,SqT.of eT,rfl,_,_,rfl,_,_,rfl,rfl,_,rfl,X,dx,_,rfl,M0.ins,lS _ _ _ _ _ _ (by decide),_,rfl,_,rfl,X,x,m.b,z,y,m.es,m.kn,m.ds,rfl,⟨dx,l,e,k,kvs,g,M0⟩,(R.mem i m z hm hzz).2,_,a1',aU ?_,_,_,rfl,?_,fun b o u=>?_⟩
     ·rw[List.length_map];unfold parts;rw[List.length_zipWith,List.length_take];omega
     ·rw[aD];unfold parts;rw[qR hm hzz,List.map_append];rfl
     ·rw[aI (aF u hD)];exact s3 b o u
  ·rintro σ' H' ⟨v0,v1,rfl,a1,a2⟩;have e1:ms.take (Xs.map V.ref).length=ms:=by rw[List.length_map,h1,List.take_length]
   have e2:room.take (Xs.map V.ref).length=room:=by rw[List.length_map,h1,R.len,List.take_length]
   rw[e1,e2] at a1;unfold yI at q;refine⟨_,rfl,D,parts ms room y,rfl,rfl,SqL.of a1,_,rfl,eQ (fun hn=>?_) (fun hn=>?_)⟩
   ·rw[if_pos hn] at q;exact q H' a2
   ·rw[if_neg hn] at q;refine⟨_,rfl,D,_,rfl,.inl ⟨SqL.of a1,fun l hl'=>q l _ (a2.trans (smu hl')) (a2.free hl') ?_⟩⟩;rw[aD,aFs (Bool.eq_false_iff.mpr hn)]
end
end K22
namespace K22
open PySem L2 Ky
seal L2.PE L2.PS L2.PSs L2.PA L2.PT L2.PW L2.PG L2.PI L2.PTs L2.PO L2.PPs L2.OpR L2.IxR L2.CallR L2.MtM L2.MtR
unseal L2.MtM L2.MtR
theorem lW {P:Program}{w:World}{X:Cx}:eY (CXE P w) X E0:=by
 rintro pins σ H s e s' I ⟨_,_,_,_,_,_,_,_,_,_,_,_,_,_,_,_,_,h⟩;exact h.elim
theorem qS {ms:List MW}{i:Nat}{m:MW}(h:ms[i]?=some m) (z:Str):z∈wkn (ms.take (i+1))↔z∈wkn (ms.take i)∨z∈m.kn:=by
 unfold wkn;rw[List.take_succ,h]
 simp
section
variable {P:Program}{w:World}{K:PySem.W.Frag}{mg:Str->Option Value}{base:Heap}
abbrev NKO:List Str:=["machines","known","machine"]
theorem aLa:aR NKO ["machines"] (aB jB):=⟨rfl,rfl,rfl,by decide +kernel,rfl,by decide +kernel,by decide +kernel⟩
theorem zG {f fKn fMk CM:Addr}{fd fdKn fdMk:FuncData}(F:Fun K "known_of" "known_of" jB f fd) (MC:sX K CM)
  (GKn:bE P w K mg base CX0 1 fKn fdKn ["self"] (aAo CM aGj)) (bKn:aX K fdKn ["self"] []) (mKn:eZ K CM "knows" fKn)
  (GMk:bE P w K mg base CX0 1 fMk fdMk ["names"] (qL K)) (kMk:PySem.W.keepIn K (.ref fMk)=true) (bMk:aX K fdMk ["names"] []) (mMk:mg "marks_of" = some (.ref fMk)):bE P w K mg base CX0 2 f fd ["machines"] (tO CM):=by
 refine F.ok aLa (fun vs H Q E h=>?_) (fun cdv A outer s H vs Q E hr h=>?_)
 ·obtain⟨x,p,ms,N,rfl,_⟩:=h;rfl
 ·obtain⟨x,p,ms,N,rfl,M,hl,hN,h64,q⟩:=h
  refine⟨_,aK (aW (i:=1) aLa.nd rfl (Or.inl rfl) (cM aJ))
   (aK (eJ PassesOwn.never rfl (dC (pv 0)) (aP (i:=2) aLa.nd rfl (Or.inl rfl))
    (aL (dB (kX PySem.F.plainAttrs_list PySem.F.slot_list_extend PySem.F.type_list_extend pA (pv 1) (pac (eK (pv 2) MC.cl mKn GKn hr bKn .nil cC) aJ)))))
   (aL (bO (bU GMk hr rfl mMk kMk bMk .nil cC (pac (pv 1) aJ))))),?_⟩
  obtain⟨Xs,h0,h1,h2⟩:=M.ex;refine⟨by show 0<=sizeLine; decide,fun D hD=>⟨_,rfl,p,rfl,⟨_,SqL.of (smu hD _ _ h0)⟩,?_⟩⟩;refine dN (xs:=Xs.map V.ref) (fun i σ H'=>∃ (x2:Option V) (kn:List Str),σ=[some (.ref p),some (.ref D),x2]∧(∀ z,z∈kn↔z∈wkn (ms.take i))∧kn.length<=64*i∧H' D=some (.lst (kn.map V.str))∧aO H H') ?_ ?_ ?_ ?_
  ·exact⟨none,[],rfl,fun z=>Iff.rfl,Nat.le_refl _,aD,smu hD⟩
  ·rintro i σ H' _ ⟨x2,kn,rfl,b1,b2,a1,a2⟩;exact SqL.of (a2 _ _ h0)
  ·rintro i v σ H' hv ⟨x2,kn,rfl,b1,b2,a1,a2⟩;rw[List.getElem?_map] at hv;cases hX:Xs[i]? with
   | none=>rw[hX] at hv; cases hv
   | some X=>
    rw[hX] at hv;cases hv;have hi:i<ms.length:=by rw[← h1]; exact (List.getElem?_eq_some_iff.mp hX).1
    have hm:=List.getElem?_eq_getElem hi;have hmm:ms[i]∈ms:=List.getElem_mem hi;generalize ms[i]=m at hm hmm;obtain⟨dx,l,e,k,kvs,g,M0⟩:=(h2 i X m hX hm).same a2;have u64:(unl m.kn []).length<64:=Nat.lt_of_le_of_lt (iY fun z hz=>hN m hmm z hz) h64;refine⟨_,rfl,.inl ⟨rfl,_,SqL.of a1⟩,_,rfl,X,dx,_,rfl,M0.ins,lS _ _ _ _ _ _ (by decide),X,x,m.b,m.es,m.kn,m.ds,rfl,⟨dx,l,e,k,kvs,g,M0⟩,u64,fun l1 ts H2 s2 n1 g1 _ pm=>?_⟩;have tl:ts.length<64:=by rw[pm.length_eq]; exact u64
    refine⟨D,l1,_,_,rfl,rfl,s2 _ _ a1,g1,kE (by rw[List.length_map,List.length_map]; omega),?_⟩;refine⟨_,kn++ts,rfl,fun z=>?_,by rw[List.length_append]; omega,by rw[aD,List.map_append],fun b o u=>?_⟩
    ·rw[List.mem_append,b1,qS hm,pm.mem_iff,uV]
    ·rw[aI (aF u hD)];exact s2 _ _ (a2 b o u)
  ·rintro σ H' ⟨x2,kn,rfl,b1,b2,a1,a2⟩;have e1:ms.take (Xs.map V.ref).length=ms:=by rw[List.length_map,h1,List.take_length]
   rw[e1] at b1;rw[List.length_map,h1] at b2;refine⟨_,rfl,D,kn,rfl,SqL.of a1,by omega,fun d H2 s2 n2 g2=>q d kn H2 (a2.trans s2) (a2.free n2) b1 g2⟩
end
end K22
namespace K22
open PySem L2 Ky
seal L2.PE L2.PS L2.PSs L2.PA L2.PT L2.PW L2.PG L2.PI L2.PTs L2.PO L2.PPs L2.OpR L2.IxR L2.CallR L2.MtM L2.MtR
unseal L2.MtM L2.MtR
def NLs (H H':Hp):Prop:=∀ b o,H b=some o->(∀ xs,o≠.lst xs)->H' b=some o
theorem aKb {CM:Addr}{H H':Hp}{x dd:Addr}{b:Str}{es kn:List Str}{ds:List Dr}(h:MM CM H x dd b es kn ds) (s:NLs H H'):MM CM H' x dd b es kn ds:=by
 obtain⟨dx,l,e,k,kvs,g,M⟩:=h;exact⟨dx,l,e,k,kvs,g,⟨s _ _ M.ins (fun _ z=>nomatch z),⟨s _ _ M.lead.dk (fun _ z=>nomatch z),M.lead.keys,M.lead.val,fun z hz=>s _ _ (M.lead.dd z hz) (fun _ z=>nomatch z),M.lead.inj,M.lead.ne⟩,s _ _ M.ends (fun _ z=>nomatch z),s _ _ M.know (fun _ z=>nomatch z)⟩⟩
theorem aAy {H:Hp}{l:Addr}{xs ys:List V}(hm:H l=some (.lst xs)):NLs H (upd H l (.lst ys)):=fun b o e n=>by
 rw[aI (fun z=>by rw[z,hm] at e; exact n _ (Option.some.inj e).symm)];exact e
abbrev aAh (lm lk:Addr):List (Str×V):=[("machines",.ref lm),("known_marks",.ref lk)]
abbrev aJt:List Str:=["deeds","begin","knows","at","to","is_end","ways","rooms"]
theorem dI (lm lk:Addr):∀ m∈aJt,(aAh lm lk).lookup m=none:=by
 have h:∀ m∈aJt,(m==("machines" : Str))=false∧(m==("known_marks" : Str))=false:=by decide +kernel
 intro m hm;obtain⟨h1,h2⟩:=h m hm;simp only[List.lookup,h1,h2]
inductive Wv (CM CW:Addr) (H:Hp) (v x:Addr) (ms:List MW):Prop
 | mk (dv lm lk:Addr) (kn:List Str) (ins:H v=some (.ins CW dv (aAh lm lk))) (mm:lC CM H x lm ms) (dk:H lk=some (.dK (mks kn []))) (kk:∀ z,z∈kn↔z∈wkn ms)
theorem Wv.same {CM CW:Addr}{H H':Hp}{v x:Addr}{ms:List MW}(W:Wv CM CW H v x ms) (sm:aO H H'):Wv CM CW H' v x ms:=by
 obtain⟨dv,lm,lk,kn,h1,h2,h3,h4⟩:=W;exact⟨dv,lm,lk,kn,sm _ _ h1,h2.same sm,sm _ _ h3,h4⟩
structure sJ (K:PySem.W.Frag) (CW:Addr):Prop where
 cl:Cls K CW
 nm:fO K CW "machines"
 nk:fO K CW "known_marks"
theorem aLv {CM CW:Addr}{H H':Hp}{v dv x p:Addr}{ms:List MW}(hv:H v=some (.ins CW dv [])) (s:SameBut v H H') (M:lC CM H x p ms):lC CM H' x p ms:=by
 have k:∀ {b:Addr}{o:HO},H b=some o->o≠.ins CW dv []->H' b=some o:=fun {b o} e n=>s b o (fun z=>n (by rw[z,hv] at e; exact (Option.some.inj e).symm)) e;obtain⟨Xs,h0,h1,h2⟩:=M.ex;refine⟨Xs,k h0 (fun z=>nomatch z),h1,fun i X m a b=>?_⟩;obtain⟨dx,l,e,kk,kvs,g,M0⟩:=h2 i X m a b;exact⟨dx,l,e,kk,kvs,g,⟨k M0.ins (fun z=>by cases z),⟨k M0.lead.dk (fun z=>nomatch z),M0.lead.keys,M0.lead.val,fun z hz=>k (M0.lead.dd z hz) (fun z=>nomatch z),M0.lead.inj,M0.lead.ne⟩,k M0.ends (fun z=>nomatch z),k M0.know (fun z=>nomatch z)⟩⟩
inductive jE (CM CW cT:Addr) (vs:List V) (H:Hp) (Q:VK) (E:XK):Prop
 | mk (v dv x p:Addr) (ms:List MW) (N:List Str) (h0_:vs=[.ref v,.ref p]) (h1_:H v=some (.ins CW dv [])) (h2_:lC CM H x p ms) (h3_:1<=ms.length∧ms.length<=7) (h4_:∀ m∈ms,∀ z∈m.kn,z∈N) (h5_:N.length<64) (h6_:∀ H',SameBut v H H'->Wv CM CW H' v x ms->(∀ d xs,H d=some (.lst xs)->Wv CM CW (upd H' d (.lst [])) v x ms)->Q .non H')
 | bad (v p:Addr) (xs:List V) (h0_:vs=[.ref v,.ref p]) (h1_:H p=some (.lst xs)) (h2_:xs.length=0∨7<xs.length) (h3_:E (.ref cT) none H)
inductive wB (CM CW:Addr) (vs:List V) (H:Hp) (Q:VK) (E:XK):Prop
 | mk (v x:Addr) (ms:List MW) (h0_:vs=[.ref v]) (h1_:Wv CM CW H v x ms) (h2_:1<=ms.length) (h3_:Q (.ref x) H)
inductive qX (CM CW:Addr) (vs:List V) (H:Hp) (Q:VK) (E:XK):Prop
 | mk (v x:Addr) (ms:List MW) (h0_:vs=[.ref v]) (h1_:Wv CM CW H v x ms) (h2_:ms.length<=100) (h3_:yD H Q (some (ms.map (·.b))))
structure Srt (ts:List Str) (p:Str->Prop):Prop where
 so:PyProof.Rows.sortedS ts=true
 nd:ts.Nodup
 mem:∀ z,z∈ts↔p z
theorem Srt.one {ts us:List Str}{p q:Str->Prop}(h:Srt ts p) (g:Srt us q) (e:∀ z,p z↔q z):ts=us:=
 qZ (s:=us) ((List.perm_ext_iff_of_nodup h.nd g.nd).mpr fun z=>by rw[h.mem,g.mem,e]) (List.Perm.refl _) h.so g.so
inductive wA (CM CW:Addr) (vs:List V) (H:Hp) (Q:VK) (E:XK):Prop
 | mk (v x:Addr) (ms:List MW) (N:List Str) (h0_:vs=[.ref v]) (h1_:Wv CM CW H v x ms) (h2_:∀ z∈wkn ms,z∈N) (h3_:N.length<64) (h4_:∀ (l:Addr) (ts:List Str) H',aO H H'->H l=none->H' l=some (.lst (ts.map V.str))->Srt ts (fun z=>z∈wkn ms)->Q (.ref l) H')
section
variable {P:Program}{w:World}{K:PySem.W.Frag}{mg:Str->Option Value}{base:Heap}
theorem aPi:aR ["self","machines"] ["self","machines"] (aB sY):=⟨rfl,rfl,rfl,by decide +kernel,rfl,by decide +kernel,by decide +kernel⟩
theorem aFj {f fK CM CW cT:Addr}{fd fdK:FuncData}(F:Fun K "__init__" "Woven.__init__" sY f fd) (T:Txt K mg) (WC:sJ K CW) (mMW:∃ t,mg "MOST_WOVEN" = some (.int 7 t)) (mTM:mg "TooMany" = some (.ref cT)) (xTM:yG K cT)
  (GK:bE P w K mg base CX0 2 fK fdK ["machines"] (tO CM)) (kK:PySem.W.keepIn K (.ref fK)=true) (bK:aX K fdK ["machines"] []) (mK:mg "known_of" = some (.ref fK)):bE P w K mg base (CXE P w) 3 f fd ["self","machines"] (jE CM CW cT):=by
 obtain⟨tw,mMW⟩:=mMW;refine okE F aPi (fun vs H Q E h=>?_) (fun cdv A outer s H vs Q E hr h D=>?_)
 ·rcases h with⟨v,dv,x,p,ms,N,rfl,_⟩ | ⟨v,p,xs,rfl,_⟩ <;> rfl
 ·refine⟨_,aK (dH (wR (mU (wS (pv 1) (fun _=>rfl))) (vD (bX pX (cH cK (by rfl) T.len Bo.len (pac (pv 1) aJ)) (iS (v:=.int 7) (by rfl) mMW ⟨_,rfl⟩) (cN _)))).pt (aL (iG D rfl (by rfl) mTM xTM (pac aQ aJ))) cF)
   (aK (jK (pv 0) (eN oF (by rfl) T.list Bo.list (pac (pv 1) aJ)) rfl)
   (aL (jK (pv 0) (bU GK hr rfl mK kK bK .nil cC (pac (pv 1) aJ)) rfl))),?_⟩
  rcases h with⟨v,dv,x,p,ms,N,rfl,hv,M,hl,hN,h64,q⟩ | ⟨v,p,xs,rfl,h0,hb,q⟩
  rotate_left
  ·cases xs with
   | nil=>exact⟨_,rfl,false,.inl ⟨_,SqL.of h0,rfl⟩,jU ⟨by show 1<=sizeLine; decide,q⟩⟩
   | cons y ys=>exact⟨_,rfl,true,.inl ⟨_,SqL.of h0,rfl⟩,hU ⟨_,rfl,p,_,rfl,.inl (SqL.of h0),_,_,rfl,rfl,_,rfl,eQ (fun _=>⟨by show 1<=sizeLine; decide,q⟩) fun z=>absurd (decide_eq_true (by simp only[List.length_cons] at hb ⊢; omega)) z⟩⟩
  obtain⟨Xs,h0,h1,h2⟩:=M.ex
  have hne:(Xs.map V.ref).isEmpty=false:=by
   cases Xs with
   | nil=>simp at h1; omega
   | cons _ _=>rfl
  refine⟨_,rfl,true,.inl ⟨_,SqL.of h0,by rw[hne]; rfl⟩,hU ⟨_,rfl,p,_,rfl,.inl (SqL.of h0),_,_,rfl,rfl,_,rfl,eQ (fun z=>absurd (of_decide_eq_true z) (by rw[List.length_map]; omega)) fun _=>?_⟩⟩;refine⟨_,rfl,p,_,rfl,.inl (SqL.of h0),fun lm hlm=>⟨_,rfl,v,CW,dv,[],rfl,smu hlm _ _ hv,WC.cl,WC.nm,by decide,?_⟩⟩;have nv:lm≠v:=fun z=>by rw[z,hv] at hlm; cases hlm
  generalize hH2:upd (upd H lm _) v _=H2;have s2:SameBut v H H2:=fun b o n e=>by rw[← hH2,aI n]; exact smu hlm _ _ e
  have v2:H2 v=some (.ins CW dv [("machines",.ref lm)]):=by rw[← hH2,aD]; rfl
  have l2:H2 lm=some (.lst (Xs.map V.ref)):=by rw[← hH2,aI nv,aD]
  clear hH2;have M2:=aLv hv s2 M
  have M2':lC CM H2 x lm ms:=by
   obtain⟨Ys,k0,k1,k2⟩:=M2.ex;have pv':p≠v:=fun z=>by rw[z,hv] at h0; cases h0
   have e:=s2 _ _ pv' h0;rw[k0] at e;have e':Ys.map V.ref=Xs.map V.ref:=HO.lst.inj (Option.some.inj e);exact⟨Ys,by rw[e']; exact l2,k1,k2⟩
  refine⟨_,rfl,x,p,ms,N,rfl,M2,by omega,hN,h64,fun lk kn H3 s3 hlk hkn g3=>⟨_,rfl,v,CW,dv,_,rfl,s3 _ _ v2,WC.cl,WC.nk,by show 1<1000; decide,?_⟩⟩;have kv:lk≠v:=fun z=>by rw[z,v2] at hlk; cases hlk
  have M3:=M2'.same s3;have v3:=s3 _ _ v2;have sF:SameBut v H (upd H3 v (.ins CW dv (gE "known_marks" (.ref lk) [("machines",.ref lm)]))):=fun b o n e=>by rw[aI n]; exact s3 _ _ (s2 b o n e)
  have vF:(upd H3 v (.ins CW dv (gE "known_marks" (.ref lk) [("machines",.ref lm)]))) v=some (.ins CW dv (aAh lm lk)):=aD;have kF:(upd H3 v (.ins CW dv (gE "known_marks" (.ref lk) [("machines",.ref lm)]))) lk=some (.dK (mks kn [])):=by rw[aI kv]; exact g3
  have MF:lC CM (upd H3 v (.ins CW dv (gE "known_marks" (.ref lk) [("machines",.ref lm)]))) x lm ms:=by
   have k:∀ {b:Addr}{o:HO},H3 b=some o->o≠.ins CW dv [("machines",.ref lm)]->(upd H3 v (.ins CW dv (gE "known_marks" (.ref lk) [("machines",.ref lm)]))) b=some o:=fun {b o} e n=>by
    rw[aI (fun z=>n (by rw[z,v3] at e; exact (Option.some.inj e).symm))];exact e
   obtain⟨Ys,k0,k1,k2⟩:=M3.ex;refine⟨Ys,k k0 (fun z=>nomatch z),k1,fun i X m a b=>?_⟩;obtain⟨dx,l,e,kk,kvs,g,M0⟩:=k2 i X m a b;exact⟨dx,l,e,kk,kvs,g,⟨k M0.ins (fun z=>by cases z),⟨k M0.lead.dk (fun z=>nomatch z),M0.lead.keys,M0.lead.val,fun z hz=>k (M0.lead.dd z hz) (fun z=>nomatch z),M0.lead.inj,M0.lead.ne⟩,k M0.ends (fun z=>nomatch z),k M0.know (fun z=>nomatch z)⟩⟩
  refine q _ sF ⟨dv,lm,lk,kn,vF,MF,kF,hkn⟩ fun d xs hd=>?_;have dv':d≠v:=fun z=>by rw[z,hv] at hd; cases hd
  have hdF:=sF d _ dv' hd;have ld:lm≠d:=fun z=>by rw[z,hd] at hlm; cases hlm
  generalize upd H3 v (.ins CW dv (gE "known_marks" (.ref lk) [("machines",.ref lm)]))=HF at sF vF kF MF hdF;have nk:NLs HF (upd HF d (.lst [])):=aAy hdF;obtain⟨Ys,k0,k1,k2⟩:=MF.ex;exact⟨dv,lm,lk,kn,nk _ _ vF (fun _ z=>nomatch z),⟨Ys,by rw[aI ld]; exact k0,k1,fun i X m a b=>aKb (k2 i X m a b) nk⟩,nk _ _ kF (fun _ z=>nomatch z),hkn⟩
theorem aPj:aR ["self"] ["self"] (aB oP):=⟨rfl,rfl,rfl,by decide +kernel,rfl,by decide +kernel,by decide +kernel⟩
theorem aCl {f fD CM CW:Addr}{fd fdD:FuncData}(F:Fun K "deeds" "Woven.deeds" oP f fd) (WC:sJ K CW) (MC:sX K CM)
  (GD:bE P w K mg base CX0 1 fD fdD ["self"] (wE CM)) (bD:aX K fdD ["self"] []) (mD:eZ K CM "deeds" fD):bE P w K mg base CX0 2 f fd ["self"] (wB CM CW):=by
 refine F.ok aPj (fun vs H Q E h=>?_) (fun cdv A outer s H vs Q E hr h=>?_)
 ·obtain⟨v,x,ms,rfl,_⟩:=h;rfl
 ·obtain⟨v,x,ms,rfl,⟨dv,lm,lk,kn,hi,M,hk,hkn⟩,hl,q⟩:=h;refine⟨_,aL (bO (eK (dJ cS (gZ (pv 0) rfl) aN (fun _ _=>rfl)) MC.cl mD GD hr bD .nil cC)),?_⟩;obtain⟨Xs,h0,h1,h2⟩:=M.ex;have hX:=List.getElem?_eq_getElem (l:=Xs) (i:=0) (by omega);have hm:=List.getElem?_eq_getElem (l:=ms) (i:=0) (by omega);generalize Xs[0]'(by omega)=X at hX;generalize ms[0]'(by omega)=m at hm;obtain⟨dx,l,e,k,kvs,g,M0⟩:=h2 0 X m hX hm;exact⟨_,rfl,v,CW,dv,_,_,rfl,hi,WC.cl,WC.nm,by rfl,lm,_,_,.ref X,rfl,rfl,SqL.of h0,gR (j:=0) (by rw[List.getElem?_map,hX]; rfl),X,dx,_,rfl,M0.ins,lS _ _ _ _ _ _ (by decide),X,x,m.b,m.es,m.kn,m.ds,rfl,⟨dx,l,e,k,kvs,g,M0⟩,q⟩
theorem aPk:aR ["self"] ["self"] (aB oQ):=⟨rfl,rfl,rfl,by decide +kernel,rfl,by decide +kernel,by decide +kernel⟩
theorem aCm {f fB CM CW:Addr}{fd fdB:FuncData}(F:Fun K "begin" "Woven.begin" oQ f fd) (WC:sJ K CW)
  (GB:bE P w K mg base CX0 2 fB fdB ["machines"] (tQ CM)) (kB:PySem.W.keepIn K (.ref fB)=true) (bB:aX K fdB ["machines"] []) (mB:mg "begin_of" = some (.ref fB)):bE P w K mg base CX0 3 f fd ["self"] (qX CM CW):=by
 refine F.ok aPk (fun vs H Q E h=>?_) (fun cdv A outer s H vs Q E hr h=>?_)
 ·obtain⟨v,x,ms,rfl,_⟩:=h;rfl
 ·obtain⟨v,x,ms,rfl,⟨dv,lm,lk,kn,hi,M,hk,hkn⟩,hl,q⟩:=h;exact⟨_,aL (bO (bU GB hr (by rfl) mB kB bB .nil cC (pac (gZ (pv 0) rfl) aJ))),_,rfl,v,CW,dv,_,_,rfl,hi,WC.cl,WC.nm,by rfl,x,lm,ms,rfl,M,hl,q⟩
theorem aPh:aR ["self"] ["self"] (aB oO):=⟨rfl,rfl,rfl,by decide +kernel,rfl,by decide +kernel,by decide +kernel⟩
theorem aCk {f CM CW:Addr}{fd:FuncData}(F:Fun K "knows" "Woven.knows" oO f fd) (T:Txt K mg) (WC:sJ K CW):bE P w K mg base CX0 1 f fd ["self"] (wA CM CW):=by
 refine F.ok aPh (fun vs H Q E h=>?_) (fun cdv A outer s H vs Q E hr h=>?_)
 ·obtain⟨v,x,ms,N,rfl,_⟩:=h;rfl
 ·obtain⟨v,x,ms,N,rfl,⟨dv,lm,lk,kn,hi,M,hk,hkn⟩,hN,h64,q⟩:=h;refine⟨_,aL (bO (cH (oE rfl) (by rfl) T.sorted Bo.sorted (pac (gZ (pv 0) rfl) aJ))),?_⟩;exact⟨_,rfl,v,CW,dv,_,_,rfl,hi,WC.cl,WC.nk,by rfl,lk,_,_,rfl,hk,uD rfl,Nat.lt_of_le_of_lt (iY fun z hz=>hN z ((hkn z).mp hz)) h64,fun l ts hl' pm so=>q l ts _ (smu hl') hl' aD ⟨so,pm.nodup_iff.mpr (oS _ _ .nil),fun z=>by rw[pm.mem_iff,uV,hkn]⟩⟩
end
end K22
namespace K22
open PySem L2 Ky
seal L2.PE L2.PS L2.PSs L2.PA L2.PT L2.PW L2.PG L2.PI L2.PTs L2.PO L2.PPs L2.OpR L2.IxR L2.CallR L2.MtM L2.MtR
unseal L2.MtM L2.MtR
theorem lV {l:List Str}{p:Str->Bool}(h:PyProof.Rows.sortedS l=true):PyProof.Rows.sortedS (l.filter p)=true:=PyProof.Rows.sortedS_of_pairwise _ ((oT h).filter p)
theorem Srt.filter {l:List Str}{q:Str->Prop}(h:Srt l q) (p:Str->Bool):Srt (l.filter p) (fun z=>q z∧p z=true):=
 ⟨lV h.so,h.nd.filter p,fun z=>by rw[List.mem_filter,h.mem]⟩
inductive aAm (K:PySem.W.Frag) (C CM CW cD:Addr) (vs:List V) (H:Hp) (Q:VK) (E:XK):Prop
 | mk (v x t:Addr) (y:V) (ms:List MW) (room:List Str) (wk:List (Key×V)) (h0_:vs=[.ref v,.ref t,y]) (h1_:Wv CM CW H v x ms) (h2_:SqT K H t (room.map V.str)) (h3_:ROk ms room) (h4_:1<=ms.length∧ms.length<=100) (h5_:WAt C H x wk) (h6_:aBp y)
  (h7_:eA wk y=true->∀ u,y=.str u->yD H Q (wto ms room u)) (h8_:eA wk y=false->∀ H',aO H H'->E (.ref cD) none H')
inductive aJx (K:PySem.W.Frag) (C CM CW:Addr) (vs:List V) (H:Hp) (Q:VK) (E:XK):Prop
 | mk (v x t:Addr) (ms:List MW) (room N:List Str) (wk:List (Key×V)) (h0_:vs=[.ref v,.ref t]) (h1_:Wv CM CW H v x ms) (h2_:SqT K H t (room.map V.str)) (h3_:ROk ms room) (h4_:1<=ms.length∧ms.length<=100) (h5_:WAt C H x wk) (h6_:∀ z∈wkn ms,z∈N) (h7_:N.length<64) (h8_:∀ z∈N,eA wk (.str z)=true)
  (h9_:∀ (l:Addr) (ts:List Str) H',aO H H'->H l=none->H' l=some (.lst (ts.map V.str))->Srt ts (fun z=>z∈wkn ms∧(wto ms room z).isSome=true)->Q (.ref l) H')
theorem yD.mono {H H1:Hp}{Q:VK}{o:Option (List Str)}(h:yD H Q o) (s:aO H H1):yD H1 Q o:=by
 cases o with
 | none=>exact fun H' s'=>h H' (s.trans s')
 | some ss=>exact fun l H' s' n e=>h l H' (s.trans s') (s.free n) e
theorem gX {C:Addr}{H H':Hp}{p:Addr}{kvs:List (Key×V)}(W:WAt C H p kvs) (sm:aO H H'):WAt C H' p kvs:=by
 obtain⟨dx,fs,dw,o,h0,h1,h2,h3⟩:=W;exact⟨dx,fs,dw,o,sm _ _ h0,h1,h2,sm _ _ h3⟩
theorem pN {wk:List (Key×V)}{z:Str}(h:eA wk (.str z)=true):z.length<=1000:=Nat.le_trans (nW (Bool.and_eq_true_iff.mp h).1) (by decide)
section
variable {P:Program}{w:World}{K:PySem.W.Frag}{mg:Str->Option Value}{base:Heap}
theorem aPf:aR ["self","room","deed"] ["self","room","deed"] (aB wTo):=⟨rfl,rfl,rfl,by decide +kernel,rfl,by decide +kernel,by decide +kernel⟩
theorem aLm {f fD fQ fF C CM CW:Addr}{fd fdD fdQ fdF:FuncData}{cl:Why->Addr}(F:Fun K "to" "Woven.to" wTo f fd) (DC:aDt K C) (WC:sJ K CW)
  (GD:bE P w K mg base CX0 2 fD fdD ["self"] (wB CM CW)) (bD:aX K fdD ["self"] []) (mD:eZ K CW "deeds" fD)
  (GQ:bE P w K mg base (CXE P w) 3 fQ fdQ ["self","row"] (lH K C cl)) (bQ:aX K fdQ ["self","row"] []) (mQ:eZ K C "require" fQ)
  (GF:bE P w K mg base CX0 2 fF fdF ["machines","room","deed"] (aAt K CM)) (kF:PySem.W.keepIn K (.ref fF)=true) (bF:aX K fdF ["machines","room","deed"] []) (mF:mg "far_of" = some (.ref fF)) :
  bE P w K mg base (CXE P w) 4 f fd ["self","room","deed"] (aAm K C CM CW (cl .noDeed)):=by
 refine okE F aPf (fun vs H Q E h=>?_) (fun cdv A outer s H vs Q E hr h D=>?_)
 ·obtain⟨v,x,t,y,ms,room,wk,rfl,_⟩:=h;rfl
 ·obtain⟨v,x,t,y,ms,room,wk,rfl,W,hT,R,hl,hW,hy,q1,q2⟩:=h;have hu:=jS hr;have hr2:cL 2 _:=hr.mono (by decide)
  refine⟨_,aK (dB (hG (eK (pv 0) WC.cl mD GD hr2 bD .nil cC) DC.cl mQ GQ hr bQ .nil (D.passes fun _ _ _ z=>z) (pac (cM (pac (pv 2) aJ)) aJ)))
   (aK (dH (rG (tY hu (pv 2) (gZ (pv 0) rfl))) (aL (bO iW)) cF)
   (aL (bO (bU GF hr2 (by rfl) mF kF bF .nil cC (pac (gZ (pv 0) rfl) (pac (pv 1) (pac (pv 2) aJ))))))),?_⟩
  obtain⟨dv,lm,lk,kn,hi,M,hk,hkn⟩:=id W;obtain⟨wx,wf,ww,wo,hw0,hw1,hw2,hw3⟩:=id hW;refine⟨_,rfl,v,dv,_,rfl,hi,dI _ _ _ (by decide),v,x,ms,rfl,W,hl.1,x,wx,wf,rfl,hw0,hw1 "require" (by decide),_,rfl,by show 1<=sizeLine; decide,fun p hp=>?_⟩;have s3:=smu (o:=.lst [y]) hp;refine⟨x,p,_,wk,rfl,SqL.of aD,fun u hv=>?_,gX hW s3,fun H4 s4=>?_⟩
  ·rw[List.mem_singleton.mp hv];exact hy
  ·have e1:([y]:List V).all (eA wk)=eA wk y:=by rw[List.all_cons,List.all_nil,Bool.and_true]
   rw[e1]
   by_cases hg:eA wk y=true
   ·rw[if_pos hg]
    obtain⟨u,rfl⟩:∃ u,y=.str u:=by
     cases y with
     | str u=>exact⟨u,rfl⟩
     | _=>cases hg
    have s5:=s3.trans s4;have qq:=(q1 hg u rfl).mono s5;unfold wto at qq;refine⟨_,rfl,_,rfl,v,CW,dv,_,_,rfl,s5 _ _ hi,WC.cl,WC.nk,by rfl,lk,_,rfl,fU.k (k:=Sum.inr u) (s5 _ _ hk),_,rfl,?_⟩;rw[aDb rfl u]
    by_cases hm:u∈wkn ms
    ·rw[decide_eq_true ((hkn u).mpr hm)];rw[if_pos hm] at qq;exact hU ⟨_,rfl,v,CW,dv,_,_,rfl,s5 _ _ hi,WC.cl,WC.nm,by rfl,_,rfl,_,rfl,x,lm,t,ms,room,u,rfl,M.same s5,nJ hT s5,R,hl.2,qq⟩
    ·rw[decide_eq_false fun z=>hm ((hkn u).mp z)];rw[if_neg hm] at qq;exact jU (qq H4 (aO.refl H4))
   ·rw[if_neg hg];exact q2 (Bool.eq_false_iff.mpr hg) H4 (s3.trans s4)
theorem aPl:aR ["self","room"] ["self","room"] (aB wAt):=⟨rfl,rfl,rfl,by decide +kernel,rfl,by decide +kernel,by decide +kernel⟩
abbrev ndw:List Str:=["deed","self","room"]
theorem aLn {f fK fT C CM CW cD:Addr}{fd fdK fdT:FuncData}(F:Fun K "at" "Woven.at" wAt f fd) (WC:sJ K CW)
  (GK:bE P w K mg base CX0 1 fK fdK ["self"] (wA CM CW)) (bK:aX K fdK ["self"] []) (mK:eZ K CW "knows" fK)
  (GT:bE P w K mg base (CXE P w) 4 fT fdT ["self","room","deed"] (aAm K C CM CW cD)) (bT:aX K fdT ["self","room","deed"] []) (mT:eZ K CW "to" fT) :
  bE P w K mg base CX0 5 f fd ["self","room"] (aJx K C CM CW):=by
 refine F.ok aPl (fun vs H Q E h=>?_) (fun cdv A outer s H vs Q E hr h=>?_)
 ·obtain⟨v,x,t,ms,room,N,wk,rfl,_⟩:=h;rfl
 ·obtain⟨v,x,t,ms,room,N,wk,rfl,W,hT,R,hl,hW,hN,h64,hg,q⟩:=h;have hr1:cL 1 _:=hr.mono (by decide)
  refine⟨_,aL (bO (eL (N':=ndw) (nown:=1) (js:=[0,1]) rfl
     ⟨rfl,by decide +kernel,by decide +kernel⟩ (cJ (aB wAt) ["self","room"] rfl rfl (by decide +kernel))
     ⟨fun _ _ _ _=>aP (i:=0) (show List.Nodup ndw by decide +kernel) rfl (Or.inl rfl) (.inr rfl),
      fun _ _ _ _=>nL (bX vI (hG (pv 1) WC.cl mT GT hr bT .nil lW (pac (pv 2) (pac (pv 0) aJ))) iW (cN _)),
      fun _ _ _ _=>pv 0⟩
     (dC (eK (pv 0) WC.cl mK GK hr1 bK .nil cC)))),?_⟩
  obtain⟨dv,lm,lk,kn,hi,M,hk,hkn⟩:=id W;refine⟨_,rfl,v,dv,_,rfl,hi,dI _ _ _ (by decide),v,x,ms,N,rfl,W,hN,h64,fun l ts H2 s2 n2 g2 S2=>⟨l,rfl,⟨_,SqL.of g2⟩,fun D hD=>?_⟩⟩
  have lts:ts.length<64:=by
   have:ts.length<=N.length:=by
    have:=iY (rs:=ts) (N:=N) fun z hz=>hN z ((S2.mem z).mp hz)
    rw[← (pW (m:=unl ts []) S2.nd (fun z hz=>uV.mpr hz) (iY fun z hz=>hz)).length_eq] at this;exact this
   omega
  refine iJ (xs:=ts.map V.str) (fun i σ' H'=>∃ v0,σ'=[v0,some (.ref v),some (.ref t)]∧H' D=some (.lst (((ts.take i).filter fun z=>(wto ms room z).isSome).map V.str))∧aO H2 H') ?_ ?_ ?_ ?_
  ·exact⟨none,rfl,aD,smu hD⟩
  ·rintro i σ' H' _ ⟨v0,rfl,a1,a2⟩;exact SqL.of (a2 _ _ g2)
  ·rintro i u σ' H' hv ⟨v0,rfl,a1,a2⟩;rw[List.getElem?_map] at hv;cases hz:ts[i]? with
   | none=>rw[hz] at hv; cases hv
   | some z=>
    rw[hz] at hv;cases hv;have sA:=s2.trans a2;have hzk:=(S2.mem z).mp (List.mem_of_getElem? hz);have gz:=hg z (hN z hzk)
    have ef:(ts.take (i+1)).filter (fun z=>(wto ms room z).isSome)=(ts.take i).filter (fun z=>(wto ms room z).isSome)++(if (wto ms room z).isSome=true then [z] else []):=by
     rw[List.take_succ,hz,List.filter_append];congr 1;show List.filter _ [z]=_;rw[List.filter_cons,List.filter_nil]
    have lf:((ts.take i).filter fun z=>(wto ms room z).isSome).length<=63:=Nat.le_trans (List.length_filter_le ..) (by rw[List.length_take]; omega);refine⟨_,rfl,v,dv,_,rfl,sA _ _ hi,dI _ _ _ (by decide),_,rfl,_,rfl,v,x,t,.str z,ms,room,wk,rfl,W.same sA,nJ hT sA,R,hl,gX hW sA,.inl ⟨z,rfl,pN gz⟩,fun _ u' eu=>?_,fun bad=>absurd (gz.symm.trans bad) (by decide)⟩;cases eu;cases ho:wto ms room z with
    | none=>
     intro H3 s3;refine⟨rfl,_,rfl,hU ⟨_,rfl,?_,a2.trans s3⟩⟩;rw[ef,ho]
     simpa using s3 _ _ a1
    | some ss=>
     intro l3 H3 s3 n3 e3;refine⟨rfl,_,rfl,jU ⟨_,rfl,_,s3 _ _ a1,aU (by rw[List.length_map]; omega),_,rfl,?_,fun b o e=>?_⟩⟩
     ·rw[aD,ef,ho,List.map_append];rfl
     ·rw[aI (aF e hD)];exact s3 _ _ (a2 b o e)
  ·rintro σ' H' ⟨v0,rfl,a1,a2⟩;rw[List.length_map,List.take_length] at a1;exact q D _ H' (s2.trans a2) (s2.free hD) a1 (S2.filter _)
end
end K22
namespace K22
open PySem L2 Ky
seal L2.PE L2.PS L2.PSs L2.PA L2.PT L2.PW L2.PG L2.PI L2.PTs L2.PO L2.PPs L2.OpR L2.IxR L2.CallR L2.MtM L2.MtR
unseal L2.MtM L2.MtR
abbrev aHc (l:List (Int×Nat)):Prop:=∀ x∈l,1<=x.2∧x.2<=5
inductive aEm (K:PySem.W.Frag) (vs:List V) (H:Hp) (Q:VK) (E:XK):Prop
 | mk (p n:Addr) (c:Int) (l:List (Int×Nat)) (ss:List Str) (h0_:vs=[.ref p,.int c,.ref n]) (h1_:oI H p l ss) (h2_:SqL K H n (ss.map V.str)) (h3_:ss.length<=12) (h4_:1<=l.length∧l.length<=3) (h5_:aHc l)
  (h6_:∀ (D:Addr) (l':List (Int×Nat)) H',aO H H'->H D=none->oI H' D l' ss->1<=l'.length∧l'.length<=7->aHc l'->Q (.ref D) H')
structure PlG (D:Addr) (H:Hp) (l:List (Int×Nat)) (ss:List Str):Prop where
 ex:∃ ts:List Addr,H D=some (.lst (ts.map V.ref))∧ts.length=l.length∧∀ (j:Nat) (t:Addr) (x:Int×Nat),ts[j]?=some t->l[j]?=some x->pS D H t x.1 x.2 ss
theorem PlG.same {D:Addr}{H H':Hp}{l:List (Int×Nat)}{ss:List Str}(G:PlG D H l ss) (s:aO H H'):PlG D H' l ss:=by
 obtain⟨ts,h0,h1,h2⟩:=G.ex;exact⟨ts,s _ _ h0,h1,fun j t x a b=>(h2 j t x a b).same s⟩
theorem PlG.plant {D:Addr}{H:Hp}{l:List (Int×Nat)}{ss:List Str}(G:PlG D H l ss):oI H D l ss:=by
 obtain⟨ts,h0,h1,h2⟩:=G.ex;exact⟨ts,h0,h1,fun j t x a b=>(h2 j t x a b).row⟩
theorem PlG.push {D t:Addr}{H:Hp}{l:List (Int×Nat)}{ss:List Str}{c:Int}{n:Nat}(G:PlG D H l ss) (R:pS D H t c n ss):∃ xs,H D=some (.lst xs)∧xs.length=l.length∧PlG D (upd H D (.lst (xs++[.ref t]))) (l++[(c,n)]) ss:=by
 obtain⟨ts,h0,h1,h2⟩:=G.ex;refine⟨_,h0,by rw[List.length_map,h1],⟨ts++[t],by rw[aD,List.map_append]; rfl,by rw[List.length_append,List.length_append,h1]; rfl,fun j u y hu hy=>?_⟩⟩
 by_cases hj:j<ts.length
 ·rw[List.getElem?_append_left hj] at hu;rw[List.getElem?_append_left (by omega)] at hy;exact (h2 j u y hu hy).put ⟨_,h0⟩
 ·have hl:j=ts.length:=by
   have:=(List.getElem?_eq_some_iff.mp hu).1
   rw[List.length_append] at this;simp only[List.length_cons,List.length_nil] at this;omega
  subst hl;rw[List.getElem?_append_right (Nat.le_refl _),Nat.sub_self] at hu;rw[h1,List.getElem?_append_right (Nat.le_refl _),Nat.sub_self] at hy;cases hu;cases hy;exact R.put ⟨_,h0⟩
inductive aOh (H:Hp) (p n:Addr) (c:Int) (ss:List Str) (σ:St) (H':Hp):Prop
 | mk (D:Addr) (x4:Option V) (l':List (Int×Nat)) (h0_:σ=[some (.ref p),some (.int c),some (.ref n),some (.ref D),x4]) (h1_:PlG D H' l' ss) (h2_:1<=l'.length∧l'.length<=7) (h3_:aHc l') (h4_:H D=none) (h5_:aO H H')
section
variable {P:Program}{w:World}{K:PySem.W.Frag}{mg:Str->Option Value}{base:Heap}
abbrev NMo:List Str:=["_law_plant","_law_cell","_law_names","_law_found","_law_k"]
theorem aKy:aR NMo ["_law_plant","_law_cell","_law_names"] (aB tU):=⟨rfl,rfl,rfl,by decide +kernel,rfl,by decide +kernel,by decide +kernel⟩
theorem aIm {f fB fM:Addr}{fd fdB fdM:FuncData}(F:Fun K "_law_more" "_law_more" tU f fd) (T:Txt K mg)
  (GM:bE P w K mg base CX0 1 fM fdM ["_law_cell","_law_k"] nK) (kM:PySem.W.keepIn K (.ref fM)=true) (bM:aX K fdM ["_law_cell","_law_k"] []) (mM:mg "_law_mixed" = some (.ref fM))
  (GB:bE P w K mg base CX0 2 fB fdB ["_law_cell","_law_names","_law_many"] (kA K)) (kB:PySem.W.keepIn K (.ref fB)=true) (bB:aX K fdB ["_law_cell","_law_names","_law_many"] []) (mB:mg "_law_machine_by" = some (.ref fB)) :
  bE P w K mg base CX0 3 f fd ["_law_plant","_law_cell","_law_names"] (aEm K):=by
 refine F.ok aKy (fun vs H Q E h=>?_) (fun cdv A outer s H vs Q E hr h=>?_)
 ·obtain⟨p,n,c,l,ss,rfl,_⟩:=h;rfl
 ·obtain⟨p,n,c,l,ss,rfl,hP,hN,h12,hl,hf,q⟩:=h;have hr1:cL 1 _:=hr.mono (by decide)
  refine⟨_,aK (aW (i:=3) aKy.nd rfl (Or.inl rfl) (eN oF (by rfl) T.list Bo.list (pac (pv 0) aJ)))
   (dL (aOh H p n c ss) (dH (bX nQ (aS cY (pv 1) aN) aN (cN _))
    (aL (eJ PassesOwn.never rfl (gM rfl T.range (pac (aS aLj (aS dM aN (aS cY (aS eG (pv 1) aN) aN)) (cH cK (by rfl) T.len Bo.len (pac (pv 0) aJ))) aJ)) (aP (i:=4) aKy.nd rfl (Or.inl rfl))
     (aL (dB (kX PySem.F.plainAttrs_list PySem.F.slot_list_append PySem.F.type_list_append eO (pv 3) (pac (bU GB hr rfl mB kB bB .nil cC (pac (bU GM hr1 rfl mM kM bM .nil cC (pac (pv 1) (pac (aS dM aN (pv 4)) aJ))) (pac (pv 2) (pac (aS dM aN (aS cY (aS cY (aS eG (pv 1) aN) (aS dM aN (pv 4))) aN)) aJ)))) aJ)))))) cF)
   (aL (bO (pv 3)))),?_⟩
  obtain⟨ts,h0,h1,h2⟩:=hP.ex;refine⟨_,rfl,p,_,rfl,.inl (SqL.of h0),fun D hD=>?_⟩;have s1:aO H (upd H D (.lst (ts.map V.ref))):=smu hD
  have G1:PlG D (upd H D (.lst (ts.map V.ref))) l ss:=by
   refine⟨ts,aD,h1,fun j t x a b=>?_⟩;obtain⟨e,d,m,r0,r1,r2,r3⟩:=h2 j t x a b;obtain⟨us,rd,_⟩:=id r2.ex;exact⟨e,d,m,s1 _ _ r0,s1 _ _ r1,r2.same s1,s1 _ _ r3,aF r1 hD,aF rd hD,aF r3 hD⟩
  have h0':=s1 _ _ h0;generalize upd H D (.lst (ts.map V.ref))=H1 at s1 G1 h0' ⊢;refine⟨⟨_,rfl,_,_,rfl,rfl,(by show (0:Int)<5; decide),rfl,_,rfl,eQ (fun _=>?_) (fun _=>⟨D,none,l,rfl,G1,⟨hl.1,by omega⟩,hf,hD,s1⟩)⟩,?_⟩
  ·have g4:=cG (c/5) (m:=4) (by decide);refine⟨_,rfl,_,_,rfl,rfl,⟨by decide,by decide⟩,_,_,rfl,rfl,(by show (0:Int)<4; decide),_,_,rfl,rfl,_,rfl,p,_,rfl,.inl (SqL.of h0'),_,_,rfl,rfl,_,rfl,by rw[List.length_map]; omega,by rw[List.length_map]; omega,?_⟩;refine uI (n:=(4+c/5%4-((ts.map V.ref).length:Int)).toNat) (fun i σ H'=>∃ (x4:Option V) (l':List (Int×Nat)),σ=[some (.ref p),some (.int c),some (.ref n),some (.ref D),x4]∧PlG D H' l' ss∧l'.length=l.length+i∧aHc l'∧aO H H') ?_ ?_ ?_
   ·exact⟨none,l,rfl,G1,rfl,hf,s1⟩
   ·rintro i σ H' hi ⟨x4,l',rfl,G,b1,b2,a2⟩;rw[List.length_map] at hi;obtain⟨xs,d0,d1,_⟩:∃ xs,H' D=some (.lst xs)∧xs.length=l'.length∧True:=let ⟨us,e0,e1,_⟩:=G.ex; ⟨_,e0,by rw[List.length_map,e1],trivial⟩
    obtain⟨nk,ek,hk1,hk2⟩:∃ nk:Nat,1+c/20%(1+(0+(i:Int)))%2=(nk:Int)∧1<=nk∧nk<=5:=by
     have g:=cG (c/20%(1+(0+(i:Int)))) (m:=2) (by decide);exact⟨(1+c/20%(1+(0+(i:Int)))%2).toNat,by omega,by omega,by omega⟩
    refine⟨_,rfl,.inl ⟨rfl,_,SqL.of d0⟩,_,rfl,_,rfl,_,_,rfl,rfl,c,_,rfl,_,rfl,_,rfl,_,_,rfl,rfl,⟨by decide,by decide⟩,_,rfl,_,_,rfl,rfl,_,_,rfl,rfl,(by omega),_,_,rfl,rfl,(by show (0:Int)<2; decide),_,_,rfl,rfl,RW.mixed c (700+(0+(i:Int))),n,nk,ss,by rw[ek]; rfl,a2.seq hN,hk1,hk2,h12,fun t e d m H3 s3 he hd hm ht he3 hd3 hm3=>?_⟩;have nD:∀ {p:Addr},H' p=none->p≠D:=fun h z=>by rw[z,d0] at h; cases h
    obtain⟨ys,y0,y1,y2⟩:=(G.same s3).push (pS.mk e d m ht he3 hd3 hm3 (nD he) (nD hd) (nD hm));refine⟨D,ys,_,rfl,rfl,y0,aU (by omega),_,_,rfl,y2,by rw[List.length_append,b1]; rfl,fun x hx=>?_,fun b o u=>?_⟩
    ·rcases List.mem_append.mp hx with h | h
     ·exact b2 x h
     ·rw[List.mem_singleton.mp h]; exact⟨hk1,hk2⟩
    ·rw[aI (aF u hD)];exact s3 _ _ (a2 b o u)
   ·rintro σ H' ⟨x4,l',rfl,G,b1,b2,a2⟩;rw[List.length_map] at b1;exact⟨D,x4,l',rfl,G,by omega,b2,hD,a2⟩
  ·rintro σ H' ⟨D',x4,l',rfl,G,hl',hf',hD',s'⟩;exact⟨_,rfl,q D' l' H' s' hD' G.plant hl' hf'⟩
end
end K22
namespace K22
open PySem L2 Ky
seal L2.PE L2.PS L2.PSs L2.PA L2.PT L2.PW L2.PG L2.PI L2.PTs L2.PO L2.PPs L2.OpR L2.IxR L2.CallR L2.MtM L2.MtR
unseal L2.MtM L2.MtR
def DT (kvs:List (List Key×V)) (ds:List Dr):Prop:=∀ z y:Str,dF kvs [Sum.inr z,Sum.inr y]=(iI ds z y).map V.str
theorem aMq:DT [] []:=fun _ _=>rfl
theorem xW {ds:List Dr}{x:Dr}(h:∀ y∈ds,y.1=x.1->y.2.1≠x.2.1) (z y:Str):iI (ds++[x]) z y=if z=x.1∧y=x.2.1 then some x.2.2 else iI ds z y:=by
 unfold iI;rw[List.find?_append]
 by_cases q:z=x.1∧y=x.2.1
 ·rw[if_pos q]
  have n:ds.find? (fun u=>decide (u.1=z)&&decide (u.2.1=y))=none:=List.find?_eq_none.mpr fun u hu e=>by
   have e':=Bool.and_eq_true_iff.mp e;exact h u hu ((of_decide_eq_true e'.1).trans q.1) ((of_decide_eq_true e'.2).trans q.2)
  rw[n];simp[q.1,q.2]
 ·rw[if_neg q]
  have n:[x].find? (fun u=>decide (u.1=z)&&decide (u.2.1=y))=none:=List.find?_eq_none.mpr fun u hu e=>by
   rw[List.mem_singleton.mp hu] at e;have e':=Bool.and_eq_true_iff.mp e;exact q ⟨(of_decide_eq_true e'.1).symm,(of_decide_eq_true e'.2).symm⟩
  rw[n,Option.or_none]
theorem aMp {kvs:List (List Key×V)}{ds:List Dr}{x:Dr}(h:DT kvs ds) (ha:∀ y∈ds,y.1=x.1->y.2.1≠x.2.1):DT (eB kvs [Sum.inr x.1,Sum.inr x.2.1] (.str x.2.2)) (ds++[x]):=fun z y=>by
 rw[jZ,xW ha]
 by_cases q:z=x.1∧y=x.2.1
 ·rw[if_pos (by rw[q.1,q.2]),if_pos q];rfl
 ·rw[if_neg (fun e=>q (by
   have e':=List.cons.inj e;exact⟨Sum.inr.inj e'.1,Sum.inr.inj (List.cons.inj e'.2).1⟩)),if_neg q]
  exact h z y
theorem aMi (xs:List Str) (n:Nat):jV (xs.map V.str) none (some (n:Int))=(xs.take n).map V.str:=by
 unfold jV;rw[HT.sIx_none,HT.sIx_nat,Nat.sub_zero,List.drop_zero,List.map_take]
 by_cases h:n<=(xs.map V.str).length
 ·rw[Nat.min_eq_left h]
 ·rw[Nat.min_eq_right (by omega),List.take_of_length_le (Nat.le_refl _),List.take_of_length_le (by omega)]
theorem aBi {S ss:List Str}(pm:S.Perm ss) (hn:∀ z∈ss,aZ z=true):∀ z∈ss,eA (wts S 1 []) (.str z)=true:=fun z hz=>by
 rw[eA,qU,hn z hz];simp[pm.mem_iff.mpr hz]
abbrev aGx (l:List (Int×Nat)) (ss:List Str):Prop:=∀ x∈l,aBq x.1 x.2 ss∧x.2<=5
theorem aIv (rs:List Str):(mks rs []).length=(unl rs []).length:=by
 have:=congrArg List.length (vL rs [] [] rfl)
 simpa using this
theorem aBq.ul {c:Int}{n:Nat}{ss:List Str}(R:aBq c n ss) (h5:n<=5):(unl (cV (eX c 0) (gO c n) (dA c ss n)) []).length<=5:=by
 have:=iY R.rb
 rw[dO] at this;omega

structure MR where
 b:Str
 es:List Str
 ds:List Dr
 mo:List Str
def MR.mw (r:MR):MW:=⟨r.b,r.es,eP r.ds r.mo,r.ds⟩
def wK (ss:List Str) (x:Int×Nat):MR:=⟨eX x.1 0,gO x.1 x.2,dA x.1 ss x.2,jN x.1 ss⟩
structure aMk (r:MR) (ss:List Str):Prop where
 le:r.es.length<=200∧r.ds.length<=200∧r.mo.length<=200
 nm:(cV r.b r.es r.ds).all aZ=true
 ap:Apart r.ds
 kn:∀ z∈eP r.ds r.mo,z∈ss
 ul:(unl (cV r.b r.es r.ds) []).length<=60
abbrev aAf (l:List MR) (ss:List Str):Prop:=∀ r∈l,aMk r ss
theorem aNh {l:List (Int×Nat)}{ss:List Str}(h:aGx l ss):aAf (l.map (wK ss)) ss:=fun r hr=>by
 obtain⟨x,hx,rfl⟩:=List.mem_map.mp hr;obtain⟨R,h5⟩:=h x hx;exact⟨R.le,R.nm,R.ap,R.kn,Nat.le_trans (R.ul h5) (by decide)⟩
inductive aDs (H:Hp) (t:Addr) (r:MR):Prop
 | mk (e d m:Addr) (h0_:H t=some (.tup [.str r.b,.ref e,.ref d,.ref m])) (h1_:H e=some (.lst (r.es.map V.str))) (h2_:cQ H d r.ds) (h3_:H m=some (.lst (r.mo.map V.str)))
theorem aDs.same {H H':Hp}{t:Addr}{r:MR}(R:aDs H t r) (s:aO H H'):aDs H' t r:=by
 obtain⟨e,d,m,h0,h1,h2,h3⟩:=R;exact⟨e,d,m,s _ _ h0,s _ _ h1,h2.same s,s _ _ h3⟩
structure PlA (H:Hp) (p:Addr) (l:List MR):Prop where
 ex:∃ ts:List Addr,H p=some (.lst (ts.map V.ref))∧ts.length=l.length∧∀ (i:Nat) (t:Addr) (r:MR),ts[i]?=some t->l[i]?=some r->aDs H t r
theorem PlA.same {H H':Hp}{p:Addr}{l:List MR}(M:PlA H p l) (s:aO H H'):PlA H' p l:=by
 obtain⟨qs,h0,h1,h2⟩:=M.ex;exact⟨qs,s _ _ h0,h1,fun i q m a b=>(h2 i q m a b).same s⟩
theorem aLe {H:Hp}{p:Addr}{l:List (Int×Nat)}{ss:List Str}(h:oI H p l ss):PlA H p (l.map (wK ss)):=by
 obtain⟨ts,h0,h1,h2⟩:=h.ex;refine⟨ts,h0,by rw[List.length_map,h1],fun i t r a b=>?_⟩;rw[List.getElem?_map] at b;cases hx:l[i]? with
 | none=>rw[hx] at b; cases b
 | some x=>
  rw[hx] at b;cases b;obtain⟨e,d,m,r0,r1,r2,r3⟩:=h2 i t x a hx;exact⟨e,d,m,r0,r1,r2,r3⟩
theorem PlA.rev {H:Hp}{p q:Addr}{l:List MR}(h:PlA H p l){xs:List V}(e:H p=some (.lst xs)) (eq:H q=some (.lst xs.reverse)):PlA H q l.reverse:=by
 obtain⟨ts,h0,h1,h2⟩:=h.ex;rw[h0] at e;cases e;refine⟨ts.reverse,by rw[eq,List.map_reverse],by rw[List.length_reverse,List.length_reverse,h1],fun i t r a b=>?_⟩;have hi:i<ts.length:=by have:=(List.getElem?_eq_some_iff.mp a).1; rw[List.length_reverse] at this; exact this
 rw[List.getElem?_reverse hi] at a;rw[List.getElem?_reverse (by omega),← h1] at b;exact h2 _ t r a b
theorem aQn {wk:List (Key×V)}{ss l:List Str}(hg:∀ z∈ss,eA wk (.str z)=true) (h:∀ z∈l,z∈ss):(l.map V.str).all (eA wk)=true:=List.all_eq_true.mpr fun y hy=>by
 obtain⟨z,hz,rfl⟩:=List.mem_map.mp hy;exact hg z (h z hz)
inductive mJ (C CM:Addr) (vs:List V) (H:Hp) (Q:VK) (E:XK):Prop
 | mk (x p:Addr) (l:List MR) (ss:List Str) (wk:List (Key×V)) (h0_:vs=[.ref x,.ref p]) (h1_:WAt C H x wk) (h2_:PlA H p l) (h3_:l.length<=10) (h4_:aAf l ss) (h5_:∀ z∈ss,eA wk (.str z)=true)
  (h6_:∀ (D:Addr) H',aO H H'->H D=none->lC CM H' x D (l.map MR.mw)->Q (.ref D) H')
section
variable {P:Program}{w:World}{K:PySem.W.Frag}{mg:Str->Option Value}{base:Heap}
theorem aPm:aR ["_law_deeds","_law_plant"] ["_law_deeds","_law_plant"] (aB gK):=⟨rfl,rfl,rfl,by decide +kernel,rfl,by decide +kernel,by decide +kernel⟩
abbrev ndp:List Str:=["_law_begin","_law_ends","_law_doors","_law_more_here","_law_deeds"]
theorem xC {f fMI C CM:Addr}{fd fdMI:FuncData}(F:Fun K "_law_machines" "_law_machines" gK f fd)
  (GMI:bE P w K mg base (CXE P w) 4 fMI fdMI ["self","deeds","begin","ends","doors","more"] (aAp K C CM)) (MMk:Mk K CM fMI) (bMI:aX K fdMI ["self","deeds","begin","ends","doors","more"] []) (mMa:mg "Machine" = some (.ref CM)) :
  bE P w K mg base CX0 6 f fd ["_law_deeds","_law_plant"] (mJ C CM):=by
 refine F.ok aPm (fun vs H Q E h=>?_) (fun cdv A outer s H vs Q E hr h=>?_)
 ·obtain⟨x,p,l,ss,wk,rfl,_⟩:=h;rfl
 ·obtain⟨x,p,l,ss,wk,rfl,hW,hP,hl,hR,hg,q⟩:=h
  refine⟨_,aL (bO (eL (N':=ndp) (nown:=4) (js:=[0]) rfl
     ⟨rfl,by decide +kernel,by decide +kernel⟩ (cJ (aB gK) ["_law_deeds","_law_plant"] rfl rfl (by decide +kernel))
     ⟨fun _ _ _ _=>show PG _ _ (xQ K 4 (gG (eV 0) (gG (eV 1) (gG (eV 2) (gG (eV 3) xR))))) from fE rfl (aY (aP (i:=0) (show List.Nodup ndp by decide +kernel) rfl (Or.inl rfl) (.inr rfl)) (aY (aP (i:=1) (show List.Nodup ndp by decide +kernel) rfl (Or.inl rfl) (.inr rfl)) (aY (aP (i:=2) (show List.Nodup ndp by decide +kernel) rfl (Or.inl rfl) (.inr rfl)) (aY (aP (i:=3) (show List.Nodup ndp by decide +kernel) rfl (Or.inl rfl) (.inr rfl)) dR)))),
      fun _ _ _ _=>eE,fun _ _ _ _=>iR MMk GMI hr rfl mMa bMI .nil lW (pac (pv 4) (pac (pv 0) (pac (pv 1) (pac (pv 2) (pac (pv 3) aJ)))))⟩
     (dC (pv 1)))),?_⟩
  obtain⟨ts,h0,h1,h2⟩:=hP.ex;refine⟨_,rfl,p,rfl,⟨_,SqL.of h0⟩,fun D hD=>iJ (xs:=ts.map V.ref) (fun i σ' H'=>∃ v0 v1 v2 v3,σ'=[v0,v1,v2,v3,some (.ref x)]∧lC CM H' x D ((l.take i).map MR.mw)∧aO H H') ?_ ?_ ?_ ?_⟩
  ·exact⟨none,none,none,none,rfl,⟨[],aD,rfl,fun i X m z=>nomatch z⟩,smu hD⟩
  ·rintro i σ' H' _ ⟨v0,v1,v2,v3,rfl,a1,a2⟩;exact SqL.of (a2 _ _ h0)
  ·rintro i v σ' H' hv ⟨v0,v1,v2,v3,rfl,a1,a2⟩;rw[List.getElem?_map] at hv;cases ht:ts[i]? with
   | none=>rw[ht] at hv; cases hv
   | some t=>
    rw[ht] at hv;cases hv;have hi:i<l.length:=by rw[← h1]; exact (List.getElem?_eq_some_iff.mp ht).1
    have hx:=List.getElem?_eq_getElem hi;have hxm:l[i]∈l:=List.getElem_mem hi;generalize l[i]=cn at hx hxm;have RO:=hR cn hxm;obtain⟨e,d,m,r0,r1,r2,r3⟩:=(h2 i t cn ht hx).same a2;refine⟨t,_,rfl,SqT.of r0,rfl,_,_,rfl,_,_,rfl,_,_,rfl,_,_,rfl,rfl,_,rfl,_,rfl,_,rfl,_,rfl,_,rfl,fun X dX hX hdX _=>?_⟩;have k1:aO H' (upd (upd H' dX (.own X)) X (.ins CM dX [])):=fun b o' e'=>by rw[aI (aF e' hX),aI (aF e' hdX)]; exact e'
    refine⟨X,x,e,d,dX,cn.b,.ref m,cn.es,cn.mo,cn.ds,wk,rfl,aD,gX hW (a2.trans k1),k1 _ _ r1,r2.same k1,.inr ⟨m,rfl,k1 _ _ r3⟩,RO.le,RO.nm,aQn hg RO.kn,fun z hz=>pN (hg z (RO.kn z hz)),RO.ap,by rw[aIv]; exact RO.ul,fun lM eM kM kvs g H5 sb M5=>⟨rfl,?_⟩⟩;have s5:aO H' H5:=fun b u e'=>sb b u (aF e' hX) (k1 b u e');obtain⟨Xs,b0,b1,b2⟩:=a1.ex;rw[List.length_map,List.length_take] at b1;have b05:=s5 _ _ b0;have en:(l.take (i+1)).map MR.mw=(l.take i).map MR.mw++[cn.mw]:=by rw[List.take_succ,hx,List.map_append]; rfl
    refine⟨_,b05,aU (by rw[List.length_map]; omega),_,_,_,_,rfl,⟨Xs++[X],by rw[aD,List.map_append]; rfl,by rw[en,List.length_append,List.length_append,b1,List.length_map,List.length_take]; rfl,fun j Y mw hY hm=>aKb ?_ (aAy b05)⟩,fun b o u=>?_⟩
    ·rw[en] at hm
     by_cases hj:j<Xs.length
     ·rw[List.getElem?_append_left hj] at hY;rw[List.getElem?_append_left (by rw[List.length_map,List.length_take]; omega)] at hm;exact (b2 j Y mw hY hm).same s5
     ·have hl':j=Xs.length:=by
       have:=(List.getElem?_eq_some_iff.mp hY).1
       rw[List.length_append] at this;simp only[List.length_cons,List.length_nil] at this;omega
      subst hl';rw[List.getElem?_append_right (Nat.le_refl _),Nat.sub_self] at hY;rw[List.getElem?_append_right (by rw[List.length_map,List.length_take]; omega),show Xs.length-((l.take i).map MR.mw).length=0 by rw[List.length_map,List.length_take]; omega] at hm;cases hY;cases hm;exact⟨dX,lM,eM,kM,kvs,g,M5⟩
    ·rw[aI (aF u hD)];exact s5 _ _ (a2 b o u)
  ·rintro σ' H' ⟨v0,v1,v2,v3,rfl,a1,a2⟩;rw[List.length_map,h1,List.take_length] at a1;exact q D H' a2 hD a1
end
end K22
namespace K22
open PySem L2 Ky
seal L2.PE L2.PS L2.PSs L2.PA L2.PT L2.PW L2.PG L2.PI L2.PTs L2.PO L2.PPs L2.OpR L2.IxR L2.CallR L2.MtM L2.MtR
unseal L2.MtM L2.MtR
def mpD (b:Str) (e g k:Addr):List (Key×V):=pC [] [(Sum.inr "begin",.str b),(Sum.inr "ends",.ref e),(Sum.inr "go",.ref g),(Sum.inr "known",.ref k)]
theorem aFx (b:Str) (e g k:Addr):dF (mpD b e g k) (Sum.inr "known")=some (.ref k):=by rfl
theorem aNs (b:Str) (e g k:Addr):dF (mpD b e g k) (Sum.inr "go")=some (.ref g):=by rfl
inductive Mp (D:Addr) (H:Hp) (q:Addr) (m:MW):Prop
 | mk (e g k:Addr) (kvs:List (List Key×V)) (h0_:H q=some (.dK (mpD m.b e g k))) (h1_:H e=some (.lst (m.es.map V.str))) (h2_:H g=some (.dT kvs)) (h3_:DT kvs m.ds) (h4_:H k=some (.lst (m.kn.map V.str))) (h5_:e≠D) (h6_:k≠D)
theorem Mp.same {D:Addr}{H H':Hp}{q:Addr}{m:MW}(M:Mp D H q m) (s:aO H H'):Mp D H' q m:=by
 obtain⟨e,g,k,kvs,h0,h1,h2,h3,h4,h5,h6⟩:=M;exact⟨e,g,k,kvs,s _ _ h0,s _ _ h1,s _ _ h2,h3,s _ _ h4,h5,h6⟩
theorem Mp.put {D:Addr}{H:Hp}{q:Addr}{m:MW}{xs ys:List V}(M:Mp D H q m) (hD:H D=some (.lst xs)):Mp D (upd H D (.lst ys)) q m:=by
 obtain⟨e,g,k,kvs,h0,h1,h2,h3,h4,h5,h6⟩:=M;exact⟨e,g,k,kvs,by rw[aI fun z=>by rw[z,hD] at h0; cases h0]; exact h0,by rw[aI h5]; exact h1,by rw[aI fun z=>by rw[z,hD] at h2; cases h2]; exact h2,h3,by rw[aI h6]; exact h4,h5,h6⟩
structure iX (H:Hp) (D:Addr) (ms:List MW):Prop where
 ex:∃ qs:List Addr,H D=some (.lst (qs.map V.ref))∧qs.length=ms.length∧∀ (i:Nat) (q:Addr) (m:MW),qs[i]?=some q->ms[i]?=some m->Mp D H q m
theorem iX.same {H H':Hp}{D:Addr}{ms:List MW}(M:iX H D ms) (s:aO H H'):iX H' D ms:=by
 obtain⟨qs,h0,h1,h2⟩:=M.ex;exact⟨qs,s _ _ h0,h1,fun i q m a b=>(h2 i q m a b).same s⟩
theorem iX.push {H:Hp}{D q:Addr}{ms:List MW}{m:MW}(M:iX H D ms) (R:Mp D H q m):∃ xs,H D=some (.lst xs)∧xs.length=ms.length∧iX (upd H D (.lst (xs++[.ref q]))) D (ms++[m]):=by
 obtain⟨ts,h0,h1,h2⟩:=M.ex;refine⟨_,h0,by rw[List.length_map,h1],⟨ts++[q],by rw[aD,List.map_append]; rfl,by rw[List.length_append,List.length_append,h1]; rfl,fun j u y hu hy=>?_⟩⟩
 by_cases hj:j<ts.length
 ·rw[List.getElem?_append_left hj] at hu;rw[List.getElem?_append_left (by omega)] at hy;exact (h2 j u y hu hy).put h0
 ·have hl:j=ts.length:=by
   have:=(List.getElem?_eq_some_iff.mp hu).1
   rw[List.length_append] at this;simp only[List.length_cons,List.length_nil] at this;omega
  subst hl;rw[List.getElem?_append_right (Nat.le_refl _),Nat.sub_self] at hu;rw[h1,List.getElem?_append_right (Nat.le_refl _),Nat.sub_self] at hy;cases hu;cases hy;exact R.put h0
inductive aEn (vs:List V) (H:Hp) (Q:VK) (E:XK):Prop
 | mk (p:Addr) (l:List MR) (ss:List Str) (h0_:vs=[.ref p]) (h1_:PlA H p l) (h2_:l.length<=10) (h3_:aAf l ss) (h4_:∀ (D:Addr) H',aO H H'->H D=none->iX H' D (l.map MR.mw)->Q (.ref D) H')
section
variable {P:Program}{w:World}{K:PySem.W.Frag}{mg:Str->Option Value}{base:Heap}
abbrev NMp:List Str:=["_law_plant","_law_found","_law_begin","_law_ends","_law_doors","_law_more_here","_law_go","_law_one","_law_deed","_law_other"]
theorem sR:aR NMp ["_law_plant"] (aB rB):=⟨rfl,rfl,rfl,by decide +kernel,rfl,by decide +kernel,by decide +kernel⟩
abbrev ndD:List Str:=["_law_door"]
theorem aIn {f:Addr}{fd:FuncData}(F:Fun K "_law_maps" "_law_maps" rB f fd):bE P w K mg base CX0 1 f fd ["_law_plant"] aEn:=by
 refine F.ok sR (fun vs H Q E h=>?_) (fun cdv A outer s H vs Q E hr h=>?_)
 ·obtain⟨p,l,ss,rfl,_⟩:=h;rfl
 ·obtain⟨p,l,ss,rfl,hP,hl,hR,q⟩:=h;have hu:=jS hr
  refine⟨_,aK (aW (i:=1) sR.nd rfl (Or.inl rfl) (cM aJ))
   (aK (eJ PassesOwn.never rfl (dC (pv 0)) (fE rfl (aY (aP (i:=2) sR.nd rfl (Or.inl rfl)) (aY (aP (i:=3) sR.nd rfl (Or.inl rfl)) (aY (aP (i:=4) sR.nd rfl (Or.inl rfl)) (aY (aP (i:=5) sR.nd rfl (Or.inl rfl)) dR)))))
    (aK (aW (i:=6) sR.nd rfl (Or.inl rfl) aFa)
    (aK (eJ PassesOwn.never rfl (dC (pv 4)) (fE rfl (aY (aP (i:=7) sR.nd rfl (Or.inl rfl)) (aY (aP (i:=8) sR.nd rfl (Or.inl rfl)) (aY (aP (i:=9) sR.nd rfl (Or.inl rfl)) dR))))
     (aL (jL hu (pv 6) (gY (pac (pv 7) (pac (pv 8) aJ))) (pv 9) rfl)))
    (aL (dB (kX PySem.F.plainAttrs_list PySem.F.slot_list_append PySem.F.type_list_append eO (pv 1) (pac (aIg (nM aQ (pv 2) (nM aQ (pv 3) (nM aQ (pv 6) (nM aQ (aS eC (eL (N':=ndD) (nown:=1) (js:=[]) rfl
      ⟨rfl,by decide +kernel,by decide +kernel⟩ (cJ (aB rB) NMp rfl rfl (by decide +kernel))
      ⟨fun _ _ _ _=>aP (i:=0) (show List.Nodup ndD by decide +kernel) rfl (Or.inl rfl) (.inr rfl),fun _ _ _ _=>eE,fun _ _ _ _=>dJ (show IxR _ (aNj K) from zQ) (pv 0) aN (fun _ _=>rfl)⟩
      (dC (pv 4))) (pv 5)) aIc)))) rfl rfl (fun z=>nomatch z) (by show 4<=15; decide)) aJ)))))))
   (aL (bO (pv 1)))),?_⟩
  obtain⟨ts,h0,h1,h2⟩:=hP.ex;refine⟨by show 0<=sizeLine; decide,fun D hD=>⟨_,rfl,p,rfl,⟨_,SqL.of (smu hD _ _ h0)⟩,?_⟩⟩;refine dN (xs:=ts.map V.ref) (fun i σ H'=>∃ (x2 x3 x4 x5 x6 x7 x8 x9:Option V),σ=[some (.ref p),some (.ref D),x2,x3,x4,x5,x6,x7,x8,x9]∧iX H' D ((l.take i).map MR.mw)∧aO H H') ?_ ?_ ?_ ?_
  ·exact⟨none,none,none,none,none,none,none,none,rfl,⟨[],aD,rfl,fun i q m z=>nomatch z⟩,smu hD⟩
  ·rintro i σ H' _ ⟨x2,x3,x4,x5,x6,x7,x8,x9,rfl,a1,a2⟩;exact SqL.of (a2 _ _ h0)
  ·rintro i v σ H' hv ⟨x2,x3,x4,x5,x6,x7,x8,x9,rfl,a1,a2⟩;rw[List.getElem?_map] at hv;cases ht:ts[i]? with
   | none=>rw[ht] at hv; cases hv
   | some t=>
    rw[ht] at hv;cases hv;have hi:i<l.length:=by rw[← h1]; exact (List.getElem?_eq_some_iff.mp ht).1
    have hx:=List.getElem?_eq_getElem hi;have hxm:l[i]∈l:=List.getElem_mem hi;generalize l[i]=cn at hx hxm;have RO:=hR cn hxm;obtain⟨e,d,m,r0,r1,r2,r3⟩:=(h2 i t cn ht hx);have eD:e≠D:=aF r1 hD;have rle:=RO.le;obtain⟨us,hd,hul,hut⟩:=r2.ex;refine⟨t,_,rfl,SqT.of (a2 _ _ r0),rfl,_,_,rfl,_,_,rfl,_,_,rfl,_,_,rfl,rfl,?_⟩;intro g hg;have s3:aO H' (upd H' g (.dT [])):=smu hg;refine⟨_,rfl,d,rfl,⟨_,SqL.of (s3 _ _ (a2 _ _ hd))⟩,?_⟩;refine dN (xs:=us.map V.ref) (fun i σ H3=>∃ (y7 y8 y9:Option V),σ=[some (.ref p),some (.ref D),some (.str (cn.b)),some (.ref e),some (.ref d),some (.ref m),some (.ref g),y7,y8,y9]∧(∃ kvs,H3 g=some (.dT kvs)∧DT kvs ((cn.ds).take i)∧kvs.length<=i)∧aO H' H3) ?_ ?_ ?_ ?_
    ·exact⟨_,_,_,rfl,⟨[],aD,aMq,Nat.le_refl _⟩,s3⟩
    ·rintro i σ H3 _ ⟨y7,y8,y9,rfl,_,c2⟩;exact SqL.of (c2 _ _ (a2 _ _ hd))
    ·rintro i v σ H3 hv ⟨y7,y8,y9,rfl,⟨kvs',c1,c3,c4⟩,c2⟩;rw[List.getElem?_map] at hv;cases hu':us[i]? with
     | none=>rw[hu'] at hv; cases hv
     | some u=>
      rw[hu'] at hv;cases hv;have hi':i<(cn.ds).length:=by rw[← hul]; exact (List.getElem?_eq_some_iff.mp hu').1
      have hzz:=List.getElem?_eq_getElem hi';generalize (cn.ds)[i]=z at hzz;refine⟨u,_,rfl,SqT.of (c2 _ _ (a2 _ _ (hut i u z hu' hzz))),rfl,_,_,rfl,_,_,rfl,_,_,rfl,rfl,?_⟩;refine⟨_,rfl,_,rfl,_,rfl,_,rfl,by show 2<=sizeLine; decide,fun tt htt=>⟨g,_,rfl,pU.t (k:=[Sum.inr z.1,Sum.inr z.2.1]) (smu htt _ _ c1) aD (aU (by omega)),?_⟩⟩;refine⟨_,_,_,rfl,⟨_,aD,?_,Nat.le_trans (dP _ _ _) (Nat.succ_le_succ c4)⟩,fun b o' e'=>?_⟩
      ·rw[show (cn.ds).take (i+1)=(cn.ds).take i++[z] from by rw[List.take_succ,hzz]; rfl]
       exact aMp c3 (RO.ap.at hzz)
      ·rw[aI (aF e' hg)];exact smu htt _ _ (c2 _ _ e')
    rintro σ H3 ⟨y7,y8,y9,rfl,⟨kvs',c1,c3,c4⟩,c2⟩;rw[List.length_map,hul,List.take_length] at c3;have a23:=a2.trans c2;have a13:=a1.same c2;obtain⟨xs0,d0,_⟩:∃ xs,H3 D=some (.lst xs)∧True:=let ⟨_,e0,_⟩:=a13.ex; ⟨_,e0,trivial⟩;refine⟨_,rfl,.inl ⟨rfl,_,SqL.of d0⟩,fun q5 hq5=>⟨_,rfl,_,rfl,_,rfl,_,rfl,d,rfl,⟨_,SqL.of (smu hq5 _ _ (a23 _ _ hd))⟩,fun c hc=>?_⟩⟩;have s4:aO H3 (upd H3 q5 (.dK [])):=smu hq5;have e5:(upd H3 q5 (.dK [])) q5=some (.dK []):=aD;generalize upd H3 q5 (.dK [])=H4 at s4 e5 hc ⊢;refine iJ (xs:=us.map V.ref) (fun i σ' H5=>∃ v,σ'=[v]∧H5 c=some (.lst ((((cn.ds).take i).map (·.2.1)).map V.str))∧aO H4 H5) ?_ ?_ ?_ ?_
    ·exact⟨none,rfl,aD,smu hc⟩
    ·rintro i σ' H5 _ ⟨v,rfl,b1,b2⟩;exact SqL.of (b2 _ _ (s4 _ _ (a23 _ _ hd)))
    ·rintro i v σ' H5 hv ⟨v0,rfl,b1,b2⟩;rw[List.getElem?_map] at hv;cases hu':us[i]? with
     | none=>rw[hu'] at hv; cases hv
     | some u=>
      rw[hu'] at hv;cases hv;have hi':i<(cn.ds).length:=by rw[← hul]; exact (List.getElem?_eq_some_iff.mp hu').1
      have hzz:=List.getElem?_eq_getElem hi';generalize (cn.ds)[i]=z at hzz;refine⟨_,rfl,u,_,_,.str z.2.1,rfl,rfl,SqT.of (b2 _ _ (s4 _ _ (a23 _ _ (hut i u z hu' hzz)))),rfl,_,b1,aU (by rw[List.length_map,List.length_map,List.length_take]; omega),_,rfl,?_,fun b o' e'=>?_⟩
      ·rw[aD,List.take_succ,hzz]
       simp
      ·rw[aI (aF e' hc)];exact b2 _ _ e'
    rintro σ' H5 ⟨v,rfl,b1,b2⟩;rw[List.length_map,hul,List.take_length] at b1;have s35:=s4.trans b2;have s05:=a23.trans s35;refine⟨_,rfl,c,m,_,_,rfl,rfl,b1,s05 _ _ r3,kE (by rw[List.length_map,List.length_map,List.length_map]; omega),fun k hk=>?_⟩;have s6:=smu (o:=.lst (((cn.ds).map (·.2.1)).map V.str++(cn.mo).map V.str)) hk
    have e6:(upd H5 k (.lst (((cn.ds).map (·.2.1)).map V.str++(cn.mo).map V.str))) k=some (.lst ((eP (cn.ds) (cn.mo)).map V.str)):=by
     rw[aD];unfold eP;rw[List.map_append]
    generalize upd H5 k (.lst (((cn.ds).map (·.2.1)).map V.str++(cn.mo).map V.str))=H6 at s6 e6 ⊢;have s36:=s35.trans s6;have kD:k≠D:=fun z=>by rw[z,s35 _ _ d0] at hk; cases hk
    have kq:k≠q5:=fun z=>by rw[z,b2 _ _ e5] at hk; cases hk
    refine⟨s6 _ _ (b2 _ _ e5),[(Sum.inr "begin",.str (cn.b)),(Sum.inr "ends",.ref e),(Sum.inr "go",.ref g),(Sum.inr "known",.ref k)],rfl,by show 4<=15; decide,?_⟩;have s06:=a23.trans s36;have nq:∀ {b:Addr}{o:HO},H3 b=some o->b≠q5:=fun h=>aF h hq5;have s37:aO H3 (upd H6 q5 (.dK (mpD (cn.b) e g k))):=fun b o h=>by rw[aI (nq h)]; exact s36 _ _ h
    have R7:Mp D (upd H6 q5 (.dK (mpD (cn.b) e g k))) q5 (cn.mw):=⟨e,g,k,kvs',aD,s37 _ _ (a23 _ _ r1),s37 _ _ c1,c3,by rw[aI kq]; exact e6,eD,kD⟩;have s07:=a23.trans s37;obtain⟨ys,y0,y1,y2⟩:=(a13.same s37).push R7;rw[List.length_map,List.length_take] at y1;refine⟨D,ys,_,rfl,rfl,y0,aU (by omega),?_⟩;refine⟨_,_,_,_,_,_,_,_,rfl,?_,fun b o u=>?_⟩
    ·have en:(l.take (i+1)).map MR.mw=(l.take i).map MR.mw++[cn.mw]:=by rw[List.take_succ,hx,List.map_append]; rfl
     rw[en];exact y2
    ·rw[aI (aF u hD)];exact s07 _ _ u
  ·rintro σ H' ⟨x2,x3,x4,x5,x6,x7,x8,x9,rfl,a1,a2⟩;rw[List.length_map,h1,List.take_length] at a1;exact⟨_,rfl,q D H' a2 hD a1⟩
end
end K22
namespace K22
open PySem L2 Ky
seal L2.PE L2.PS L2.PSs L2.PA L2.PT L2.PW L2.PG L2.PI L2.PTs L2.PO L2.PPs L2.OpR L2.IxR L2.CallR L2.MtM L2.MtR
unseal L2.MtM L2.MtR
theorem aMd {H:Hp}{q e g k:Addr}{b:Str}(h:H q=some (.dK (mpD b e g k))):fU H q (.str "known") (some (.ref k)):=by
 have:=fU.k (k:=Sum.inr "known") h
 rw[aFx] at this;exact this
theorem gGo {H:Hp}{q e g k:Addr}{b:Str}(h:H q=some (.dK (mpD b e g k))):fU H q (.str "go") (some (.ref g)):=by
 have:=fU.k (k:=Sum.inr "go") h
 rw[aNs] at this;exact this
theorem rN {ms:List MW}{room:List Str}{y:Str}{i:Nat}{m:MW}{z:Str}(hm:ms[i]?=some m) (hz:room[i]?=some z):parts (ms.take (i+1)) (room.take (i+1)) y=parts (ms.take i) (room.take i) y++[lU m.ds m.kn z y]:=by
 unfold parts;exact qR hm hz
theorem rO {ms:List MW}{room:List Str}{y:Str}{i:Nat}{m:MW}{z:Str}(hm:ms[i]?=some m) (hz:room[i]?=some z):(parts ms room y)[i]?=some (lU m.ds m.kn z y):=by
 unfold parts;rw[List.getElem?_zipWith,hm,hz]
theorem aJe {ds:List Dr}{kn:List Str}{z y:Str}(h:lU ds kn z y=none):y∈kn:=by
 unfold lU at h
 by_cases q:y∈kn
 ·exact q
 ·rw[if_neg q] at h; cases h
theorem aDv {ms:List MW}{room:List Str}{y:Str}{i:Nat}{m:MW}{z:Str}(hm:ms[i]?=some m) (hz:room[i]?=some z) (hk:y∈m.kn) (h:lU m.ds m.kn z y=none):wto ms room y=none:=by
 unfold wto yI;rw[if_pos (show y∈wkn ms from List.mem_flatMap.mpr ⟨m,List.mem_of_getElem? hm,hk⟩),if_pos (List.any_eq_true.mpr ⟨none,List.mem_of_getElem? (by rw[rO hm hz,h]),rfl⟩)]
theorem aDu {ms:List MW}{room:List Str}{y:Str}{fs:List Str}(hk:y∈wkn ms) (h:parts ms room y=fs.map some):wto ms room y=some fs:=by
 unfold wto yI;rw[if_pos hk,h,if_neg (by simp),List.map_map];exact congrArg some (List.map_id fs)
inductive aEk (K:PySem.W.Frag) (vs:List V) (H:Hp) (Q:VK) (E:XK):Prop
 | mk (D t:Addr) (ms:List MW) (room:List Str) (y:Str) (h0_:vs=[.ref D,.ref t,.str y]) (h1_:iX H D ms) (h2_:SqT K H t (room.map V.str)) (h3_:ms.length=room.length) (h4_:ms.length<=10) (h5_:yD H Q (wto ms room y))
section
variable {P:Program}{w:World}{K:PySem.W.Frag}{mg:Str->Option Value}{base:Heap}
abbrev NSt:List Str:=["_law_maps_here","_law_room","_law_deed","_law_found","_law_many","_law_k","_law_one"]
theorem yQ:aR NSt ["_law_maps_here","_law_room","_law_deed"] (aB tT):=⟨rfl,rfl,rfl,by decide +kernel,rfl,by decide +kernel,by decide +kernel⟩
theorem aIk {f:Addr}{fd:FuncData}(F:Fun K "_law_step" "_law_step" tT f fd) (T:Txt K mg) (mT:mg "tuple" = none):bE P w K mg base CX0 1 f fd ["_law_maps_here","_law_room","_law_deed"] (aEk K):=by
 refine F.ok yQ (fun vs H Q E h=>?_) (fun cdv A outer s H vs Q E hr h=>?_)
 ·obtain⟨D,t,ms,room,y,rfl,_⟩:=h;rfl
 ·obtain⟨D,t,ms,room,y,rfl,M,hT,hlen,hl,q⟩:=h;have hu:=jS hr
  refine⟨_,aK (aW (i:=3) yQ.nd rfl (Or.inl rfl) (cM aJ))
   (aK (aW (i:=4) yQ.nd rfl (Or.inl rfl) aN)
   (aK (eJ PassesOwn.never rfl (gM rfl T.range (pac (cH cK (by rfl) T.len Bo.len (pac (pv 0) aJ)) aJ)) (aP (i:=5) yQ.nd rfl (Or.inl rfl))
    (aK (aW (i:=6) yQ.nd rfl (Or.inl rfl) (dJ zQ (pv 1) (pv 5) (fun _ _=>rfl)))
    (aK (dH (bX (show OpR _ _ (rIn K false) from uA) (pv 2) (jM hu (dJ cS (pv 0) (pv 5) (fun _ _=>rfl)) aQ (fun _ _=>rfl)) (by with_unfolding_all rfl))
     (aK (aW (i:=4) yQ.nd rfl (Or.inl rfl) (aS dM (pv 4) aN))
     (aL (aW (i:=6) yQ.nd rfl (Or.inl rfl) (wY hu (jM hu (dJ cS (pv 0) (pv 5) (fun _ _=>rfl)) aQ (fun _ _=>rfl)) (gY (pac (dJ zQ (pv 1) (pv 5) (fun _ _=>rfl)) (pac (pv 2) aJ))) ⟨by rfl,by rfl,by rfl,by rfl⟩)))) cF)
    (aK (dH (bX aFh (pv 6) iW (cN _)) (aL (bO iW)) cF)
    (aL (dB (kX PySem.F.plainAttrs_list PySem.F.slot_list_append PySem.F.type_list_append eO (pv 3) (pac (pv 6) aJ))))))))
   (aK (dH (bX nQ (pv 4) aN (cN _)) (aL (bO iW)) cF)
   (aL (bO (eN gQ (by rfl) mT Bo.tuple (pac (pv 3) aJ))))))),?_⟩
  obtain⟨qs,h0,h1,h2⟩:=M.ex;refine⟨by show 0<=sizeLine; decide,fun Fd hF=>⟨_,rfl,D,_,rfl,.inl (SqL.of (smu hF _ _ h0)),_,rfl,by rw[List.length_map]; omega,by rw[List.length_map]; omega,?_⟩⟩;refine uI (n:=((qs.map V.ref).length:Int).toNat) (fun i σ H'=>∃ (x5 x6:Option V) (fs:List Str) (n:Nat),σ=[some (.ref D),some (.ref t),some (.str y),some (.ref Fd),some (.int n),x5,x6]∧H' Fd=some (.lst (fs.map V.str))∧parts (ms.take i) (room.take i) y=fs.map some∧(n=0↔y∉wkn (ms.take i))∧aO H H') ?_ ?_ ?_
  ·exact⟨none,none,[],0,rfl,aD,rfl,⟨fun _ z=>(nomatch z),fun _=>rfl⟩,smu hF⟩
  ·rintro i σ H' hi ⟨x5,x6,fs,n,rfl,a1,b1,b2,a2⟩;rw[List.length_map] at hi;have hiq:i<qs.length:=by omega
   have hq:=List.getElem?_eq_getElem hiq;generalize qs[i]=q' at hq;have him:i<ms.length:=by omega
   have hm:=List.getElem?_eq_getElem him;generalize ms[i]=m at hm;have hir:i<room.length:=by omega
   have hz:=List.getElem?_eq_getElem hir;generalize room[i]=z at hz
   have fl:fs.length=i:=by
    have:=congrArg List.length b1
    unfold parts at this;rw[List.length_zipWith,List.length_take,List.length_take,List.length_map] at this;omega
   obtain⟨e,g,k,kvs,m0,m1,m2,m3,m4,_,_⟩:=(h2 i q' m hq hm).same a2;have hT':=nJ hT a2;have aq:atI (qs.map V.ref) (0+(i:Int))=some (.ref q'):=by rw[Int.zero_add]; exact gR (by rw[List.getElem?_map,hq]; rfl)
   have az:atI (room.map V.str) (0+(i:Int))=some (.str z):=by rw[Int.zero_add]; exact gR (by rw[List.getElem?_map,hz]; rfl)
   refine⟨_,rfl,_,rfl,t,_,_,.str z,rfl,rfl,hT',az,?_⟩;refine⟨_,rfl,_,rfl,_,rfl,D,_,_,.ref q',rfl,rfl,SqL.of (a2 _ _ h0),aq,q',_,rfl,aMd m0,k,_,rfl,.inl (SqL.of m4),rfl,by rw[List.all_map]; exact List.all_eq_true.mpr fun _ _=>rfl,decide (y∈m.kn),congrArg V.bl (aBh y m.kn),?_⟩
   by_cases hk:y∈m.kn
   ·rw[decide_eq_true hk];refine jU ⟨_,rfl,_,_,rfl,rfl,?_⟩;refine⟨_,rfl,_,rfl,D,_,_,.ref q',rfl,rfl,SqL.of (a2 _ _ h0),aq,q',_,rfl,gGo m0,g,rfl,.inr ⟨_,.inl m2⟩,_,rfl,_,rfl,t,_,_,.str z,rfl,rfl,hT',az,_,rfl,by show 2<=sizeLine; decide,fun tt htt=>?_⟩;have s3:aO H' (upd H' tt (.tup [.str z,.str y])):=smu htt;have gt:=fU.t (k:=[Sum.inr z,Sum.inr y]) (s3 _ _ m2) (show (upd H' tt (.tup [.str z,.str y])) tt=some (.tup ([Sum.inr z,Sum.inr y].map kV)) from aD)
    rw[m3] at gt;refine⟨_,gt,?_⟩;have eo:((iI m.ds z y).map V.str).getD .non=oV (lU m.ds m.kn z y):=by unfold lU; rw[if_pos hk]; rfl
    rw[eo];generalize upd H' tt (.tup [.str z,.str y])=H3 at s3 ⊢;have a23:=a2.trans s3;refine⟨_,rfl,rfl,_,rfl,?_⟩;cases ho:lU m.ds m.kn z y with
    | none=>
     have hk':y∈m.kn:=aJe ho;rw[aDv hm hz hk' ho] at q
     skip
     exact jU (q _ a23)
    | some u=>
     skip
     refine hU ⟨_,rfl,.inl ⟨rfl,_,SqL.of (s3 _ _ a1)⟩,_,rfl,Fd,_,_,rfl,rfl,s3 _ _ a1,aU (by rw[List.length_map,fl]; omega),?_⟩;refine⟨_,_,fs++[u],n+1,rfl,by rw[aD,List.map_append]; rfl,by rw[rN hm hz,ho,b1,List.map_append]; rfl,⟨fun z=>by omega,fun z=>absurd ((qS hm y).mpr (.inr hk)) z⟩,fun b o e=>?_⟩;rw[aI (aF e hF)];exact a23 _ _ e
   ·rw[decide_eq_false hk];refine hU ?_;have eo:lU m.ds m.kn z y=some z:=by unfold lU; rw[if_neg hk]
    refine⟨_,rfl,rfl,_,rfl,hU ⟨_,rfl,.inl ⟨rfl,_,SqL.of a1⟩,_,rfl,Fd,_,_,rfl,rfl,a1,aU (by rw[List.length_map,fl]; omega),?_⟩⟩;refine⟨_,_,fs++[z],n,rfl,by rw[aD,List.map_append]; rfl,by rw[rN hm hz,eo,b1,List.map_append]; rfl,?_,fun b o e=>?_⟩
    ·rw[b2,qS hm y];exact⟨fun h h'=>h'.elim h hk,fun h h'=>h (.inl h')⟩
    ·rw[aI (aF e hF)];exact a2 _ _ e
  ·rintro σ H' ⟨x5,x6,fs,n,rfl,a1,b1,b2,a2⟩;have e1:ms.take ((qs.map V.ref).length:Int).toNat=ms:=by rw[List.length_map,List.take_of_length_le (by omega)]
   have e2:room.take ((qs.map V.ref).length:Int).toNat=room:=by rw[List.length_map,List.take_of_length_le (by omega)]
   rw[e1,e2] at b1;rw[e1] at b2;refine⟨_,rfl,rfl,_,rfl,eQ (fun h=>?_) (fun h=>?_)⟩
   ·have hn:n=0:=by have:=V.int.inj (of_decide_eq_true h); omega
    have e:wto ms room y=none:=by unfold wto; rw[if_neg (b2.mp hn)]
    rw[e] at q;exact q H' a2
   ·have hk:y∈wkn ms:=Classical.byContradiction fun z=>h (decide_eq_true (by rw[b2.mpr z]; rfl));rw[aDu hk b1] at q;exact⟨_,rfl,Fd,_,rfl,.inl ⟨SqL.of a1,fun l hl'=>q l _ (a2.trans (smu hl')) (a2.free hl') aD⟩⟩
end
end K22
namespace K22
open PySem L2 Ky
seal L2.PE L2.PS L2.PSs L2.PA L2.PT L2.PW L2.PG L2.PI L2.PTs L2.PO L2.PPs L2.OpR L2.IxR L2.CallR L2.MtM L2.MtR
unseal L2.MtM L2.MtR
def gF:List (List Str)->List (List Str)->List (List Str)
 | rs,[]=>rs
 | rs,r::fs=>gF (if r∈rs then rs else rs++[r]) fs
def jW (F:List Str->List (List Str)):Nat->List (List Str)->Nat->List (List Str)
 | 0,rs,_=>rs
 | n+1,rs,i=>if i<rs.length∧rs.length<=60 then jW F n (gF rs (F (rs.getD i []))) (i+1) else rs
theorem pP {F:List Str->List (List Str)}{n i:Nat}{rs:List (List Str)}(h:¬ (i<rs.length∧rs.length<=60)):jW F n rs i=rs:=by
 cases n with
 | zero=>rfl
 | succ n=>unfold jW; rw[if_neg h]
theorem aBn {F:List Str->List (List Str)}{i:Nat}{rs:List (List Str)}{r:List Str}(h1:rs[i]?=some r) (h2:rs.length<=60):jW F (61-i) rs i=jW F (61-(i+1)) (gF rs (F r)) (i+1):=by
 have hi:=(List.getElem?_eq_some_iff.mp h1).1;rw[show 61-i=(61-(i+1))+1 by omega];show (if _ then _ else _)=_
 rw[if_pos ⟨hi,h2⟩,List.getD_eq_getElem?_getD,h1];rfl
theorem pQ:∀ {fs rs:List (List Str)}{r:List Str},gF rs (fs++[r])=if r∈gF rs fs then gF rs fs else gF rs fs++[r]
 | [],_,_=>rfl
 | _::fs,_,_=>pQ (fs:=fs)
theorem oH:∀ {fs rs:List (List Str)},(gF rs fs).length<=rs.length+fs.length
 | [],_=>Nat.le_refl _
 | r::fs,rs=>by
  refine Nat.le_trans (oH (fs:=fs)) ?_;rw[List.length_cons]
  by_cases h:r∈rs
  ·rw[if_pos h]; omega
  ·rw[if_neg h,List.length_append,List.length_singleton]; omega
theorem sH:∀ {fs rs:List (List Str)}{r:List Str},r∈gF rs fs->r∈rs∨r∈fs
 | [],_,_,h=>.inl h
 | x::fs,rs,r,h=>by
  rcases sH (fs:=fs) h with h | h
  ·by_cases q:x∈rs
   ·rw[if_pos q] at h; exact .inl h
   ·rw[if_neg q] at h;rcases List.mem_append.mp h with h | h
    ·exact .inl h
    ·exact .inr (by rw[List.mem_singleton.mp h]; exact List.mem_cons_self ..)
  ·exact .inr (List.mem_cons_of_mem _ h)
structure sI (H:Hp) (l:Addr) (fs:List (Str×List Str)):Prop where
 ex:∃ ts:List Addr,H l=some (.lst (ts.map V.ref))∧ts.length=fs.length∧∀ (i:Nat) (t:Addr) (p:Str×List Str),ts[i]?=some t->fs[i]?=some p->∃ u,H t=some (.tup [.str p.1,.ref u])∧H u=some (.tup (p.2.map V.str))
theorem sI.same {H H':Hp}{l:Addr}{fs:List (Str×List Str)}(M:sI H l fs) (s:aO H H'):sI H' l fs:=by
 obtain⟨qs,h0,h1,h2⟩:=M.ex;exact⟨qs,s _ _ h0,h1,fun i q m a b=>let ⟨u,x,y⟩:=h2 i q m a b; ⟨u,s _ _ x,s _ _ y⟩⟩
def aGw (H:Hp) (fs:List (Str×List Str)) (Q:VK):Prop:=∀ (l:Addr) H',aO H H'->H l=none->sI H' l fs->Q (.ref l) H'
def gU (ms:List MW) (ts:List Str) (room:List Str):List (Str×List Str):=ts.map fun z=>(z,(wto ms room z).getD [])
def aAc (ms:List MW) (S:List Str) (room:List Str):List Str:=S.filter fun z=>(wto ms room z).isSome
theorem aBj {ms:List MW}{room:List Str}:∀ (S:List Str),(gU ms (aAc ms S room) room).map (·.2)=S.filterMap (wto ms room)
 | []=>rfl
 | z::S=>by
  have ih:=aBj (ms:=ms) (room:=room) S;unfold aAc gU at ih ⊢;cases h:wto ms room z with
  | none=>rw[List.filter_cons_of_neg (by rw[h]; simp),List.filterMap_cons_none h]; exact ih
  | some r=>rw[List.filter_cons_of_pos (by rw[h]; rfl),List.filterMap_cons_some h,List.map_cons,List.map_cons,ih,h]; rfl
theorem aKl {ms:List MW}{room:List Str}{z:Str}(h:(wto ms room z).isSome=true):z∈wkn ms:=by
 unfold wto at h
 by_cases q:z∈wkn ms
 ·exact q
 ·rw[if_neg q] at h; cases h
inductive uY (K:PySem.W.Frag) (C CM CW:Addr) (vs:List V) (H:Hp) (Q:VK) (E:XK):Prop
 | mk (v x t:Addr) (ms:List MW) (room S:List Str) (wk:List (Key×V)) (h0_:vs=[.ref v,.ref t]) (h1_:Wv CM CW H v x ms) (h2_:H t=some (.tup (room.map V.str))) (h3_:ROk ms room) (h4_:1<=ms.length∧ms.length<=100) (h5_:WAt C H x wk) (h6_:∀ z∈wkn ms,z∈S) (h7_:S.length<64) (h8_:∀ z∈S,eA wk (.str z)=true)
  (h9_:PyProof.Rows.sortedS S=true) (h10_:S.Nodup) (h11_:aGw H (gU ms (aAc ms S room) room) Q)
section
variable {P:Program}{w:World}{K:PySem.W.Frag}{mg:Str->Option Value}{base:Heap}
theorem aPe:aR ["self","room"] ["self","room"] (aB qT):=⟨rfl,rfl,rfl,by decide +kernel,rfl,by decide +kernel,by decide +kernel⟩
theorem aFi {f fA fT C CM CW cD:Addr}{fd fdA fdT:FuncData}(F:Fun K "ways" "Woven.ways" qT f fd) (WC:sJ K CW)
  (GA:bE P w K mg base CX0 5 fA fdA ["self","room"] (aJx K C CM CW)) (bA:aX K fdA ["self","room"] []) (mA:eZ K CW "at" fA)
  (GT:bE P w K mg base (CXE P w) 4 fT fdT ["self","room","deed"] (aAm K C CM CW cD)) (bT:aX K fdT ["self","room","deed"] []) (mT:eZ K CW "to" fT) :
  bE P w K mg base CX0 6 f fd ["self","room"] (uY K C CM CW):=by
 refine F.ok aPe (fun vs H Q E h=>?_) (fun cdv A outer s H vs Q E hr h=>?_)
 ·obtain⟨v,x,t,ms,room,S,wk,rfl,_⟩:=h;rfl
 ·obtain⟨v,x,t,ms,room,S,wk,rfl,W,hT,R,hl,hW,hN,h64,hg,so,nd,q⟩:=h
  refine⟨_,aL (bO (eL (N':=ndw) (nown:=1) (js:=[0,1]) rfl
     ⟨rfl,by decide +kernel,by decide +kernel⟩ (cJ (aB qT) ["self","room"] rfl rfl (by decide +kernel))
     ⟨fun _ _ _ _=>aP (i:=0) (show List.Nodup ndw by decide +kernel) rfl (Or.inl rfl) (.inr rfl),fun _ _ _ _=>eE,
      fun _ _ _ _=>gY (pac (pv 0) (pac (hG (pv 1) WC.cl mT GT (hr.mono (by decide)) bT .nil lW (pac (pv 2) (pac (pv 0) aJ))) aJ))⟩
     (dC (hG (pv 0) WC.cl mA GA hr bA .nil cC (pac (pv 1) aJ))))),?_⟩
  obtain⟨dv,lm,lk,kn,hi,M,hk,hkn⟩:=id W;refine⟨_,rfl,v,dv,_,rfl,hi,dI _ _ _ (by decide),_,rfl,v,x,t,ms,room,S,wk,rfl,W,SqT.of hT,R,hl,hW,hN,h64,hg,fun l ts H2 s2 n2 g2 S2=>⟨l,rfl,⟨_,SqL.of g2⟩,fun D hD=>?_⟩⟩;have ets:ts=aAc ms S room:=S2.one (q:=fun z=>z∈S∧(wto ms room z).isSome=true) ⟨lV so,nd.filter _,fun z=>List.mem_filter⟩ fun z=>⟨fun h=>⟨hN z h.1,h.2⟩,fun h=>⟨aKl h.2,h.2⟩⟩;rw[← ets] at q;have lts:ts.length<64:=Nat.lt_of_le_of_lt (by rw[ets]; exact List.length_filter_le ..) h64;refine iJ (xs:=ts.map V.str) (fun i σ' H'=>∃ v0,σ'=[v0,some (.ref v),some (.ref t)]∧sI H' D (gU ms (ts.take i) room)∧aO H2 H') ?_ ?_ ?_ ?_
  ·exact⟨none,rfl,⟨[],aD,rfl,fun i t p z=>nomatch z⟩,smu hD⟩
  ·rintro i σ' H' _ ⟨v0,rfl,a1,a2⟩;exact SqL.of (a2 _ _ g2)
  ·rintro i u σ' H' hv ⟨v0,rfl,a1,a2⟩;rw[List.getElem?_map] at hv;cases hz:ts[i]? with
   | none=>rw[hz] at hv; cases hv
   | some z=>
    rw[hz] at hv;cases hv;have sA:=s2.trans a2;have hzk:=(S2.mem z).mp (List.mem_of_getElem? hz);have gz:=hg z (hN z hzk.1);refine⟨_,rfl,_,rfl,v,dv,_,rfl,sA _ _ hi,dI _ _ _ (by decide),_,rfl,_,rfl,v,x,t,.str z,ms,room,wk,rfl,W.same sA,SqT.of (sA _ _ hT),R,hl,gX hW sA,.inl ⟨z,rfl,pN gz⟩,fun _ u' eu=>?_,fun bad=>absurd (gz.symm.trans bad) (by decide)⟩;cases eu;cases ho:wto ms room z with
    | none=>rw[ho] at hzk; cases hzk.2
    | some ss=>
     intro l3 H3 s3 n3 e3;refine⟨by show 2<=sizeLine; decide,fun tt htt=>?_⟩;have s4:=s3.trans (smu (o:=.tup [.str z,.ref l3]) htt);have e3':=smu (o:=.tup [.str z,.ref l3]) htt _ _ e3;have eT:(upd H3 tt (.tup [.str z,.ref l3])) tt=some (.tup [.str z,.ref l3]):=aD;generalize upd H3 tt (.tup [.str z,.ref l3])=H4 at s4 e3' eT ⊢;obtain⟨us,b0,b1,b2⟩:=(a1.same s4).ex;have ew:gU ms (ts.take (i+1)) room=gU ms (ts.take i) room++[(z,ss)]:=by unfold gU; rw[List.take_succ,hz,List.map_append,Option.toList_some,List.map_singleton,ho]; rfl
     have lw:(gU ms (ts.take i) room).length<=63:=by unfold gU; rw[List.length_map,List.length_take]; omega
     refine⟨_,b0,aU (by rw[List.length_map]; omega),_,rfl,⟨us++[tt],by rw[aD,List.map_append]; rfl,by rw[ew,List.length_append,List.length_append,b1]; rfl,fun j y p hy hp=>?_⟩,fun b o e=>?_⟩
     ·have nt:∀ {b:Addr}{xs:List V},H4 b=some (.tup xs)->(upd H4 D (.lst (us.map V.ref++[.ref tt]))) b=some (.tup xs):=fun {b xs} e=>by
       rw[aI (fun z=>by rw[z,b0] at e; cases e)];exact e
      rw[ew] at hp
      by_cases hj:j<us.length
      ·rw[List.getElem?_append_left hj] at hy;rw[List.getElem?_append_left (by omega)] at hp;obtain⟨u,k1,k2⟩:=b2 j y p hy hp;exact⟨u,nt k1,nt k2⟩
      ·have hl':j=us.length:=by
        have:=(List.getElem?_eq_some_iff.mp hy).1
        rw[List.length_append] at this;simp only[List.length_cons,List.length_nil] at this;omega
       subst hl';rw[List.getElem?_append_right (Nat.le_refl _),Nat.sub_self] at hy;rw[b1,List.getElem?_append_right (Nat.le_refl _),Nat.sub_self] at hp;cases hy;cases hp;exact⟨l3,nt eT,nt e3'⟩
     ·rw[aI (aF e hD)];exact s4 _ _ (a2 b o e)
  ·rintro σ' H' ⟨v0,rfl,a1,a2⟩;rw[List.length_map,List.take_length] at a1;exact q D H' (s2.trans a2) (s2.free hD) a1
end
end K22
namespace K22
open PySem L2 Ky
seal L2.PE L2.PS L2.PSs L2.PA L2.PT L2.PW L2.PG L2.PI L2.PTs L2.PO L2.PPs L2.OpR L2.IxR L2.CallR L2.MtM L2.MtR
unseal L2.MtM L2.MtR
inductive wC (cT:Addr) (df:Addr) (spD:Sp) (vs:List V) (H:Hp) (Q:VK) (E:XK):Prop
 | mk (t:Addr) (b:List Str) (Fp:List Str->List (Str×List Str)) (Ok:List Str->Prop) (h0_:vs=[.ref t,.ref df,.int 60]) (h1_:H t=some (.tup (b.map V.str))) (h2_:Ok b) (h3_:∀ r,Ok r->∀ p∈Fp r,Ok p.2) (h4_:∀ r,Ok r->(Fp r).length<=64)
  (h5_:∀ (r:List Str) (t':Addr) H' Q',aO H H'->Ok r->H' t'=some (.tup (r.map V.str))->aGw H' (Fp r) Q'->spD [.ref t'] H' Q' E)
  (h6_:(jW (fun r=>(Fp r).map (·.2)) 61 [b] 0).length<=60->∀ (d:Addr) (kvs:List (List Key×V)) H',aO H H'->H d=none->H' d=some (.dT kvs)->kvs.map (·.1)=(jW (fun r=>(Fp r).map (·.2)) 61 [b] 0).map (fun r=>r.map Sum.inr)->Q (.ref d) H')
  (h7_:60<(jW (fun r=>(Fp r).map (·.2)) 61 [b] 0).length->∀ H',aO H H'->E (.ref cT) none H')
inductive wG (cT:Addr) (df:Addr) (spD:Sp) (vs:List V) (H:Hp) (Q:VK) (E:XK):Prop
 | mk (t:Addr) (b:List Str) (Fp:List Str->List (Str×List Str)) (Ok:List Str->Prop) (h0_:vs=[.ref t,.ref df,.int 60]) (h1_:H t=some (.tup (b.map V.str))) (h2_:Ok b) (h3_:∀ r,Ok r->∀ p∈Fp r,Ok p.2) (h4_:∀ r,Ok r->(Fp r).length<=64)
  (h5_:∀ (r:List Str) (t':Addr) H' Q',aO H H'->Ok r->H' t'=some (.tup (r.map V.str))->aGw H' (Fp r) Q'->spD [.ref t'] H' Q' E)
  (h6_:(jW (fun r=>(Fp r).map (·.2)) 61 [b] 0).length<=60->∀ (l:Addr) (bs:List Addr) H',aO H H'->H l=none->H' l=some (.lst (bs.map V.ref))->fJ H' bs (jW (fun r=>(Fp r).map (·.2)) 61 [b] 0)->Q (.ref l) H')
  (h7_:60<(jW (fun r=>(Fp r).map (·.2)) 61 [b] 0).length->∀ H',aO H H'->E (.ref cT) none H')
structure RT (H H':Hp) (d R:Addr) (rs:List (List Str)) (n:Nat):Prop where
 ex:∃ (kvs:List (List Key×V)) (bs:List Addr),H' d=some (.dT kvs)∧kvs.map (·.1)=rs.map (fun r=>r.map Sum.inr)∧H' R=some (.lst (bs.map V.ref))∧fJ H' bs rs∧∀ kv∈kvs,∃ (l:Addr) (row:List Str),kv.2=.ref l∧H' l=some (.lst (row.map V.str))∧row.length<=n∧l≠R
 sm:aO H H'
 nd:H d=none
 nR:H R=none
theorem aBg:∀ {ss ts:List Str},ss.map (Sum.inr:Str->Key)=ts.map Sum.inr->ss=ts
 | [],[],_=>rfl
 | [],_::_,h=>by cases h
 | _::_,[],h=>by cases h
 | a::ss,b::ts,h=>by
  have h':=List.cons.inj h;rw[Sum.inr.inj h'.1,aBg h'.2]
theorem zP {kvs:List (List Key×V)}{rs:List (List Str)}(h:kvs.map (·.1)=rs.map (fun r=>r.map Sum.inr)) (r:List Str):(dF kvs (r.map Sum.inr)).isSome=decide (r∈rs):=by
 rw[← fX,Bool.eq_iff_iff,List.any_eq_true,decide_eq_true_iff];constructor
 ·rintro⟨x,hx,e⟩
  have:x.1∈kvs.map (·.1):=List.mem_map.mpr ⟨x,hx,rfl⟩
  rw[h,of_decide_eq_true e] at this;obtain⟨y,hy,ey⟩:=List.mem_map.mp this;rw[← aBg ey];exact hy
 ·intro hr
  have:r.map Sum.inr∈kvs.map (·.1):=by rw[h]; exact List.mem_map.mpr ⟨r,hr,rfl⟩
  obtain⟨x,hx,e⟩:=List.mem_map.mp this;exact⟨x,hx,decide_eq_true e⟩
theorem aIb {kvs:List (List Key×V)}{k:List Key}{v:V}(h:(dF kvs k).isSome=false):eB kvs k v=kvs++[(k,v)]:=by
 unfold eB;rw[fX,h];rfl
theorem vM (r:List Str):(r.map Sum.inr).map kV=r.map V.str:=by rw[List.map_map]; rfl
theorem aHs {kvs:List (List Key×V)}{rs:List (List Str)}{Pv:V->Prop}(h:kvs.map (·.1)=rs.map (fun r=>r.map Sum.inr)) (h5:∀ kv∈kvs,Pv kv.2){r:List Str}(hr:r∈rs):∃ v,dF kvs (r.map Sum.inr)=some v∧Pv v:=by
 have e:=zP h r;rw[decide_eq_true hr] at e;obtain⟨v,hv⟩:=Option.isSome_iff_exists.mp e;refine⟨v,hv,?_⟩;unfold dF at hv;obtain⟨kv,hf,rfl⟩:=Option.map_eq_some_iff.mp hv;exact h5 kv (List.mem_of_find?_eq_some hf)
theorem yC:∀ {fs rs:List (List Str)}{r:List Str},r∈rs->r∈gF rs fs
 | [],_,_,h=>h
 | x::fs,rs,r,h=>yC (fs:=fs) (by
  by_cases q:x∈rs
  ·rw[if_pos q]; exact h
  ·rw[if_neg q]; exact List.mem_append_left _ h)
theorem aBo:∀ {fs rs:List (List Str)},rs.length<=(gF rs fs).length
 | [],_=>Nat.le_refl _
 | x::fs,rs=>Nat.le_trans (by
  by_cases q:x∈rs
  ·rw[if_pos q]; exact Nat.le_refl _
  ·rw[if_neg q,List.length_append]; omega) (aBo (fs:=fs))
theorem RT.same {H H' H2:Hp}{d R:Addr}{rs:List (List Str)}{n:Nat}(h:RT H H' d R rs n) (s:aO H' H2):RT H H2 d R rs n:=by
 obtain⟨⟨kvs,bs,e1,e2,e3,e4,e5⟩,sm,nd,nR⟩:=h;exact⟨⟨kvs,bs,s _ _ e1,e2,s _ _ e3,e4.same fun b xs e=>s _ _ e,fun kv hk=>let ⟨l,row,k1,k2,k3,k4⟩:=e5 kv hk; ⟨l,row,k1,s _ _ k2,k3,k4⟩⟩,sm.trans s,nd,nR⟩
theorem RT.more {H H':Hp}{d R:Addr}{rs:List (List Str)}{n m:Nat}(h:RT H H' d R rs n) (hm:n<=m):RT H H' d R rs m:=by
 obtain⟨⟨kvs,bs,e1,e2,e3,e4,e5⟩,sm,nd,nR⟩:=h;exact⟨⟨kvs,bs,e1,e2,e3,e4,fun kv hk=>let ⟨l,row,k1,k2,k3,k4⟩:=e5 kv hk; ⟨l,row,k1,k2,Nat.le_trans k3 hm,k4⟩⟩,sm,nd,nR⟩
section
variable {P:Program}{w:World}{K:PySem.W.Frag}{mg:Str->Option Value}{base:Heap}
abbrev NRT:List Str:=["begin","doors","most","rows","rooms","place","room","deed","far"]
theorem wJ:aR NRT ["begin","doors","most"] (aB lJ):=⟨rfl,rfl,rfl,by decide +kernel,rfl,by decide +kernel,by decide +kernel⟩
theorem aCn {f cT:Addr}{fd:FuncData}{kd:Nat}(F:Fun K "rows_to" "rows_to" lJ f fd) (T:Txt K mg) (mTM:mg "TooMany" = some (.ref cT)) (xTM:yG K cT) :
  sM P w K mg base (kd+1) f fd ["begin","doors","most"] (SpH P w K mg base kd (wC cT)):=by
 refine okS F wJ (fun o s vs H Q E h=>?_) (fun cdv A outer s H vs Q E hr h D=>?_)
 ·obtain⟨df,spD,_,t,b,Fp,Ok,rfl,_⟩:=h;rfl
 ·obtain⟨df,spD,hd,t,b,Fp,Ok,rfl,hT,hok,h3,h4,h5,q6,q7⟩:=h;have hu:=jS hr
  refine⟨_,aK (aW (i:=3) wJ.nd rfl (Or.inl rfl) (aFb (Nat.lt_of_succ_lt hu) (pv 0) (cM aJ)))
   (aK (aW (i:=4) wJ.nd rfl (Or.inl rfl) (cM (pac (pv 0) aJ)))
   (aK (aW (i:=5) wJ.nd rfl (Or.inl rfl) aN)
   (aK (wT PassesOwn.leaving (bX aFg (pv 5) (cH cK (by rfl) T.len Bo.len (pac (pv 4) aJ)) (cN _))
    (aK (aW (i:=6) wJ.nd rfl (Or.inl rfl) (dJ cS (pv 4) (pv 5) (fun _ _=>rfl)))
    (aK (eJ PassesOwn.leaving rfl (dC (aCg (i:=1) (sp:=spD) (E:=E) rfl (by rfl) (D.passes fun _ _ _ z=>z) hr (fun _ _ _ _ I=>hd.later (aKg I)) (pv 6))) (fE rfl (aY (aP (i:=7) wJ.nd rfl (Or.inl rfl)) (aY (aP (i:=8) wJ.nd rfl (Or.inl rfl)) dR)))
     (aL (dH (rG (tY hu (pv 8) (pv 3)))
      (aK (jL hu (pv 3) (pv 8) (aS eC (jM hu (pv 3) (pv 6) (fun _ _=>rfl)) (cM (pac (pv 7) aJ))) rfl)
      (aL (dB (kX PySem.F.plainAttrs_list PySem.F.slot_list_append PySem.F.type_list_append eO (pv 4) (pac (pv 8) aJ))))) cF)))
    (aK (dH (bX pX (cH cK (by rfl) T.len Bo.len (pac (pv 4) aJ)) (pv 2) (cN _)) (aL (iG D rfl (by rfl) mTM xTM (pac (wW aQ (aIf (pv 2)) aQ) aJ))) cF)
    (aL (aW (i:=5) wJ.nd rfl (Or.inl rfl) (aS dM (pv 5) aN)))))))
   (aL (bO (pv 3)))))),?_⟩
  intro d hd0;refine⟨_,rfl,by show 0<=sizeLine; decide,fun l0 hl0=>?_⟩;have dl0:d≠l0:=fun z=>by rw[← z,aD] at hl0; cases hl0
  have k1:aO H (upd (upd H d (.dT [])) l0 (.lst [])):=(smu hd0).trans (smu hl0);have nl0:H l0=none:=(smu hd0).free hl0;have ed:(upd (upd H d (.dT [])) l0 (.lst [])) d=some (.dT []):=by rw[aI dl0,aD]
  have el:(upd (upd H d (.dT [])) l0 (.lst [])) l0=some (.lst []):=aD;generalize upd (upd H d (.dT [])) l0 (.lst [])=H1 at k1 ed el ⊢;refine⟨ed,t,b.map Sum.inr,rfl,by rw[vM]; exact k1 _ _ hT,?_⟩;have k2:aO H (upd H1 d (.dT [(b.map Sum.inr,.ref l0)])):=fun c o e=>by rw[aI (aF e hd0)]; exact k1 _ _ e
  have ed2:(upd H1 d (.dT [(b.map Sum.inr,.ref l0)])) d=some (.dT [(b.map Sum.inr,.ref l0)]):=aD;have el2:(upd H1 d (.dT [(b.map Sum.inr,.ref l0)])) l0=some (.lst []):=by rw[aI (Ne.symm dl0)]; exact el
  generalize upd H1 d (.dT [(b.map Sum.inr,.ref l0)])=H2 at k2 ed2 el2 ⊢;refine⟨_,rfl,by show 1<=sizeLine; decide,fun R hR=>?_⟩;have k3:aO H2 (upd H2 R (.lst [.ref t])):=smu hR;have eR:(upd H2 R (.lst [.ref t])) R=some (.lst ([t].map V.ref)):=aD;have nR:H R=none:=k2.free hR;have lR:l0≠R:=fun z=>by rw[z,hR] at el2; cases el2
  generalize upd H2 R (.lst [.ref t])=H3 at k3 eR ⊢;have rt0:RT H H3 d R [b] 0:=⟨⟨_,[t],k3 _ _ ed2,rfl,eR,.cons ((k2.trans k3) _ _ hT) .nil,fun kv hk=>⟨l0,[],by rw[List.mem_singleton.mp hk],k3 _ _ el2,Nat.le_refl _,lR⟩⟩,k2.trans k3,hd0,nR⟩;clear k1 ed el k2 ed2 el2 k3 eR hR hl0 nl0;generalize hF:(fun r=>(Fp r).map (·.2))=Fr at *;have hFr:∀ r,Fr r=(Fp r).map (·.2):=fun r=>by rw[← hF]
  clear hF
  refine⟨fun m σ H'=>∃ (i:Nat) (rs:List (List Str)) (x6 x7 x8:Option V),m=61-i∧σ=[some (.ref t),some (.ref df),some (.int 60),some (.ref d),some (.ref R),some (.int i),x6,x7,x8]∧RT H H' d R rs (64*i)∧i<=rs.length∧rs.length<=60∧(∀ r∈rs,Ok r)∧jW Fr 61 [b] 0=jW Fr (61-i) rs i,
   ⟨61,0,[b],none,none,none,rfl,rfl,rt0,Nat.zero_le _,(by show 1<=60; decide),fun r hr=>by rw[List.mem_singleton.mp hr]; exact hok,rfl⟩,?_⟩
  rintro m σ H' ⟨i,rs,x6,x7,x8,rfl,rfl,rt,hi,h60,hOk,hc⟩;obtain⟨⟨kvs,bs,e1,e2,e3,e4,e5⟩,sm,nd,_⟩:=id rt;have lbs:bs.length=rs.length:=Paired.length e4;refine⟨_,rfl,_,rfl,R,_,rfl,.inl (SqL.of e3),_,_,rfl,rfl,_,rfl,eQ (fun hlt=>?_) (fun hge=>?_)⟩
  rotate_left
  ·have hin:¬ i<rs.length:=fun z=>hge (decide_eq_true (by rw[List.length_map]; omega));rw[pP (fun z=>hin z.1)] at hc;rw[hc] at q6;exact⟨_,rfl,q6 h60 d kvs H' sm nd e1 e2⟩
  ·have hil:i<rs.length:=by have:=of_decide_eq_true hlt; rw[List.length_map] at this; omega
   have hb:=List.getElem?_eq_getElem (l:=bs) (i:=i) (by omega);generalize bs[i]'(by omega)=tr at hb;obtain⟨r,hrs,htr⟩:=e4.get hb;have hrm:r∈rs:=List.mem_of_getElem? hrs;have okr:=hOk r hrm;have hc':=hc.trans (aBn hrs h60);rw[hFr] at hc';have h4r:=h4 r okr;refine⟨_,fun _ _ h=>h,?_⟩;refine⟨_,rfl,_,rfl,R,_,_,.ref tr,rfl,rfl,SqL.of e3,gR (by rw[List.getElem?_map,hb]; rfl),?_⟩;refine⟨rfl,_,rfl,h5 r tr H' _ sm okr htr fun l H2 s2 n2 W=>?_⟩;obtain⟨ts,w0,w1,w2⟩:=W.ex;have ld:l≠d:=fun z=>by rw[z,e1] at n2; cases n2
   have lR:l≠R:=fun z=>by rw[z,e3] at n2; cases n2
   have d2:=s2 _ _ e1;have R2:=s2 _ _ e3;have t2:=s2 _ _ htr;refine⟨l,rfl,⟨_,SqL.of w0⟩,?_⟩;refine dN (xs:=ts.map V.ref) (fun j σ H3=>∃ x7 x8:Option V,σ=[some (.ref t),some (.ref df),some (.int 60),some (.ref d),some (.ref R),some (.int i),some (.ref tr),x7,x8]∧RT H H3 d R (gF rs (((Fp r).take j).map (·.2))) (64*i+j)∧∀ b o,H2 b=some o->b≠d->b≠R->H3 b=some o) ?_ ?_ ?_ ?_
   ·exact⟨_,_,rfl,rt.same s2,fun b o e _ _=>e⟩
   ·rintro j σ H3 _ ⟨x7,x8,rfl,rt3,a2⟩;exact SqL.of (a2 _ _ w0 ld lR)
   ·rintro j v σ H3 hv ⟨x7,x8,rfl,rt3,a2⟩;rw[List.getElem?_map] at hv;cases hy:ts[j]? with
    | none=>rw[hy] at hv; cases hv
    | some y=>
     rw[hy] at hv;cases hv;have hj:j<(Fp r).length:=by rw[← w1]; exact (List.getElem?_eq_some_iff.mp hy).1
     have hz:=List.getElem?_eq_getElem hj;generalize (Fp r)[j]=z at hz;obtain⟨u,w3,w4⟩:=w2 j y z hy hz;have w3':=a2 _ _ w3 (jC w3 d2 (fun z=>nomatch z)) (jC w3 R2 (fun z=>nomatch z));have w4':=a2 _ _ w4 (jC w4 d2 (fun z=>nomatch z)) (jC w4 R2 (fun z=>nomatch z));have t3:=a2 _ _ t2 (jC t2 d2 (fun z=>nomatch z)) (jC t2 R2 (fun z=>nomatch z));have etk:((Fp r).take (j+1)).map (·.2)=((Fp r).take j).map (·.2)++[z.2]:=by rw[List.take_succ,hz,List.map_append]; rfl
     have hr3:r∈gF rs (((Fp r).take j).map (·.2)):=yC hrm;have rlen:(gF rs (((Fp r).take j).map (·.2))).length<=200:=by have:=oH (rs:=rs) (fs:=((Fp r).take j).map (·.2)); rw[List.length_map,List.length_take] at this; omega
     rw[etk,pQ];generalize gF rs (((Fp r).take j).map (·.2))=rs3 at rt3 hr3 rlen;obtain⟨⟨kvs3,bs3,f1,f2,f3,f4,f5⟩,sm3,_,nR3⟩:=id rt3;have kl:kvs3.length=rs3.length:=by have:=congrArg List.length f2; rw[List.length_map,List.length_map] at this; exact this
     have bl:bs3.length=rs3.length:=Paired.length f4;refine⟨y,_,rfl,SqT.of w3',rfl,_,_,rfl,_,_,rfl,rfl,?_⟩;refine⟨_,rfl,_,rfl,d,_,rfl,fU.t (k:=z.2.map Sum.inr) f1 (by rw[vM]; exact w4'),_,rfl,?_⟩;rw[zP f2]
     by_cases hm:z.2∈rs3
     ·rw[decide_eq_true hm];refine hU ⟨_,_,rfl,?_,a2⟩;rw[if_pos hm];exact rt3.more (by omega)
     ·rw[decide_eq_false hm,if_neg hm];obtain⟨v,hv,lr,row,rfl,hrow,hle,hne⟩:=aHs (Pv:=fun v=>∃ (l:Addr) (row:List Str),v=.ref l∧H3 l=some (.lst (row.map V.str))∧row.length<=64*i+j∧l≠R) f2 f5 hr3;have g1:=fU.t (k:=r.map Sum.inr) f1 (b:=tr) (by rw[vM]; exact t3);rw[hv] at g1;refine jU ⟨_,rfl,_,rfl,d,_,rfl,g1,_,rfl,by show 1<=sizeLine; decide,fun l1 hl1=>⟨lr,l1,_,_,rfl,rfl,smu hl1 _ _ hrow,aD,kE (by rw[List.length_map]; simp only[List.length_cons,List.length_nil]; omega),fun l2 hl2=>?_⟩⟩;have s5:aO H3 (upd (upd H3 l1 (.lst [.str z.1])) l2 (.lst (row.map V.str++[.str z.1]))):=(smu hl1).trans (smu hl2);have e5l:(upd (upd H3 l1 (.lst [.str z.1])) l2 (.lst (row.map V.str++[.str z.1]))) l2=some (.lst ((row++[z.1]).map V.str)):=by rw[aD,List.map_append]; rfl
      have nl2:H3 l2=none:=(smu hl1).free hl2;generalize upd (upd H3 l1 (.lst [.str z.1])) l2 (.lst (row.map V.str++[.str z.1]))=H5 at s5 e5l ⊢;have l2d:l2≠d:=fun z=>by rw[z,f1] at nl2; cases nl2
      have l2R:l2≠R:=fun z=>by rw[z,f3] at nl2; cases nl2
      have Rd:R≠d:=jC f3 f1 (fun z=>nomatch z);refine⟨_,rfl,_,rfl,d,_,rfl,pU.t (k:=z.2.map Sum.inr) (s5 _ _ f1) (by rw[vM]; exact s5 _ _ w4') (aU (by omega)),?_⟩;rw[aIb (by rw[zP f2,decide_eq_false hm])];have h6R:(upd H5 d (.dT (kvs3++[(z.2.map Sum.inr,.ref l2)]))) R=some (.lst (bs3.map V.ref)):=by rw[aI Rd]; exact s5 _ _ f3
      refine⟨_,rfl,.inl ⟨rfl,_,SqL.of h6R⟩,_,rfl,R,_,_,rfl,rfl,h6R,aU (by rw[List.length_map]; omega),?_⟩;have k7:∀ b o,H5 b=some o->b≠d->b≠R->(upd (upd H5 d (.dT (kvs3++[(z.2.map Sum.inr,.ref l2)]))) R (.lst (bs3.map V.ref++[.ref u]))) b=some o:=fun b o e n1 n2=>by rw[aI n2,aI n1]; exact e
      have d7:(upd (upd H5 d (.dT (kvs3++[(z.2.map Sum.inr,.ref l2)]))) R (.lst (bs3.map V.ref++[.ref u]))) d=some (.dT (kvs3++[(z.2.map Sum.inr,.ref l2)])):=by rw[aI (Ne.symm Rd),aD]
      have R7:(upd (upd H5 d (.dT (kvs3++[(z.2.map Sum.inr,.ref l2)]))) R (.lst (bs3.map V.ref++[.ref u]))) R=some (.lst ((bs3++[u]).map V.ref)):=by rw[aD,List.map_append]; rfl
      generalize upd (upd H5 d (.dT (kvs3++[(z.2.map Sum.inr,.ref l2)]))) R (.lst (bs3.map V.ref++[.ref u]))=H7 at k7 d7 R7 ⊢;have tk:∀ b xs,H3 b=some (.tup xs)->H7 b=some (.tup xs):=fun b xs e=>k7 _ _ (s5 _ _ e) (jC e f1 (fun z=>nomatch z)) (jC e f3 (fun z=>nomatch z));refine⟨_,_,rfl,⟨⟨_,bs3++[u],d7,by rw[List.map_append,List.map_append,f2]; rfl,R7,fJ.snoc (f4.same tk) (tk _ _ w4'),fun kv hk=>?_⟩,fun b o e=>k7 _ _ (s5 _ _ (sm3 _ _ e)) (aF e nd) (aF e nR3),nd,nR3⟩,fun b o e n1 n2=>k7 _ _ (s5 _ _ (a2 _ _ e n1 n2)) n1 n2⟩;rcases List.mem_append.mp hk with hk | hk
      ·obtain⟨l',row',q1,q2,q3,q4⟩:=f5 kv hk;exact⟨l',row',q1,k7 _ _ (s5 _ _ q2) (jC q2 f1 (fun z=>nomatch z)) q4,by omega,q4⟩
      ·rw[List.mem_singleton.mp hk];exact⟨l2,row++[z.1],rfl,k7 _ _ e5l l2d l2R,by rw[List.length_append,List.length_singleton]; omega,l2R⟩
   ·rintro σ H3 ⟨x7,x8,rfl,rt3,a2⟩;rw[List.length_map,w1,List.take_length] at rt3;generalize hrs3:gF rs ((Fp r).map (·.2))=rs3 at rt3 hc';have rt4:RT H H3 d R rs3 (64*(i+1)):=rt3.more (by omega);obtain⟨⟨kvs3,bs3,f1,f2,f3,f4,f5⟩,sm3,_,nR3⟩:=id rt3;have bl:bs3.length=rs3.length:=Paired.length f4;refine⟨_,rfl,R,_,rfl,.inl (SqL.of f3),_,rfl,_,_,rfl,rfl,_,rfl,eQ (fun hgt=>?_) (fun hle=>?_)⟩
    ·have hgt':60<rs3.length:=by have:=of_decide_eq_true hgt; rw[List.length_map] at this; omega
     have hc2:jW Fr 61 [b] 0=rs3:=by rw[hc']; exact pP (fun z=>absurd z.2 (by omega))
     rw[hc2] at q7;exact⟨_,rfl,by decide +kernel,_,rfl,60,rfl,by decide +kernel,_,rfl,by decide +kernel,_,rfl,by decide +kernel,by decide +kernel,by show 1<=sizeLine; decide,q7 hgt' H3 sm3⟩
    ·have hle':rs3.length<=60:=Nat.le_of_not_lt fun z=>hle (decide_eq_true (by rw[List.length_map]; omega));refine⟨_,rfl,_,_,rfl,rfl,?_⟩;refine⟨61-(i+1),by omega,i+1,rs3,_,_,_,rfl,rfl,rt4,?_,hle',fun r' hr'=>?_,hc'⟩
     ·have:rs.length<=rs3.length:=by rw[← hrs3]; exact aBo
      omega
     ·rw[← hrs3] at hr';rcases sH hr' with h | h
      ·exact hOk r' h
      ·obtain⟨p,hp,rfl⟩:=List.mem_map.mp h;exact h3 r okr p hp
end
end K22
namespace K22
open PySem L2 Ky
seal L2.PE L2.PS L2.PSs L2.PA L2.PT L2.PW L2.PG L2.PI L2.PTs L2.PO L2.PPs L2.OpR L2.IxR L2.CallR L2.MtM L2.MtR
unseal L2.MtM L2.MtR
def off (H:Hp) (P:Addr):Hp:=fun b=>if b=P then none else H b
theorem dZ {H:Hp}{P b:Addr}{o:HO}(e:off H P b=some o):b≠P∧H b=some o:=by
 unfold off at e
 by_cases q:b=P
 ·rw[if_pos q] at e; cases e
 ·rw[if_neg q] at e; exact⟨q,e⟩
theorem fZ {H:Hp}{P b:Addr}{o:HO}(n:b≠P) (e:H b=some o):off H P b=some o:=by
 unfold off;rw[if_neg n];exact e
theorem aFq {H H':Hp}{P:Addr}(s:aO H H'):aO (off H P) (off H' P):=fun _ _ e=>let ⟨n,e'⟩:=dZ e; fZ n (s _ _ e')
theorem aIr {H H':Hp}{P:Addr}(sm:aO (off H P) H'):aO (off H P) (off H' P):=fun _ _ e=>fZ (dZ e).1 (sm _ _ e)
theorem xD {H:Hp}{P:Addr}:aO (off H P) H:=fun _ _ z=>(dZ z).2
def Pl:HO->Prop
 | .tbl _=>False
 | .dT _=>False
 | _=>True
def NTb (H H':Hp):Prop:=∀ b o,H b=some o->Pl o->H' b=some o
section
variable {K:PySem.W.Frag}{H H':Hp}
theorem ntD {d:Addr}{ds:List Dr}(s:NTb H H') (h:cQ H d ds):cQ H' d ds:=by
 obtain⟨ts,h1,h2,h3⟩:=h.ex;exact⟨ts,s _ _ h1 trivial,h2,fun i t x a b=>s _ _ (h3 i t x a b) trivial⟩
theorem ntP {p:Addr}{l:List MR}(s:NTb H H') (h:PlA H p l):PlA H' p l:=by
 obtain⟨ts,h0,h1,h2⟩:=h.ex;refine⟨ts,s _ _ h0 trivial,h1,fun i t x a b=>?_⟩;obtain⟨e,d,m,r0,r1,r2,r3⟩:=h2 i t x a b;exact⟨e,d,m,s _ _ r0 trivial,s _ _ r1 trivial,ntD s r2,s _ _ r3 trivial⟩
theorem ntW {C p:Addr}{kvs:List (Key×V)}(s:NTb H H') (h:WAt C H p kvs):WAt C H' p kvs:=by
 obtain⟨dx,fs,dw,o,h0,h1,h2,h3⟩:=h;exact⟨dx,fs,dw,o,s _ _ h0 trivial,h1,h2,s _ _ h3 trivial⟩
theorem ntM {CM x dd:Addr}{b:Str}{es kn:List Str}{ds:List Dr}(s:NTb H H') (h:MM CM H x dd b es kn ds):MM CM H' x dd b es kn ds:=by
 obtain⟨dx,l,e,k,kvs,g,M⟩:=h;exact⟨dx,l,e,k,kvs,g,⟨s _ _ M.ins trivial,⟨s _ _ M.lead.dk trivial,M.lead.keys,M.lead.val,fun z hz=>s _ _ (M.lead.dd z hz) trivial,M.lead.inj,M.lead.ne⟩,s _ _ M.ends trivial,s _ _ M.know trivial⟩⟩
theorem aQb {CM x p:Addr}{ms:List MW}(s:NTb H H') (h:lC CM H x p ms):lC CM H' x p ms:=by
 obtain⟨Xs,a0,a1,a2⟩:=h.ex;exact⟨Xs,s _ _ a0 trivial,a1,fun i X m a b=>ntM s (a2 i X m a b)⟩
theorem ntV {CM CW v x:Addr}{ms:List MW}(s:NTb H H') (W:Wv CM CW H v x ms):Wv CM CW H' v x ms:=by
 obtain⟨dv,lm,lk,kn,h1,h2,h3,h4⟩:=W;exact⟨dv,lm,lk,kn,s _ _ h1 trivial,aQb s h2,s _ _ h3 trivial,h4⟩
theorem ntT {bs:List Addr}{rs:List (List Str)}(s:NTb H H') (h:fJ H bs rs):fJ H' bs rs:=h.same fun _ _ e=>s _ _ e trivial
end
def Tab (pos:Pos) (q:Str) (P:Addr) (H:Hp):Prop:=H P=some (.tbl #[])∨∃ c',H P=some (.tbl #[rawInt pos.line,rawInt pos.col,.ref c'])∧H c'=some (.ext (dW c' q))
section
variable {pos:Pos}{q:Str}{P:Addr}{H H':Hp}
theorem Tab.same (T:Tab pos q P H) (s:aO H H'):Tab pos q P H':=T.elim (fun h=>.inl (s _ _ h)) fun ⟨c',h1,h2⟩=>.inr ⟨c',s _ _ h1,s _ _ h2⟩
theorem Tab.tb (T:Tab pos q P H):∃ ps,H P=some (.tbl ps):=T.elim (fun h=>⟨_,h⟩) fun ⟨_,h,_⟩=>⟨_,h⟩
theorem Tab.others {P':Addr}(T:Tab pos q P H) (n:P≠P') (t:∃ ps,H P'=some (.tbl ps)) (s:aO (off H P') H'):Tab pos q P H':=T.elim (fun h=>.inl (s _ _ (fZ n h))) fun ⟨c',h1,h2⟩=>.inr ⟨c',s _ _ (fZ n h1),s _ _ (fZ (fun z=>by obtain⟨ps,e⟩:=t; rw[z,e] at h2; cases h2) h2)⟩
theorem aEy {d:Addr}{u:HO}(h:H d=some u) (hu:¬ Pl u){b:Addr}{o:HO}(e:H b=some o) (n:Pl o):b≠d:=fun z=>by
 rw[z,h] at e;cases e;exact hu n
theorem uC (t:∃ ps,H P=some (.tbl ps)) (s:aO (off H P) H'):NTb H H':=fun b o e n=>s _ _ (fZ (let ⟨_,h⟩:=t; aEy h (fun z=>z) e n) e)
theorem aFr (T:Tab pos q P H') (s:aO (off H P) H'){l:Addr}(h:H' l=none):H l=none:=by
 cases e:H l with
 | none=>rfl
 | some o=>
  by_cases n:l=P
  ·obtain⟨ps,t⟩:=T.tb;rw[n,t] at h; cases h
  ·rw[s _ _ (fZ n e)] at h; cases h
theorem Tab.made {c':Addr}{H1:Hp}(hc:H c'=none) (hn:c'≠P) (e:H1=upd (upd H P (.tbl (#[]++#[rawInt pos.line,rawInt pos.col,.ref c']))) c' (.ext (dW c' q))):aO (K22.off H P) H1∧Tab pos q P H1∧H1 c'=some (.ext (dW c' q)):=by
 refine⟨fun b o z=>?_,.inr ⟨c',?_,?_⟩,?_⟩
 ·obtain⟨z1,z2⟩:=dZ z;rw[e,aI (aF z2 hc),aI z1];exact z2
 ·rw[e,aI (Ne.symm hn),aD]
  first | done | rfl
 ·rw[e,aD]
 ·rw[e,aD]
theorem Tab.hand {R:Addr->Hp->Prop}(T:Tab pos q P H) (h:∀ c' H1,aO (K22.off H P) H1->Tab pos q P H1->H1 c'=some (.ext (dW c' q))->R c' H1) (hca:∀ c',codeAmong pos [rawInt pos.line,rawInt pos.col,.ref c']=some (.ref c'):=by intro; rfl):aHa P pos q R H:=by
 rcases id T with hP | ⟨c',hP,hc⟩
 ·exact .made #[] hP trivial rfl fun c' H1 hc hn e=>let ⟨a,b,c⟩:=Tab.made hc hn e; h c' H1 a b c
 ·exact .hit _ c' hP ⟨⟩ (hca c') hc (h c' H xD T hc)
theorem Tab.tried {word:Addr->Option Str}{js:List Nat}{te:XK->TE}{σ:St}{Q:VK}(T:Tab pos q P H) (h:∀ H1,aO (K22.off H P) H1->Tab pos q P H1->te (iH word Q) (cB 0 js σ) H1 (fun _ H2=>Q (.str "") H2)) (hca:∀ c',codeAmong pos [rawInt pos.line,rawInt pos.col,.ref c']=some (.ref c'):=by intro; rfl):aAk P pos q word js te σ H Q:=by
 rcases id T with hP | ⟨c',hP,hc⟩
 ·exact .made ⟨#[],hP,trivial,rfl,fun c' H1 hc hn e=>let ⟨a,b,c⟩:=Tab.made hc hn e; h H1 a b⟩
 ·exact .hit ⟨_,c',hP,⟨⟩,hca c',hc,h H xD T⟩
end
theorem ROk.far {ms:List MW}{room r':List Str}{z:Str}(hN:∀ m∈ms,m.rs.all aZ=true) (R:ROk ms room) (h:wto ms room z=some r'):ROk ms r':=by
 unfold wto at h
 by_cases q:z∈wkn ms
 ·rw[if_pos q] at h;unfold yI at h
  by_cases a:(parts ms room z).any (fun o=>o.isNone)=true
  ·rw[if_pos a] at h; cases h
  ·rw[if_neg a] at h;cases h;refine⟨by rw[List.length_map]; unfold parts; rw[List.length_zipWith,← R.len,Nat.min_self],fun i m u hm hu=>?_⟩;have hi:i<ms.length:=(List.getElem?_eq_some_iff.mp hm).1;have hz0:=List.getElem?_eq_getElem (l:=room) (i:=i) (by rw[← R.len]; exact hi);generalize room[i]'(by rw[← R.len]; exact hi)=z0 at hz0;rw[List.getElem?_map,rO hm hz0] at hu;cases g:lU m.ds m.kn z0 z with
   | none=>exact absurd (List.any_eq_true.mpr ⟨none,List.mem_of_getElem? (by rw[rO hm hz0,g]),rfl⟩) a
   | some u'=>
    rw[g] at hu;cases hu;have hmem:u'∈m.rs:=aGh (R.mem i m z0 hm hz0).2 g;exact⟨List.all_eq_true.mp (hN m (List.mem_of_getElem? hm)) _ hmem,hmem⟩
 ·rw[if_neg q] at h; cases h
theorem ROk.begin {ms:List MW}(hN:∀ m∈ms,m.rs.all aZ=true):ROk ms (ms.map (·.b)):=by
 refine⟨by rw[List.length_map],fun i m z hm hz=>?_⟩;rw[List.getElem?_map,hm] at hz;cases hz
 have:m.b∈m.rs:=List.mem_append_left _ (List.mem_cons_self ..)
 exact⟨List.all_eq_true.mp (hN m (List.mem_of_getElem? hm)) _ this,this⟩
abbrev qD:Pos:=⟨251,37,251,65⟩
abbrev qC:Str:="Woven.rooms.<locals>."++"<lambda>"
abbrev oB (ms:List MW) (S:List Str):List (List Str):=jW (fun r=>S.filterMap (wto ms r)) 61 [ms.map (·.b)] 0
inductive qW (C CM CW cT Pr:Addr) (vs:List V) (H:Hp) (Q:VK) (E:XK):Prop
 | mk (v x:Addr) (ms:List MW) (S:List Str) (wk:List (Key×V)) (h0_:vs=[.ref v]) (h1_:Wv CM CW H v x ms) (h2_:1<=ms.length∧ms.length<=100) (h3_:∀ m∈ms,m.rs.all aZ=true) (h4_:WAt C H x wk) (h5_:∀ z∈wkn ms,z∈S) (h6_:S.length<64) (h7_:∀ z∈S,eA wk (.str z)=true)
  (h8_:PyProof.Rows.sortedS S=true) (h9_:S.Nodup) (h10_:Tab qD qC Pr H)
  (h11_:(oB ms S).length<=60->∀ (l:Addr) (bs:List Addr) H',aO (off H Pr) H'->H l=none->Tab qD qC Pr H'->H' l=some (.lst (bs.map V.ref))->fJ H' bs (oB ms S)->Q (.ref l) H')
  (h12_:60<(oB ms S).length->∀ H',aO (off H Pr) H'->Tab qD qC Pr H'->E (.ref cT) none H')
section
variable {P:Program}{w:World}{K:PySem.W.Frag}{mg:Str->Option Value}{base:Heap}
abbrev NCT:List Str:=["begin","doors","most"]
theorem aPr:aR NCT NCT (aB lN):=⟨rfl,rfl,rfl,by decide +kernel,rfl,by decide +kernel,by decide +kernel⟩
theorem aCs {f fR cT:Addr}{fd fdR:FuncData}{kd:Nat}(F:Fun K "come_to" "come_to" lN f fd) (T:Txt K mg)
  (GR:sM P w K mg base (kd+1) fR fdR NCT (SpH P w K mg base kd (wC cT))) (kR:PySem.W.keepIn K (.ref fR)=true) (bR:aX K fdR NCT []) (mR:mg "rows_to"=some (.ref fR)) :
  sM P w K mg base (kd+2) f fd NCT (SpH P w K mg base kd (wG cT)):=by
 refine okS F aPr (fun o s vs H Q E h=>?_) (fun cdv A outer s H vs Q E hr h D=>?_)
 ·obtain⟨df,spD,_,t,b,Fp,Ok,rfl,_⟩:=h;rfl
 ·obtain⟨df,spD,hd,t,b,Fp,Ok,rfl,hT,hok,h3,h4,h5,q6,q7⟩:=h
  exact⟨_,aL (bO (eN (aAb rfl) (by rfl) T.list Bo.list (pac (aFc (spD:=spD) (E:=E) GR hr rfl mR kR bR (D.passes fun _ _ _ z=>z) (fun _ _ _ _ I=>hd.later (aKg I)) (pac (pv 0) (pac (pv 1) (pac (pv 2) aJ)))) aJ))),
   _,rfl,_,rfl,_,rfl,t,b,Fp,Ok,rfl,hT,hok,h3,h4,h5,fun hc d kvs H' s n e ek=>⟨d,kvs,_,rfl,e,ek,fun p bs hp tp=>q6 hc p bs _ (s.trans (smu hp)) (s.free hp) aD (tp.same fun b xs e=>smu hp _ _ e)⟩,q7⟩
theorem aPg:aR ["self"] ["self"] (aB gH):=⟨rfl,rfl,rfl,by decide +kernel,rfl,by decide +kernel,by decide +kernel⟩
theorem aCj {f fB fWy fCT C CM CW cT c2 Pr:Addr}{fdB fdWy fdCT:FuncData}{oc kV doc pm ct:Value}{an od:Option Addr}{osl:Array (Option Value)}
  (lk:K.lookup f=some ⟨oc,od,.func (PySem.W.fnOf "rooms" "Woven.rooms" (aH gH) (aG gH) (aB gH) .none kV doc pm an (.ref c2) ct),osl⟩) (hcd:PySem.W.codeIn K (.ref c2) "Woven.rooms" = true) (hhd:PySem.W.codeHdIn K c2 Pr=true) (bm:iV mg base)
  (WC:sJ K CW) (mMR:∃ t,mg "MOST_ROOMS"=some (.int 60 t))
  (GB:bE P w K mg base CX0 3 fB fdB ["self"] (qX CM CW)) (bB:aX K fdB ["self"] []) (mB:eZ K CW "begin" fB)
  (GWy:bE P w K mg base CX0 6 fWy fdWy ["self","room"] (uY K C CM CW)) (bWy:aX K fdWy ["self","room"] []) (mWy:eZ K CW "ways" fWy)
  (GCT:sM P w K mg base 9 fCT fdCT NCT (SpH P w K mg base 7 (wG cT))) (kCT:PySem.W.keepIn K (.ref fCT)=true) (bCT:aX K fdCT NCT []) (mCT:mg "come_to"=some (.ref fCT)) :
  bE P w K mg base (CXE P w) 10 f (PySem.W.fnOf "rooms" "Woven.rooms" (aH gH) (aG gH) (aB gH) .none kV doc pm an (.ref c2) ct) ["self"] (qW C CM CW cT Pr):=by
 obtain⟨tm,mMR⟩:=mMR;refine uK lk hcd aPg (fun vs H Q E h=>?_) (fun A outer s H vs Q E hr h=>?_)
 ·obtain⟨v,x,ms,S,wk,rfl,_⟩:=h;rfl
 ·obtain⟨v,x,ms,S,wk,rfl,W,hl,hN,hW,hkS,h64,hg,so,nd,TB,q1,q2⟩:=h;have D:(gB (CXE P w) P w K mg base ["self"] "Woven.rooms" (aB gH) f (.ref c2) A outer s H E).Body E:=qQ;have hr3:cL 3 _:=hr.mono (by decide)
  refine⟨_,aL (bO (aIe (kd:=6) (P:=Pr) (v3:=.int 60) (NL:=["self"]) (js:=[0]) (te:=fun Ew=>aAl CW "ways" (uY K C CM CW) [] Ew (yK 1) (vZ (yK 0) yM)) GCT hr rfl mCT kCT bCT (D.passes fun _ _ _ z=>z) (fun _=>rfl) rfl hhd bm
   ⟨rfl,rfl,rfl,by decide +kernel,rfl,by decide +kernel⟩ (cJ (aB gH) ["self"] rfl rfl (by decide +kernel)) rfl (fun _ _ _ _ _=>rfl)
   (fun Ew A outer f c' cl s' H' hr=>hG (E:=Ew) (pv 1) WC.cl mWy GWy hr bWy .nil cC (pac (pv 0) aJ)) (eK (pv 0) WC.cl mB GB hr3 bB .nil cC) (by rfl) mMR ⟨_,rfl⟩)),?_⟩
  obtain⟨dv,lm,lk',kn,hi,M,hk,hkn⟩:=id W;refine⟨_,rfl,v,dv,_,rfl,hi,dI _ _ _ (by decide),v,x,ms,rfl,W,hl.2,fun l H1 s1 n1 e1=>?_⟩;have T1:=TB.same s1;refine T1.hand fun c' H2 s2 T2 hc f'=>?_;have nt:=uC T1.tb s2;have sO:aO (off H Pr) H2:=(aFq s1).trans s2;have eF:(fun r=>(gU ms (aAc ms S r) r).map (·.2))=fun r=>S.filterMap (wto ms r):=funext fun r=>aBj S;have W2:=ntV nt (W.same s1);have hW2:=ntW nt (gX hW s1);refine⟨l,ms.map (·.b),fun r=>gU ms (aAc ms S r) r,ROk ms,rfl,nt _ _ e1 trivial,ROk.begin hN,fun r hr p hp=>?_,fun r _=>?_,fun r t' H' Q' s' ok ht hw=>⟨_,rfl,s' _ _ hc,?_⟩,?_,?_⟩
  ·obtain⟨z,hz,rfl⟩:=List.mem_map.mp hp;have hs:=(List.mem_filter.mp hz).2;obtain⟨r',er⟩:=Option.isSome_iff_exists.mp hs;show ROk ms ((wto ms r z).getD []);rw[er];exact hr.far hN er
  ·unfold gU aAc;rw[List.length_map];exact Nat.le_trans (List.length_filter_le ..) (Nat.le_of_lt h64)
  ·have W3:=W2.same s';obtain⟨dv3,lm3,lk3,kn3,hi3,_⟩:=id W3;exact⟨_,rfl,v,dv3,_,rfl,hi3,dI _ _ _ (by decide),_,rfl,v,x,t',ms,r,S,wk,rfl,W3,ht,ok,hl,gX hW2 s',hkS,h64,hg,so,nd,hw⟩
  ·rw[eF];exact fun hle l2 bs H' s' n' e' tp=>q1 hle l2 bs H' (sO.trans s') (aFr T2 sO n') (T2.same s') e' tp
  ·rw[eF];exact fun hgt H' s'=>q2 hgt H' (sO.trans s') (T2.same s')
end
end K22
namespace K22
open PySem L2 Ky
seal L2.PE L2.PS L2.PSs L2.PA L2.PT L2.PW L2.PG L2.PI L2.PTs L2.PO L2.PPs L2.OpR L2.IxR L2.CallR L2.MtM L2.MtR
unseal L2.MtM L2.MtR
theorem aFy (b:Str) (e g k:Addr):dF (mpD b e g k) (Sum.inr "begin")=some (.str b):=by rfl
theorem aMe {H:Hp}{q e g k:Addr}{b:Str}(h:H q=some (.dK (mpD b e g k))):fU H q (.str "begin") (some (.str b)):=by
 have:=fU.k (k:=Sum.inr "begin") h
 rw[aFy] at this;exact this
theorem aHg {ms:List MW}{room r':List Str}{z:Str}(hl:ms.length=room.length) (h:wto ms room z=some r'):ms.length=r'.length:=by
 unfold wto at h
 by_cases q:z∈wkn ms
 ·rw[if_pos q] at h;unfold yI at h
  by_cases a:(parts ms room z).any (fun o=>o.isNone)=true
  ·rw[if_pos a] at h; cases h
  ·rw[if_neg a] at h;cases h;rw[List.length_map];unfold parts;rw[List.length_zipWith,← hl,Nat.min_self]
 ·rw[if_neg q] at h; cases h
theorem vU:∀ {fs rs:List (List Str)}{i:Nat},i<rs.length->(gF rs fs)[i]?=rs[i]?
 | [],_,_,_=>rfl
 | x::fs,rs,i,h=>by
  by_cases q:x∈rs
  ·show (gF (if x∈rs then rs else rs++[x]) fs)[i]?=_
   rw[if_pos q];exact vU h
  ·show (gF (if x∈rs then rs else rs++[x]) fs)[i]?=_
   rw[if_neg q,vU (by rw[List.length_append]; omega),List.getElem?_append_left h]
theorem aGv {rs fs:List (List Str)}{o:Option (List Str)}:gF rs (fs++o.toList)=match o with
  | none=>gF rs fs
  | some r'=>if r'∈gF rs fs then gF rs fs else gF rs fs++[r']:=by
 cases o with
 | none=>rw[Option.toList_none,List.append_nil]
 | some r'=>exact pQ
theorem aJg {α β:Type}{f:α->Option β}{l:List α}{j:Nat}{z:α}(h:l[j]?=some z):(l.take (j+1)).filterMap f=(l.take j).filterMap f++(f z).toList:=by
 rw[List.take_succ,h,List.filterMap_append];cases e:f z <;> simp[e]
inductive aEq (K:PySem.W.Frag) (vs:List V) (H:Hp) (Q:VK) (E:XK):Prop
 | mk (D n:Addr) (ms:List MW) (ss S:List Str) (h0_:vs=[.ref D,.ref n,.int 60]) (h1_:iX H D ms) (h2_:H n=some (.lst (ss.map V.str))) (h3_:ss.length<64) (h4_:ms.length<=10) (h5_:S.Perm ss) (h6_:PyProof.Rows.sortedS S=true)
  (h7_:∀ (l:Addr) (bs:List Addr) H',aO H H'->H l=none->H' l=some (.lst (bs.map V.ref))->fJ H' bs (oB ms S)->(oB ms S).length<=200->Q (.ref l) H')
section
variable {P:Program}{w:World}{K:PySem.W.Frag}{mg:Str->Option Value}{base:Heap}
abbrev NCo:List Str:=["_law_maps_here","_law_names","_law_most","_law_rooms","_law_at","_law_deed","_law_other"]
theorem aBy:aR NCo ["_law_maps_here","_law_names","_law_most"] (aB rC):=⟨rfl,rfl,rfl,by decide +kernel,rfl,by decide +kernel,by decide +kernel⟩
abbrev ndO:List Str:=["_law_one"]
theorem aIp {f fS:Addr}{fd fdS:FuncData}(F:Fun K "_law_come" "_law_come" rC f fd) (T:Txt K mg) (mTu:mg "tuple" = none)
  (GS:bE P w K mg base CX0 1 fS fdS ["_law_maps_here","_law_room","_law_deed"] (aEk K)) (kS:PySem.W.keepIn K (.ref fS)=true) (bS:aX K fdS ["_law_maps_here","_law_room","_law_deed"] []) (mS:mg "_law_step" = some (.ref fS)) :
  bE P w K mg base CX0 2 f fd ["_law_maps_here","_law_names","_law_most"] (aEq K):=by
 refine F.ok aBy (fun vs H Q E h=>?_) (fun cdv A outer s H vs Q E hr h=>?_)
 ·obtain⟨D,n,ms,ss,S,rfl,_⟩:=h;rfl
 ·obtain⟨D,n,ms,ss,S,rfl,M,hn,h64,hl,pm,so,q⟩:=h;have hu:=jS hr
  refine⟨_,aK (aW (i:=3) aBy.nd rfl (Or.inl rfl) (cM (pac (eN gQ (by rfl) mTu Bo.tuple (pac (eL (N':=ndO) (nown:=1) (js:=[]) rfl
     ⟨rfl,by decide +kernel,by decide +kernel⟩ (cJ (aB rC) NCo rfl rfl (by decide +kernel))
     ⟨fun _ _ _ _=>aP (i:=0) (show List.Nodup ndO by decide +kernel) rfl (Or.inl rfl) (.inr rfl),fun _ _ _ _=>eE,fun _ _ _ _=>jM hu (pv 0) aQ (fun _ _=>rfl)⟩
     (dC (pv 0))) aJ)) aJ)))
   (aK (aW (i:=4) aBy.nd rfl (Or.inl rfl) aN)
   (aK (wT PassesOwn.never (yX (bX aFg (pv 4) (cH cK (by rfl) T.len Bo.len (pac (pv 3) aJ)) (cN _)) (vE (bX aNl (cH cK (by rfl) T.len Bo.len (pac (pv 3) aJ)) (pv 2) (cN _)))).pt
    (aK (eJ PassesOwn.never rfl (dC (cH oC (by rfl) T.sorted Bo.sorted (pac (pv 1) aJ))) (aP (i:=5) aBy.nd rfl (Or.inl rfl))
     (aK (aW (i:=6) aBy.nd rfl (Or.inl rfl) (bU GS hr (by rfl) mS kS bS .nil cC (pac (pv 0) (pac (dJ cS (pv 3) (pv 4) (fun _ _=>rfl)) (pac (pv 5) aJ)))))
     (aL (dH (yX (bX vI (pv 6) iW (cN _)) (vE (bX (aCi hu) (pv 6) (pv 3) (by with_unfolding_all rfl)))).pt (aL (dB (kX PySem.F.plainAttrs_list PySem.F.slot_list_append PySem.F.type_list_append eO (pv 3) (pac (pv 6) aJ)))) cF))))
    (aL (aW (i:=4) aBy.nd rfl (Or.inl rfl) (aS dM (pv 4) aN)))))
   (aL (bO (pv 3))))),?_⟩
  obtain⟨qs,q0,q1,q2⟩:=M.ex;refine⟨_,rfl,D,rfl,⟨_,SqL.of q0⟩,fun D1 hD1=>iJ (xs:=qs.map V.ref) (fun i σ' H'=>∃ u,σ'=[u]∧H' D1=some (.lst (((ms.take i).map (·.b)).map V.str))∧aO H H') ?_ ?_ ?_ ?_⟩
  ·exact⟨none,rfl,aD,smu hD1⟩
  ·rintro i σ' H' _ ⟨u,rfl,a1,a2⟩;exact SqL.of (a2 _ _ q0)
  ·rintro i u σ' H' hv ⟨u0,rfl,a1,a2⟩;rw[List.getElem?_map] at hv;cases hq:qs[i]? with
   | none=>rw[hq] at hv; cases hv
   | some q'=>
    rw[hq] at hv;cases hv;have hi:i<ms.length:=by rw[← q1]; exact (List.getElem?_eq_some_iff.mp hq).1
    have hm':=List.getElem?_eq_getElem hi;generalize ms[i]=mw at hm';obtain⟨e,g,kk,kvs,m0,m1,m2,m3,m4,m5,m6⟩:=q2 i q' mw hq hm';refine⟨_,rfl,q',_,rfl,aMe (a2 _ _ m0),_,a1,aU (by rw[List.length_map,List.length_map,List.length_take]; omega),_,rfl,?_,fun b o' e'=>?_⟩
    ·rw[aD,List.take_succ,hm']
     simp
    ·rw[aI (aF e' hD1)];exact a2 _ _ e'
  rintro σ' H10 ⟨u,rfl,a1,a2⟩;have etk:ms.take (qs.map V.ref).length=ms:=by rw[List.length_map,q1,List.take_length]
  rw[etk] at a1;refine⟨D1,_,rfl,.inl ⟨SqL.of a1,fun bg hbg=>?_⟩⟩;have s11:aO H (upd H10 bg (.tup ((ms.map (·.b)).map V.str))):=a2.trans (smu hbg);have e11:(upd H10 bg (.tup ((ms.map (·.b)).map V.str))) bg=some (.tup ((ms.map (·.b)).map V.str)):=aD;generalize upd H10 bg (.tup ((ms.map (·.b)).map V.str))=H11 at s11 e11 ⊢;refine⟨by show 1<=sizeLine; decide,fun R hR=>?_⟩;have s12:aO H11 (upd H11 R (.lst [.ref bg])):=smu hR;have e12:(upd H11 R (.lst [.ref bg])) R=some (.lst ([bg].map V.ref)):=aD;have nR:H R=none:=s11.free hR;generalize upd H11 R (.lst [.ref bg])=H12 at s12 e12 ⊢;have t0:fJ H12 [bg] [ms.map (·.b)]:=.cons (s12 _ _ e11) .nil;have s0:aO H H12:=s11.trans s12;clear hD1 a1 a2 hbg s11 e11 hR s12;have hSl:S.length<64:=by rw[pm.length_eq]; exact h64
  generalize hFr:(fun r=>S.filterMap (wto ms r))=Fr;have hF:∀ r,Fr r=S.filterMap (wto ms r):=fun r=>by rw[← hFr]
  have hcm:oB ms S=jW Fr 61 [ms.map (·.b)] 0:=by rw[← hFr]
  refine⟨fun m σ H'=>∃ (i:Nat) (rs:List (List Str)) (bs:List Addr) (x5 x6:Option V),m=61-i∧σ=[some (.ref D),some (.ref n),some (.int 60),some (.ref R),some (.int i),x5,x6]∧H' R=some (.lst (bs.map V.ref))∧fJ H' bs rs∧aO H H'∧i<=60∧rs.length<=200∧(∀ r∈rs,ms.length=r.length)∧jW Fr 61 [ms.map (·.b)] 0=jW Fr (61-i) rs i,
   ⟨61,0,[ms.map (·.b)],[bg],none,none,rfl,rfl,e12,t0,s0,Nat.zero_le _,(by show 1<=200; decide),fun r hr=>by rw[List.mem_singleton.mp hr,List.length_map],rfl⟩,?_⟩
  rintro m σ H' ⟨i,rs,bs,x5,x6,rfl,rfl,e3,e4,sm,hi,h200,hOk,hc⟩;have lbs:bs.length=rs.length:=Paired.length e4
  have fin:¬ (i<rs.length∧rs.length<=60)->Q (.ref R) H':=fun h=>by
   rw[pP h] at hc;rw[hcm,hc] at q;exact q R bs H' sm nR e3 e4 h200
  refine⟨_,rfl,_,rfl,R,_,rfl,.inl (SqL.of e3),_,_,rfl,rfl,_,rfl,eQ (fun h1=>⟨_,rfl,R,_,rfl,.inl (SqL.of e3),_,rfl,_,_,rfl,rfl,_,rfl,eQ (fun h2=>?_) (fun h2=>⟨_,rfl,fin fun z=>h2 (decide_eq_true (by rw[List.length_map]; omega))⟩)⟩) (fun h1=>hU ⟨_,rfl,fin fun z=>h1 (decide_eq_true (by rw[List.length_map]; omega))⟩)⟩;have hil:i<rs.length:=by have:=of_decide_eq_true h1; rw[List.length_map] at this; omega
  have h60:rs.length<=60:=by have:=of_decide_eq_true h2; rw[List.length_map] at this; omega
  have hrs:=List.getElem?_eq_getElem hil;have hrm:rs[i]∈rs:=List.getElem_mem hil;generalize rs[i]=r at hrs hrm;have hlr:=hOk r hrm;have hc':=hc.trans (aBn hrs h60);rw[hF] at hc';refine⟨_,fun _ _ h=>h,?_⟩;refine⟨_,rfl,n,ss,rfl,SqL.of (sm _ _ hn),h64,fun p S' hp pm' so'=>⟨p,rfl,⟨_,SqL.of aD⟩,?_⟩⟩;have eS:S'=S:=qZ pm' pm so' so;subst eS;have pR:p≠R:=fun z=>by rw[z,e3] at hp; cases hp
  have sp:aO H' (upd H' p (.lst (S'.map V.str))):=smu hp;have ep:(upd H' p (.lst (S'.map V.str))) p=some (.lst (S'.map V.str)):=aD;generalize upd H' p (.lst (S'.map V.str))=Hp' at sp ep ⊢;refine dN (xs:=S'.map V.str) (fun j σ H3=>∃ (x5 x6:Option V) (bs:List Addr),σ=[some (.ref D),some (.ref n),some (.int 60),some (.ref R),some (.int i),x5,x6]∧H3 R=some (.lst (bs.map V.ref))∧fJ H3 bs (gF rs ((S'.take j).filterMap (wto ms r)))∧aO H H3∧H3 p=some (.lst (S'.map V.str))) ?_ ?_ ?_ ?_
  ·exact⟨_,_,bs,rfl,sp _ _ e3,e4.same fun _ _ e=>sp _ _ e,sm.trans sp,ep⟩
  ·rintro j σ H3 _ ⟨x5,x6,bs3,rfl,f3,f4,f5,f6⟩;exact SqL.of f6
  ·rintro j v σ H3 hv ⟨x5,x6,bs3,rfl,f3,f4,f5,f6⟩;rw[List.getElem?_map] at hv;cases hz:S'[j]? with
   | none=>rw[hz] at hv; cases hv
   | some z=>
    rw[hz] at hv;cases hv;have hj:j<S'.length:=(List.getElem?_eq_some_iff.mp hz).1;have ra:(gF rs ((S'.take j).filterMap (wto ms r)))[i]?=some r:=by rw[vU hil]; exact hrs
    have rl:(gF rs ((S'.take j).filterMap (wto ms r))).length<=150:=by
     have h:=oH (rs:=rs) (fs:=(S'.take j).filterMap (wto ms r));have h':=List.length_filterMap_le (wto ms r) (S'.take j);rw[List.length_take] at h';omega
    have hsn:=aGv (rs:=rs) (fs:=(S'.take j).filterMap (wto ms r)) (o:=wto ms r z);rw[← aJg hz] at hsn;rw[hsn];clear hsn;generalize gF rs ((S'.take j).filterMap (wto ms r))=rs3 at f4 ra rl ⊢;have bl:bs3.length=rs3.length:=Paired.length f4;have hi3:i<bs3.length:=by rw[bl]; exact (List.getElem?_eq_some_iff.mp ra).1
    have hb:=List.getElem?_eq_getElem hi3;generalize bs3[i]=tr at hb;obtain⟨r3,hr3,htr⟩:=f4.get hb;rw[ra] at hr3;cases hr3;refine⟨_,rfl,_,rfl,_,rfl,R,_,_,.ref tr,rfl,rfl,SqL.of f3,gR (by rw[List.getElem?_map,hb]; rfl),_,rfl,D,tr,ms,r,z,rfl,M.same f5,SqT.of htr,hlr,hl,?_⟩;cases ho:wto ms r z with
    | none=>
     intro H4 s4;exact⟨_,rfl,rfl,_,rfl,eQ (fun h=>absurd h (by simp)) fun _=>hU ⟨_,_,bs3,rfl,s4 _ _ f3,f4.same fun _ _ e=>s4 _ _ e,f5.trans s4,s4 _ _ f6⟩⟩
    | some r'=>
     intro l H4 s4 n4 e4';have f4':=f4.same (H':=H4) fun _ _ e=>s4 _ _ e;refine⟨_,rfl,rfl,_,rfl,eQ (fun _=>?_) (fun h=>absurd (by simp) h)⟩;refine⟨_,rfl,_,rfl,l,R,bs3,r',rs3,rfl,rfl,e4',SqL.of (s4 _ _ f3),f4',_,rfl,?_⟩
     by_cases hm:r'∈rs3
     ·rw[decide_eq_true hm];refine hU ⟨_,_,bs3,rfl,s4 _ _ f3,?_,f5.trans s4,s4 _ _ f6⟩;show fJ H4 bs3 (if r'∈rs3 then rs3 else rs3++[r'])
      rw[if_pos hm];exact f4'
     ·rw[decide_eq_false hm];refine jU ⟨_,rfl,.inl ⟨rfl,_,SqL.of (s4 _ _ f3)⟩,_,rfl,R,_,_,rfl,rfl,s4 _ _ f3,aU (by rw[List.length_map]; omega),?_⟩
      have tk:∀ b xs,H4 b=some (.tup xs)->(upd H4 R (.lst (bs3.map V.ref++[.ref l]))) b=some (.tup xs):=fun b xs e=>by
       rw[aI (jC e (s4 _ _ f3) (fun z=>nomatch z))];exact e
      refine⟨_,_,bs3++[l],rfl,by rw[aD,List.map_append]; rfl,?_,fun b o e=>?_,?_⟩
      ·show fJ _ (bs3++[l]) (if r'∈rs3 then rs3 else rs3++[r'])
       rw[if_neg hm];exact fJ.snoc (f4'.same tk) (tk _ _ e4')
      ·rw[aI (aF e nR)];exact s4 _ _ (f5 _ _ e)
      ·rw[aI pR];exact s4 _ _ f6
  ·rintro σ H3 ⟨x5,x6,bs3,rfl,f3,f4,f5,f6⟩;rw[List.length_map,List.take_length] at f4;refine⟨_,rfl,_,_,rfl,rfl,?_⟩;refine⟨61-(i+1),by omega,i+1,_,bs3,_,_,rfl,rfl,f3,f4,f5,by omega,?_,fun r' hr'=>?_,hc'⟩
   ·have h:=oH (rs:=rs) (fs:=S'.filterMap (wto ms r));have h':=List.length_filterMap_le (wto ms r) S';omega
   ·rcases sH hr' with h | h
    ·exact hOk r' h
    ·obtain⟨z,_,hz⟩:=List.mem_filterMap.mp h;exact aHg hlr hz
end
end K22
namespace K22
open PySem L2 Ky
seal L2.PE L2.PS L2.PSs L2.PA L2.PT L2.PW L2.PG L2.PI L2.PTs L2.PO L2.PPs L2.OpR L2.IxR L2.CallR L2.MtM L2.MtR
unseal L2.MtM L2.MtR
def nk (k:Nat):Str:=("n" : Str)++Str.ofString (toString (k:Int))
def aCa (n:Nat):List Str:=(List.range n).map nk
def aCb (n:Nat):List Dr:=(List.range n).map fun k=>(nk k,"go",nk ((k+1)%n))
def fY (n:Nat):MR:=⟨"n0",(aCa n).take 3,aCb n++[(("n0" : Str),("aside" : Str),("n0" : Str))],[]⟩
def iM:MR:=⟨"a",["b"],[("a","aside","b"),("a","go","a")],[]⟩
def aOe (n:Nat):Prop:=n=56∨n=59∨n=60
abbrev jQ:List Str:=["go","aside"]
theorem aGs:aMk iM jQ:=⟨by decide +kernel,by decide +kernel,by unfold Ky.Apart; decide +kernel,by decide +kernel,by decide +kernel⟩
theorem aHt {n:Nat}(h:aOe n):aMk (fY n) jQ:=by
 rcases h with rfl | rfl | rfl
 ·exact⟨by decide +kernel,by decide +kernel,by unfold Ky.Apart; decide +kernel,by decide +kernel,by decide +kernel⟩
 ·exact⟨by decide +kernel,by decide +kernel,by unfold Ky.Apart; decide +kernel,by decide +kernel,by decide +kernel⟩
 ·exact⟨by decide +kernel,by decide +kernel,by unfold Ky.Apart; decide +kernel,by decide +kernel,by decide +kernel⟩
theorem aLt:∀ k:Nat,k<64->("n" : Str).length+(Str.ofString (toString (k:Int))).length<=100:=by decide +kernel
theorem aCz:∀ k:Nat,k<64->((k:Int)).natAbs.log2<1920:=by decide +kernel
inductive aEl (vs:List V) (H:Hp) (Q:VK) (E:XK):Prop
 | mk (n:Nat) (h0_:vs=[.int n]) (h1_:3<=n∧n<=60) (h2_:∀ (p:Addr) H',aO H H'->H p=none->PlA H' p [fY n,iM]->Q (.ref p) H')
section
variable {P:Program}{w:World}{K:PySem.W.Frag}{mg:Str->Option Value}{base:Heap}
abbrev NRi:List Str:=["_law_many","_law_rooms","_law_doors","_law_other"]
theorem aHq:aR NRi ["_law_many"] (aB pV):=⟨rfl,rfl,rfl,by decide +kernel,rfl,by decide +kernel,by decide +kernel⟩
abbrev aNr:List Str:=["_law_k"]
abbrev aNq:List Str:=["_law_k","_law_many","_law_rooms"]
theorem aIl {f:Addr}{fd:FuncData}(F:Fun K "_law_ring" "_law_ring" pV f fd) (T:Txt K mg):bE P w K mg base CX0 1 f fd ["_law_many"] aEl:=by
 refine F.ok aHq (fun vs H Q E h=>?_) (fun cdv A outer s H vs Q E hr h=>?_)
 ·obtain⟨n,rfl,_⟩:=h;rfl
 ·obtain⟨n,rfl,hn,q⟩:=h
  refine⟨_,aK (aW (i:=1) aHq.nd rfl (Or.inr rfl) (eL (N':=aNr) (nown:=1) (js:=[]) rfl
     ⟨rfl,by decide +kernel,by decide +kernel⟩ (cJ (aB pV) NRi rfl rfl (by decide +kernel))
     ⟨fun _ _ _ _=>aP (i:=0) (show List.Nodup aNr by decide +kernel) rfl (Or.inl rfl) (.inr rfl),fun _ _ _ _=>eE,fun _ _ _ _=>aS rP aQ (eN vP (by rfl) T.str Bo.str (pac (pv 0) aJ))⟩
     (gM rfl T.range (pac (pv 0) aJ))))
   (aK (gL (i:=2) (N':=aNq) (nown:=1) (js:=[0,1]) rfl aHq.nd rfl rfl rfl
     ⟨rfl,by decide +kernel,by decide +kernel⟩ (cJ (aB pV) NRi rfl rfl (by decide +kernel))
     ⟨fun _ _ _ _=>aP (i:=0) (show List.Nodup aNq by decide +kernel) rfl (Or.inl rfl) (.inr rfl),fun _ _ _ _=>eE,
      fun _ _ _ _=>gY (pac (dJ (show IxR _ (wQ K) from cS) (pv 2) (pv 0) (fun _ _=>rfl)) (pac aQ (pac (dJ (show IxR _ (wQ K) from cS) (pv 2) (aS cY (aS dM (pv 0) aN) (pv 1)) (fun _ _=>rfl)) aJ)))⟩
     (gM rfl T.range (pac (pv 0) aJ)))
   (aK (aW (i:=3) aHq.nd rfl (Or.inl rfl) (gY (pac aQ (pac (cM (pac aQ aJ)) (pac (cM (pac (gY (pac aQ (pac aQ (pac aQ aJ)))) (pac (gY (pac aQ (pac aQ (pac aQ aJ)))) aJ))) (pac (cM aJ) aJ))))))
   (aL (bO (cM (pac (gY (pac aQ (pac (nO qM (pv 1) lO (nN aN)) (pac (aS eC (pv 2) (cM (pac (gY (pac aQ (pac aQ (pac aQ aJ)))) aJ))) (pac (cM aJ) aJ))))) (pac (pv 3) aJ))))))),?_⟩
  refine⟨_,rfl,n,rfl,by omega,by omega,fun R hR=>iA (n:=n) (fun i σ' H'=>∃ v,σ'=[v]∧H' R=some (.lst (((List.range i).map nk).map V.str))∧aO H H') ?_ ?_ ?_⟩
  ·exact⟨none,rfl,aD,smu hR⟩
  ·rintro i σ' H' hi ⟨v,rfl,a1,a2⟩;have hi':i<64:=by omega
   refine⟨_,rfl,0+(i:Int),rfl,by rw[Int.zero_add]; exact aCz i hi',_,_,rfl,rfl,by rw[Int.zero_add]; exact kE (Nat.le_trans (aLt i hi') (by decide)),_,a1,aU (by rw[List.length_map,List.length_map,List.length_range]; omega),_,rfl,?_,fun b o e=>?_⟩
   ·rw[aD,List.range_succ,List.map_append,List.map_append,Int.zero_add];rfl
   ·rw[aI (aF e hR)];exact a2 _ _ e
  rintro σ' H1 ⟨v,rfl,a1,a2⟩;have at1:∀ k,k<n->atI (((List.range n).map nk).map V.str) (k:Int)=some (.str (nk k)):=fun k hk=>gR (by rw[List.getElem?_map,List.getElem?_map,List.getElem?_range hk]; rfl);refine⟨_,rfl,n,rfl,by omega,by omega,fun D hD=>iA (n:=n) (fun i σ' H'=>∃ v,σ'=[v,some (.int n),some (.ref R)]∧cQ H' D ((List.range i).map fun k=>(nk k,("go" : Str),nk ((k+1)%n)))∧aO H1 H') ?_ ?_ ?_⟩
  ·exact⟨none,rfl,⟨[],aD,rfl,fun i t x z=>nomatch z⟩,smu hD⟩
  ·rintro i σ' H' hi ⟨v,rfl,b1,b2⟩;have hmod:(i+1)%n<n:=Nat.mod_lt _ (by omega);have em:(0+(i:Int)+1)%(n:Int)=(((i+1)%n:Nat):Int):=by rw[Int.zero_add]; rfl
   refine⟨_,rfl,_,rfl,R,_,_,.str (nk i),rfl,rfl,SqL.of (b2 _ _ a1),by rw[Int.zero_add]; exact at1 i hi,_,rfl,_,rfl,_,_,rfl,rfl,_,rfl,_,_,rfl,rfl,(by show (0:Int)<n; omega),R,_,_,.str (nk ((i+1)%n)),rfl,rfl,SqL.of (b2 _ _ a1),by rw[em]; exact at1 _ hmod,by show 3<=sizeLine; decide,fun tt htt=>?_⟩;obtain⟨xs,x0,x1,x2⟩:=b1.push htt (nk i,("go" : Str),nk ((i+1)%n));rw[List.length_map,List.length_range] at x1;refine⟨_,smu htt _ _ x0,aU (by omega),_,rfl,?_,fun b o e=>?_⟩
   ·rw[List.range_succ,List.map_append];exact x2
   ·rw[aI (aF e hD)];exact smu htt _ _ (b2 _ _ e)
  rintro σ' H2 ⟨v,rfl,b1,b2⟩;have nD:H D=none:=a2.free hD;have r2:=b2 _ _ a1;have s02:=a2.trans b2;clear a2 b2 a1 hR hD;refine⟨by show 1<=sizeLine; decide,fun e1 he1=>?_⟩;have k1:aO H2 (upd H2 e1 (.lst [.str "b"])):=smu he1;have g1:(upd H2 e1 (.lst [.str "b"])) e1=some (.lst (iM.es.map V.str)):=aD;generalize upd H2 e1 (.lst [.str "b"])=Ha at k1 g1 ⊢;refine⟨by show 3<=sizeLine; decide,fun t1 ht1=>?_⟩;have k2:aO Ha (upd Ha t1 (.tup [.str "a",.str "aside",.str "b"])):=smu ht1;have g2:(upd Ha t1 (.tup [.str "a",.str "aside",.str "b"])) t1=some (.tup [.str "a",.str "aside",.str "b"]):=aD;generalize upd Ha t1 (.tup [.str "a",.str "aside",.str "b"])=Hb at k2 g2 ⊢;refine⟨by show 3<=sizeLine; decide,fun t2 ht2=>?_⟩;have k3:aO Hb (upd Hb t2 (.tup [.str "a",.str "go",.str "a"])):=smu ht2;have g3:(upd Hb t2 (.tup [.str "a",.str "go",.str "a"])) t2=some (.tup [.str "a",.str "go",.str "a"]):=aD;generalize upd Hb t2 (.tup [.str "a",.str "go",.str "a"])=Hc at k3 g3 ⊢;refine⟨by show 2<=sizeLine; decide,fun l2 hl2=>?_⟩;have k4:aO Hc (upd Hc l2 (.lst [.ref t1,.ref t2])):=smu hl2
  have g4:cQ (upd Hc l2 (.lst [.ref t1,.ref t2])) l2 iM.ds:=⟨[t1,t2],aD,rfl,fun i t x hi hx=>by
   match i with
   | 0=>cases hi; cases hx; exact k4 _ _ (k3 _ _ g2)
   | 1=>cases hi; cases hx; exact k4 _ _ g3
   | i+2=>simp at hi⟩
  generalize upd Hc l2 (.lst [.ref t1,.ref t2])=Hd at k4 g4 ⊢;refine⟨by show 0<=sizeLine; decide,fun l3 hl3=>?_⟩;have k5:aO Hd (upd Hd l3 (.lst [])):=smu hl3;have g5:(upd Hd l3 (.lst [])) l3=some (.lst (iM.mo.map V.str)):=aD;generalize upd Hd l3 (.lst [])=He at k5 g5 ⊢;refine⟨by show 4<=sizeLine; decide,fun o4 ho4=>?_⟩;have k6:aO He (upd He o4 (.tup [.str "a",.ref e1,.ref l2,.ref l3])):=smu ho4;have k25:=k2.trans (k3.trans (k4.trans (k5.trans k6)));have g6:aDs (upd He o4 (.tup [.str "a",.ref e1,.ref l2,.ref l3])) o4 iM:=⟨e1,l2,l3,aD,k25 _ _ g1,g4.same (k5.trans k6),k6 _ _ g5⟩;generalize upd He o4 (.tup [.str "a",.ref e1,.ref l2,.ref l3])=H3 at k6 k25 g6 ⊢;have s23:=k1.trans k25;have r3:=s23 _ _ r2;have d3:=b1.same s23;have s03:=s02.trans s23;clear k1 k2 k3 k4 k5 k6 k25 g1 g2 g3 g4 g5 he1 ht1 ht2 hl2 hl3 ho4 s23 s02 b1 r2;refine⟨_,rfl,_,rfl,R,_,rfl,SqL.of r3,fun e5 he5=>?_⟩;have ec:jV (((List.range n).map nk).map V.str) none (some 3)=((fY n).es).map V.str:=aMi _ 3;rw[ec];have k1:aO H3 (upd H3 e5 (.lst ((fY n).es.map V.str))):=smu he5;have g1:(upd H3 e5 (.lst ((fY n).es.map V.str))) e5=some (.lst ((fY n).es.map V.str)):=aD;generalize upd H3 e5 (.lst ((fY n).es.map V.str))=Ha at k1 g1 ⊢;refine⟨_,rfl,by show 3<=sizeLine; decide,fun t6 ht6=>?_⟩;have k2:aO Ha (upd Ha t6 (.tup [.str "n0",.str "aside",.str "n0"])):=smu ht6;have g2:(upd Ha t6 (.tup [.str "n0",.str "aside",.str "n0"])) t6=some (.tup [.str "n0",.str "aside",.str "n0"]):=aD;generalize upd Ha t6 (.tup [.str "n0",.str "aside",.str "n0"])=Hb at k2 g2 ⊢;obtain⟨ts,z0,z1,z2⟩:=d3.ex;rw[List.length_map,List.length_range] at z1;have z0b:=k2 _ _ (k1 _ _ z0);refine⟨by show 1<=sizeLine; decide,fun l6 hl6=>⟨D,l6,_,_,rfl,rfl,smu hl6 _ _ z0b,aD,kE (by rw[List.length_map]; simp only[List.length_cons,List.length_nil]; omega),fun d7 hd7=>?_⟩⟩;have k3:aO Hb (upd (upd Hb l6 (.lst [.ref t6])) d7 (.lst (ts.map V.ref++[.ref t6]))):=(smu hl6).trans (smu hd7);have g3:(upd (upd Hb l6 (.lst [.ref t6])) d7 (.lst (ts.map V.ref++[.ref t6]))) d7=some (.lst ((ts++[t6]).map V.ref)):=by rw[aD,List.map_append]; rfl
  generalize upd (upd Hb l6 (.lst [.ref t6])) d7 (.lst (ts.map V.ref++[.ref t6]))=Hc at k3 g3 ⊢;have k13:=k1.trans (k2.trans k3)
  have g4:cQ Hc d7 (fY n).ds:=⟨ts++[t6],g3,by show _=((List.range n).map _++[_]).length; rw[List.length_append,List.length_append,List.length_map,List.length_range,z1]; rfl,fun i t x hi hx=>by
   have hx':((List.range n).map (fun k=>(nk k,("go" : Str),nk ((k+1)%n)))++[(("n0" : Str),("aside" : Str),("n0" : Str))])[i]?=some x:=hx
   by_cases hj:i<ts.length
   ·rw[List.getElem?_append_left hj] at hi;rw[List.getElem?_append_left (by rw[List.length_map,List.length_range]; omega)] at hx';exact k13 _ _ (z2 i t x hi hx')
   ·have hl':i=ts.length:=by
     have:=(List.getElem?_eq_some_iff.mp hi).1
     rw[List.length_append] at this;simp only[List.length_cons,List.length_nil] at this;omega
    subst hl';rw[List.getElem?_append_right (Nat.le_refl _),Nat.sub_self] at hi;rw[List.getElem?_append_right (by rw[List.length_map,List.length_range]; omega),List.length_map,List.length_range,z1,Nat.sub_self] at hx';cases hi;cases hx';exact k3 _ _ g2⟩
  refine⟨by show 0<=sizeLine; decide,fun m8 hm8=>?_⟩;have k5:aO Hc (upd Hc m8 (.lst [])):=smu hm8;have g5:(upd Hc m8 (.lst [])) m8=some (.lst ((fY n).mo.map V.str)):=aD;generalize upd Hc m8 (.lst [])=Hd at k5 g5 ⊢;refine⟨by show 4<=sizeLine; decide,fun o9 ho9=>?_⟩;have k6:aO Hd (upd Hd o9 (.tup [.str "n0",.ref e5,.ref d7,.ref m8])):=smu ho9;have k26:=k2.trans (k3.trans (k5.trans k6));have g7:aDs (upd Hd o9 (.tup [.str "n0",.ref e5,.ref d7,.ref m8])) o9 (fY n):=⟨e5,d7,m8,aD,k26 _ _ g1,g4.same (k5.trans k6),k6 _ _ g5⟩;generalize upd Hd o9 (.tup [.str "n0",.ref e5,.ref d7,.ref m8])=H4 at k6 k26 g7 ⊢;have s34:=k1.trans k26;refine⟨_,rfl,by show 2<=sizeLine; decide,fun p hp=>q p _ ((s03.trans s34).trans (smu hp)) ((s03.trans s34).free hp) ⟨[o9,o4],aD,rfl,fun i t r hi hx=>?_⟩⟩
  match i with
  | 0=>cases hi; cases hx; exact g7.same (smu hp)
  | 1=>cases hi; cases hx; exact (g6.same s34).same (smu hp)
  | i+2=>simp at hi
end
end K22
namespace K22
open PySem L2 Ky
seal L2.PE L2.PS L2.PSs L2.PA L2.PT L2.PW L2.PG L2.PI L2.PTs L2.PO L2.PPs L2.OpR L2.IxR L2.CallR L2.MtM L2.MtR
unseal L2.MtM L2.MtR
abbrev aBe:Pos:=⟨357,26,357,52⟩
abbrev aBd:Str:="_law_all_come.<locals>."++"<lambda>"
theorem aDw {K:PySem.W.Frag}{mg:Str->Option Value}{ds:Nat->Addr}(W:Wd K mg ds):jY ds (ds 4)=some "TooMany":=if_pos rfl
theorem aDx {l:List MR}{ss:List Str}(hR:aAf l ss):∀ z∈wkn (l.map MR.mw),z∈ss:=fun z hz=>by
 obtain⟨m,hm,hz⟩:=List.mem_flatMap.mp hz;obtain⟨r,hr,rfl⟩:=List.mem_map.mp hm;exact (hR r hr).kn z hz
theorem aLs {l:List MR}{ss:List Str}(hR:aAf l ss):∀ m∈l.map MR.mw,m.rs.all aZ=true:=fun m hm=>by
 obtain⟨r,hr,rfl⟩:=List.mem_map.mp hm;exact (hR r hr).nm
theorem uB {H:Hp}{P P' b:Addr}{o:HO}(e:off (off H P') P b=some o):b≠P∧b≠P'∧H b=some o:=⟨(dZ e).1,(dZ (dZ e).2).1,(dZ (dZ e).2).2⟩
theorem Tab.put {pos:Pos}{q:Str}{P:Addr}{H:Hp}{d:Addr}{xs ys:List V}(T:Tab pos q P H) (e:H d=some (.lst xs)):Tab pos q P (upd H d (.lst ys)):=by
 have k:∀ {b o},H b=some o->(∀ zs,o≠.lst zs)->(upd H d (.lst ys)) b=some o:=fun {b o} h n=>by
  rw[aI (fun z=>by rw[z,e] at h; exact n _ (Option.some.inj h).symm)];exact h
 exact T.elim (fun h=>.inl (k h (fun _ z=>nomatch z))) fun ⟨c',h1,h2⟩=>.inr ⟨c',k h1 (fun _ z=>nomatch z),k h2 (fun _ z=>nomatch z)⟩
inductive tR (C P1 Pr:Addr) (vs:List V) (H:Hp) (Q:VK) (E:XK):Prop
 | mk (x p n:Addr) (l:List MR) (ss S:List Str) (wk:List (Key×V)) (h0_:vs=[.ref x,.ref p,.ref n]) (h1_:WAt C H x wk) (h2_:PlA H p l) (h3_:1<=l.length∧l.length<=7) (h4_:aAf l ss) (h5_:∀ z∈ss,eA wk (.str z)=true) (h6_:H n=some (.lst (ss.map V.str))) (h7_:ss.length<=12) (h8_:S.Perm ss) (h9_:PyProof.Rows.sortedS S=true) (h10_:ss.Nodup)
  (h11_:Tab qD qC Pr H) (h12_:Tab aBe aBd P1 H) (h13_:P1≠Pr) (h14_:∀ H',aO (off (off H Pr) P1) H'->Tab qD qC Pr H'->Tab aBe aBd P1 H'->Q (.bl true) H')
section
variable {P:Program}{w:World}{K:PySem.W.Frag}{mg:Str->Option Value}{base:Heap}
theorem scT:aR NT ["_law_deed"] (aB jG):=⟨rfl,rfl,rfl,by decide +kernel,rfl,by decide +kernel,by decide +kernel⟩
abbrev NAl:List Str:=["_law_deeds","_law_plant","_law_names","_law_due","_law_found","_law_woven"]
theorem aHr:aR NAl ["_law_deeds","_law_plant","_law_names"] (aB cU):=⟨rfl,rfl,rfl,by decide +kernel,rfl,by decide +kernel,by decide +kernel⟩
theorem zJ {f fMs fWI fMp fCo fWR ft fw C CM CW W c1 P1 Pr:Addr}{fdMs fdWI fdMp fdCo fdWR fdt fdw:FuncData}{ds:Nat->Addr}{oc kV doc pm ct:Value}{an od:Option Addr}{osl:Array (Option Value)}
  (lk:K.lookup f=some ⟨oc,od,.func (PySem.W.fnOf "_law_all_come" "_law_all_come" (aH cU) (aG cU) (aB cU) .none kV doc pm an (.ref c1) ct),osl⟩) (hcd:PySem.W.codeIn K (.ref c1) "_law_all_come" = true) (hhd:PySem.W.codeHdIn K c1 P1=true) (bm:iV mg base)
  (T:Txt K mg) (WC:sJ K CW) (Wf:Wd K mg ds) (hkw:∀ i∈gI,PySem.W.exmOne K (.ref (ds i)) (.ref W)=some true) (mWd:mg "WardError"=some (.ref W))
  (GMs:bE P w K mg base CX0 6 fMs fdMs ["_law_deeds","_law_plant"] (mJ C CM)) (kMs:PySem.W.keepIn K (.ref fMs)=true) (bMs:aX K fdMs ["_law_deeds","_law_plant"] []) (mMs:mg "_law_machines" = some (.ref fMs))
  (GWI:bE P w K mg base (CXE P w) 3 fWI fdWI ["self","machines"] (jE CM CW (ds 4))) (WMk:Mk K CW fWI) (bWI:aX K fdWI ["self","machines"] []) (mWv:mg "Woven" = some (.ref CW))
  (GMp:bE P w K mg base CX0 1 fMp fdMp ["_law_plant"] aEn) (kMp:PySem.W.keepIn K (.ref fMp)=true) (bMp:aX K fdMp ["_law_plant"] []) (mMp:mg "_law_maps" = some (.ref fMp))
  (GCo:bE P w K mg base CX0 2 fCo fdCo ["_law_maps_here","_law_names","_law_most"] (aEq K)) (kCo:PySem.W.keepIn K (.ref fCo)=true) (bCo:aX K fdCo ["_law_maps_here","_law_names","_law_most"] []) (mCo:mg "_law_come" = some (.ref fCo))
  (GWR:bE P w K mg base (CXE P w) 10 fWR fdWR ["self"] (qW C CM CW (ds 4) Pr)) (bWR:aX K fdWR ["self"] []) (mWR:eZ K CW "rooms" fWR)
  (FT:Fun K "_law_tried" "_law_tried" jG ft fdt) (bT:aX K fdt ["_law_deed"] []) (mT:mg "_law_tried" = some (.ref ft))
  (GW:uS P w K mg base 1 fw fdw ["_law_e"] (uX (jY ds))) (kW:PySem.W.keepIn K (.ref fw)=true) (bW:aX K fdw ["_law_e"] []) (mW:mg "_law_word" = some (.ref fw)) :
  bE P w K mg base CX0 14 f (PySem.W.fnOf "_law_all_come" "_law_all_come" (aH cU) (aG cU) (aB cU) .none kV doc pm an (.ref c1) ct) ["_law_deeds","_law_plant","_law_names"] (tR C P1 Pr):=by
 refine uK lk hcd aHr (fun vs H Q E h=>?_) (fun A outer s H vs Q E hr h=>?_)
 ·obtain⟨x,p,n,l,ss,S,wk,rfl,_⟩:=h;rfl
 ·obtain⟨x,p,n,l,ss,S,wk,rfl,hW,hPl,hl,hR,hg,hn,h12,pm,so,nd,TR,TA,hne,q⟩:=h
  have TRi:yE (gB CX0 P w K mg base NAl "_law_all_come" (aB cU) f (.ref c1) A outer s H E).nox jG ft fdt W fw fdw (jY ds):=⟨FT,scT,⟨_,_,_,_,_,_,_,_,_,_,_,_,_,rfl⟩,bT,mT,mWd,mW,kW,bW,GW,rfl,rfl,rfl,rfl,fun C x h=>by
   obtain⟨i,hi,rfl,_⟩:=oM h;exact hkw i hi⟩
  have hr1:cL 1 _:=hr.mono (by decide);have hr2:cL 2 _:=hr.mono (by decide);have hr4:cL 4 _:=hr.mono (by decide);have hr6:cL 6 _:=hr.mono (by decide);have hr10:cL 10 _:=hr.mono (by decide);have hu:=jS hr
  suffices main:∃ t,PSs (gB CX0 P w K mg base NAl "_law_all_come" (aB cU) f (.ref c1) A outer s H E).nox (aG cU) t∧t { nx:=fun _ H'=>Q .non H',rt:=Q } (fV NAl [.ref x,.ref p,.ref n]) H by
   obtain⟨t,h1,h2⟩:=main;exact⟨t,h1.nox,h2⟩
  refine⟨_,aK (aW (i:=5) aHr.nd rfl (Or.inr rfl) (iR WMk GWI hr4 rfl mWv bWI .nil lW (pac (bU GMs hr6 rfl mMs kMs bMs .nil cC (pac (pv 0) (pac (pv 1) aJ))) aJ)))
   (aK (aW (i:=3) aHr.nd rfl (Or.inl rfl) (bU GCo hr2 rfl mCo kCo bCo .nil cC (pac (bU GMp hr1 rfl mMp kMp bMp .nil cC (pac (pv 1) aJ)) (pac (pv 2) (pac aN aJ)))))
   (aK (dH (bX pX (cH cK (by rfl) T.len Bo.len (pac (pv 3) aJ)) aN (cN _)) (aL (bO (qN nQ (aCf (k:=10) (P:=P1) (NL:=["_law_woven"]) (js:=[5]) (te:=fun Ew=>aAl CW "rooms" (qW C CM CW (ds 4) Pr) [] Ew (yK 0) yM) TRi (fun _=>rfl) rfl hr rfl rfl hhd bm ⟨rfl,rfl,rfl,by decide +kernel,by decide +kernel⟩
      (cJ (aB cU) NAl rfl rfl (by decide +kernel)) rfl (fun _ _ _ _=>rfl)
      (fun Ew cdv A outer s H pn E f c' s' H' hr=>eK (E:=Ew) (pv 0) WC.cl mWR GWR hr bWR .nil (vR.passes fun _ _ _ z=>z))) aQ (cN _)))) cF)
   (aK (aW (i:=4) aHr.nd rfl (Or.inl rfl) (eK (pv 5) WC.cl mWR GWR hr10 bWR .nil lW))
   (aK (dH (bX (aIh hu) (pv 4) (pv 3) (cN _)) (aL (bO rM)) cF)
   (aK (dB (aFd PySem.F.plainAttrs_list PySem.F.slot_list_clear PySem.F.type_list_clear aFw (pv 4)))
   (aL (bO (qN (aIi hu) (eK (pv 5) WC.cl mWR GWR hr10 bWR .nil lW) (pv 3) (cN _))))))))),?_⟩
  refine⟨_,rfl,_,rfl,x,p,l,ss,wk,rfl,hW,hPl,by omega,hR,hg,fun D H1 s1 n1 MS1=>?_⟩;have hwk:=aDx hR;have hN:=aLs hR;have msl:(l.map MR.mw).length=l.length:=List.length_map ..;intro v dv hv hdv _;have k1:aO H1 (upd (upd H1 dv (.own v)) v (.ins CW dv [])):=fun b o' e=>by rw[aI (aF e hv),aI (aF e hdv)]; exact e
  refine .mk v dv x D (l.map MR.mw) ss rfl aD (MS1.same k1) ⟨by omega,by omega⟩ (fun mw hm z hz=>hwk z (List.mem_flatMap.mpr ⟨mw,hm,hz⟩)) (by omega) fun H2 sb W2 _=>⟨rfl,?_⟩;have s2:aO H H2:=fun b u e=>sb b u (aF (s1 b u e) hv) (k1 b u (s1 b u e));clear k1 sb hv hdv MS1 n1 s1;refine⟨_,rfl,p,l,ss,rfl,hPl.same s2,by omega,hR,fun mp H3 s3 n3 MA3=>?_⟩;have s23:=s2.trans s3;refine⟨_,rfl,mp,n,l.map MR.mw,ss,S,rfl,MA3,s23 _ _ hn,by omega,by omega,pm,so,fun du bs H4 s4 n4 e4 tp4 l4=>?_⟩;have sm:=s23.trans s4;have W4:=W2.same (s3.trans s4);have hW4:=gX hW sm;have TR4:=TR.same sm;have TA4:=TA.same sm;clear W2 hW s2 s3 s4 s23 n3 MA3 n4 TR TA hPl hn;generalize l.map MR.mw=ms at *;have hkS:∀ z∈wkn ms,z∈S:=fun z hz=>pm.mem_iff.mpr (hwk z hz);have hgS:∀ z∈S,eA wk (.str z)=true:=fun z hz=>hg z (pm.mem_iff.mp hz);have ndS:S.Nodup:=pm.nodup_iff.mpr nd;have S64:S.length<64:=by rw[pm.length_eq]; omega
  have msl':1<=ms.length∧ms.length<=100:=by omega
  have lbs:bs.length=(oB ms S).length:=Paired.length tp4;obtain⟨dv4,lm4,lk4,kn4,hi4,_⟩:=id W4;refine⟨_,rfl,du,_,rfl,.inl (SqL.of e4),_,_,rfl,rfl,_,rfl,eQ (fun hgt=>?_) (fun hle=>?_)⟩
  ·have hgt':60<(oB ms S).length:=by have:=of_decide_eq_true hgt; rw[List.length_map] at this; omega
   refine TA4.tried fun H5 s5 TA5=>?_;have nt:=uC TA4.tb s5;have TR5:=TR4.others (Ne.symm hne) TA4.tb s5;have W5:=ntV nt W4;obtain⟨dv5,lm5,lk5,kn5,hi5,_⟩:=id W5;refine⟨_,rfl,v,dv5,_,rfl,hi5,dI _ _ _ (by decide),v,x,ms,S,wk,rfl,W5,msl',hN,ntW nt hW4,hkS,S64,hgS,so,ndS,TR5,fun h=>absurd h (by omega),fun _ H6 s6 TR6=>⟨ds 4,"TooMany",rfl,aDw Wf,fun H7 s7=>⟨rfl,?_⟩⟩⟩;rw[decide_eq_true rfl];exact q H7 (fun b o e=>let ⟨a1,a2,a3⟩:=uB e; s7 _ _ (s6 _ _ (fZ a2 (s5 _ _ (fZ a1 (sm _ _ a3)))))) (TR6.same s7) ((TA5.others hne TR5.tb s6).same s7)
  ·have hle':(oB ms S).length<=60:=Nat.le_of_not_lt fun z=>hle (decide_eq_true (by rw[List.length_map]; omega));refine⟨_,rfl,v,dv4,_,rfl,hi4,dI _ _ _ (by decide),v,x,ms,S,wk,rfl,W4,msl',hN,hW4,hkS,S64,hgS,so,ndS,TR4,fun _ fd bf H5 s5 n5 TR5 e5 tp5=>?_,fun h=>absurd h (by omega)⟩;have nt:=uC TR4.tb s5;have du5:=nt _ _ e4 trivial;refine⟨_,rfl,_,rfl,fd,du,bf,bs,_,_,rfl,rfl,SqL.of e5,SqL.of du5,tp5,ntT nt tp4,_,rfl,eQ (fun h=>absurd h (by simp)) fun _=>?_⟩;refine⟨_,rfl,.inl ⟨rfl,_,SqL.of e5⟩,fd,_,rfl,rfl,e5,?_⟩;have s6:aO (off H4 Pr) (upd H5 fd (.lst [])):=fun b o e=>by rw[aI (aF (dZ e).2 n5)]; exact s5 _ _ e
   have TR6:Tab qD qC Pr (upd H5 fd (.lst [])):=TR5.put e5;generalize upd H5 fd (.lst [])=H6 at s6 TR6 ⊢;have nt6:=uC TR4.tb s6;have W6:=ntV nt6 W4;obtain⟨dv6,lm6,lk6,kn6,hi6,_⟩:=id W6;refine⟨_,rfl,v,dv6,_,rfl,hi6,dI _ _ _ (by decide),v,x,ms,S,wk,rfl,W6,msl',hN,ntW nt6 hW4,hkS,S64,hgS,so,ndS,TR6,fun _ f7 b7 H7 s7 n7 TR7 e7 tp7=>?_,fun h=>absurd h (by omega)⟩;have nt7:=uC TR6.tb s7;refine⟨_,rfl,f7,du,b7,bs,_,_,rfl,rfl,SqL.of e7,SqL.of (nt7 _ _ (nt6 _ _ e4 trivial) trivial),tp7,ntT nt7 (ntT nt6 tp4),?_⟩;rw[if_neg (by decide),decide_eq_true rfl];exact q H7 (fun b o e=>let ⟨a1,a2,a3⟩:=uB e; s7 _ _ (fZ a2 (s6 _ _ (fZ a2 (sm _ _ a3))))) TR7 (((TA4.others hne TR4.tb s6)).others hne TR6.tb s7)
end
end K22
namespace K22
open PySem L2 Ky
seal L2.PE L2.PS L2.PSs L2.PA L2.PT L2.PW L2.PG L2.PI L2.PTs L2.PO L2.PPs L2.OpR L2.IxR L2.CallR L2.MtM L2.MtR
unseal L2.MtM L2.MtR
abbrev aKf:Pos:=⟨370,18,370,42⟩
abbrev ix:Why->Nat
 | .noName=>0
 | .noDeed=>1
 | .twice=>3
 | .tooMany=>4
theorem aGq (xs:List V) (n:Nat):jV xs none (some (n:Int))=xs.take n:=by
 unfold jV;rw[HT.sIx_none,HT.sIx_nat,Nat.sub_zero,List.drop_zero]
 by_cases h:n<=xs.length
 ·rw[Nat.min_eq_left h]
 ·rw[Nat.min_eq_right (by omega),List.take_of_length_le (Nat.le_refl _),List.take_of_length_le (by omega)]
theorem aLu {CM:Addr}{H:Hp}{x p X:Addr}{m:MW}{k:Nat}(h:H p=some (.lst (List.replicate k (V.ref X)))) (hm:MM CM H X x m.b m.es m.kn m.ds):lC CM H x p (List.replicate k m):=by
 refine⟨List.replicate k X,by rw[h,List.map_replicate],by rw[List.length_replicate,List.length_replicate],fun i Y m' a b=>?_⟩;rw[← List.eq_of_mem_replicate (List.mem_of_getElem? a),← List.eq_of_mem_replicate (List.mem_of_getElem? b)] at hm;exact hm
theorem aHu (c:Int):∃ n:Nat,aOe n∧atI [V.int 56,V.int 59,V.int 60,V.int 60,V.int 60] (c%5)=some (.int n):=by
 have h:=cG c (m:=5) (by decide);generalize c%5=r at h;rcases (show r=0∨r=1∨r=2∨r=3∨r=4 by omega) with rfl | rfl | rfl | rfl | rfl
 ·exact⟨56,.inl rfl,rfl⟩
 ·exact⟨59,.inr (.inl rfl),rfl⟩
 ·exact⟨60,.inr (.inr rfl),rfl⟩
 ·exact⟨60,.inr (.inr rfl),rfl⟩
 ·exact⟨60,.inr (.inr rfl),rfl⟩
inductive J22 (C P1 Pr:Addr) (σ:St) (H:Hp):Prop
 | mk (x0 x2 x5 x6:Option V) (x p n:Addr) (l:List MR) (ss S:List Str) (wk:List (Key×V)) (h0_:σ=[x0,some (.ref n),x2,some (.ref x),some (.ref p),x5,x6]) (h1_:WAt C H x wk) (h2_:PlA H p l) (h3_:1<=l.length∧l.length<=7) (h4_:aAf l ss) (h5_:∀ z∈ss,eA wk (.str z)=true) (h6_:H n=some (.lst (ss.map V.str))) (h7_:ss.length<=12) (h8_:S.Perm ss) (h9_:PyProof.Rows.sortedS S=true) (h10_:ss.Nodup)
  (h11_:Tab qD qC Pr H) (h12_:Tab aBe aBd P1 H)
theorem aIt {H H':Hp}{P P':Addr}(t:∃ ps,H P=some (.tbl ps)) (t':∃ ps,H P'=some (.tbl ps)) (s:aO (off (off H P') P) H'):NTb H H':=fun b o e n=>s _ _ (fZ (let ⟨_,h⟩:=t; aEy h (fun z=>z) e n) (fZ (let ⟨_,h⟩:=t'; aEy h (fun z=>z) e n) e))
section
variable {P:Program}{w:World}{K:PySem.W.Frag}{mg:Str->Option Value}{base:Heap}
abbrev jT (ns:List Int):List Str:=dS (RW.cellAt ns 0/256) (gN (RW.cellAt ns 0))
abbrev aMf (ns:List Int):List Str:=pO (RW.cellAt ns 0) (jT ns)
abbrev aId (ns:List Int):List (Int×Nat):=plant (RW.cellAt ns 1) (RW.cellAt ns 2) (RW.cellAt ns 3)
abbrev N22:List Str:=["_law_script","_law_names","_law_free","_law_deeds","_law_plant","_law_cell","_law_some"]
theorem scL:aR N22 ["_law_script"] (aB jH):=⟨rfl,rfl,rfl,by decide +kernel,rfl,by decide +kernel,by decide +kernel⟩
abbrev ndk:List Str:=["_law_k","_law_script"]
inductive aAs (K:PySem.W.Frag) (Pt P1 Pr:Addr) (vs:List V) (H:Hp) (Q:VK) (E:XK):Prop
 | mk (a:Addr) (ns:List Int) (h0_:vs=[.ref a]) (h1_:SqL K H a (ns.map V.int)) (h2_:ns.length<=63) (h3_:H Pt=some (.tbl #[])) (h4_:H P1=some (.tbl #[])) (h5_:H Pr=some (.tbl #[])) (h6_:Pt≠P1∧Pt≠Pr∧P1≠Pr) (h7_:∀ H',Q (.bl true) H')
theorem aLo {f fC fD fI fP fMo fMs fWI fWB fRi fAl ft fw C CM CW W c0 Pt P1 Pr:Addr}{fdC fdD fdI fdP fdMo fdMs fdWI fdWB fdRi fdAl fdt fdw:FuncData}{ds:Nat->Addr}{oc kV doc pm ct:Value}{an od:Option Addr}{osl:Array (Option Value)}
  (lk:K.lookup f=some ⟨oc,od,.func (PySem.W.fnOf "law" "law" (aH jH) (aG jH) (aB jH) .none kV doc pm an (.ref c0) ct),osl⟩) (hcd:PySem.W.codeIn K (.ref c0) "law" = true) (hhd:PySem.W.codeHdIn K c0 Pt=true) (bm:iV mg base)
  (T:Txt K mg) (WC:sJ K CW) (Wf:Wd K mg ds) (hkw:∀ i∈gI,PySem.W.exmOne K (.ref (ds i)) (.ref W)=some true) (mWd:mg "WardError"=some (.ref W))
  (GC:bE P w K mg base CX0 2 fC fdC ["_law_script","_law_k"] (aEr K)) (kC:PySem.W.keepIn K (.ref fC)=true) (bC:aX K fdC ["_law_script","_law_k"] []) (mC:mg "_law_cell_at" = some (.ref fC))
  (GD:bE P w K mg base CX0 2 fD fdD ["_law_cell"] (tP K)) (kD:PySem.W.keepIn K (.ref fD)=true) (bD:aX K fdD ["_law_cell"] []) (mD:mg "_law_deeds_by" = some (.ref fD))
  (GI:bE P w K mg base (CXE P w) 4 fI fdI ["self","names","free"] (aEp K C fun k=>ds (ix k))) (MI:Mk K C fI) (bI:aX K fdI ["self","names","free"] []) (bI1:aX K fdI ["self","names","free"] [.none]) (mDs:mg "Deeds" = some (.ref C))
  (GP:bE P w K mg base CX0 3 fP fdP ["_law_cells","_law_names"] (tM K)) (kP:PySem.W.keepIn K (.ref fP)=true) (bP:aX K fdP ["_law_cells","_law_names"] []) (mP:mg "_law_plant_by" = some (.ref fP))
  (GMo:bE P w K mg base CX0 3 fMo fdMo ["_law_plant","_law_cell","_law_names"] (aEm K)) (kMo:PySem.W.keepIn K (.ref fMo)=true) (bMo:aX K fdMo ["_law_plant","_law_cell","_law_names"] []) (mMo:mg "_law_more" = some (.ref fMo))
  (GMs:bE P w K mg base CX0 6 fMs fdMs ["_law_deeds","_law_plant"] (mJ C CM)) (kMs:PySem.W.keepIn K (.ref fMs)=true) (bMs:aX K fdMs ["_law_deeds","_law_plant"] []) (mMs:mg "_law_machines" = some (.ref fMs))
  (GWI:bE P w K mg base (CXE P w) 3 fWI fdWI ["self","machines"] (jE CM CW (ds 4))) (WMk:Mk K CW fWI) (bWI:aX K fdWI ["self","machines"] []) (mWv:mg "Woven" = some (.ref CW))
  (GWB:bE P w K mg base CX0 3 fWB fdWB ["self"] (qX CM CW)) (bWB:aX K fdWB ["self"] []) (mWB:eZ K CW "begin" fWB)
  (GRi:bE P w K mg base CX0 1 fRi fdRi ["_law_many"] aEl) (kRi:PySem.W.keepIn K (.ref fRi)=true) (bRi:aX K fdRi ["_law_many"] []) (mRi:mg "_law_ring" = some (.ref fRi))
  (GAl:bE P w K mg base CX0 14 fAl fdAl ["_law_deeds","_law_plant","_law_names"] (tR C P1 Pr)) (kAl:PySem.W.keepIn K (.ref fAl)=true) (bAl:aX K fdAl ["_law_deeds","_law_plant","_law_names"] []) (mAl:mg "_law_all_come" = some (.ref fAl))
  (FT:Fun K "_law_tried" "_law_tried" jG ft fdt) (bT:aX K fdt ["_law_deed"] []) (mT:mg "_law_tried" = some (.ref ft))
  (GW:uS P w K mg base 1 fw fdw ["_law_e"] (uX (jY ds))) (kW:PySem.W.keepIn K (.ref fw)=true) (bW:aX K fdw ["_law_e"] []) (mW:mg "_law_word" = some (.ref fw)) :
  bE P w K mg base CX0 15 f (PySem.W.fnOf "law" "law" (aH jH) (aG jH) (aB jH) .none kV doc pm an (.ref c0) ct) ["_law_script"] (aAs K Pt P1 Pr):=by
 refine uK lk hcd scL (fun vs H Q E h=>?_) (fun A outer s H vs Q E hr h=>?_)
 ·obtain⟨a,ns,rfl,_⟩:=h;rfl
 ·obtain⟨a,ns,rfl,hS,hlen,hP,hP1,hPr,⟨ne1,ne2,ne3⟩,k⟩:=h
  have TR:yE (gB CX0 P w K mg base N22 "law" (aB jH) f (.ref c0) A outer s H E).nox jG ft fdt W fw fdw (jY ds):=⟨FT,scT,⟨_,_,_,_,_,_,_,_,_,_,_,_,_,rfl⟩,bT,mT,mWd,mW,kW,bW,GW,rfl,rfl,rfl,rfl,fun C x h=>by
   obtain⟨i,hi,rfl,_⟩:=oM h;exact hkw i hi⟩
  have hr1:cL 1 _:=hr.mono (by decide);have hr2:cL 2 _:=hr.mono (by decide);have hr3:cL 3 _:=hr.mono (by decide);have hr4:cL 4 _:=hr.mono (by decide);have hr5:cL 5 _:=hr.mono (by decide);have hr6:cL 6 _:=hr.mono (by decide);have hr8:cL 8 _:=hr.mono (by decide)
  suffices main:∃ t,PSs (gB CX0 P w K mg base N22 "law" (aB jH) f (.ref c0) A outer s H E).nox (aG jH) t∧t { nx:=fun _ H'=>Q .non H',rt:=Q } (fV N22 [.ref a]) H by
   obtain⟨t,h1,h2⟩:=main;exact⟨t,h1.nox,h2⟩
  refine⟨_,aK (aLd (bU GD hr2 rfl mD kD bD .nil cC (pac (bU GC hr2 rfl mC kC bC .nil cC (pac (pv 0) (pac aN aJ))) aJ)) (fE rfl (aY (aP (i:=1) scL.nd rfl (Or.inl rfl)) (aY (aP (i:=2) scL.nd rfl (Or.inl rfl)) dR))))
   (aK (aW (i:=3) scL.nd rfl (Or.inl rfl) (iR MI GI hr5 rfl mDs bI .nil lW (pac (pv 1) (pac (pv 2) aJ))))
   (aK (aW (i:=4) scL.nd rfl (Or.inl rfl) (bU GP hr3 rfl mP kP bP .nil cC (pac (eL (N':=ndk) (nown:=1) (js:=[0]) rfl
     ⟨rfl,by decide +kernel,by decide +kernel⟩ (cJ (aB jH) N22 rfl rfl (by decide +kernel))
     ⟨fun _ _ _ _=>aP (i:=0) (show List.Nodup ndk by decide +kernel) rfl (Or.inl rfl) (.inr rfl),fun _ _ _ _=>eE,fun _ _ _ _=>bU GC hr2 rfl mC kC bC .nil cC (pac (pv 1) (pac (pv 0) aJ))⟩
     (aCe rfl T.range (pac aN (pac aN aJ)))) (pac (pv 1) aJ))))
   (aK (aW (i:=4) scL.nd rfl (Or.inl rfl) (bU GMo hr3 rfl mMo kMo bMo .nil cC (pac (pv 4) (pac (bU GC hr2 rfl mC kC bC .nil cC (pac (pv 0) (pac aN aJ))) (pac (pv 1) aJ)))))
   (aK (aW (i:=5) scL.nd rfl (Or.inl rfl) (bU GC hr2 rfl mC kC bC .nil cC (pac (pv 0) (pac aN aJ))))
   (aK (aW (i:=6) scL.nd rfl (Or.inr rfl) (aS zA (nO qM (bU GMs hr6 rfl mMs kMs bMs .nil cC (pac (pv 3) (pac (pv 4) aJ))) lO (nN aN)) aN))
   (aK (dH (bX xA (rK (k:=5) (P:=Pt) (NL:=["_law_some"]) (js:=[6]) (te:=fun Ew=>aEf CW (jE CM CW (ds 4)) [] Ew (vZ (yK 0) yM)) TR (fun _=>rfl) rfl hr8 rfl rfl hhd bm ⟨rfl,rfl,rfl,by decide +kernel,by decide +kernel⟩
      (cJ (aB jH) N22 rfl rfl (by decide +kernel)) rfl (fun _ _ _ _=>rfl)
      (fun Ew cdv A outer s H pn E f c' s' H' hr=>iR (E:=Ew) WMk GWI (hr.mono (by decide)) rfl mWv bWI .nil (vR.passes fun _ _ _ z=>z) (pac (pv 0) aJ))) aQ (cN _)) (aL (bO rM)) cF)
   (aK (dH (bX xA (rK (k:=5) (P:=Pt) (NL:=[]) (js:=[]) (te:=fun Ew=>aEf CW (jE CM CW (ds 4)) [] Ew (vZ (aMw yM) yM)) TR (fun _=>rfl) rfl hr8 rfl rfl hhd bm ⟨rfl,rfl,rfl,by decide +kernel,by decide +kernel⟩
      (cJ (aB jH) N22 rfl rfl (by decide +kernel)) rfl (fun _ _ _ _=>rfl)
      (fun Ew cdv A outer s H pn E f c' s' H' hr=>iR (E:=Ew) WMk GWI (hr.mono (by decide)) rfl mWv bWI .nil (vR.passes fun _ _ _ z=>z) (pac (cM aJ) aJ))) aQ (cN _)) (aL (bO rM)) cF)
   (aK (dH (wR (bX xA (cH cK (by rfl) T.len Bo.len (pac (eK (iR WMk GWI hr4 (by rfl) mWv bWI .nil lW (pac (nO qM (pv 6) lO (nN aN)) aJ)) WC.cl mWB GWB hr3 bWB .nil cC) aJ)) aN (cN _))
     (vD (bX xA (cH cK (by rfl) T.len Bo.len (pac (eK (iR WMk GWI hr4 (by rfl) mWv bWI .nil lW (pac (nO qM (pv 6) lO (nN aN)) aJ)) WC.cl mWB GWB hr3 bWB .nil cC) aJ)) aN (cN _)))).pt (aL (bO rM)) cF)
   (dL (J22 C P1 Pr) (dH (bX nQ (aS cY (pv 5) aN) aN (cN _))
     (aK (aW (i:=1) scL.nd rfl (Or.inl rfl) (cM (pac aQ (pac aQ aJ))))
     (aK (aW (i:=3) scL.nd rfl (Or.inl rfl) (iR (dvs:=[.non]) MI GI hr5 rfl mDs bI1 (.cons rfl .nil) lW (pac (pv 1) aJ)))
     (aL (aW (i:=4) scL.nd rfl (Or.inl rfl) (bU GRi hr1 rfl mRi kRi bRi .nil cC (pac (dJ cS (cM (pac aN (pac aN (pac aN (pac aN (pac aN aJ)))))) (aS cY (aS eG (pv 5) aN) aN) (fun _ _=>rfl)) aJ)))))) cF)
   (aL (bO (yZ (bU GAl hr rfl mAl kAl bAl .nil cC (pac (pv 3) (pac (pv 4) (pac (pv 1) aJ)))) (yY (bU GAl hr rfl mAl kAl bAl .nil cC (pac (pv 3) (pac (aFe (pv 4) (nN (aNk aKm aN))) (pac (pv 1) aJ))))))))))))))))),?_⟩
  have h12:(jT ns).length<=12:=by show (dS _ _).length<=12; unfold dS; rw[List.length_map,List.length_range]; exact lQ _
  have hS12:∀ z∈jT ns,z∈jF:=fun z hz=>xG hz;have hnm:∀ z∈jT ns,aZ z=true:=fun z hz=>yO z (hS12 z hz);have hnd:(jT ns).Nodup:=sU _ (lQ _);have hF:∀ z∈aMf ns,z∈jT ns:=fun z hz=>zV hz;have hFl:(aMf ns).length<=12:=Nat.le_trans (zW _ _) h12;have sh:qG (jT ns):=fun z hz=>Nat.le_trans (nW (hnm z hz)) (by decide);refine⟨_,rfl,a,ns,0,rfl,hS,RW.cellAt ns 0,rfl,fun t l m H1 s1 ht hl hm=>⟨t,_,rfl,SqT.of ht,rfl,_,_,rfl,_,_,rfl,rfl,?_⟩⟩;refine⟨_,rfl,_,rfl,fun x dx hx hdx _=>?_⟩;have k1:aO H1 (upd (upd H1 dx (.own x)) x (.ins C dx [])):=fun b o e=>by rw[aI (aF e hx),aI (aF e hdx)]; exact e
  refine⟨x,l,.ref m,dx,jT ns,aMf ns,rfl,aD,SqL.of (k1 _ _ hl),.inr ⟨m,rfl,SqL.of (k1 _ _ hm)⟩,sh,fun z hz=>sh z (hF z hz),by omega,fun H2 sb=>?_⟩;rw[xZ h12 hnm hnd hF];intro dw df o S e1 e2 e3 pm so;have s2:aO H1 H2:=fun b u e=>sb b u (aF e hx) (k1 b u e);have W2:WAt C H2 x (wts S 1 []):=⟨dx,_,dw,o,e1,aNo _ _,by rfl,e2⟩;have hS2:=(s1.trans s2).seq hS;have hl2:=s2 _ _ hl;have s02:=s1.trans s2;refine⟨rfl,?_⟩;clear hx hdx k1 sb e1 e2 e3;refine⟨1,4,rfl,⟨by decide,by decide,by decide,by decide⟩,fun D hD=>iA (n:=3) (fun i σ' H'=>∃ v,σ'=[v,some (.ref a)]∧H' D=some (.lst (([RW.cellAt ns 1,RW.cellAt ns 2,RW.cellAt ns 3].take i).map V.int))∧aO H2 H') ?_ ?_ ?_⟩
  ·exact⟨none,rfl,aD,smu hD⟩
  ·rintro i σ' H' hi ⟨v,rfl,h1,h2⟩;refine⟨_,rfl,_,rfl,a,ns,1+i,by rw[Int.natCast_add]; rfl,h2.seq hS2,_,h1,aU (by rw[List.length_map,List.length_take]; omega),_,rfl,?_,fun b o' e=>?_⟩
   ·rw[aD]
    match i,hi with
    | 0,_=>rfl
    | 1,_=>rfl
    | 2,_=>rfl
   ·rw[aI (aF e hD)];exact h2 _ _ e
  rintro σ' H3 ⟨v,rfl,h3,s3⟩;refine⟨_,rfl,D,l,RW.cellAt ns 1,RW.cellAt ns 2,RW.cellAt ns 3,jT ns,rfl,SqL.of h3,SqL.of (s3 _ _ hl2),h12,fun p H4 s4 PA=>?_⟩;have s24:=s3.trans s4;have hgood:=aBi pm hnm
  have pln:1<=(aId ns).length∧(aId ns).length<=3:=by
   show 1<=((tW _ _ _).take _).length∧((tW _ _ _).take _).length<=3
   have:=xM (RW.cellAt ns 1)
   rw[List.length_take];show 1<=min _ 3∧min _ 3<=3;omega
  have plf:aHc (aId ns):=fun y hy=>aJs _ _ _ y (List.mem_of_mem_take hy);refine⟨_,rfl,_,rfl,a,ns,5,rfl,s24.seq hS2,_,rfl,p,l,RW.cellAt ns 5,aId ns,jT ns,rfl,PA,SqL.of (s24 _ _ hl2),h12,pln,plf,fun pl L H5 s5 n5 PA5 hL hF5=>?_⟩;have hR0:aGx L (jT ns):=fun y hy=>⟨aNi (hF5 y hy).1 (hF5 y hy).2 h12 hnd,(hF5 y hy).2⟩;have hR:=aNh hR0;have PL5:=aLe PA5;have lL:1<=(L.map (wK (jT ns))).length∧(L.map (wK (jT ns))).length<=7:=by rw[List.length_map]; exact hL
  generalize L.map (wK (jT ns))=l5 at hR PL5 lL;have s25:=s24.trans s5;have W5:=gX W2 s25;have hS5:=s25.seq hS2;have hl5:=s25 _ _ hl2;have s05:=s02.trans s25;have hP5:=s05 _ _ hP;have TA5:Tab aBe aBd P1 H5:=.inl (s05 _ _ hP1);have TR5:Tab qD qC Pr H5:=.inl (s05 _ _ hPr);clear hD h3 s3 s4 hS2 hl2 W2 s24 s2 PA s5 s25 PA5 hF5 hL hR0 s02 s05;refine⟨_,rfl,a,ns,4,rfl,hS5,?_⟩;refine⟨_,rfl,_,rfl,x,pl,l5,jT ns,wts S 1 [],rfl,W5,PL5,by omega,hR,hgood,fun D6 H6 s6 n6 MS6=>?_⟩;obtain⟨Xs,x0,x1,x2⟩:=MS6.ex;rw[List.length_map] at x1
  obtain⟨X0,Xr,rfl⟩:∃ X0 Xr,Xs=X0::Xr:=by
   cases Xs with
   | nil=>simp at x1; omega
   | cons X0 Xr=>exact⟨X0,Xr,rfl⟩
  have hm0:=List.getElem?_eq_getElem (l:=l5.map MR.mw) (i:=0) (by rw[List.length_map]; omega);have hmm0:(l5.map MR.mw)[0]'(by rw[List.length_map]; omega)∈l5.map MR.mw:=List.getElem_mem _;generalize (l5.map MR.mw)[0]'(by rw[List.length_map]; omega)=m0 at hm0 hmm0;have M6:=x2 0 X0 m0 rfl hm0;have hk0:∀ z∈m0.kn,z∈jT ns:=fun z hz=>aDx hR z (List.mem_flatMap.mpr ⟨m0,hmm0,hz⟩);have ec1:jV ((X0::Xr).map V.ref) none (some 1)=[.ref X0]:=aGq _ 1;refine⟨_,rfl,D6,_,rfl,SqL.of x0,fun p7 hp7=>?_⟩;rw[ec1];refine⟨p7,8,_,rfl,rfl,aD,by decide,by decide,kE (by show 1*8<=16000000; decide),fun sm hsm=>?_⟩;have s68:aO H6 (upd (upd H6 p7 (.lst [.ref X0])) sm (.lst (List.replicate (8:Int).toNat [V.ref X0]).flatten)):=(smu hp7).trans (smu hsm);have e8:(upd (upd H6 p7 (.lst [.ref X0])) sm (.lst (List.replicate (8:Int).toNat [V.ref X0]).flatten)) sm=some (.lst (List.replicate 8 (V.ref X0))):=aD;generalize upd (upd H6 p7 (.lst [.ref X0])) sm (.lst (List.replicate (8:Int).toNat [V.ref X0]).flatten)=H8 at s68 e8 ⊢;have s58:=s6.trans s68;have M8:=M6.same s68;have W8:=gX W5 s58;have PL8:=PL5.same s58;have hl8:=s58 _ _ hl5;have TA8:=TA5.same s58;have TR8:=TR5.same s58;have hP8:=s58 _ _ hP5;clear hp7 hsm s68 s58 s6 n6 MS6 x0 x1 x2 M6 W5 PL5 hl5 TA5 TR5 hP5 hS5 ec1;refine .mk #[] hP8 trivial rfl fun c' H9 hc hn e9=>?_
  have s9:aO (off H8 Pt) H9:=fun b o z=>by
   obtain⟨z1,z2⟩:=dZ z;rw[e9,aI (aF z2 hc),aI z1];exact z2
  have P9:H9 Pt=some (.tbl #[rawInt aKf.line,rawInt aKf.col,.ref c']):=by
   rw[e9,aI (Ne.symm hn),aD]
   first | done | rfl
  clear e9 hc hn;have e9:=s9 _ _ (fZ (fun z=>by rw[z,hP8] at e8; cases e8) e8);refine⟨_,rfl,fun v dv hv hdv _=>.bad v sm (List.replicate 8 (V.ref X0)) rfl ?_ (.inr (by rw[List.length_replicate]; decide)) ⟨ds 4,"TooMany",rfl,aDw Wf,fun H10 s10=>⟨rfl,_,rfl,eQ (fun y=>absurd y (by decide)) fun _=>?_⟩⟩⟩
  ·rw[aI (aF e9 hv),aI (aF e9 hdv)];exact e9
  have s10':aO H9 H10:=fun b o e=>s10 _ _ (by rw[aI (aF e hv),aI (aF e hdv)]; exact e);have s810:=s9.trans s10';have P10:=s10' _ _ P9;clear s10 s10' hv hdv e9 P9 s9;refine .mk _ P10 ⟨⟩ rfl fun c2 H11 hc hn e11=>?_
  have s11:aO (off H10 Pt) H11:=fun b o z=>by
   obtain⟨z1,z2⟩:=dZ z;rw[e11,aI (aF z2 hc),aI z1];exact z2
  clear e11 hc hn;refine⟨by show 0<=sizeLine; decide,fun l0 hl0 v dv hv hdv _=>.bad v l0 [] rfl ?_ (.inl rfl) ⟨ds 4,"TooMany",rfl,aDw Wf,fun H12 s12=>⟨rfl,_,rfl,eQ (fun y=>absurd y (by decide)) fun _=>?_⟩⟩⟩
  ·rw[aI (aF aD hv),aI (aF aD hdv),aD]
  have s12':aO H11 H12:=fun b o e=>s12 _ _ (by
   have e':=smu (o:=.lst []) hl0 _ _ e;rw[aI (aF e' hv),aI (aF e' hdv)];exact e')
  have s812:aO (off H8 Pt) H12:=(aIr s810).trans (s11.trans s12');clear s12 s12' hv hdv hl0 s11 s810 P10;have nt:=uC ⟨_,hP8⟩ s812;have M12:=ntM nt M8;have W12:=ntW nt W8;have PL12:=ntP nt PL8;have hl12:=nt _ _ hl8 trivial;have e12:=nt _ _ e8 trivial;have TA12:=TA8.others (Ne.symm ne1) ⟨_,hP8⟩ s812;have TR12:=TR8.others (Ne.symm ne2) ⟨_,hP8⟩ s812;clear nt s812 hP8 M8 W8 PL8 hl8 e8 TA8 TR8
  have wov:∀ (j:Nat) (H:Hp) (pj v dv:Addr) (Q:VK) (E:XK),1<=j∧j<=7->MM CM H X0 x m0.b m0.es m0.kn m0.ds->H pj=some (.lst (List.replicate j (V.ref X0)))->H v=none->H dv=none ->
    (∀ (bg dv' lm lk:Addr) H' ,aO H H'->H' v=some (.ins CW dv' (aAh lm lk))->Wv CM CW H' v x (List.replicate j m0)->Q .non H')->jE CM CW (ds 4) [.ref v,.ref pj] (upd (upd H dv (.own v)) v (.ins CW dv [])) Q E:=fun j H pj v dv Q E hj hM hp hv hdv q=>by
   have k1:aO H (upd (upd H dv (.own v)) v (.ins CW dv [])):=fun b o' e=>by rw[aI (aF e hv),aI (aF e hdv)]; exact e
   refine .mk v dv x pj (List.replicate j m0) (jT ns) rfl aD (aLu (k1 _ _ hp) (hM.same k1)) (by rw[List.length_replicate]; exact hj) (fun mw hm z hz=>hk0 z (by rw[← List.eq_of_mem_replicate hm]; exact hz)) (by omega) fun H' sb W _=>?_;obtain⟨dv',lm,lk,kn,hi,_⟩:=id W;exact q v dv' lm lk H' (fun b u e=>sb b u (aF e hv) (k1 b u e)) hi W
  refine⟨_,rfl,_,rfl,sm,_,rfl,SqL.of e12,fun p13 hp13=>?_⟩;have s13:=smu (o:=.lst (jV (List.replicate 8 (V.ref X0)) none (some 7))) hp13;have e13:(upd H12 p13 (.lst (jV (List.replicate 8 (V.ref X0)) none (some 7)))) p13=some (.lst (List.replicate 7 (V.ref X0))):=by rw[aD,show jV (List.replicate 8 (V.ref X0)) none (some 7)=List.replicate 7 (V.ref X0) from aGq _ 7]
  generalize upd H12 p13 (.lst (jV (List.replicate 8 (V.ref X0)) none (some 7)))=H13 at s13 e13 ⊢;intro v dv hv hdv _;refine wov 7 H13 p13 v dv _ _ (by decide) (M12.same s13) e13 hv hdv fun _ dv' lm lk' H14 s14 hi14 W14=>⟨rfl,v,dv',_,rfl,hi14,dI _ _ _ (by decide),v,x,_,rfl,W14,by rw[List.length_replicate]; decide,fun bg H15 s15 n15 e15=>?_⟩;have s1215:=s13.trans (s14.trans s15);refine⟨bg,_,rfl,.inr (SqT.of e15),rfl,_,rfl,eQ (fun h=>absurd h (by simp)) fun _=>?_⟩;clear hv hdv s13 s14 s15 e13 hp13 hi14 W14 n15 e15;refine⟨_,rfl,_,rfl,sm,_,rfl,SqL.of (s1215 _ _ e12),fun p16 hp16=>?_⟩;have s16:=smu (o:=.lst (jV (List.replicate 8 (V.ref X0)) none (some 1))) hp16;have e16:(upd H15 p16 (.lst (jV (List.replicate 8 (V.ref X0)) none (some 1)))) p16=some (.lst (List.replicate 1 (V.ref X0))):=by rw[aD,show jV (List.replicate 8 (V.ref X0)) none (some 1)=List.replicate 1 (V.ref X0) from aGq _ 1]
  generalize upd H15 p16 (.lst (jV (List.replicate 8 (V.ref X0)) none (some 1)))=H16 at s16 e16 ⊢;intro v2 dv2 hv hdv _;refine wov 1 H16 p16 v2 dv2 _ _ (by decide) (M12.same (s1215.trans s16)) e16 hv hdv fun _ dv' lm lk' H17 s17 hi17 W17=>⟨rfl,v2,dv',_,rfl,hi17,dI _ _ _ (by decide),v2,x,_,rfl,W17,by rw[List.length_replicate]; decide,fun bg2 H18 s18 n18 e18=>?_⟩;have s1218:=s1215.trans (s16.trans (s17.trans s18));refine⟨bg2,_,rfl,.inr (SqT.of e18),rfl,_,rfl,eQ (fun h=>absurd h (by simp)) fun _=>?_⟩;clear hv hdv s16 s17 s18 e16 hp16 hi17 W17 n18 e18 s1215 wov;have W18:=gX W12 s1218;have PL18:=PL12.same s1218;have hl18:=s1218 _ _ hl12;have TA18:=TA12.same s1218;have TR18:=TR12.same s1218;clear s1218 W12 PL12 hl12 TA12 TR12 M12 e12;refine⟨⟨_,rfl,_,_,rfl,rfl,(by show (0:Int)<4; decide),rfl,_,rfl,eQ (fun _=>?_) (fun _=>?_)⟩,?_⟩
  ·refine⟨by show 2<=sizeLine; decide,fun l19 hl19=>?_⟩;have s19:aO H18 (upd H18 l19 (.lst [.str "go",.str "aside"])):=smu hl19;have e19:(upd H18 l19 (.lst [.str "go",.str "aside"])) l19=some (.lst (jQ.map V.str)):=aD;generalize upd H18 l19 (.lst [.str "go",.str "aside"])=H19 at s19 e19 ⊢;refine⟨_,rfl,fun x20 dx20 hx20 hdx20 _=>?_⟩;have k1:aO H19 (upd (upd H19 dx20 (.own x20)) x20 (.ins C dx20 [])):=fun b o e=>by rw[aI (aF e hx20),aI (aF e hdx20)]; exact e
   have gn:∀ z∈jQ,aZ z=true:=by decide +kernel
   refine⟨x20,l19,.non,dx20,jQ,[],rfl,aD,SqL.of (k1 _ _ e19),.inl ⟨rfl,rfl⟩,fun z hz=>Nat.le_trans (nW (gn z hz)) (by decide),fun z hz=>(nomatch hz),Nat.zero_le _,fun H20 sb=>?_⟩;rw[xZ (ss:=jQ) (fs:=[]) (by decide) gn (by decide +kernel) (fun z hz=>(nomatch hz))];intro dw2 df2 o2 S2 e1 e2 e3 pm2 so2;have s20:aO H19 H20:=fun b u e=>sb b u (aF e hx20) (k1 b u e);have W20:WAt C H20 x20 (wts S2 1 []):=⟨dx20,_,dw2,o2,e1,aNo _ _,by rfl,e2⟩;refine⟨rfl,?_⟩;obtain⟨n,hRi,hat⟩:=aHu (RW.cellAt ns 4/4);have s1820:=s19.trans s20;refine⟨by show 5<=sizeLine; decide,fun p21 hp21=>⟨_,rfl,_,_,rfl,rfl,⟨by decide,by decide⟩,_,_,rfl,rfl,(by show (0:Int)<5; decide),p21,_,_,.int n,rfl,rfl,SqL.of aD,hat,n,rfl,by rcases hRi with rfl | rfl | rfl <;> decide,fun pl22 H22 s22 n22 PL22=>?_⟩⟩
   have s2022:=(smu hp21).trans s22;have s1822:=s1820.trans s2022
   exact⟨_,_,_,_,x20,pl22,l19,[fY n,iM],jQ,S2,wts S2 1 [],rfl,gX W20 s2022,PL22,⟨by show 1<=2; decide,by show 2<=7; decide⟩,fun r hr=>by
    rcases List.mem_cons.mp hr with rfl | hr
    ·exact aHt hRi
    ·rw[List.mem_singleton.mp hr]; exact aGs,aBi pm2 gn,(s20.trans s2022) _ _ e19,by decide,pm2,so2,by decide +kernel,TR18.same s1822,TA18.same s1822⟩
  ·exact⟨_,_,_,_,x,pl,l,l5,jT ns,S,wts S 1 [],rfl,W18,PL18,lL,hR,hgood,hl18,h12,pm,so,hnd,TR18,TA18⟩
  ·rintro σ HJ ⟨y0,y2,y5,y6,xj,pj,nj,lj,sj,Sj,wj,rfl,a1,a2,a3,a4,a5,a6,a7,a8,a9,a10,a11,a12⟩;refine⟨_,rfl,_,rfl,_,rfl,xj,pj,nj,lj,sj,Sj,wj,rfl,a1,a2,a3,a4,a5,a6,a7,a8,a9,a10,a11,a12,ne3,fun HK sK TRK TAK=>⟨_,rfl,jU ?_⟩⟩;have nt:=aIt a12.tb a11.tb sK;have PLK:=ntP nt a2;obtain⟨ts,p0,p1,p2⟩:=PLK.ex;refine⟨_,rfl,_,rfl,_,rfl,_,rfl,pj,_,rfl,rfl,SqL.of p0,fun pr hpr=>?_⟩;have sr:=smu (o:=.lst (ts.map V.ref).reverse) hpr;exact⟨_,rfl,xj,pr,nj,lj.reverse,sj,Sj,wj,rfl,gX (ntW nt a1) sr,(PLK.same sr).rev (sr _ _ p0) aD,by rw[List.length_reverse]; exact a3,fun r hr=>a4 r (List.mem_reverse.mp hr),a5,sr _ _ (nt _ _ a6 trivial),a7,a8,a9,a10,TRK.same sr,TAK.same sr,ne3,fun H' _ _ _=>k H'⟩
end
end K22
namespace K22
open PySem L2 Ky
theorem aQd {α:Type}{p:List α->Prop}(h:∀ a b c d e f,p [a,b,c,d,e,f]):∀ us:List α,us.length=6->p us
 | [a,b,c,d,e,f],_=>h a b c d e f
def aQg (K:PySem.W.Frag) (ds:List Addr):Bool:=gI.all fun i=>(List.range 14).all fun j=>PySem.W.kitOne K (.ref (ds.getD i 0)) (.ref (ds.getD j 0))==some (decide (i=j))
def veB (K:PySem.W.Frag) (ds:List Addr):Bool:=gI.all fun i=>PySem.W.kitOne K (.ref (ds.getD i 0)) (.type "ValueError")==some true
def exB (K:PySem.W.Frag) (ds:List Addr) (W:Addr):Bool:=gI.all fun i=>PySem.W.exmOne K (.ref (ds.getD i 0)) (.ref W)==some true
theorem all_mk {l:PySem.W.OpenLaw}{w:World}{K:PySem.W.Frag}{h:Heap}{mg:Str->Option Value}{fa f1 f2 f3 f4 f5 f6 f7 f8 f9 f10 f11 f12 f13 f14 f15 f16 f17 f18 f19 f20 f21 f22 f23 f24 f25 f26 f27 f28 f29 fm0 fm1 fM0 fM1 fM2 fM3 fV0 fV1 fV2 fV3 fV4 fV5 fV6 fV7 fMI fI C CM CW W c0 cA cR Pt P1 Pr Td Te d0 d1 d2 d3 d4 d5 d6 d7 d8 d9 d10 d11 d12 d13:Addr}(X:K.In h) (G:h.Ns mainGlobals mg) (hfa:mg "law"=some (.ref fa))
  {oc1 kV1 dc1 pm1 ct1 cd1:Value}{od1 an1:Option Addr}{sl1:Array (Option Value)}{oc2 kV2 dc2 pm2 ct2 cd2:Value}{od2 an2:Option Addr}{sl2:Array (Option Value)}{oc3 kV3 dc3 pm3 ct3 cd3:Value}{od3 an3:Option Addr}{sl3:Array (Option Value)}{oc4 kV4 dc4 pm4 ct4 cd4:Value}{od4 an4:Option Addr}{sl4:Array (Option Value)}{oc5 kV5 dc5 pm5 ct5 cd5:Value}{od5 an5:Option Addr}{sl5:Array (Option Value)}{oc6 kV6 dc6 pm6 ct6 cd6:Value}{od6 an6:Option Addr}{sl6:Array (Option Value)}{oc7 kV7 dc7 pm7 ct7 cd7:Value}{od7 an7:Option Addr}{sl7:Array (Option Value)}{oc8 kV8 dc8 pm8 ct8 cd8:Value}{od8 an8:Option Addr}{sl8:Array (Option Value)}{oc9 kV9 dc9 pm9 ct9 cd9:Value}{od9 an9:Option Addr}{sl9:Array (Option Value)}{oc10 kV10 dc10 pm10 ct10 cd10:Value}{od10 an10:Option Addr}{sl10:Array (Option Value)}{oc11 kV11 dc11 pm11 ct11 cd11:Value}{od11 an11:Option Addr}{sl11:Array (Option Value)}{oc12 kV12 dc12 pm12 ct12 cd12:Value}{od12 an12:Option Addr}{sl12:Array (Option Value)}{oc13 kV13 dc13 pm13 ct13 cd13:Value}{od13 an13:Option Addr}{sl13:Array (Option Value)}{oc14 kV14 dc14 pm14 ct14 cd14:Value}{od14 an14:Option Addr}{sl14:Array (Option Value)}{oc15 kV15 dc15 pm15 ct15 cd15:Value}{od15 an15:Option Addr}{sl15:Array (Option Value)}{oc16 kV16 dc16 pm16 ct16 cd16:Value}{od16 an16:Option Addr}{sl16:Array (Option Value)}{oc17 kV17 dc17 pm17 ct17 cd17:Value}{od17 an17:Option Addr}{sl17:Array (Option Value)}{oc18 kV18 dc18 pm18 ct18 cd18:Value}{od18 an18:Option Addr}{sl18:Array (Option Value)}{oc19 kV19 dc19 pm19 ct19 cd19:Value}{od19 an19:Option Addr}{sl19:Array (Option Value)}{oc20 kV20 dc20 pm20 ct20 cd20:Value}{od20 an20:Option Addr}{sl20:Array (Option Value)}{oc21 kV21 dc21 pm21 ct21 cd21:Value}{od21 an21:Option Addr}{sl21:Array (Option Value)}{oc22 kV22 dc22 pm22 ct22 cd22:Value}{od22 an22:Option Addr}{sl22:Array (Option Value)}{oc23 kV23 dc23 pm23 ct23 cd23:Value}{od23 an23:Option Addr}{sl23:Array (Option Value)}{oc24 kV24 dc24 pm24 ct24 cd24:Value}{od24 an24:Option Addr}{sl24:Array (Option Value)}{oc25 kV25 dc25 pm25 ct25 cd25:Value}{od25 an25:Option Addr}{sl25:Array (Option Value)}{oc26 kV26 dc26 pm26 ct26 cd26:Value}{od26 an26:Option Addr}{sl26:Array (Option Value)}{oc27 kV27 dc27 pm27 ct27 cd27:Value}{od27 an27:Option Addr}{sl27:Array (Option Value)}{oc28 kV28 dc28 pm28 ct28:Value}{od28 an28:Option Addr}{sl28:Array (Option Value)}{oc29 kV29 dc29 pm29 ct29:Value}{od29 an29:Option Addr}{sl29:Array (Option Value)}{ocm0 kVm0 dcm0 pmm0 ctm0 cdm0:Value}{odm0 anm0:Option Addr}{slm0:Array (Option Value)}{ocm1 kVm1 dcm1 pmm1 ctm1 cdm1:Value}{odm1 anm1:Option Addr}{slm1:Array (Option Value)}{ocM0 kVM0 dcM0 pmM0 ctM0 cdM0:Value}{odM0 anM0:Option Addr}{slM0:Array (Option Value)}{ocM1 kVM1 dcM1 pmM1 ctM1 cdM1:Value}{odM1 anM1:Option Addr}{slM1:Array (Option Value)}{ocM2 kVM2 dcM2 pmM2 ctM2 cdM2:Value}{odM2 anM2:Option Addr}{slM2:Array (Option Value)}{ocM3 kVM3 dcM3 pmM3 ctM3 cdM3:Value}{odM3 anM3:Option Addr}{slM3:Array (Option Value)}{ocV0 kVV0 dcV0 pmV0 ctV0 cdV0:Value}{odV0 anV0:Option Addr}{slV0:Array (Option Value)}{ocV1 kVV1 dcV1 pmV1 ctV1 cdV1:Value}{odV1 anV1:Option Addr}{slV1:Array (Option Value)}{ocV2 kVV2 dcV2 pmV2 ctV2 cdV2:Value}{odV2 anV2:Option Addr}{slV2:Array (Option Value)}{ocV3 kVV3 dcV3 pmV3 ctV3 cdV3:Value}{odV3 anV3:Option Addr}{slV3:Array (Option Value)}{ocV4 kVV4 dcV4 pmV4 ctV4 cdV4:Value}{odV4 anV4:Option Addr}{slV4:Array (Option Value)}{ocV5 kVV5 dcV5 pmV5 ctV5 cdV5:Value}{odV5 anV5:Option Addr}{slV5:Array (Option Value)}{ocV6 kVV6 dcV6 pmV6 ctV6 cdV6:Value}{odV6 anV6:Option Addr}{slV6:Array (Option Value)}{ocV7 kVV7 dcV7 pmV7 ctV7:Value}{odV7 anV7:Option Addr}{slV7:Array (Option Value)}{ocMI kVMI dcMI pmMI ctMI cdMI:Value}{odMI anMI:Option Addr}{slMI:Array (Option Value)}{ocE:Value}{odE:Option Addr}{slE:Array (Option Value)}{nE:Nat}{ocI kVI dcI pmI ctI cdI:Value}{odI anI:Option Addr}{slI:Array (Option Value)}{ocT:Value}{odT:Option Addr}{slT:Array (Option Value)}{nT:Nat}{t0 t1 t2 t3 t4 t5:Tok}
  (a1:PySem.W.nsIn K mainGlobals "_law_mixed"=some (some (.ref f1)))
  (l1:K.lookup f1=some ⟨oc1,od1,.func (PySem.W.fnOf "_law_mixed" "_law_mixed" (aH kO) (aG kO) (aB kO) .none kV1 dc1 pm1 an1 cd1 ct1),sl1⟩)
  (c1:PySem.W.codeIn K cd1 "_law_mixed"=true)
  (k1:PySem.W.keepIn K (.ref f1)=true)
  (a2:PySem.W.nsIn K mainGlobals "_law_cell_at"=some (some (.ref f2)))
  (l2:K.lookup f2=some ⟨oc2,od2,.func (PySem.W.fnOf "_law_cell_at" "_law_cell_at" (aH tV) (aG tV) (aB tV) .none kV2 dc2 pm2 an2 cd2 ct2),sl2⟩)
  (c2:PySem.W.codeIn K cd2 "_law_cell_at"=true)
  (k2:PySem.W.keepIn K (.ref f2)=true)
  (a3:PySem.W.nsIn K mainGlobals "is_name"=some (some (.ref f3)))
  (l3:K.lookup f3=some ⟨oc3,od3,.func (PySem.W.fnOf "is_name" "is_name" (aH kJ) (aG kJ) (aB kJ) .none kV3 dc3 pm3 an3 cd3 ct3),sl3⟩)
  (c3:PySem.W.codeIn K cd3 "is_name"=true)
  (k3:PySem.W.keepIn K (.ref f3)=true)
  (a4:PySem.W.nsIn K mainGlobals "refuse_names"=some (some (.ref f4)))
  (l4:K.lookup f4=some ⟨oc4,od4,.func (PySem.W.fnOf "refuse_names" "refuse_names" (aH lK) (aG lK) (aB lK) .none kV4 dc4 pm4 an4 cd4 ct4),sl4⟩)
  (c4:PySem.W.codeIn K cd4 "refuse_names"=true)
  (k4:PySem.W.keepIn K (.ref f4)=true)
  (a5:PySem.W.nsIn K mainGlobals "weights_of"=some (some (.ref f5)))
  (l5:K.lookup f5=some ⟨oc5,od5,.func (PySem.W.fnOf "weights_of" "weights_of" (aH iZ) (aG iZ) (aB iZ) .none kV5 dc5 pm5 an5 cd5 ct5),sl5⟩)
  (c5:PySem.W.codeIn K cd5 "weights_of"=true)
  (k5:PySem.W.keepIn K (.ref f5)=true)
  (a6:PySem.W.nsIn K mainGlobals "marks_of"=some (some (.ref f6)))
  (l6:K.lookup f6=some ⟨oc6,od6,.func (PySem.W.fnOf "marks_of" "marks_of" (aH oW) (aG oW) (aB oW) .none kV6 dc6 pm6 an6 cd6 ct6),sl6⟩)
  (c6:PySem.W.codeIn K cd6 "marks_of"=true)
  (k6:PySem.W.keepIn K (.ref f6)=true)
  (a7:PySem.W.nsIn K mainGlobals "_law_names_by"=some (some (.ref f7)))
  (l7:K.lookup f7=some ⟨oc7,od7,.func (PySem.W.fnOf "_law_names_by" "_law_names_by" (aH gS) (aG gS) (aB gS) .none kV7 dc7 pm7 an7 cd7 ct7),sl7⟩)
  (c7:PySem.W.codeIn K cd7 "_law_names_by"=true)
  (k7:PySem.W.keepIn K (.ref f7)=true)
  (a8:PySem.W.nsIn K mainGlobals "_law_deeds_by"=some (some (.ref f8)))
  (l8:K.lookup f8=some ⟨oc8,od8,.func (PySem.W.fnOf "_law_deeds_by" "_law_deeds_by" (aH iE) (aG iE) (aB iE) .none kV8 dc8 pm8 an8 cd8 ct8),sl8⟩)
  (c8:PySem.W.codeIn K cd8 "_law_deeds_by"=true)
  (k8:PySem.W.keepIn K (.ref f8)=true)
  (a9:PySem.W.nsIn K mainGlobals "_law_word"=some (some (.ref f9)))
  (l9:K.lookup f9=some ⟨oc9,od9,.func (PySem.W.fnOf "_law_word" "_law_word" (aH tS) (aG tS) (aB tS) .none kV9 dc9 pm9 an9 cd9 ct9),sl9⟩)
  (c9:PySem.W.codeIn K cd9 "_law_word"=true)
  (k9:PySem.W.keepIn K (.ref f9)=true)
  (a10:PySem.W.nsIn K mainGlobals "_law_tried"=some (some (.ref f10)))
  (l10:K.lookup f10=some ⟨oc10,od10,.func (PySem.W.fnOf "_law_tried" "_law_tried" (aH jG) (aG jG) (aB jG) .none kV10 dc10 pm10 an10 cd10 ct10),sl10⟩)
  (c10:PySem.W.codeIn K cd10 "_law_tried"=true)
  (k10:PySem.W.keepIn K (.ref f10)=true)
  (a11:PySem.W.nsIn K mainGlobals "named_rooms"=some (some (.ref f11)))
  (l11:K.lookup f11=some ⟨oc11,od11,.func (PySem.W.fnOf "named_rooms" "named_rooms" (aH oU) (aG oU) (aB oU) .none kV11 dc11 pm11 an11 cd11 ct11),sl11⟩)
  (c11:PySem.W.codeIn K cd11 "named_rooms"=true)
  (k11:PySem.W.keepIn K (.ref f11)=true)
  (a12:PySem.W.nsIn K mainGlobals "refuse_rooms"=some (some (.ref f12)))
  (l12:K.lookup f12=some ⟨oc12,od12,.func (PySem.W.fnOf "refuse_rooms" "refuse_rooms" (aH hV) (aG hV) (aB hV) .none kV12 dc12 pm12 an12 cd12 ct12),sl12⟩)
  (c12:PySem.W.codeIn K cd12 "refuse_rooms"=true)
  (k12:PySem.W.keepIn K (.ref f12)=true)
  (a13:PySem.W.nsIn K mainGlobals "leads_of"=some (some (.ref f13)))
  (l13:K.lookup f13=some ⟨oc13,od13,.func (PySem.W.fnOf "leads_of" "leads_of" (aH oX) (aG oX) (aB oX) .none kV13 dc13 pm13 an13 cd13 ct13),sl13⟩)
  (c13:PySem.W.codeIn K cd13 "leads_of"=true)
  (k13:PySem.W.keepIn K (.ref f13)=true)
  (a14:PySem.W.nsIn K mainGlobals "_law_rooms_by"=some (some (.ref f14)))
  (l14:K.lookup f14=some ⟨oc14,od14,.func (PySem.W.fnOf "_law_rooms_by" "_law_rooms_by" (aH iB) (aG iB) (aB iB) .none kV14 dc14 pm14 an14 cd14 ct14),sl14⟩)
  (c14:PySem.W.codeIn K cd14 "_law_rooms_by"=true)
  (k14:PySem.W.keepIn K (.ref f14)=true)
  (a15:PySem.W.nsIn K mainGlobals "_law_machine_by"=some (some (.ref f15)))
  (l15:K.lookup f15=some ⟨oc15,od15,.func (PySem.W.fnOf "_law_machine_by" "_law_machine_by" (aH dQ) (aG dQ) (aB dQ) .none kV15 dc15 pm15 an15 cd15 ct15),sl15⟩)
  (c15:PySem.W.codeIn K cd15 "_law_machine_by"=true)
  (k15:PySem.W.keepIn K (.ref f15)=true)
  (a16:PySem.W.nsIn K mainGlobals "_law_plant_by"=some (some (.ref f16)))
  (l16:K.lookup f16=some ⟨oc16,od16,.func (PySem.W.fnOf "_law_plant_by" "_law_plant_by" (aH iC) (aG iC) (aB iC) .none kV16 dc16 pm16 an16 cd16 ct16),sl16⟩)
  (c16:PySem.W.codeIn K cd16 "_law_plant_by"=true)
  (k16:PySem.W.keepIn K (.ref f16)=true)
  (a17:PySem.W.nsIn K mainGlobals "_law_more"=some (some (.ref f17)))
  (l17:K.lookup f17=some ⟨oc17,od17,.func (PySem.W.fnOf "_law_more" "_law_more" (aH tU) (aG tU) (aB tU) .none kV17 dc17 pm17 an17 cd17 ct17),sl17⟩)
  (c17:PySem.W.codeIn K cd17 "_law_more"=true)
  (k17:PySem.W.keepIn K (.ref f17)=true)
  (a18:PySem.W.nsIn K mainGlobals "_law_machines"=some (some (.ref f18)))
  (l18:K.lookup f18=some ⟨oc18,od18,.func (PySem.W.fnOf "_law_machines" "_law_machines" (aH gK) (aG gK) (aB gK) .none kV18 dc18 pm18 an18 cd18 ct18),sl18⟩)
  (c18:PySem.W.codeIn K cd18 "_law_machines"=true)
  (k18:PySem.W.keepIn K (.ref f18)=true)
  (a19:PySem.W.nsIn K mainGlobals "_law_maps"=some (some (.ref f19)))
  (l19:K.lookup f19=some ⟨oc19,od19,.func (PySem.W.fnOf "_law_maps" "_law_maps" (aH rB) (aG rB) (aB rB) .none kV19 dc19 pm19 an19 cd19 ct19),sl19⟩)
  (c19:PySem.W.codeIn K cd19 "_law_maps"=true)
  (k19:PySem.W.keepIn K (.ref f19)=true)
  (a20:PySem.W.nsIn K mainGlobals "_law_step"=some (some (.ref f20)))
  (l20:K.lookup f20=some ⟨oc20,od20,.func (PySem.W.fnOf "_law_step" "_law_step" (aH tT) (aG tT) (aB tT) .none kV20 dc20 pm20 an20 cd20 ct20),sl20⟩)
  (c20:PySem.W.codeIn K cd20 "_law_step"=true)
  (k20:PySem.W.keepIn K (.ref f20)=true)
  (a21:PySem.W.nsIn K mainGlobals "_law_come"=some (some (.ref f21)))
  (l21:K.lookup f21=some ⟨oc21,od21,.func (PySem.W.fnOf "_law_come" "_law_come" (aH rC) (aG rC) (aB rC) .none kV21 dc21 pm21 an21 cd21 ct21),sl21⟩)
  (c21:PySem.W.codeIn K cd21 "_law_come"=true)
  (k21:PySem.W.keepIn K (.ref f21)=true)
  (a22:PySem.W.nsIn K mainGlobals "_law_ring"=some (some (.ref f22)))
  (l22:K.lookup f22=some ⟨oc22,od22,.func (PySem.W.fnOf "_law_ring" "_law_ring" (aH pV) (aG pV) (aB pV) .none kV22 dc22 pm22 an22 cd22 ct22),sl22⟩)
  (c22:PySem.W.codeIn K cd22 "_law_ring"=true)
  (k22:PySem.W.keepIn K (.ref f22)=true)
  (a23:PySem.W.nsIn K mainGlobals "begin_of"=some (some (.ref f23)))
  (l23:K.lookup f23=some ⟨oc23,od23,.func (PySem.W.fnOf "begin_of" "begin_of" (aH iF) (aG iF) (aB iF) .none kV23 dc23 pm23 an23 cd23 ct23),sl23⟩)
  (c23:PySem.W.codeIn K cd23 "begin_of"=true)
  (k23:PySem.W.keepIn K (.ref f23)=true)
  (a24:PySem.W.nsIn K mainGlobals "far_of"=some (some (.ref f24)))
  (l24:K.lookup f24=some ⟨oc24,od24,.func (PySem.W.fnOf "far_of" "far_of" (aH mO) (aG mO) (aB mO) .none kV24 dc24 pm24 an24 cd24 ct24),sl24⟩)
  (c24:PySem.W.codeIn K cd24 "far_of"=true)
  (k24:PySem.W.keepIn K (.ref f24)=true)
  (a25:PySem.W.nsIn K mainGlobals "rows_to"=some (some (.ref f25)))
  (l25:K.lookup f25=some ⟨oc25,od25,.func (PySem.W.fnOf "rows_to" "rows_to" (aH lJ) (aG lJ) (aB lJ) .none kV25 dc25 pm25 an25 cd25 ct25),sl25⟩)
  (c25:PySem.W.codeIn K cd25 "rows_to"=true)
  (k25:PySem.W.keepIn K (.ref f25)=true)
  (a26:PySem.W.nsIn K mainGlobals "come_to"=some (some (.ref f26)))
  (l26:K.lookup f26=some ⟨oc26,od26,.func (PySem.W.fnOf "come_to" "come_to" (aH lN) (aG lN) (aB lN) .none kV26 dc26 pm26 an26 cd26 ct26),sl26⟩)
  (c26:PySem.W.codeIn K cd26 "come_to"=true)
  (k26:PySem.W.keepIn K (.ref f26)=true)
  (a27:PySem.W.nsIn K mainGlobals "known_of"=some (some (.ref f27)))
  (l27:K.lookup f27=some ⟨oc27,od27,.func (PySem.W.fnOf "known_of" "known_of" (aH jB) (aG jB) (aB jB) .none kV27 dc27 pm27 an27 cd27 ct27),sl27⟩)
  (c27:PySem.W.codeIn K cd27 "known_of"=true)
  (k27:PySem.W.keepIn K (.ref f27)=true)
  (a28:PySem.W.nsIn K mainGlobals "_law_all_come"=some (some (.ref f28)))
  (l28:K.lookup f28=some ⟨oc28,od28,.func (PySem.W.fnOf "_law_all_come" "_law_all_come" (aH cU) (aG cU) (aB cU) .none kV28 dc28 pm28 an28 (.ref cA) ct28),sl28⟩)
  (c28:PySem.W.codeIn K (.ref cA) "_law_all_come"=true)
  (k28:PySem.W.keepIn K (.ref f28)=true)
  (a29:PySem.W.nsIn K mainGlobals "law"=some (some (.ref f29)))
  (l29:K.lookup f29=some ⟨oc29,od29,.func (PySem.W.fnOf "law" "law" (aH jH) (aG jH) (aB jH) .none kV29 dc29 pm29 an29 (.ref c0) ct29),sl29⟩)
  (c29:PySem.W.codeIn K (.ref c0) "law"=true)
  (k29:PySem.W.keepIn K (.ref f29)=true)
  (aC:PySem.W.nsIn K mainGlobals "Deeds"=some (some (.ref C)))
  (qm0:PySem.W.findIn K (.ref C) "has"=some (some (.ref fm0)))
  (lm0:K.lookup fm0=some ⟨ocm0,odm0,.func (PySem.W.fnOf "has" "Deeds.has" (aH yR) (aG yR) (aB yR) .none kVm0 dcm0 pmm0 anm0 cdm0 ctm0),slm0⟩)
  (cm0:PySem.W.codeIn K cdm0 "Deeds.has"=true)
  (km0:PySem.W.keepIn K (.ref fm0)=true)
  (nm0:PySem.W.isFn K (.ref fm0)=true)
  (qm1:PySem.W.findIn K (.ref C) "require"=some (some (.ref fm1)))
  (lm1:K.lookup fm1=some ⟨ocm1,odm1,.func (PySem.W.fnOf "require" "Deeds.require" (aH jA) (aG jA) (aB jA) .none kVm1 dcm1 pmm1 anm1 cdm1 ctm1),slm1⟩)
  (cm1:PySem.W.codeIn K cdm1 "Deeds.require"=true)
  (km1:PySem.W.keepIn K (.ref fm1)=true)
  (nm1:PySem.W.isFn K (.ref fm1)=true)
  (aM:PySem.W.nsIn K mainGlobals "Machine"=some (some (.ref CM)))
  (qM0:PySem.W.findIn K (.ref CM) "deeds"=some (some (.ref fM0)))
  (lM0:K.lookup fM0=some ⟨ocM0,odM0,.func (PySem.W.fnOf "deeds" "Machine.deeds" (aH pF) (aG pF) (aB pF) .none kVM0 dcM0 pmM0 anM0 cdM0 ctM0),slM0⟩)
  (cM0:PySem.W.codeIn K cdM0 "Machine.deeds"=true)
  (kM0:PySem.W.keepIn K (.ref fM0)=true)
  (nM0:PySem.W.isFn K (.ref fM0)=true)
  (qM1:PySem.W.findIn K (.ref CM) "begin"=some (some (.ref fM1)))
  (lM1:K.lookup fM1=some ⟨ocM1,odM1,.func (PySem.W.fnOf "begin" "Machine.begin" (aH pG) (aG pG) (aB pG) .none kVM1 dcM1 pmM1 anM1 cdM1 ctM1),slM1⟩)
  (cM1:PySem.W.codeIn K cdM1 "Machine.begin"=true)
  (kM1:PySem.W.keepIn K (.ref fM1)=true)
  (nM1:PySem.W.isFn K (.ref fM1)=true)
  (qM2:PySem.W.findIn K (.ref CM) "knows"=some (some (.ref fM2)))
  (lM2:K.lookup fM2=some ⟨ocM2,odM2,.func (PySem.W.fnOf "knows" "Machine.knows" (aH pD) (aG pD) (aB pD) .none kVM2 dcM2 pmM2 anM2 cdM2 ctM2),slM2⟩)
  (cM2:PySem.W.codeIn K cdM2 "Machine.knows"=true)
  (kM2:PySem.W.keepIn K (.ref fM2)=true)
  (nM2:PySem.W.isFn K (.ref fM2)=true)
  (qM3:PySem.W.findIn K (.ref CM) "goes"=some (some (.ref fM3)))
  (lM3:K.lookup fM3=some ⟨ocM3,odM3,.func (PySem.W.fnOf "goes" "Machine.goes" (aH uF) (aG uF) (aB uF) .none kVM3 dcM3 pmM3 anM3 cdM3 ctM3),slM3⟩)
  (cM3:PySem.W.codeIn K cdM3 "Machine.goes"=true)
  (kM3:PySem.W.keepIn K (.ref fM3)=true)
  (nM3:PySem.W.isFn K (.ref fM3)=true)
  (aV:PySem.W.nsIn K mainGlobals "Woven"=some (some (.ref CW)))
  (qV0:PySem.W.findIn K (.ref CW) "deeds"=some (some (.ref fV0)))
  (lV0:K.lookup fV0=some ⟨ocV0,odV0,.func (PySem.W.fnOf "deeds" "Woven.deeds" (aH oP) (aG oP) (aB oP) .none kVV0 dcV0 pmV0 anV0 cdV0 ctV0),slV0⟩)
  (cV0:PySem.W.codeIn K cdV0 "Woven.deeds"=true)
  (kV0:PySem.W.keepIn K (.ref fV0)=true)
  (nV0:PySem.W.isFn K (.ref fV0)=true)
  (qV1:PySem.W.findIn K (.ref CW) "begin"=some (some (.ref fV1)))
  (lV1:K.lookup fV1=some ⟨ocV1,odV1,.func (PySem.W.fnOf "begin" "Woven.begin" (aH oQ) (aG oQ) (aB oQ) .none kVV1 dcV1 pmV1 anV1 cdV1 ctV1),slV1⟩)
  (cV1:PySem.W.codeIn K cdV1 "Woven.begin"=true)
  (kV1:PySem.W.keepIn K (.ref fV1)=true)
  (nV1:PySem.W.isFn K (.ref fV1)=true)
  (qV2:PySem.W.findIn K (.ref CW) "knows"=some (some (.ref fV2)))
  (lV2:K.lookup fV2=some ⟨ocV2,odV2,.func (PySem.W.fnOf "knows" "Woven.knows" (aH oO) (aG oO) (aB oO) .none kVV2 dcV2 pmV2 anV2 cdV2 ctV2),slV2⟩)
  (cV2:PySem.W.codeIn K cdV2 "Woven.knows"=true)
  (kV2:PySem.W.keepIn K (.ref fV2)=true)
  (nV2:PySem.W.isFn K (.ref fV2)=true)
  (qV3:PySem.W.findIn K (.ref CW) "at"=some (some (.ref fV3)))
  (lV3:K.lookup fV3=some ⟨ocV3,odV3,.func (PySem.W.fnOf "at" "Woven.at" (aH wAt) (aG wAt) (aB wAt) .none kVV3 dcV3 pmV3 anV3 cdV3 ctV3),slV3⟩)
  (cV3:PySem.W.codeIn K cdV3 "Woven.at"=true)
  (kV3:PySem.W.keepIn K (.ref fV3)=true)
  (nV3:PySem.W.isFn K (.ref fV3)=true)
  (qV4:PySem.W.findIn K (.ref CW) "to"=some (some (.ref fV4)))
  (lV4:K.lookup fV4=some ⟨ocV4,odV4,.func (PySem.W.fnOf "to" "Woven.to" (aH wTo) (aG wTo) (aB wTo) .none kVV4 dcV4 pmV4 anV4 cdV4 ctV4),slV4⟩)
  (cV4:PySem.W.codeIn K cdV4 "Woven.to"=true)
  (kV4:PySem.W.keepIn K (.ref fV4)=true)
  (nV4:PySem.W.isFn K (.ref fV4)=true)
  (qV5:PySem.W.findIn K (.ref CW) "ways"=some (some (.ref fV5)))
  (lV5:K.lookup fV5=some ⟨ocV5,odV5,.func (PySem.W.fnOf "ways" "Woven.ways" (aH qT) (aG qT) (aB qT) .none kVV5 dcV5 pmV5 anV5 cdV5 ctV5),slV5⟩)
  (cV5:PySem.W.codeIn K cdV5 "Woven.ways"=true)
  (kV5:PySem.W.keepIn K (.ref fV5)=true)
  (nV5:PySem.W.isFn K (.ref fV5)=true)
  (qV6:PySem.W.findIn K (.ref CW) "__init__"=some (some (.ref fV6)))
  (lV6:K.lookup fV6=some ⟨ocV6,odV6,.func (PySem.W.fnOf "__init__" "Woven.__init__" (aH sY) (aG sY) (aB sY) .none kVV6 dcV6 pmV6 anV6 cdV6 ctV6),slV6⟩)
  (cV6:PySem.W.codeIn K cdV6 "Woven.__init__"=true)
  (kV6:PySem.W.keepIn K (.ref fV6)=true)
  (nV6:PySem.W.isFn K (.ref fV6)=true)
  (qV7:PySem.W.findIn K (.ref CW) "rooms"=some (some (.ref fV7)))
  (lV7:K.lookup fV7=some ⟨ocV7,odV7,.func (PySem.W.fnOf "rooms" "Woven.rooms" (aH gH) (aG gH) (aB gH) .none kVV7 dcV7 pmV7 anV7 (.ref cR) ctV7),slV7⟩)
  (cV7:PySem.W.codeIn K (.ref cR) "Woven.rooms"=true)
  (kV7:PySem.W.keepIn K (.ref fV7)=true)
  (nV7:PySem.W.isFn K (.ref fV7)=true)
  (mkV:PySem.W.makesIn K CW=true)
  (kpV:PySem.W.keepIn K (.ref CW)=true)
  (pgV:PySem.W.plainGet K CW Str.empty=true)
  (hdV:PySem.W.hasDictIn K CW=true)
  (poV:PySem.W.plainOver K CW=true)
  (saV:PySem.W.findIn K (.ref CW) "__setattr__" = some (some (.builtin "object.__setattr__")))
  (nV0_:PySem.W.findIn K (.ref CW) "machines"=some none)
  (nV1_:PySem.W.findIn K (.ref CW) "known_marks"=some none)
  (qMI:PySem.W.findIn K (.ref CM) "__init__"=some (some (.ref fMI)))
  (lMI:K.lookup fMI=some ⟨ocMI,odMI,.func (PySem.W.fnOf "__init__" "Machine.__init__" (aH lX) (aG lX) (aB lX) (.ref Te) kVMI dcMI pmMI anMI cdMI ctMI),slMI⟩)
  (cMI:PySem.W.codeIn K cdMI "Machine.__init__"=true)
  (kMI:PySem.W.keepIn K (.ref fMI)=true)
  (nMI:PySem.W.isFn K (.ref fMI)=true)
  (lE:K.lookup Te=some ⟨ocE,odE,.seq #[.none] nE,slE⟩)
  (mkM:PySem.W.makesIn K CM=true)
  (kpM:PySem.W.keepIn K (.ref CM)=true)
  (pgM:PySem.W.plainGet K CM Str.empty=true)
  (hdM:PySem.W.hasDictIn K CM=true)
  (poM:PySem.W.plainOver K CM=true)
  (saM:PySem.W.findIn K (.ref CM) "__setattr__" = some (some (.builtin "object.__setattr__")))
  (nM0_:PySem.W.findIn K (.ref CM) "leads"=some none)
  (nM1_:PySem.W.findIn K (.ref CM) "deeds_made_of"=some none)
  (nM2_:PySem.W.findIn K (.ref CM) "first_room"=some none)
  (nM3_:PySem.W.findIn K (.ref CM) "end_marks"=some none)
  (nM4_:PySem.W.findIn K (.ref CM) "known_marks"=some none)
  (qI:PySem.W.findIn K (.ref C) "__init__"=some (some (.ref fI)))
  (lI:K.lookup fI=some ⟨ocI,odI,.func (PySem.W.fnOf "__init__" "Deeds.__init__" (aH iD) (aG iD) (aB iD) (.ref Td) kVI dcI pmI anI cdI ctI),slI⟩)
  (cI:PySem.W.codeIn K cdI "Deeds.__init__"=true)
  (kI:PySem.W.keepIn K (.ref fI)=true)
  (nI:PySem.W.isFn K (.ref fI)=true)
  (lT:K.lookup Td=some ⟨ocT,odT,.seq #[.none] nT,slT⟩)
  (mkC:PySem.W.makesIn K C=true)
  (kpC:PySem.W.keepIn K (.ref C)=true)
  (pgC:PySem.W.plainGet K C Str.empty=true)
  (hdC:PySem.W.hasDictIn K C=true)
  (poC:PySem.W.plainOver K C=true)
  (saC:PySem.W.findIn K (.ref C) "__setattr__" = some (some (.builtin "object.__setattr__")))
  (nwC:PySem.W.findIn K (.ref C) "weights"=some none)
  (nfC:PySem.W.findIn K (.ref C) "free_marks"=some none)
  (e0:PySem.W.nsIn K mainGlobals "NoName"=some (some (.ref d0)))
  (e1:PySem.W.nsIn K mainGlobals "NoDeed"=some (some (.ref d1)))
  (e2:PySem.W.nsIn K mainGlobals "NoRoom"=some (some (.ref d2)))
  (e3:PySem.W.nsIn K mainGlobals "TwiceTold"=some (some (.ref d3)))
  (e4:PySem.W.nsIn K mainGlobals "TooMany"=some (some (.ref d4)))
  (e5:PySem.W.nsIn K mainGlobals "NoRule"=some (some (.ref d5)))
  (e6:PySem.W.nsIn K mainGlobals "NoRow"=some (some (.ref d6)))
  (e7:PySem.W.nsIn K mainGlobals "NoHold"=some (some (.ref d7)))
  (e8:PySem.W.nsIn K mainGlobals "NoHolder"=some (some (.ref d8)))
  (e9:PySem.W.nsIn K mainGlobals "FreeDeed"=some (some (.ref d9)))
  (e10:PySem.W.nsIn K mainGlobals "NotNow"=some (some (.ref d10)))
  (e11:PySem.W.nsIn K mainGlobals "NoWarden"=some (some (.ref d11)))
  (e12:PySem.W.nsIn K mainGlobals "NoText"=some (some (.ref d12)))
  (e13:PySem.W.nsIn K mainGlobals "NoBook"=some (some (.ref d13)))
  (eW:PySem.W.nsIn K mainGlobals "WardError"=some (some (.ref W)))
  (xa0:PySem.W.excIn K d0 sZ "ValueError.__new__"=true)
  (xa1:PySem.W.excIn K d1 sZ "ValueError.__new__"=true)
  (xa3:PySem.W.excIn K d3 sZ "ValueError.__new__"=true)
  (xa4:PySem.W.excIn K d4 sZ "ValueError.__new__"=true)
  (xb4:PySem.W.findIn K (.ref d4) "__class__" = some (some (.builtin "object.__class__")))
  (xc4:PySem.W.findIn K (.ref d4) "__getattribute__" = some (some (.builtin "BaseException.__getattribute__")))
  (xd4:PySem.W.findIn K (.ref d4) "__getattr__"=some none)
  (xe4:PySem.W.mroIn K d4 (.type "object")=some true)
  (xf4:PySem.W.mroIn K d4 (.type "BaseException")=some true)
  (kt:aQg K [d0,d1,d2,d3,d4,d5,d6,d7,d8,d9,d10,d11,d12,d13]=true)
  (kv:veB K [d0,d1,d2,d3,d4,d5,d6,d7,d8,d9,d10,d11,d12,d13]=true)
  (kw:exB K [d0,d1,d2,d3,d4,d5,d6,d7,d8,d9,d10,d11,d12,d13] W=true)
  (hhd:PySem.W.codeHdIn K c0 Pt=true)
  (hh1:PySem.W.codeHdIn K cA P1=true)
  (hh2:PySem.W.codeHdIn K cR Pr=true)
  (cst0:PySem.W.nsIn K mainGlobals "LETTERS"=some (some (.str iU t0)))
  (cst1:PySem.W.nsIn K mainGlobals "FIGURES"=some (some (.str jR t1)))
  (cst2:PySem.W.nsIn K mainGlobals "MOST_SIGNS"=some (some (.int 8 t2)))
  (cst3:PySem.W.nsIn K mainGlobals "MOST_DEEDS"=some (some (.int 12 t3)))
  (cst4:PySem.W.nsIn K mainGlobals "MOST_ROOMS"=some (some (.int 60 t4)))
  (cst5:PySem.W.nsIn K mainGlobals "MOST_WOVEN"=some (some (.int 7 t5)))
  (z0:PySem.W.nsIn K mainGlobals "isinstance"=some none)
  (z1:PySem.W.nsIn K mainGlobals "str"=some none)
  (z2:PySem.W.nsIn K mainGlobals "bool"=some none)
  (z3:PySem.W.nsIn K mainGlobals "int"=some none)
  (z4:PySem.W.nsIn K mainGlobals "len"=some none)
  (z5:PySem.W.nsIn K mainGlobals "all"=some none)
  (z6:PySem.W.nsIn K mainGlobals "range"=some none)
  (z7:PySem.W.nsIn K mainGlobals "sorted"=some none)
  (z8:PySem.W.nsIn K mainGlobals "list"=some none)
  (z9:PySem.W.nsIn K mainGlobals "enumerate"=some none)
  (z10:PySem.W.nsIn K mainGlobals "ValueError"=some none)
  (z11:PySem.W.nsIn K mainGlobals "tuple"=some none)
  (z12:PySem.W.nsIn K mainGlobals "zip"=some none) :
  ∃ fd:FuncData,(∀ (s:Shared) (v:Value),BindsTo s fd ⟨[v],[]⟩ [("_law_script",v)])∧∀ base:Heap,K.In base->base.Ns mainGlobals mg->iV mg base->bE l.prog w K mg base CX0 15 fa fd ["_law_script"] (aAs K Pt P1 Pr):=by
 have e:=hfa.symm.trans (PySem.W.mg_of X G a29);cases e;have T:Txt K mg:=⟨⟨_,PySem.W.mg_of X G cst0⟩,⟨_,PySem.W.mg_of X G cst1⟩,⟨_,PySem.W.mg_of X G cst2⟩,⟨_,PySem.W.mg_of X G cst3⟩,PySem.W.mg_none_of X G z0,PySem.W.mg_none_of X G z1,PySem.W.mg_none_of X G z2,PySem.W.mg_none_of X G z3,PySem.W.mg_none_of X G z4,PySem.W.mg_none_of X G z5,PySem.W.mg_none_of X G z6,PySem.W.mg_none_of X G z7,PySem.W.mg_none_of X G z8,PySem.W.mg_none_of X G z9⟩;have F1:=bZ (st:=kO) l1 c1 k1;have b1:=F1.binds (ps:=["_law_cell","_law_k"]) fun _ _ _ _ _ _=>pI (fun _ _=>rfl);have F2:=bZ (st:=tV) l2 c2 k2;have b2:=F2.binds (ps:=["_law_script","_law_k"]) fun _ _ _ _ _ _=>pI (fun _ _=>rfl);have F3:=bZ (st:=kJ) l3 c3 k3;have b3:=F3.binds (ps:=["thing"]) fun _ _ _ _ _ _=>jP (fun _=>rfl);have F4:=bZ (st:=lK) l4 c4 k4;have b4:=F4.binds (ps:=["names"]) fun _ _ _ _ _ _=>jP (fun _=>rfl);have F5:=bZ (st:=iZ) l5 c5 k5;have b5:=F5.binds (ps:=["names"]) fun _ _ _ _ _ _=>jP (fun _=>rfl);have F6:=bZ (st:=oW) l6 c6 k6;have b6:=F6.binds (ps:=["names"]) fun _ _ _ _ _ _=>jP (fun _=>rfl);have F7:=bZ (st:=gS) l7 c7 k7;have b7:=F7.binds (ps:=["_law_cell","_law_many"]) fun _ _ _ _ _ _=>pI (fun _ _=>rfl);have F8:=bZ (st:=iE) l8 c8 k8;have b8:=F8.binds (ps:=["_law_cell"]) fun _ _ _ _ _ _=>jP (fun _=>rfl);have F9:=bZ (st:=tS) l9 c9 k9;have b9:=F9.binds (ps:=["_law_e"]) fun _ _ _ _ _ _=>jP (fun _=>rfl);have F10:=bZ (st:=jG) l10 c10 k10;have b10:=F10.binds (ps:=["_law_deed"]) fun _ _ _ _ _ _=>jP (fun _=>rfl);have F11:=bZ (st:=oU) l11 c11 k11;have b11:=F11.binds (ps:=["begin","ends","doors"]) fun _ _ _ _ _ _=>qH (fun _ _ _=>rfl);have F12:=bZ (st:=hV) l12 c12 k12;have b12:=F12.binds (ps:=["rooms"]) fun _ _ _ _ _ _=>jP (fun _=>rfl);have F13:=bZ (st:=oX) l13 c13 k13;have b13:=F13.binds (ps:=["rooms","doors"]) fun _ _ _ _ _ _=>pI (fun _ _=>rfl);have F14:=bZ (st:=iB) l14 c14 k14;have b14:=F14.binds (ps:=["_law_cell","_law_many"]) fun _ _ _ _ _ _=>pI (fun _ _=>rfl);have F15:=bZ (st:=dQ) l15 c15 k15;have b15:=F15.binds (ps:=["_law_cell","_law_names","_law_many"]) fun _ _ _ _ _ _=>qH (fun _ _ _=>rfl);have F16:=bZ (st:=iC) l16 c16 k16;have b16:=F16.binds (ps:=["_law_cells","_law_names"]) fun _ _ _ _ _ _=>pI (fun _ _=>rfl);have F17:=bZ (st:=tU) l17 c17 k17;have b17:=F17.binds (ps:=["_law_plant","_law_cell","_law_names"]) fun _ _ _ _ _ _=>qH (fun _ _ _=>rfl);have F18:=bZ (st:=gK) l18 c18 k18;have b18:=F18.binds (ps:=["_law_deeds","_law_plant"]) fun _ _ _ _ _ _=>pI (fun _ _=>rfl);have F19:=bZ (st:=rB) l19 c19 k19;have b19:=F19.binds (ps:=["_law_plant"]) fun _ _ _ _ _ _=>jP (fun _=>rfl);have F20:=bZ (st:=tT) l20 c20 k20;have b20:=F20.binds (ps:=["_law_maps_here","_law_room","_law_deed"]) fun _ _ _ _ _ _=>qH (fun _ _ _=>rfl);have F21:=bZ (st:=rC) l21 c21 k21;have b21:=F21.binds (ps:=["_law_maps_here","_law_names","_law_most"]) fun _ _ _ _ _ _=>qH (fun _ _ _=>rfl);have F22:=bZ (st:=pV) l22 c22 k22;have b22:=F22.binds (ps:=["_law_many"]) fun _ _ _ _ _ _=>jP (fun _=>rfl);have F23:=bZ (st:=iF) l23 c23 k23;have b23:=F23.binds (ps:=["machines"]) fun _ _ _ _ _ _=>jP (fun _=>rfl);have F24:=bZ (st:=mO) l24 c24 k24;have b24:=F24.binds (ps:=["machines","room","deed"]) fun _ _ _ _ _ _=>qH (fun _ _ _=>rfl);have F25:=bZ (st:=lJ) l25 c25 k25;have b25:=F25.binds (ps:=["begin","doors","most"]) fun _ _ _ _ _ _=>qH (fun _ _ _=>rfl);have F26:=bZ (st:=lN) l26 c26 k26;have b26:=F26.binds (ps:=["begin","doors","most"]) fun _ _ _ _ _ _=>qH (fun _ _ _=>rfl);have F27:=bZ (st:=jB) l27 c27 k27;have b27:=F27.binds (ps:=["machines"]) fun _ _ _ _ _ _=>jP (fun _=>rfl);have b28:aX K (PySem.W.fnOf "_law_all_come" "_law_all_come" (aH cU) (aG cU) (aB cU) .none kV28 dc28 pm28 an28 (.ref cA) ct28) ["_law_deeds","_law_plant","_law_names"] []:=(show Fun K "_law_all_come" "_law_all_come" cU f28 _ from bZ (st:=cU) l28 c28 k28).binds (ps:=["_law_deeds","_law_plant","_law_names"]) fun _ _ _ _ _ _=>qH (fun _ _ _=>rfl)
 have Fm0:=bZ (st:=yR) lm0 cm0 km0;have bm0:=Fm0.binds (ps:=["self","thing"]) fun _ _ _ _ _ _=>pI (fun _ _=>rfl);have Mm0:eZ K C "has" fm0:=⟨qm0,nm0,km0⟩;have Fm1:=bZ (st:=jA) lm1 cm1 km1;have bm1:=Fm1.binds (ps:=["self","row"]) fun _ _ _ _ _ _=>pI (fun _ _=>rfl);have Mm1:eZ K C "require" fm1:=⟨qm1,nm1,km1⟩;have FM0:=bZ (st:=pF) lM0 cM0 kM0;have bM0:=FM0.binds (ps:=["self"]) fun _ _ _ _ _ _=>jP (fun _=>rfl);have MM0:eZ K CM "deeds" fM0:=⟨qM0,nM0,kM0⟩;have FM1:=bZ (st:=pG) lM1 cM1 kM1;have bM1:=FM1.binds (ps:=["self"]) fun _ _ _ _ _ _=>jP (fun _=>rfl);have MM1:eZ K CM "begin" fM1:=⟨qM1,nM1,kM1⟩;have FM2:=bZ (st:=pD) lM2 cM2 kM2;have bM2:=FM2.binds (ps:=["self"]) fun _ _ _ _ _ _=>jP (fun _=>rfl);have MM2:eZ K CM "knows" fM2:=⟨qM2,nM2,kM2⟩;have FM3:=bZ (st:=uF) lM3 cM3 kM3;have bM3:=FM3.binds (ps:=["self","room","deed"]) fun _ _ _ _ _ _=>qH (fun _ _ _=>rfl);have MM3:eZ K CM "goes" fM3:=⟨qM3,nM3,kM3⟩;have FV0:=bZ (st:=oP) lV0 cV0 kV0;have bV0:=FV0.binds (ps:=["self"]) fun _ _ _ _ _ _=>jP (fun _=>rfl);have MV0:eZ K CW "deeds" fV0:=⟨qV0,nV0,kV0⟩;have FV1:=bZ (st:=oQ) lV1 cV1 kV1;have bV1:=FV1.binds (ps:=["self"]) fun _ _ _ _ _ _=>jP (fun _=>rfl);have MV1:eZ K CW "begin" fV1:=⟨qV1,nV1,kV1⟩;have FV2:=bZ (st:=oO) lV2 cV2 kV2;have bV2:=FV2.binds (ps:=["self"]) fun _ _ _ _ _ _=>jP (fun _=>rfl);have MV2:eZ K CW "knows" fV2:=⟨qV2,nV2,kV2⟩;have FV3:=bZ (st:=wAt) lV3 cV3 kV3;have bV3:=FV3.binds (ps:=["self","room"]) fun _ _ _ _ _ _=>pI (fun _ _=>rfl);have MV3:eZ K CW "at" fV3:=⟨qV3,nV3,kV3⟩;have FV4:=bZ (st:=wTo) lV4 cV4 kV4;have bV4:=FV4.binds (ps:=["self","room","deed"]) fun _ _ _ _ _ _=>qH (fun _ _ _=>rfl);have MV4:eZ K CW "to" fV4:=⟨qV4,nV4,kV4⟩;have FV5:=bZ (st:=qT) lV5 cV5 kV5;have bV5:=FV5.binds (ps:=["self","room"]) fun _ _ _ _ _ _=>pI (fun _ _=>rfl);have MV5:eZ K CW "ways" fV5:=⟨qV5,nV5,kV5⟩;have FV6:=bZ (st:=sY) lV6 cV6 kV6;have bV6:=FV6.binds (ps:=["self","machines"]) fun _ _ _ _ _ _=>pI (fun _ _=>rfl);have FV7:=bZ (st:=gH) lV7 cV7 kV7;have bV7:=FV7.binds (ps:=["self"]) fun _ _ _ _ _ _=>jP (fun _=>rfl);have MV7:eZ K CW "rooms" fV7:=⟨qV7,nV7,kV7⟩;have FI:aHb K "__init__" "Deeds.__init__" iD fI _:=⟨⟨_,_,_,_,_,_,_,_,_,_,rfl,lI,cI⟩,kI⟩
 have bI:aX K _ ["self","names","free"] []:=fun s us KX hl=>by
  rw[List.append_nil] at hl ⊢;revert us;exact qH fun _ _ _=>BindsTo.of_defaults (fd:=PySem.W.fnOf "__init__" "Deeds.__init__" (aH iD) (aG iD) (aB iD) (.ref Td) kVI dcI pmI anI cdI ctI) rfl (KX _ _ lT) rfl rfl rfl
 have FMI:aHb K "__init__" "Machine.__init__" lX fMI _:=⟨⟨_,_,_,_,_,_,_,_,_,_,rfl,lMI,cMI⟩,kMI⟩
 have bMI:aX K _ ["self","deeds","begin","ends","doors","more"] []:=fun s us KX hl=>by
  rw[List.append_nil] at hl ⊢;revert us;exact aQd fun _ _ _ _ _ _=>BindsTo.of_defaults (fd:=PySem.W.fnOf "__init__" "Machine.__init__" (aH lX) (aG lX) (aB lX) (.ref Te) kVMI dcMI pmMI anMI cdMI ctMI) rfl (KX _ _ lE) rfl rfl rfl
 have bI1:aX K (PySem.W.fnOf "__init__" "Deeds.__init__" (aH iD) (aG iD) (aB iD) (.ref Td) kVI dcI pmI anI cdI ctI) ["self","names","free"] [.none]:=fun s us KX hl=>by
  have hl':us.length=2:=by
   have:us.length+1=3:=by simpa using hl
   omega
  clear hl;revert us;exact pI fun _ _=>BindsTo.of_defaults (fd:=PySem.W.fnOf "__init__" "Deeds.__init__" (aH iD) (aG iD) (aB iD) (.ref Td) kVI dcI pmI anI cdI ctI) rfl (KX _ _ lT) rfl rfl rfl
 have MC:sX K CM:=⟨⟨pgM,hdM,poM,saM⟩,nM0_,nM1_,nM2_,nM3_,nM4_⟩;have MMk:Mk K CM fMI:=⟨mkM,qMI,nMI,kpM⟩;have DC:aDt K C:=⟨⟨pgC,hdC,poC,saC⟩,nwC,nfC⟩;have MI:Mk K C fI:=⟨mkC,qI,nI,kpC⟩
 let ds:Nat->Addr:=fun j=>([d0,d1,d2,d3,d4,d5,d6,d7,d8,d9,d10,d11,d12,d13]:List Addr).getD j 0
 have Wf:Wd K mg ds:=by
  refine⟨uL (ns:=nms) (as:=[d0,d1,d2,d3,d4,d5,d6,d7,d8,d9,d10,d11,d12,d13]) ⟨PySem.W.mg_of X G e0,PySem.W.mg_of X G e1,PySem.W.mg_of X G e2,PySem.W.mg_of X G e3,PySem.W.mg_of X G e4,PySem.W.mg_of X G e5,PySem.W.mg_of X G e6,PySem.W.mg_of X G e7,PySem.W.mg_of X G e8,PySem.W.mg_of X G e9,PySem.W.mg_of X G e10,PySem.W.mg_of X G e11,PySem.W.mg_of X G e12,PySem.W.mg_of X G e13,trivial⟩,fun i hi=>?_,fun i hi j hj=>?_,fun i hi=>?_,PySem.W.mg_none_of X G z10⟩
  ·rcases List.mem_cons.mp hi with rfl | hi
   ·exact⟨xa4,xb4,xc4,xd4,xe4,xf4⟩
   cases hi
  ·exact beq_iff_eq.mp (List.all_eq_true.mp (List.all_eq_true.mp kt i hi) j (List.mem_range.mpr hj))
  ·exact beq_iff_eq.mp (List.all_eq_true.mp kv i hi)
 have hkw:∀ i∈gI,PySem.W.exmOne K (.ref (ds i)) (.ref W)=some true:=fun i hi=>beq_iff_eq.mp (List.all_eq_true.mp kw i hi);have Ex:Exc K mg (fun k=>ds (ix k)):=⟨PySem.W.mg_of X G e0,PySem.W.mg_of X G e1,PySem.W.mg_of X G e3,PySem.W.mg_of X G e4,fun k=>match k with | .noName=>xa0 | .noDeed=>xa1 | .twice=>xa3 | .tooMany=>xa4⟩
 have WC:sJ K CW:=⟨⟨pgV,hdV,poV,saV⟩,nV0_,nV1_⟩;have WMk:Mk K CW fV6:=⟨mkV,qV6,nV6,kpV⟩;refine⟨PySem.W.fnOf "law" "law" (aH jH) (aG jH) (aB jH) .none kV29 dc29 pm29 an29 (.ref c0) ct29,fun s v=>.of_eq rfl,fun base _ _ bm=>?_⟩;have GQ:=zD (P:=l.prog) (w:=w) (mg:=mg) (base:=base) Fm1 T Ex DC F3 b3 (PySem.W.mg_of X G a3) Fm0 bm0 Mm0;have GK:=aFl (P:=l.prog) (w:=w) (mg:=mg) (base:=base) F6 T;have GC:=aIq (P:=l.prog) (w:=w) (mg:=mg) (base:=base) F2 T F1 b1 (PySem.W.mg_of X G a1);have zT:mg "tuple"=none:=PySem.W.mg_none_of X G z11;have zZ:mg "zip"=none:=PySem.W.mg_none_of X G z12;have GB:=aCr (P:=l.prog) (w:=w) (mg:=mg) (base:=base) FM1 MC;have GKn:=aCp (P:=l.prog) (w:=w) (mg:=mg) (base:=base) FM2 T MC;have GGo:=aFn (P:=l.prog) (w:=w) (mg:=mg) (base:=base) FM3 MC;have GMD:=aCq (P:=l.prog) (w:=w) (mg:=mg) (base:=base) FM0 MC;have GBO:=zI (P:=l.prog) (w:=w) (mg:=mg) (base:=base) F23 zT MC GB bM1 MM1;have GFO:=aFp (P:=l.prog) (w:=w) (mg:=mg) (base:=base) F24 zT zZ MC GGo bM3 MM3;have GKO:=zG (P:=l.prog) (w:=w) (mg:=mg) (base:=base) F27 MC GKn bM2 MM2 GK k6 b6 (PySem.W.mg_of X G a6);have GWI:bE l.prog w K mg base (CXE l.prog w) 3 fV6 _ ["self","machines"] (jE CM CW (ds 4)):=aFj FV6 T WC ⟨_,PySem.W.mg_of X G cst5⟩ (PySem.W.mg_of X G e4) xa4 GKO k27 b27 (PySem.W.mg_of X G a27);have GWD:=aCl (P:=l.prog) (w:=w) (mg:=mg) (base:=base) FV0 WC MC GMD bM0 MM0;have GWB:=aCm (P:=l.prog) (w:=w) (mg:=mg) (base:=base) FV1 WC GBO k23 b23 (PySem.W.mg_of X G a23);have GWK:=aCk (P:=l.prog) (w:=w) (mg:=mg) (base:=base) (CM:=CM) FV2 T WC;have GWT:bE l.prog w K mg base (CXE l.prog w) 4 fV4 _ ["self","room","deed"] (aAm K C CM CW (ds 1)):=aLm (cl:=fun k=>ds (ix k)) FV4 DC WC GWD bV0 MV0 GQ bm1 Mm1 GFO k24 b24 (PySem.W.mg_of X G a24);have GWA:=aLn (P:=l.prog) (w:=w) (mg:=mg) (base:=base) FV3 WC GWK bV2 MV2 GWT bV4 MV4;have GWY:=aFi (P:=l.prog) (w:=w) (mg:=mg) (base:=base) FV5 WC GWA bV3 MV3 GWT bV4 MV4;have GRT:=aCn (P:=l.prog) (w:=w) (mg:=mg) (base:=base) (kd:=7) (cT:=ds 4) F25 T (PySem.W.mg_of X G e4) xa4;have GCT:=aCs (P:=l.prog) (w:=w) (mg:=mg) (base:=base) (kd:=7) (cT:=ds 4) F26 T GRT k25 b25 (PySem.W.mg_of X G a25);have GWR:=aCj (P:=l.prog) (w:=w) (mg:=mg) (base:=base) (C:=C) (CM:=CM) (CW:=CW) (cT:=ds 4) (Pr:=Pr) lV7 cV7 hh2 bm WC ⟨_,PySem.W.mg_of X G cst4⟩ GWB bV1 MV1 GWY bV5 MV5 GCT k26 b26 (PySem.W.mg_of X G a26);have GMB:=vK (P:=l.prog) (w:=w) (mg:=mg) (base:=base) F15 T (nU F1) k1 b1 (PySem.W.mg_of X G a1) (zC F14 T) k14 b14 (PySem.W.mg_of X G a14);have GMI:=aFm (P:=l.prog) (w:=w) (mg:=mg) (base:=base) FMI T DC MC ⟨_,PySem.W.mg_of X G cst4⟩ (aFk F11) k11 b11 (PySem.W.mg_of X G a11) (xB F12 T Ex F3 b3 (PySem.W.mg_of X G a3)) k12 b12 (PySem.W.mg_of X G a12) (aFo F13) k13 b13 (PySem.W.mg_of X G a13) GK k6 b6 (PySem.W.mg_of X G a6) GQ bm1 Mm1;have GSt:=aIk (P:=l.prog) (w:=w) (mg:=mg) (base:=base) F20 T zT;have GMs:=xC (P:=l.prog) (w:=w) (mg:=mg) (base:=base) (C:=C) (CM:=CM) F18 GMI MMk bMI (PySem.W.mg_of X G aM);have GWo:=aIj (P:=l.prog) (w:=w) (mg:=mg) (base:=base) F9 T Wf
 have GAl:=zJ (P:=l.prog) (w:=w) (mg:=mg) (base:=base) (C:=C) (CM:=CM) (CW:=CW) (W:=W) (P1:=P1) (Pr:=Pr) (ds:=ds) l28 c28 hh1 bm T WC Wf hkw (PySem.W.mg_of X G eW)
  GMs k18 b18 (PySem.W.mg_of X G a18) GWI WMk bV6 (PySem.W.mg_of X G aV) (aIn F19) k19 b19 (PySem.W.mg_of X G a19) (aIp F21 T zT GSt k20 b20 (PySem.W.mg_of X G a20)) k21 b21 (PySem.W.mg_of X G a21) GWR bV7 MV7
  F10 b10 (PySem.W.mg_of X G a10) GWo k9 b9 (PySem.W.mg_of X G a9)
 exact aLo l29 c29 hhd bm T WC Wf hkw (PySem.W.mg_of X G eW)
  GC k2 b2 (PySem.W.mg_of X G a2)
  (zH F8 T F1 b1 (PySem.W.mg_of X G a1) F7 b7 (PySem.W.mg_of X G a7)) k8 b8 (PySem.W.mg_of X G a8)
  (aIo FI T DC (aCo F4 T Ex F3 b3 (PySem.W.mg_of X G a3)) k4 b4 (PySem.W.mg_of X G a4) (zB F5 T) k5 b5 (PySem.W.mg_of X G a5) GK k6 b6 (PySem.W.mg_of X G a6) GQ bm1 Mm1) MI bI bI1 (PySem.W.mg_of X G aC)
  (zE F16 T GMB k15 b15 (PySem.W.mg_of X G a15)) k16 b16 (PySem.W.mg_of X G a16)
  (aIm F17 T (nU F1) k1 b1 (PySem.W.mg_of X G a1) GMB k15 b15 (PySem.W.mg_of X G a15)) k17 b17 (PySem.W.mg_of X G a17)
  GMs k18 b18 (PySem.W.mg_of X G a18)
  GWI WMk bV6 (PySem.W.mg_of X G aV)
  GWB bV1 MV1
  (aIl F22 T) k22 b22 (PySem.W.mg_of X G a22)
  GAl k28 b28 (PySem.W.mg_of X G a28)
  F10 b10 (PySem.W.mg_of X G a10) GWo k9 b9 (PySem.W.mg_of X G a9)
theorem walk {l:PySem.W.OpenLaw}{q:Program}{loose:List Str}{XP:(Str->Option Value)->Heap->Prop}{YP:World->Heap->Prop}{d:DefRec}{K:Params->PySem.W.Frag}{c0 c1 c2:Addr}(Pt P1 Pr:Addr) (hn:l.most=some 63) (hdf:d.params.defaults=[]) (hne:Pt≠P1∧Pt≠Pr∧P1≠Pr)
  (hY:∀ (w:World) (h:Heap),YP w h->(K w.params).In h∧∀ p∈[P1,Pr,Pt],h.get? p=some (PySem.W.tabObj #[]))
  (F:∀ (w:World) (mg:Str->Option Value) (fa:Addr) (h:Heap),(K w.params).In h->h.Ns mainGlobals mg->mg d.name=some (.ref fa) ->
   ∃ fd:FuncData,(∀ (s:Shared) (u:Value),BindsTo s fd ⟨[u],[]⟩ [("_law_script",u)])∧∀ base:Heap,(K w.params).In base->base.Ns mainGlobals mg->iV mg base->bE l.prog w (K w.params) mg base CX0 15 fa fd ["_law_script"] (aAs (K w.params) Pt P1 Pr))
  (hK:∀ (w:World),∀ p∈[(c0,Pt),(c1,P1),(c2,Pr)],PySem.W.codeHdIn (K w.params) p.1 p.2=true∧(K w.params).lookup p.2=none) :
  PySem.W.WalkO q loose XP YP l.row.toRowW d [] (fun f vs=>PySem.call f vs):=
 L2.walk_ofT (n:=63) (k:=15) (x:="_law_script") (sp:=fun w=>aAs (K w.params) Pt P1 Pr) [(c0,Pt),(c1,P1),(c2,Pr)] hn (by decide) hdf ⟨rfl,by decide,by decide⟩
  (fun w h Y=>⟨(hY w h Y).1,fun p hp=>(hY w h Y).2 p.2 (by
   rcases List.mem_cons.mp hp with rfl | hp
   ·simp
   rcases List.mem_cons.mp hp with rfl | hp
   ·simp
   rw[List.mem_singleton.mp hp]
   simp)⟩) hK F
  (fun w H a ns hl hT hS=>⟨a,ns,rfl,hS,hl,hT (c0,Pt) (by simp),hT (c1,P1) (by simp),hT (c2,Pr) (by simp),hne,fun _=>rfl⟩)
end K22
namespace Hd
open PySem PySem.W
abbrev aDi:=PySem.W.Fast.tw14364793385576792824
abbrev aKh:=PySem.W.Fast.tw10110043849684766642
abbrev aNx:=PySem.W.Fast.tw14374325043358763698
abbrev fGo:=PySem.W.Fast.tw15667345088766844465
abbrev aNy:=PySem.W.Fast.tw14082659384304107361
abbrev aNz:=PySem.W.Fast.tw11892475500146522536
abbrev fSeen:=PySem.W.Fast.tw4187177175401517315
theorem aJh:PySem.treeTable=aDi:=PySem.W.Fast.te14364793385576792824
theorem aOa:@PySem.W.segRunT=aKh:=PySem.W.Fast.te10110043849684766642
theorem aQj:@PySem.W.segRun=aNx:=PySem.W.Fast.te14374325043358763698
theorem eGo:@PySem.W.topGo=fGo:=PySem.W.Fast.te15667345088766844465
theorem aQk:@PySem.W.topRun=aNy:=PySem.W.Fast.te14082659384304107361
theorem aQl:@PySem.denote=aNz:=PySem.W.Fast.te11892475500146522536
theorem aOb:@PySem.W.openSeen=fSeen:=PySem.W.Fast.te4187177175401517315
abbrev an:Option Value:=some (.ref 6)
abbrev p0:Pos:=⟨0,0,0,0⟩
abbrev d0:Drawn:=⟨0,0,0,0⟩
def lf:Life:=⟨[],[],[],0,[],[],false,#[],[],0,false,false,false,0,[2000,10,10],false,0,true,[],[],0,false⟩
def St (T:Params->BT) (n k:Nat) (w:World) (os:OsState):SharedT:=⟨T w.params,n,lf,#[],d0,k,os⟩
def Sh (H:Params->Heap) (k:Nat) (w:World) (os:OsState):Shared:=⟨H w.params,#[],d0,k,os⟩
abbrev cd (p:Program) (env:Env):Code:=.body (behindTheImports p) env
abbrev B:List Frame:=[topFrame p0]
def Pre (p:Program) (env:Env) (H:Params->Heap) (k s:Nat) (a:Pos):Prop:=
 ∀ w:World,(fun os=>fGo aDi p w 11 an s ⟨boot_heap w.params,Array.mk [],boot_drawn,boot_toks,os⟩ (topStub p))=fun os=>some (Sh H k w os,⟨aNz aDi (cd p env),cd p env,a,B⟩)
def Blk (p:Program) (env:Env) (H:Params->Heap) (k:Nat) (T:Params->BT) (n k' s:Nat) (a b:Pos):Prop:=
 ∀ w:World,(fun os=>aNx aDi p w 11 an 1 s (Sh H k w os) (blockOf (behindTheImports p) env (cd p env) a B))=fun os=>some (.next,(St T n k' w os).abs,cd p env,b)
def Pc (p:Program) (env:Env) (T:Params->BT) (n k:Nat) (T':Params->BT) (n' k' s:Nat) (l:List Stmt) (a b:Pos):Prop:=
 ∀ w:World,(fun os=>aKh aDi p w 11 an 1 s (St T n k w os) (piecesOf l env (cd p env) a B))=fun os=>some (.next,St T' n' k' w os,cd p env,b)
def Fi (p:Program) (env:Env) (T:Params->BT) (n k:Nat) (H:Params->Heap) (k' s:Nat) (a:Pos):Prop:=
 ∀ w:World,(fun os=>aNy aDi p w 11 an s (St T n k w os).abs ⟨doneF .next,cd p env,a,B⟩)=fun os=>some (Sh H k' w os)
def Rn (p:Program) (env:Env) (T:Params->BT) (n k:Nat) (H:Params->Heap) (k':Nat) (l:List Stmt) (a:Pos) (N:Nat):Prop:=
 ∀ (w:World) (os:OsState),topRun treeTable p w 11 an N (St T n k w os).abs (restOf l env (cd p env) a B)=some (Sh H k' w os)
section
variable {p:Program}{env:Env}{T T':Params->BT}{H H':Params->Heap}{n k n' k' kf s N:Nat}{l r:List Stmt}{a b:Pos}
theorem Fi.run (h:Fi p env T n k H k' s a):Rn p env T n k H k' [] a s:=fun w os=>by
 refine piece_nil ?_;rw[aQk,aJh];exact congrFun (h w) os
theorem Pc.run (h:Pc p env T n k T' n' k' s l a b) (q:Rn p env T' n' k' H kf r b N):Rn p env T n k H kf (l++r) a (s+N):=fun w os=>by
 refine piece_app (segRun_of ?_) (q w os);rw[aOa,aJh];exact congrFun (h w) os
theorem top_run {s1 s2:Nat}(h1:Pre p env H' k s1 a) (h2:Blk p env H' k T n k' s2 a b) (hl:l=behindTheImports p) (q:Rn p env T n k' H kf l b N) (w:World) (os:OsState) :
  topRun treeTable p w 11 an (s1+(s2+N)) ⟨boot_heap w.params,Array.mk [],boot_drawn,boot_toks,os⟩ (topStub p)=some (Sh H kf w os):=by
 have e1:topGo treeTable p w 11 an s1 ⟨boot_heap w.params,Array.mk [],boot_drawn,boot_toks,os⟩ (topStub p)=some (Sh H' k w os,⟨denote treeTable (cd p env),cd p env,a,B⟩):=by
  rw[eGo,aJh,aQl];exact congrFun (h1 w) os
 have e2:segRun treeTable p w 11 an 1 s2 (Sh H' k w os) (blockOf (behindTheImports p) env (cd p env) a B)=some (.next,(St T n k' w os).abs,cd p env,b):=by
  rw[aQj,aJh];exact congrFun (h2 w) os
 subst hl;exact go_top e1 (piece_block e2 (q w os))
theorem aDq:∀ w:World,((boot_heap w.params).isNs mainGlobals&&(Array.mk []:Array GenState).size==0,(boot_heap w.params).objs.size,(boot_heap w.params).nsMap mainGlobals "__annotations__")=(true,11,an):=by
 intro w
 kernel_rfl
theorem left_of {q:Program}{loose:List Str}{Xt:Shared->Bool}{α:Type}{Yf:Shared->α}{Ya:World->α}{M:Nat}(e:opening p=plainProg p.main.scope.names) (f:∀ s,fenceModules? p s=some s) (hN:Nat.ble 600 N=true) (le:Nat.ble M N=true)
  (run:∀ (w:World) (os:OsState),topRun treeTable p w 11 an M ⟨boot_heap w.params,Array.mk [],boot_drawn,boot_toks,os⟩ (topStub p)=some (Sh H k w os))
  (looks:∀ w:World,(fun os=>((staticsOk (importedModules p.main.body) (boot_heap w.params) (H w.params)&&namesBound p (H w.params)&&gensDone (Sh H k w os)&&laidKept (boot_heap w.params) (H w.params)),
    fSeen q loose (importedModules p.main.body) Xt true (Sh H k w os),Yf (Sh H k w os)))=fun _=>(true,openGood q loose,Ya w)):LeftO p q loose Xt Yf Ya N true:=by
 refine LeftO.of_pieces (boot_open e hN f) aDq run le (fun w=>?_);have h:=looks w;rw[← aOb] at h;exact h
end
end Hd
namespace K22H
open PySem PySem.W
open L2 (aE aH aG aB)
open PySem.W.BT renaming node → bn, nil → bz
abbrev pp:Program:=PySem.Challenge.pw_roomward_k22_rooms_come_to
def tp (i:Nat):Stmt:=pp.main.body.getD i (.Pass ⟨0,0,0,0⟩)
abbrev kh:=@PySem.PyData.keyHash
abbrev en (P:Params) (k:Str) (n:Nat) (v:Value):DictEntry:=⟨kh P k,.str k n,v⟩
noncomputable section
abbrev co (l:List Value):Obj:=⟨.type "code",none,.fields l.toArray,#[]⟩
abbrev nf (l:List Value):Obj:=⟨.none,none,.fields l.toArray,#[]⟩
abbrev tu (l:List Value):Obj:=⟨.type "tuple",none,.seq l.toArray 0,#[]⟩
abbrev fu (f:FuncData):Obj:=⟨.type "function",none,.func f,#[]⟩
abbrev nu (f:FuncData):Obj:=⟨.none,none,.func f,#[]⟩
abbrev i0 (n:Int):Value:=.int n 0
abbrev cp (n:Nat):Value:=.str "/claim/cut.py" n
def o0:Obj:=tu []
def o1:Obj:=nf []
def o2:Obj:=co [.str "<module>" 182,.str "<module>" 183,cp 184,i0 1,i0 0,i0 0,i0 0,i0 0,.ref 11,.bool false,i0 181,.ref 12,.none,.none,.none,.none,i0 185,i0 1,cp 186]
def o3:Obj:=⟨.type "frame",none,.plain,#[(some (.ref 13)),(some (.ref 3)),(some (.ref 3)),none,(some (.str "__main__" 164)),none,(some (.ref 0))]⟩
def Ha (P:Params):Heap:=⟨Array.mk [boot_o_0 P,boot_o_1 P,boot_o_2 P,boot_o_3 P,boot_o_4 P,boot_o_5 P,boot_o_6 P,boot_o_7 P,boot_o_8 P,boot_o_9 P,boot_o_10 P,o0,o1,o2,o3],Hd.lf⟩
def env:Env:={ scope:=pp.main.scope,locals:=mainNs,globals:=mainNs,cells:=[],code:=.ref 13,frame:=some 14 }
theorem pre:Hd.Pre pp env Ha 187 12 ⟨0,0,0,0⟩:=by
 intro w
 kernel_rfl
def ns (t:BT) (l:List (Nat×Obj)):BT:=l.foldl (fun t x=>t.ins x.1 x.2) t
abbrev be (x:Obj):BT:=bn x bz bz
def T0 (P:Params):BT:=(bn (boot_o_0 P) (bn (boot_o_1 P) (bn (boot_o_3 P) (be (boot_o_7 P)) (be o0)) (bn (boot_o_5 P) (be (boot_o_9 P)) (be o2))) (bn (boot_o_2 P) (bn (boot_o_4 P) (be (boot_o_8 P)) (be o1)) (bn (boot_o_6 P) (be (boot_o_10 P)) (be o3))))
theorem blk:Hd.Blk pp env Ha 187 T0 15 187 1 ⟨0,0,0,0⟩ ⟨0,0,0,0⟩:=by
 intro w
 kernel_rfl
def g0 (P:Params):List DictEntry:=[en P "__doc__" 166 .none,en P "__package__" 167 .none,en P "__loader__" 168 (.builtin "__main__.__loader__#opaque"),en P "__spec__" 169 .none,en P "__annotations__" 170 (.ref 6),en P "__builtins__" 171 (.ref 4),en P "__file__" 173 (.str "/claim/cut.py" 172),en P "__cached__" 174 .none,en P "_wall" 193 (.ref 21),en P "WardError" 213 (.ref 31)]
def o4 (P:Params):Obj:=⟨.type "dict",none,.dict ⟨en P "__name__" 165 (.str "roomward.errors" 194)::g0 P⟩ 11,#[]⟩
def o5:Obj:=nf [i0 1,i0 0,.ref 20,i0 5,i0 0,.ref 27]
def o6:Obj:=tu []
def o7:Obj:=nf []
def o8:Obj:=tu [.str "k" 190]
def o9:Obj:=tu []
def o10:Obj:=nu ⟨"_wall","_wall",aH (tp 0),.stmts (aG (tp 0)),aB (tp 0),0,[],.none,.none,.none,.none,none,.none,.none,0⟩
def o11:Obj:=co [.str "_wall" 187,.str "_wall" 188,cp 189,i0 1,i0 1,i0 0,i0 0,i0 3,.ref 15,.bool true,i0 181,.ref 16,.none,.ref 17,.ref 18,.ref 19,i0 191,i0 1,cp 192]
def o12:Obj:=fu ⟨"_wall","_wall",aH (tp 0),.stmts (aG (tp 0)),aB (tp 0),3,[],.none,.none,.none,.str "__main__" 164,none,.ref 20,.none,0⟩
def o13:Obj:=tu [.type "ValueError"]
def o14:Obj:=⟨.type "builtin_function_or_method",none,.fields #[.builtin "type.__prepare__",.type "type"],#[]⟩
def o15 (P:Params):Obj:=⟨.type "dict",none,.dict #[en P "__module__" 203 (.str "roomward.errors" 194),en P "__qualname__" 205 (.str "WardError" 204),en P "__firstlineno__" 207 (.int 5 206),en P "__static_attributes__" 208 (.ref 29)] 4,#[]⟩
def o16:Obj:=tu []
def o17:Obj:=nf []
def o18:Obj:=co [.str "WardError" 198,.str "WardError" 199,cp 200,i0 5,i0 0,i0 0,i0 0,i0 0,.ref 25,.bool false,i0 181,.ref 26,.none,.none,.none,.none,i0 201,i0 5,cp 202]
def o19:Obj:=⟨.type "frame",none,.plain,#[(some (.ref 27)),(some (.ref 3)),(some (.ref 24)),none,(some (.str "roomward.errors" 194)),none,(some (.ref 0))]⟩
def o20:Obj:=tu []
def o21 (P:Params):Obj:=⟨.type "dict",none,.dict #[en P "__module__" 203 (.str "roomward.errors" 194),en P "__firstlineno__" 207 (.int 5 206),en P "__static_attributes__" 208 (.ref 29),en P "__weakref__" 210 (.ref 32),en P "__doc__" 211 .none] 3,#[]⟩
def o22:Obj:=⟨.type "type",none,.cls ⟨"WardError",[.type "ValueError"],[.ref 31,.type "ValueError",.type "Exception",.type "BaseException",.type "object"],30,"WardError",true,[],[],false,none,false⟩,#[(some (.ref 22)),none,(some (.str "WardError" 196)),(some (.str "WardError" 204)),(some (.builtin "ValueError.__new__")),(some (.bool true))]⟩
def o23:Obj:=⟨.type "getset_descriptor",none,.fields #[.str "__weakref__" 209,.ref 31,.builtin "ExceptionGroup.__weakref__",.none],#[]⟩
def o24:Obj:=⟨.type "super",none,.fields #[.ref 31,.ref 31,.ref 31],#[]⟩
def o25:Obj:=⟨.type "builtin_function_or_method",none,.fields #[.builtin "object.__init_subclass__",.ref 31],#[]⟩
def T1 (P:Params):BT:=ns (T0 P) [(3,o4 P),(12,o5),(15,o6),(16,o7),(17,o8),(18,o9),(19,o10),(20,o11),(21,o12),(22,o13),(23,o14),(24,o15 P),(25,o16),(26,o17),(27,o18),(28,o19),(29,o20),(30,o21 P),(31,o22),(32,o23),(33,o24),(34,o25)]
theorem pc1:Hd.Pc pp env T0 15 187 T1 35 214 225 [tp 0,tp 1,tp 2] ⟨0,0,0,0⟩ ⟨5,0,6,8⟩:=by
 intro w
 kernel_rfl
def g1 (P:Params):List DictEntry:=g0 P++[en P "NoName" 229 (.ref 44)]
def o26 (P:Params):Obj:=⟨.type "dict",none,.dict ⟨en P "__name__" 165 (.str "roomward.errors" 194)::g1 P⟩ 12,#[]⟩
def o27:Obj:=nf [i0 1,i0 0,.ref 20,i0 5,i0 0,.ref 27,i0 7,i0 0,.ref 40]
def o28:Obj:=⟨.type "type",none,.cls ⟨"WardError",[.type "ValueError"],[.ref 31,.type "ValueError",.type "Exception",.type "BaseException",.type "object"],30,"WardError",true,[],[.ref 44],false,none,false⟩,#[(some (.ref 22)),none,(some (.str "WardError" 196)),(some (.str "WardError" 204)),(some (.builtin "ValueError.__new__")),(some (.bool true))]⟩
def o29:Obj:=tu [.ref 31]
def o30:Obj:=⟨.type "builtin_function_or_method",none,.fields #[.builtin "type.__prepare__",.type "type"],#[]⟩
def o31 (P:Params):Obj:=⟨.type "dict",none,.dict #[en P "__module__" 221 (.str "roomward.errors" 194),en P "__qualname__" 223 (.str "NoName" 222),en P "__firstlineno__" 225 (.int 7 224),en P "__static_attributes__" 226 (.ref 42)] 4,#[]⟩
def o32:Obj:=tu []
def o33:Obj:=nf []
def o34:Obj:=co [.str "NoName" 216,.str "NoName" 217,cp 218,i0 7,i0 0,i0 0,i0 0,i0 0,.ref 38,.bool false,i0 181,.ref 39,.none,.none,.none,.none,i0 219,i0 7,cp 220]
def o35:Obj:=⟨.type "frame",none,.plain,#[(some (.ref 40)),(some (.ref 3)),(some (.ref 37)),none,(some (.str "roomward.errors" 194)),none,(some (.ref 0))]⟩
def o36:Obj:=tu []
def o37 (P:Params):Obj:=⟨.type "dict",none,.dict #[en P "__module__" 221 (.str "roomward.errors" 194),en P "__firstlineno__" 225 (.int 7 224),en P "__static_attributes__" 226 (.ref 42),en P "__doc__" 227 .none] 2,#[]⟩
def o38:Obj:=⟨.type "type",none,.cls ⟨"NoName",[.ref 31],[.ref 44,.ref 31,.type "ValueError",.type "Exception",.type "BaseException",.type "object"],43,"NoName",true,[],[],false,none,false⟩,#[(some (.ref 35)),none,(some (.str "NoName" 214)),(some (.str "NoName" 222)),(some (.builtin "ValueError.__new__")),(some (.bool true))]⟩
def o39:Obj:=⟨.type "super",none,.fields #[.ref 44,.ref 44,.ref 44],#[]⟩
def o40:Obj:=⟨.type "builtin_function_or_method",none,.fields #[.builtin "object.__init_subclass__",.ref 44],#[]⟩
def T2 (P:Params):BT:=ns (T1 P) [(3,o26 P),(12,o27),(31,o28),(35,o29),(36,o30),(37,o31 P),(38,o32),(39,o33),(40,o34),(41,o35),(42,o36),(43,o37 P),(44,o38),(45,o39),(46,o40)]
theorem pc2:Hd.Pc pp env T1 35 214 T2 47 230 214 [tp 3] ⟨5,0,6,8⟩ ⟨7,0,8,8⟩:=by
 intro w
 kernel_rfl
def g2 (P:Params):List DictEntry:=g1 P++[en P "NoDeed" 245 (.ref 56)]
def o41 (P:Params):Obj:=⟨.type "dict",none,.dict ⟨en P "__name__" 165 (.str "roomward.errors" 194)::g2 P⟩ 13,#[]⟩
def o42:Obj:=nf [i0 1,i0 0,.ref 20,i0 5,i0 0,.ref 27,i0 7,i0 0,.ref 40,i0 9,i0 0,.ref 52]
def o43:Obj:=⟨.type "type",none,.cls ⟨"WardError",[.type "ValueError"],[.ref 31,.type "ValueError",.type "Exception",.type "BaseException",.type "object"],30,"WardError",true,[],[.ref 44,.ref 56],false,none,false⟩,#[(some (.ref 22)),none,(some (.str "WardError" 196)),(some (.str "WardError" 204)),(some (.builtin "ValueError.__new__")),(some (.bool true))]⟩
def o44:Obj:=tu [.ref 31]
def o45:Obj:=⟨.type "builtin_function_or_method",none,.fields #[.builtin "type.__prepare__",.type "type"],#[]⟩
def o46 (P:Params):Obj:=⟨.type "dict",none,.dict #[en P "__module__" 237 (.str "roomward.errors" 194),en P "__qualname__" 239 (.str "NoDeed" 238),en P "__firstlineno__" 241 (.int 9 240),en P "__static_attributes__" 242 (.ref 54)] 4,#[]⟩
def o47:Obj:=tu []
def o48:Obj:=nf []
def o49:Obj:=co [.str "NoDeed" 232,.str "NoDeed" 233,cp 234,i0 9,i0 0,i0 0,i0 0,i0 0,.ref 50,.bool false,i0 181,.ref 51,.none,.none,.none,.none,i0 235,i0 9,cp 236]
def o50:Obj:=⟨.type "frame",none,.plain,#[(some (.ref 52)),(some (.ref 3)),(some (.ref 49)),none,(some (.str "roomward.errors" 194)),none,(some (.ref 0))]⟩
def o51:Obj:=tu []
def o52 (P:Params):Obj:=⟨.type "dict",none,.dict #[en P "__module__" 237 (.str "roomward.errors" 194),en P "__firstlineno__" 241 (.int 9 240),en P "__static_attributes__" 242 (.ref 54),en P "__doc__" 243 .none] 2,#[]⟩
def o53:Obj:=⟨.type "type",none,.cls ⟨"NoDeed",[.ref 31],[.ref 56,.ref 31,.type "ValueError",.type "Exception",.type "BaseException",.type "object"],55,"NoDeed",true,[],[],false,none,false⟩,#[(some (.ref 47)),none,(some (.str "NoDeed" 230)),(some (.str "NoDeed" 238)),(some (.builtin "ValueError.__new__")),(some (.bool true))]⟩
def o54:Obj:=⟨.type "super",none,.fields #[.ref 56,.ref 56,.ref 56],#[]⟩
def o55:Obj:=⟨.type "builtin_function_or_method",none,.fields #[.builtin "object.__init_subclass__",.ref 56],#[]⟩
def T3 (P:Params):BT:=ns (T2 P) [(3,o41 P),(12,o42),(31,o43),(47,o44),(48,o45),(49,o46 P),(50,o47),(51,o48),(52,o49),(53,o50),(54,o51),(55,o52 P),(56,o53),(57,o54),(58,o55)]
theorem pc3:Hd.Pc pp env T2 47 230 T3 59 246 214 [tp 4] ⟨7,0,8,8⟩ ⟨9,0,10,8⟩:=by
 intro w
 kernel_rfl
def g3 (P:Params):List DictEntry:=g2 P++[en P "NoRoom" 261 (.ref 68)]
def o56 (P:Params):Obj:=⟨.type "dict",none,.dict ⟨en P "__name__" 165 (.str "roomward.errors" 194)::g3 P⟩ 14,#[]⟩
def o57:Obj:=nf [i0 1,i0 0,.ref 20,i0 5,i0 0,.ref 27,i0 7,i0 0,.ref 40,i0 9,i0 0,.ref 52,i0 11,i0 0,.ref 64]
def o58:Obj:=⟨.type "type",none,.cls ⟨"WardError",[.type "ValueError"],[.ref 31,.type "ValueError",.type "Exception",.type "BaseException",.type "object"],30,"WardError",true,[],[.ref 44,.ref 56,.ref 68],false,none,false⟩,#[(some (.ref 22)),none,(some (.str "WardError" 196)),(some (.str "WardError" 204)),(some (.builtin "ValueError.__new__")),(some (.bool true))]⟩
def o59:Obj:=tu [.ref 31]
def o60:Obj:=⟨.type "builtin_function_or_method",none,.fields #[.builtin "type.__prepare__",.type "type"],#[]⟩
def o61 (P:Params):Obj:=⟨.type "dict",none,.dict #[en P "__module__" 253 (.str "roomward.errors" 194),en P "__qualname__" 255 (.str "NoRoom" 254),en P "__firstlineno__" 257 (.int 11 256),en P "__static_attributes__" 258 (.ref 66)] 4,#[]⟩
def o62:Obj:=tu []
def o63:Obj:=nf []
def o64:Obj:=co [.str "NoRoom" 248,.str "NoRoom" 249,cp 250,i0 11,i0 0,i0 0,i0 0,i0 0,.ref 62,.bool false,i0 181,.ref 63,.none,.none,.none,.none,i0 251,i0 11,cp 252]
def o65:Obj:=⟨.type "frame",none,.plain,#[(some (.ref 64)),(some (.ref 3)),(some (.ref 61)),none,(some (.str "roomward.errors" 194)),none,(some (.ref 0))]⟩
def o66:Obj:=tu []
def o67 (P:Params):Obj:=⟨.type "dict",none,.dict #[en P "__module__" 253 (.str "roomward.errors" 194),en P "__firstlineno__" 257 (.int 11 256),en P "__static_attributes__" 258 (.ref 66),en P "__doc__" 259 .none] 2,#[]⟩
def o68:Obj:=⟨.type "type",none,.cls ⟨"NoRoom",[.ref 31],[.ref 68,.ref 31,.type "ValueError",.type "Exception",.type "BaseException",.type "object"],67,"NoRoom",true,[],[],false,none,false⟩,#[(some (.ref 59)),none,(some (.str "NoRoom" 246)),(some (.str "NoRoom" 254)),(some (.builtin "ValueError.__new__")),(some (.bool true))]⟩
def o69:Obj:=⟨.type "super",none,.fields #[.ref 68,.ref 68,.ref 68],#[]⟩
def o70:Obj:=⟨.type "builtin_function_or_method",none,.fields #[.builtin "object.__init_subclass__",.ref 68],#[]⟩
def T4 (P:Params):BT:=ns (T3 P) [(3,o56 P),(12,o57),(31,o58),(59,o59),(60,o60),(61,o61 P),(62,o62),(63,o63),(64,o64),(65,o65),(66,o66),(67,o67 P),(68,o68),(69,o69),(70,o70)]
theorem pc4:Hd.Pc pp env T3 59 246 T4 71 262 214 [tp 5] ⟨9,0,10,8⟩ ⟨11,0,12,8⟩:=by
 intro w
 kernel_rfl
def g4 (P:Params):List DictEntry:=g3 P++[en P "TwiceTold" 277 (.ref 80)]
def o71 (P:Params):Obj:=⟨.type "dict",none,.dict ⟨en P "__name__" 165 (.str "roomward.errors" 194)::g4 P⟩ 15,#[]⟩
def o72:Obj:=nf [i0 1,i0 0,.ref 20,i0 5,i0 0,.ref 27,i0 7,i0 0,.ref 40,i0 9,i0 0,.ref 52,i0 11,i0 0,.ref 64,i0 13,i0 0,.ref 76]
def o73:Obj:=⟨.type "type",none,.cls ⟨"WardError",[.type "ValueError"],[.ref 31,.type "ValueError",.type "Exception",.type "BaseException",.type "object"],30,"WardError",true,[],[.ref 44,.ref 56,.ref 68,.ref 80],false,none,false⟩,#[(some (.ref 22)),none,(some (.str "WardError" 196)),(some (.str "WardError" 204)),(some (.builtin "ValueError.__new__")),(some (.bool true))]⟩
def o74:Obj:=tu [.ref 31]
def o75:Obj:=⟨.type "builtin_function_or_method",none,.fields #[.builtin "type.__prepare__",.type "type"],#[]⟩
def o76 (P:Params):Obj:=⟨.type "dict",none,.dict #[en P "__module__" 269 (.str "roomward.errors" 194),en P "__qualname__" 271 (.str "TwiceTold" 270),en P "__firstlineno__" 273 (.int 13 272),en P "__static_attributes__" 274 (.ref 78)] 4,#[]⟩
def o77:Obj:=tu []
def o78:Obj:=nf []
def o79:Obj:=co [.str "TwiceTold" 264,.str "TwiceTold" 265,cp 266,i0 13,i0 0,i0 0,i0 0,i0 0,.ref 74,.bool false,i0 181,.ref 75,.none,.none,.none,.none,i0 267,i0 13,cp 268]
def o80:Obj:=⟨.type "frame",none,.plain,#[(some (.ref 76)),(some (.ref 3)),(some (.ref 73)),none,(some (.str "roomward.errors" 194)),none,(some (.ref 0))]⟩
def o81:Obj:=tu []
def o82 (P:Params):Obj:=⟨.type "dict",none,.dict #[en P "__module__" 269 (.str "roomward.errors" 194),en P "__firstlineno__" 273 (.int 13 272),en P "__static_attributes__" 274 (.ref 78),en P "__doc__" 275 .none] 2,#[]⟩
def o83:Obj:=⟨.type "type",none,.cls ⟨"TwiceTold",[.ref 31],[.ref 80,.ref 31,.type "ValueError",.type "Exception",.type "BaseException",.type "object"],79,"TwiceTold",true,[],[],false,none,false⟩,#[(some (.ref 71)),none,(some (.str "TwiceTold" 262)),(some (.str "TwiceTold" 270)),(some (.builtin "ValueError.__new__")),(some (.bool true))]⟩
def o84:Obj:=⟨.type "super",none,.fields #[.ref 80,.ref 80,.ref 80],#[]⟩
def o85:Obj:=⟨.type "builtin_function_or_method",none,.fields #[.builtin "object.__init_subclass__",.ref 80],#[]⟩
def T5 (P:Params):BT:=ns (T4 P) [(3,o71 P),(12,o72),(31,o73),(71,o74),(72,o75),(73,o76 P),(74,o77),(75,o78),(76,o79),(77,o80),(78,o81),(79,o82 P),(80,o83),(81,o84),(82,o85)]
theorem pc5:Hd.Pc pp env T4 71 262 T5 83 278 214 [tp 6] ⟨11,0,12,8⟩ ⟨13,0,14,8⟩:=by
 intro w
 kernel_rfl
def g5 (P:Params):List DictEntry:=g4 P++[en P "TooMany" 293 (.ref 92)]
def o86 (P:Params):Obj:=⟨.type "dict",none,.dict ⟨en P "__name__" 165 (.str "roomward.errors" 194)::g5 P⟩ 16,#[]⟩
def o87:Obj:=nf [i0 1,i0 0,.ref 20,i0 5,i0 0,.ref 27,i0 7,i0 0,.ref 40,i0 9,i0 0,.ref 52,i0 11,i0 0,.ref 64,i0 13,i0 0,.ref 76,i0 15,i0 0,.ref 88]
def o88:Obj:=⟨.type "type",none,.cls ⟨"WardError",[.type "ValueError"],[.ref 31,.type "ValueError",.type "Exception",.type "BaseException",.type "object"],30,"WardError",true,[],[.ref 44,.ref 56,.ref 68,.ref 80,.ref 92],false,none,false⟩,#[(some (.ref 22)),none,(some (.str "WardError" 196)),(some (.str "WardError" 204)),(some (.builtin "ValueError.__new__")),(some (.bool true))]⟩
def o89:Obj:=tu [.ref 31]
def o90:Obj:=⟨.type "builtin_function_or_method",none,.fields #[.builtin "type.__prepare__",.type "type"],#[]⟩
def o91 (P:Params):Obj:=⟨.type "dict",none,.dict #[en P "__module__" 285 (.str "roomward.errors" 194),en P "__qualname__" 287 (.str "TooMany" 286),en P "__firstlineno__" 289 (.int 15 288),en P "__static_attributes__" 290 (.ref 90)] 4,#[]⟩
def o92:Obj:=tu []
def o93:Obj:=nf []
def o94:Obj:=co [.str "TooMany" 280,.str "TooMany" 281,cp 282,i0 15,i0 0,i0 0,i0 0,i0 0,.ref 86,.bool false,i0 181,.ref 87,.none,.none,.none,.none,i0 283,i0 15,cp 284]
def o95:Obj:=⟨.type "frame",none,.plain,#[(some (.ref 88)),(some (.ref 3)),(some (.ref 85)),none,(some (.str "roomward.errors" 194)),none,(some (.ref 0))]⟩
def o96:Obj:=tu []
def o97 (P:Params):Obj:=⟨.type "dict",none,.dict #[en P "__module__" 285 (.str "roomward.errors" 194),en P "__firstlineno__" 289 (.int 15 288),en P "__static_attributes__" 290 (.ref 90),en P "__doc__" 291 .none] 2,#[]⟩
def o98:Obj:=⟨.type "type",none,.cls ⟨"TooMany",[.ref 31],[.ref 92,.ref 31,.type "ValueError",.type "Exception",.type "BaseException",.type "object"],91,"TooMany",true,[],[],false,none,false⟩,#[(some (.ref 83)),none,(some (.str "TooMany" 278)),(some (.str "TooMany" 286)),(some (.builtin "ValueError.__new__")),(some (.bool true))]⟩
def o99:Obj:=⟨.type "super",none,.fields #[.ref 92,.ref 92,.ref 92],#[]⟩
def o100:Obj:=⟨.type "builtin_function_or_method",none,.fields #[.builtin "object.__init_subclass__",.ref 92],#[]⟩
def T6 (P:Params):BT:=ns (T5 P) [(3,o86 P),(12,o87),(31,o88),(83,o89),(84,o90),(85,o91 P),(86,o92),(87,o93),(88,o94),(89,o95),(90,o96),(91,o97 P),(92,o98),(93,o99),(94,o100)]
theorem pc6:Hd.Pc pp env T5 83 278 T6 95 294 214 [tp 7] ⟨13,0,14,8⟩ ⟨15,0,16,8⟩:=by
 intro w
 kernel_rfl
def g6 (P:Params):List DictEntry:=g5 P++[en P "NoRule" 309 (.ref 104)]
def o101 (P:Params):Obj:=⟨.type "dict",none,.dict ⟨en P "__name__" 165 (.str "roomward.errors" 194)::g6 P⟩ 17,#[]⟩
def o102:Obj:=nf [i0 1,i0 0,.ref 20,i0 5,i0 0,.ref 27,i0 7,i0 0,.ref 40,i0 9,i0 0,.ref 52,i0 11,i0 0,.ref 64,i0 13,i0 0,.ref 76,i0 15,i0 0,.ref 88,i0 17,i0 0,.ref 100]
def o103:Obj:=⟨.type "type",none,.cls ⟨"WardError",[.type "ValueError"],[.ref 31,.type "ValueError",.type "Exception",.type "BaseException",.type "object"],30,"WardError",true,[],[.ref 44,.ref 56,.ref 68,.ref 80,.ref 92,.ref 104],false,none,false⟩,#[(some (.ref 22)),none,(some (.str "WardError" 196)),(some (.str "WardError" 204)),(some (.builtin "ValueError.__new__")),(some (.bool true))]⟩
def o104:Obj:=tu [.ref 31]
def o105:Obj:=⟨.type "builtin_function_or_method",none,.fields #[.builtin "type.__prepare__",.type "type"],#[]⟩
def o106 (P:Params):Obj:=⟨.type "dict",none,.dict #[en P "__module__" 301 (.str "roomward.errors" 194),en P "__qualname__" 303 (.str "NoRule" 302),en P "__firstlineno__" 305 (.int 17 304),en P "__static_attributes__" 306 (.ref 102)] 4,#[]⟩
def o107:Obj:=tu []
def o108:Obj:=nf []
def o109:Obj:=co [.str "NoRule" 296,.str "NoRule" 297,cp 298,i0 17,i0 0,i0 0,i0 0,i0 0,.ref 98,.bool false,i0 181,.ref 99,.none,.none,.none,.none,i0 299,i0 17,cp 300]
def o110:Obj:=⟨.type "frame",none,.plain,#[(some (.ref 100)),(some (.ref 3)),(some (.ref 97)),none,(some (.str "roomward.errors" 194)),none,(some (.ref 0))]⟩
def o111:Obj:=tu []
def o112 (P:Params):Obj:=⟨.type "dict",none,.dict #[en P "__module__" 301 (.str "roomward.errors" 194),en P "__firstlineno__" 305 (.int 17 304),en P "__static_attributes__" 306 (.ref 102),en P "__doc__" 307 .none] 2,#[]⟩
def o113:Obj:=⟨.type "type",none,.cls ⟨"NoRule",[.ref 31],[.ref 104,.ref 31,.type "ValueError",.type "Exception",.type "BaseException",.type "object"],103,"NoRule",true,[],[],false,none,false⟩,#[(some (.ref 95)),none,(some (.str "NoRule" 294)),(some (.str "NoRule" 302)),(some (.builtin "ValueError.__new__")),(some (.bool true))]⟩
def o114:Obj:=⟨.type "super",none,.fields #[.ref 104,.ref 104,.ref 104],#[]⟩
def o115:Obj:=⟨.type "builtin_function_or_method",none,.fields #[.builtin "object.__init_subclass__",.ref 104],#[]⟩
def T7 (P:Params):BT:=ns (T6 P) [(3,o101 P),(12,o102),(31,o103),(95,o104),(96,o105),(97,o106 P),(98,o107),(99,o108),(100,o109),(101,o110),(102,o111),(103,o112 P),(104,o113),(105,o114),(106,o115)]
theorem pc7:Hd.Pc pp env T6 95 294 T7 107 310 214 [tp 8] ⟨15,0,16,8⟩ ⟨17,0,18,8⟩:=by
 intro w
 kernel_rfl
def g7 (P:Params):List DictEntry:=g6 P++[en P "NoRow" 325 (.ref 116)]
def o116 (P:Params):Obj:=⟨.type "dict",none,.dict ⟨en P "__name__" 165 (.str "roomward.errors" 194)::g7 P⟩ 18,#[]⟩
def o117:Obj:=nf [i0 1,i0 0,.ref 20,i0 5,i0 0,.ref 27,i0 7,i0 0,.ref 40,i0 9,i0 0,.ref 52,i0 11,i0 0,.ref 64,i0 13,i0 0,.ref 76,i0 15,i0 0,.ref 88,i0 17,i0 0,.ref 100,i0 19,i0 0,.ref 112]
def o118:Obj:=⟨.type "type",none,.cls ⟨"WardError",[.type "ValueError"],[.ref 31,.type "ValueError",.type "Exception",.type "BaseException",.type "object"],30,"WardError",true,[],[.ref 44,.ref 56,.ref 68,.ref 80,.ref 92,.ref 104,.ref 116],false,none,false⟩,#[(some (.ref 22)),none,(some (.str "WardError" 196)),(some (.str "WardError" 204)),(some (.builtin "ValueError.__new__")),(some (.bool true))]⟩
def o119:Obj:=tu [.ref 31]
def o120:Obj:=⟨.type "builtin_function_or_method",none,.fields #[.builtin "type.__prepare__",.type "type"],#[]⟩
def o121 (P:Params):Obj:=⟨.type "dict",none,.dict #[en P "__module__" 317 (.str "roomward.errors" 194),en P "__qualname__" 319 (.str "NoRow" 318),en P "__firstlineno__" 321 (.int 19 320),en P "__static_attributes__" 322 (.ref 114)] 4,#[]⟩
def o122:Obj:=tu []
def o123:Obj:=nf []
def o124:Obj:=co [.str "NoRow" 312,.str "NoRow" 313,cp 314,i0 19,i0 0,i0 0,i0 0,i0 0,.ref 110,.bool false,i0 181,.ref 111,.none,.none,.none,.none,i0 315,i0 19,cp 316]
def o125:Obj:=⟨.type "frame",none,.plain,#[(some (.ref 112)),(some (.ref 3)),(some (.ref 109)),none,(some (.str "roomward.errors" 194)),none,(some (.ref 0))]⟩
def o126:Obj:=tu []
def o127 (P:Params):Obj:=⟨.type "dict",none,.dict #[en P "__module__" 317 (.str "roomward.errors" 194),en P "__firstlineno__" 321 (.int 19 320),en P "__static_attributes__" 322 (.ref 114),en P "__doc__" 323 .none] 2,#[]⟩
def o128:Obj:=⟨.type "type",none,.cls ⟨"NoRow",[.ref 31],[.ref 116,.ref 31,.type "ValueError",.type "Exception",.type "BaseException",.type "object"],115,"NoRow",true,[],[],false,none,false⟩,#[(some (.ref 107)),none,(some (.str "NoRow" 310)),(some (.str "NoRow" 318)),(some (.builtin "ValueError.__new__")),(some (.bool true))]⟩
def o129:Obj:=⟨.type "super",none,.fields #[.ref 116,.ref 116,.ref 116],#[]⟩
def o130:Obj:=⟨.type "builtin_function_or_method",none,.fields #[.builtin "object.__init_subclass__",.ref 116],#[]⟩
def T8 (P:Params):BT:=ns (T7 P) [(3,o116 P),(12,o117),(31,o118),(107,o119),(108,o120),(109,o121 P),(110,o122),(111,o123),(112,o124),(113,o125),(114,o126),(115,o127 P),(116,o128),(117,o129),(118,o130)]
theorem pc8:Hd.Pc pp env T7 107 310 T8 119 326 214 [tp 9] ⟨17,0,18,8⟩ ⟨19,0,20,8⟩:=by
 intro w
 kernel_rfl
def g8 (P:Params):List DictEntry:=g7 P++[en P "NoHold" 341 (.ref 128)]
def o131 (P:Params):Obj:=⟨.type "dict",none,.dict ⟨en P "__name__" 165 (.str "roomward.errors" 194)::g8 P⟩ 19,#[]⟩
def o132:Obj:=nf [i0 1,i0 0,.ref 20,i0 5,i0 0,.ref 27,i0 7,i0 0,.ref 40,i0 9,i0 0,.ref 52,i0 11,i0 0,.ref 64,i0 13,i0 0,.ref 76,i0 15,i0 0,.ref 88,i0 17,i0 0,.ref 100,i0 19,i0 0,.ref 112,i0 21,i0 0,.ref 124]
def o133:Obj:=⟨.type "type",none,.cls ⟨"WardError",[.type "ValueError"],[.ref 31,.type "ValueError",.type "Exception",.type "BaseException",.type "object"],30,"WardError",true,[],[.ref 44,.ref 56,.ref 68,.ref 80,.ref 92,.ref 104,.ref 116,.ref 128],false,none,false⟩,#[(some (.ref 22)),none,(some (.str "WardError" 196)),(some (.str "WardError" 204)),(some (.builtin "ValueError.__new__")),(some (.bool true))]⟩
def o134:Obj:=tu [.ref 31]
def o135:Obj:=⟨.type "builtin_function_or_method",none,.fields #[.builtin "type.__prepare__",.type "type"],#[]⟩
def o136 (P:Params):Obj:=⟨.type "dict",none,.dict #[en P "__module__" 333 (.str "roomward.errors" 194),en P "__qualname__" 335 (.str "NoHold" 334),en P "__firstlineno__" 337 (.int 21 336),en P "__static_attributes__" 338 (.ref 126)] 4,#[]⟩
def o137:Obj:=tu []
def o138:Obj:=nf []
def o139:Obj:=co [.str "NoHold" 328,.str "NoHold" 329,cp 330,i0 21,i0 0,i0 0,i0 0,i0 0,.ref 122,.bool false,i0 181,.ref 123,.none,.none,.none,.none,i0 331,i0 21,cp 332]
def o140:Obj:=⟨.type "frame",none,.plain,#[(some (.ref 124)),(some (.ref 3)),(some (.ref 121)),none,(some (.str "roomward.errors" 194)),none,(some (.ref 0))]⟩
def o141:Obj:=tu []
def o142 (P:Params):Obj:=⟨.type "dict",none,.dict #[en P "__module__" 333 (.str "roomward.errors" 194),en P "__firstlineno__" 337 (.int 21 336),en P "__static_attributes__" 338 (.ref 126),en P "__doc__" 339 .none] 2,#[]⟩
def o143:Obj:=⟨.type "type",none,.cls ⟨"NoHold",[.ref 31],[.ref 128,.ref 31,.type "ValueError",.type "Exception",.type "BaseException",.type "object"],127,"NoHold",true,[],[],false,none,false⟩,#[(some (.ref 119)),none,(some (.str "NoHold" 326)),(some (.str "NoHold" 334)),(some (.builtin "ValueError.__new__")),(some (.bool true))]⟩
def o144:Obj:=⟨.type "super",none,.fields #[.ref 128,.ref 128,.ref 128],#[]⟩
def o145:Obj:=⟨.type "builtin_function_or_method",none,.fields #[.builtin "object.__init_subclass__",.ref 128],#[]⟩
def T9 (P:Params):BT:=ns (T8 P) [(3,o131 P),(12,o132),(31,o133),(119,o134),(120,o135),(121,o136 P),(122,o137),(123,o138),(124,o139),(125,o140),(126,o141),(127,o142 P),(128,o143),(129,o144),(130,o145)]
theorem pc9:Hd.Pc pp env T8 119 326 T9 131 342 214 [tp 10] ⟨19,0,20,8⟩ ⟨21,0,22,8⟩:=by
 intro w
 kernel_rfl
def g9 (P:Params):List DictEntry:=g8 P++[en P "NoHolder" 357 (.ref 140)]
def o146 (P:Params):Obj:=⟨.type "dict",none,.dict ⟨en P "__name__" 165 (.str "roomward.errors" 194)::g9 P⟩ 20,#[]⟩
def o147:Obj:=nf [i0 1,i0 0,.ref 20,i0 5,i0 0,.ref 27,i0 7,i0 0,.ref 40,i0 9,i0 0,.ref 52,i0 11,i0 0,.ref 64,i0 13,i0 0,.ref 76,i0 15,i0 0,.ref 88,i0 17,i0 0,.ref 100,i0 19,i0 0,.ref 112,i0 21,i0 0,.ref 124,i0 23,i0 0,.ref 136]
def o148:Obj:=⟨.type "type",none,.cls ⟨"WardError",[.type "ValueError"],[.ref 31,.type "ValueError",.type "Exception",.type "BaseException",.type "object"],30,"WardError",true,[],[.ref 44,.ref 56,.ref 68,.ref 80,.ref 92,.ref 104,.ref 116,.ref 128,.ref 140],false,none,false⟩,#[(some (.ref 22)),none,(some (.str "WardError" 196)),(some (.str "WardError" 204)),(some (.builtin "ValueError.__new__")),(some (.bool true))]⟩
def o149:Obj:=tu [.ref 31]
def o150:Obj:=⟨.type "builtin_function_or_method",none,.fields #[.builtin "type.__prepare__",.type "type"],#[]⟩
def o151 (P:Params):Obj:=⟨.type "dict",none,.dict #[en P "__module__" 349 (.str "roomward.errors" 194),en P "__qualname__" 351 (.str "NoHolder" 350),en P "__firstlineno__" 353 (.int 23 352),en P "__static_attributes__" 354 (.ref 138)] 4,#[]⟩
def o152:Obj:=tu []
def o153:Obj:=nf []
def o154:Obj:=co [.str "NoHolder" 344,.str "NoHolder" 345,cp 346,i0 23,i0 0,i0 0,i0 0,i0 0,.ref 134,.bool false,i0 181,.ref 135,.none,.none,.none,.none,i0 347,i0 23,cp 348]
def o155:Obj:=⟨.type "frame",none,.plain,#[(some (.ref 136)),(some (.ref 3)),(some (.ref 133)),none,(some (.str "roomward.errors" 194)),none,(some (.ref 0))]⟩
def o156:Obj:=tu []
def o157 (P:Params):Obj:=⟨.type "dict",none,.dict #[en P "__module__" 349 (.str "roomward.errors" 194),en P "__firstlineno__" 353 (.int 23 352),en P "__static_attributes__" 354 (.ref 138),en P "__doc__" 355 .none] 2,#[]⟩
def o158:Obj:=⟨.type "type",none,.cls ⟨"NoHolder",[.ref 31],[.ref 140,.ref 31,.type "ValueError",.type "Exception",.type "BaseException",.type "object"],139,"NoHolder",true,[],[],false,none,false⟩,#[(some (.ref 131)),none,(some (.str "NoHolder" 342)),(some (.str "NoHolder" 350)),(some (.builtin "ValueError.__new__")),(some (.bool true))]⟩
def o159:Obj:=⟨.type "super",none,.fields #[.ref 140,.ref 140,.ref 140],#[]⟩
def o160:Obj:=⟨.type "builtin_function_or_method",none,.fields #[.builtin "object.__init_subclass__",.ref 140],#[]⟩
def T10 (P:Params):BT:=ns (T9 P) [(3,o146 P),(12,o147),(31,o148),(131,o149),(132,o150),(133,o151 P),(134,o152),(135,o153),(136,o154),(137,o155),(138,o156),(139,o157 P),(140,o158),(141,o159),(142,o160)]
theorem pc10:Hd.Pc pp env T9 131 342 T10 143 358 214 [tp 11] ⟨21,0,22,8⟩ ⟨23,0,24,8⟩:=by
 intro w
 kernel_rfl
def g10 (P:Params):List DictEntry:=g9 P++[en P "FreeDeed" 373 (.ref 152)]
def o161 (P:Params):Obj:=⟨.type "dict",none,.dict ⟨en P "__name__" 165 (.str "roomward.errors" 194)::g10 P⟩ 21,#[]⟩
def o162:Obj:=nf [i0 1,i0 0,.ref 20,i0 5,i0 0,.ref 27,i0 7,i0 0,.ref 40,i0 9,i0 0,.ref 52,i0 11,i0 0,.ref 64,i0 13,i0 0,.ref 76,i0 15,i0 0,.ref 88,i0 17,i0 0,.ref 100,i0 19,i0 0,.ref 112,i0 21,i0 0,.ref 124,i0 23,i0 0,.ref 136,i0 25,i0 0,.ref 148]
def o163:Obj:=⟨.type "type",none,.cls ⟨"WardError",[.type "ValueError"],[.ref 31,.type "ValueError",.type "Exception",.type "BaseException",.type "object"],30,"WardError",true,[],[.ref 44,.ref 56,.ref 68,.ref 80,.ref 92,.ref 104,.ref 116,.ref 128,.ref 140,.ref 152],false,none,false⟩,#[(some (.ref 22)),none,(some (.str "WardError" 196)),(some (.str "WardError" 204)),(some (.builtin "ValueError.__new__")),(some (.bool true))]⟩
def o164:Obj:=tu [.ref 31]
def o165:Obj:=⟨.type "builtin_function_or_method",none,.fields #[.builtin "type.__prepare__",.type "type"],#[]⟩
def o166 (P:Params):Obj:=⟨.type "dict",none,.dict #[en P "__module__" 365 (.str "roomward.errors" 194),en P "__qualname__" 367 (.str "FreeDeed" 366),en P "__firstlineno__" 369 (.int 25 368),en P "__static_attributes__" 370 (.ref 150)] 4,#[]⟩
def o167:Obj:=tu []
def o168:Obj:=nf []
def o169:Obj:=co [.str "FreeDeed" 360,.str "FreeDeed" 361,cp 362,i0 25,i0 0,i0 0,i0 0,i0 0,.ref 146,.bool false,i0 181,.ref 147,.none,.none,.none,.none,i0 363,i0 25,cp 364]
def o170:Obj:=⟨.type "frame",none,.plain,#[(some (.ref 148)),(some (.ref 3)),(some (.ref 145)),none,(some (.str "roomward.errors" 194)),none,(some (.ref 0))]⟩
def o171:Obj:=tu []
def o172 (P:Params):Obj:=⟨.type "dict",none,.dict #[en P "__module__" 365 (.str "roomward.errors" 194),en P "__firstlineno__" 369 (.int 25 368),en P "__static_attributes__" 370 (.ref 150),en P "__doc__" 371 .none] 2,#[]⟩
def o173:Obj:=⟨.type "type",none,.cls ⟨"FreeDeed",[.ref 31],[.ref 152,.ref 31,.type "ValueError",.type "Exception",.type "BaseException",.type "object"],151,"FreeDeed",true,[],[],false,none,false⟩,#[(some (.ref 143)),none,(some (.str "FreeDeed" 358)),(some (.str "FreeDeed" 366)),(some (.builtin "ValueError.__new__")),(some (.bool true))]⟩
def o174:Obj:=⟨.type "super",none,.fields #[.ref 152,.ref 152,.ref 152],#[]⟩
def o175:Obj:=⟨.type "builtin_function_or_method",none,.fields #[.builtin "object.__init_subclass__",.ref 152],#[]⟩
def T11 (P:Params):BT:=ns (T10 P) [(3,o161 P),(12,o162),(31,o163),(143,o164),(144,o165),(145,o166 P),(146,o167),(147,o168),(148,o169),(149,o170),(150,o171),(151,o172 P),(152,o173),(153,o174),(154,o175)]
theorem pc11:Hd.Pc pp env T10 143 358 T11 155 374 214 [tp 12] ⟨23,0,24,8⟩ ⟨25,0,26,8⟩:=by
 intro w
 kernel_rfl
def g11 (P:Params):List DictEntry:=g10 P++[en P "NotNow" 389 (.ref 164)]
def o176 (P:Params):Obj:=⟨.type "dict",none,.dict ⟨en P "__name__" 165 (.str "roomward.errors" 194)::g11 P⟩ 22,#[]⟩
def o177:Obj:=nf [i0 1,i0 0,.ref 20,i0 5,i0 0,.ref 27,i0 7,i0 0,.ref 40,i0 9,i0 0,.ref 52,i0 11,i0 0,.ref 64,i0 13,i0 0,.ref 76,i0 15,i0 0,.ref 88,i0 17,i0 0,.ref 100,i0 19,i0 0,.ref 112,i0 21,i0 0,.ref 124,i0 23,i0 0,.ref 136,i0 25,i0 0,.ref 148,i0 27,i0 0,.ref 160]
def o178:Obj:=⟨.type "type",none,.cls ⟨"WardError",[.type "ValueError"],[.ref 31,.type "ValueError",.type "Exception",.type "BaseException",.type "object"],30,"WardError",true,[],[.ref 44,.ref 56,.ref 68,.ref 80,.ref 92,.ref 104,.ref 116,.ref 128,.ref 140,.ref 152,.ref 164],false,none,false⟩,#[(some (.ref 22)),none,(some (.str "WardError" 196)),(some (.str "WardError" 204)),(some (.builtin "ValueError.__new__")),(some (.bool true))]⟩
def o179:Obj:=tu [.ref 31]
def o180:Obj:=⟨.type "builtin_function_or_method",none,.fields #[.builtin "type.__prepare__",.type "type"],#[]⟩
def o181 (P:Params):Obj:=⟨.type "dict",none,.dict #[en P "__module__" 381 (.str "roomward.errors" 194),en P "__qualname__" 383 (.str "NotNow" 382),en P "__firstlineno__" 385 (.int 27 384),en P "__static_attributes__" 386 (.ref 162)] 4,#[]⟩
def o182:Obj:=tu []
def o183:Obj:=nf []
def o184:Obj:=co [.str "NotNow" 376,.str "NotNow" 377,cp 378,i0 27,i0 0,i0 0,i0 0,i0 0,.ref 158,.bool false,i0 181,.ref 159,.none,.none,.none,.none,i0 379,i0 27,cp 380]
def o185:Obj:=⟨.type "frame",none,.plain,#[(some (.ref 160)),(some (.ref 3)),(some (.ref 157)),none,(some (.str "roomward.errors" 194)),none,(some (.ref 0))]⟩
def o186:Obj:=tu []
def o187 (P:Params):Obj:=⟨.type "dict",none,.dict #[en P "__module__" 381 (.str "roomward.errors" 194),en P "__firstlineno__" 385 (.int 27 384),en P "__static_attributes__" 386 (.ref 162),en P "__doc__" 387 .none] 2,#[]⟩
def o188:Obj:=⟨.type "type",none,.cls ⟨"NotNow",[.ref 31],[.ref 164,.ref 31,.type "ValueError",.type "Exception",.type "BaseException",.type "object"],163,"NotNow",true,[],[],false,none,false⟩,#[(some (.ref 155)),none,(some (.str "NotNow" 374)),(some (.str "NotNow" 382)),(some (.builtin "ValueError.__new__")),(some (.bool true))]⟩
def o189:Obj:=⟨.type "super",none,.fields #[.ref 164,.ref 164,.ref 164],#[]⟩
def o190:Obj:=⟨.type "builtin_function_or_method",none,.fields #[.builtin "object.__init_subclass__",.ref 164],#[]⟩
def T12 (P:Params):BT:=ns (T11 P) [(3,o176 P),(12,o177),(31,o178),(155,o179),(156,o180),(157,o181 P),(158,o182),(159,o183),(160,o184),(161,o185),(162,o186),(163,o187 P),(164,o188),(165,o189),(166,o190)]
theorem pc12:Hd.Pc pp env T11 155 374 T12 167 390 214 [tp 13] ⟨25,0,26,8⟩ ⟨27,0,28,8⟩:=by
 intro w
 kernel_rfl
def g12 (P:Params):List DictEntry:=g11 P++[en P "NoWarden" 416 (.ref 183)]
def o191 (P:Params):Obj:=⟨.type "dict",none,.dict ⟨en P "__name__" 165 (.str "roomward.errors" 194)::g12 P⟩ 23,#[]⟩
def o192:Obj:=nf [i0 1,i0 0,.ref 20,i0 5,i0 0,.ref 27,i0 7,i0 0,.ref 40,i0 9,i0 0,.ref 52,i0 11,i0 0,.ref 64,i0 13,i0 0,.ref 76,i0 15,i0 0,.ref 88,i0 17,i0 0,.ref 100,i0 19,i0 0,.ref 112,i0 21,i0 0,.ref 124,i0 23,i0 0,.ref 136,i0 25,i0 0,.ref 148,i0 27,i0 0,.ref 160,i0 29,i0 0,.ref 172]
def o193:Obj:=⟨.type "type",none,.cls ⟨"WardError",[.type "ValueError"],[.ref 31,.type "ValueError",.type "Exception",.type "BaseException",.type "object"],30,"WardError",true,[],[.ref 44,.ref 56,.ref 68,.ref 80,.ref 92,.ref 104,.ref 116,.ref 128,.ref 140,.ref 152,.ref 164,.ref 183],false,none,false⟩,#[(some (.ref 22)),none,(some (.str "WardError" 196)),(some (.str "WardError" 204)),(some (.builtin "ValueError.__new__")),(some (.bool true))]⟩
def o194:Obj:=tu [.ref 31]
def o195:Obj:=⟨.type "builtin_function_or_method",none,.fields #[.builtin "type.__prepare__",.type "type"],#[]⟩
def o196 (P:Params):Obj:=⟨.type "dict",none,.dict #[en P "__module__" 397 (.str "roomward.errors" 194),en P "__qualname__" 399 (.str "NoWarden" 398),en P "__firstlineno__" 401 (.int 29 400),en P "__init__" 410 (.ref 180),en P "__static_attributes__" 413 (.ref 181)] 5,#[]⟩
def o197:Obj:=tu []
def o198:Obj:=nf [i0 31,i0 4,.ref 179]
def o199:Obj:=co [.str "NoWarden" 392,.str "NoWarden" 393,cp 394,i0 29,i0 0,i0 0,i0 0,i0 0,.ref 170,.bool false,i0 181,.ref 171,.none,.none,.none,.none,i0 395,i0 29,cp 396]
def o200:Obj:=⟨.type "frame",none,.plain,#[(some (.ref 172)),(some (.ref 3)),(some (.ref 169)),none,(some (.str "roomward.errors" 194)),none,(some (.ref 0))]⟩
def o201:Obj:=tu []
def o202:Obj:=nf []
def o203:Obj:=tu [.str "self" 405,.str "word" 406,.str "row" 407]
def o204:Obj:=tu []
def o205:Obj:=nu ⟨"__init__","NoWarden.__init__",aH (aE (tp 14) 0),.stmts (aG (aE (tp 14) 0)),aB (aE (tp 14) 0),0,[],.none,.none,.none,.none,none,.none,.none,0⟩
def o206:Obj:=co [.str "__init__" 402,.str "NoWarden.__init__" 403,cp 404,i0 31,i0 3,i0 0,i0 0,i0 3,.ref 174,.bool true,i0 181,.ref 175,.none,.ref 176,.ref 177,.ref 178,i0 408,i0 31,cp 409]
def o207:Obj:=fu ⟨"__init__","NoWarden.__init__",aH (aE (tp 14) 0),.stmts (aG (aE (tp 14) 0)),aB (aE (tp 14) 0),3,[],.none,.none,.none,.str "roomward.errors" 194,none,.ref 179,.none,0⟩
def o208:Obj:=tu [.str "row" 411,.str "word" 412]
def o209 (P:Params):Obj:=⟨.type "dict",none,.dict #[en P "__module__" 397 (.str "roomward.errors" 194),en P "__firstlineno__" 401 (.int 29 400),en P "__init__" 410 (.ref 180),en P "__static_attributes__" 413 (.ref 181),en P "__doc__" 414 .none] 2,#[]⟩
def o210:Obj:=⟨.type "type",none,.cls ⟨"NoWarden",[.ref 31],[.ref 183,.ref 31,.type "ValueError",.type "Exception",.type "BaseException",.type "object"],182,"NoWarden",true,[],[],false,none,false⟩,#[(some (.ref 167)),none,(some (.str "NoWarden" 390)),(some (.str "NoWarden" 398)),(some (.builtin "ValueError.__new__")),(some (.bool true))]⟩
def o211:Obj:=⟨.type "super",none,.fields #[.ref 183,.ref 183,.ref 183],#[]⟩
def o212:Obj:=⟨.type "builtin_function_or_method",none,.fields #[.builtin "object.__init_subclass__",.ref 183],#[]⟩
def T13 (P:Params):BT:=ns (T12 P) [(3,o191 P),(12,o192),(31,o193),(167,o194),(168,o195),(169,o196 P),(170,o197),(171,o198),(172,o199),(173,o200),(174,o201),(175,o202),(176,o203),(177,o204),(178,o205),(179,o206),(180,o207),(181,o208),(182,o209 P),(183,o210),(184,o211),(185,o212)]
theorem pc13:Hd.Pc pp env T12 167 390 T13 186 417 248 [tp 14] ⟨27,0,28,8⟩ ⟨29,0,34,28⟩:=by
 intro w
 kernel_rfl
def g13 (P:Params):List DictEntry:=g12 P++[en P "NoText" 441 (.ref 202)]
def o213 (P:Params):Obj:=⟨.type "dict",none,.dict ⟨en P "__name__" 165 (.str "roomward.errors" 194)::g13 P⟩ 24,#[]⟩
def o214:Obj:=nf [i0 1,i0 0,.ref 20,i0 5,i0 0,.ref 27,i0 7,i0 0,.ref 40,i0 9,i0 0,.ref 52,i0 11,i0 0,.ref 64,i0 13,i0 0,.ref 76,i0 15,i0 0,.ref 88,i0 17,i0 0,.ref 100,i0 19,i0 0,.ref 112,i0 21,i0 0,.ref 124,i0 23,i0 0,.ref 136,i0 25,i0 0,.ref 148,i0 27,i0 0,.ref 160,i0 29,i0 0,.ref 172,i0 35,i0 0,.ref 191]
def o215:Obj:=⟨.type "type",none,.cls ⟨"WardError",[.type "ValueError"],[.ref 31,.type "ValueError",.type "Exception",.type "BaseException",.type "object"],30,"WardError",true,[],[.ref 44,.ref 56,.ref 68,.ref 80,.ref 92,.ref 104,.ref 116,.ref 128,.ref 140,.ref 152,.ref 164,.ref 183,.ref 202],false,none,false⟩,#[(some (.ref 22)),none,(some (.str "WardError" 196)),(some (.str "WardError" 204)),(some (.builtin "ValueError.__new__")),(some (.bool true))]⟩
def o216:Obj:=tu [.ref 31]
def o217:Obj:=⟨.type "builtin_function_or_method",none,.fields #[.builtin "type.__prepare__",.type "type"],#[]⟩
def o218 (P:Params):Obj:=⟨.type "dict",none,.dict #[en P "__module__" 424 (.str "roomward.errors" 194),en P "__qualname__" 426 (.str "NoText" 425),en P "__firstlineno__" 428 (.int 35 427),en P "__init__" 436 (.ref 199),en P "__static_attributes__" 438 (.ref 200)] 5,#[]⟩
def o219:Obj:=tu []
def o220:Obj:=nf [i0 37,i0 4,.ref 198]
def o221:Obj:=co [.str "NoText" 419,.str "NoText" 420,cp 421,i0 35,i0 0,i0 0,i0 0,i0 0,.ref 189,.bool false,i0 181,.ref 190,.none,.none,.none,.none,i0 422,i0 35,cp 423]
def o222:Obj:=⟨.type "frame",none,.plain,#[(some (.ref 191)),(some (.ref 3)),(some (.ref 188)),none,(some (.str "roomward.errors" 194)),none,(some (.ref 0))]⟩
def o223:Obj:=tu []
def o224:Obj:=nf []
def o225:Obj:=tu [.str "self" 432,.str "row" 433]
def o226:Obj:=tu []
def o227:Obj:=nu ⟨"__init__","NoText.__init__",aH (aE (tp 15) 0),.stmts (aG (aE (tp 15) 0)),aB (aE (tp 15) 0),0,[],.none,.none,.none,.none,none,.none,.none,0⟩
def o228:Obj:=co [.str "__init__" 429,.str "NoText.__init__" 430,cp 431,i0 37,i0 2,i0 0,i0 0,i0 3,.ref 193,.bool true,i0 181,.ref 194,.none,.ref 195,.ref 196,.ref 197,i0 434,i0 37,cp 435]
def o229:Obj:=fu ⟨"__init__","NoText.__init__",aH (aE (tp 15) 0),.stmts (aG (aE (tp 15) 0)),aB (aE (tp 15) 0),3,[],.none,.none,.none,.str "roomward.errors" 194,none,.ref 198,.none,0⟩
def o230:Obj:=tu [.str "row" 437]
def o231 (P:Params):Obj:=⟨.type "dict",none,.dict #[en P "__module__" 424 (.str "roomward.errors" 194),en P "__firstlineno__" 428 (.int 35 427),en P "__init__" 436 (.ref 199),en P "__static_attributes__" 438 (.ref 200),en P "__doc__" 439 .none] 2,#[]⟩
def o232:Obj:=⟨.type "type",none,.cls ⟨"NoText",[.ref 31],[.ref 202,.ref 31,.type "ValueError",.type "Exception",.type "BaseException",.type "object"],201,"NoText",true,[],[],false,none,false⟩,#[(some (.ref 186)),none,(some (.str "NoText" 417)),(some (.str "NoText" 425)),(some (.builtin "ValueError.__new__")),(some (.bool true))]⟩
def o233:Obj:=⟨.type "super",none,.fields #[.ref 202,.ref 202,.ref 202],#[]⟩
def o234:Obj:=⟨.type "builtin_function_or_method",none,.fields #[.builtin "object.__init_subclass__",.ref 202],#[]⟩
def T14 (P:Params):BT:=ns (T13 P) [(3,o213 P),(12,o214),(31,o215),(186,o216),(187,o217),(188,o218 P),(189,o219),(190,o220),(191,o221),(192,o222),(193,o223),(194,o224),(195,o225),(196,o226),(197,o227),(198,o228),(199,o229),(200,o230),(201,o231 P),(202,o232),(203,o233),(204,o234)]
theorem pc14:Hd.Pc pp env T13 186 417 T14 205 442 246 [tp 15] ⟨29,0,34,28⟩ ⟨35,0,38,22⟩:=by
 intro w
 kernel_rfl
def g14 (P:Params):List DictEntry:=g13 P++[en P "NoBook" 466 (.ref 221),en P "rows_to" 483 (.ref 230),en P "come_to" 492 (.ref 237),en P "LETTERS" 496 (.str "abcdefghijklmnopqrstuvwxyz" 495),en P "FIGURES" 498 (.str "0123456789" 497),en P "MOST_SIGNS" 500 (.int 8 499),en P "MOST_DEEDS" 502 (.int 12 501),en P "is_name" 508 (.ref 242)]
def o235 (P:Params):Obj:=⟨.type "dict",none,.dict ⟨en P "__name__" 165 (.str "roomward.deeds" 493)::g14 P⟩ 32,#[]⟩
def o236:Obj:=nf [i0 1,i0 0,.ref 20,i0 5,i0 0,.ref 27,i0 7,i0 0,.ref 40,i0 9,i0 0,.ref 52,i0 11,i0 0,.ref 64,i0 13,i0 0,.ref 76,i0 15,i0 0,.ref 88,i0 17,i0 0,.ref 100,i0 19,i0 0,.ref 112,i0 21,i0 0,.ref 124,i0 23,i0 0,.ref 136,i0 25,i0 0,.ref 148,i0 27,i0 0,.ref 160,i0 29,i0 0,.ref 172,i0 35,i0 0,.ref 191,i0 39,i0 0,.ref 210,i0 44,i0 0,.ref 229,i0 58,i0 0,.ref 236,i0 65,i0 0,.ref 241]
def o237:Obj:=⟨.type "type",none,.cls ⟨"WardError",[.type "ValueError"],[.ref 31,.type "ValueError",.type "Exception",.type "BaseException",.type "object"],30,"WardError",true,[],[.ref 44,.ref 56,.ref 68,.ref 80,.ref 92,.ref 104,.ref 116,.ref 128,.ref 140,.ref 152,.ref 164,.ref 183,.ref 202,.ref 221],false,none,false⟩,#[(some (.ref 22)),none,(some (.str "WardError" 196)),(some (.str "WardError" 204)),(some (.builtin "ValueError.__new__")),(some (.bool true))]⟩
def o238:Obj:=tu [.ref 31]
def o239:Obj:=⟨.type "builtin_function_or_method",none,.fields #[.builtin "type.__prepare__",.type "type"],#[]⟩
def o240 (P:Params):Obj:=⟨.type "dict",none,.dict #[en P "__module__" 449 (.str "roomward.errors" 194),en P "__qualname__" 451 (.str "NoBook" 450),en P "__firstlineno__" 453 (.int 39 452),en P "__init__" 461 (.ref 218),en P "__static_attributes__" 463 (.ref 219)] 5,#[]⟩
def o241:Obj:=tu []
def o242:Obj:=nf [i0 41,i0 4,.ref 217]
def o243:Obj:=co [.str "NoBook" 444,.str "NoBook" 445,cp 446,i0 39,i0 0,i0 0,i0 0,i0 0,.ref 208,.bool false,i0 181,.ref 209,.none,.none,.none,.none,i0 447,i0 39,cp 448]
def o244:Obj:=⟨.type "frame",none,.plain,#[(some (.ref 210)),(some (.ref 3)),(some (.ref 207)),none,(some (.str "roomward.errors" 194)),none,(some (.ref 0))]⟩
def o245:Obj:=tu []
def o246:Obj:=nf []
def o247:Obj:=tu [.str "self" 457,.str "row" 458]
def o248:Obj:=tu []
def o249:Obj:=nu ⟨"__init__","NoBook.__init__",aH (aE (tp 16) 0),.stmts (aG (aE (tp 16) 0)),aB (aE (tp 16) 0),0,[],.none,.none,.none,.none,none,.none,.none,0⟩
def o250:Obj:=co [.str "__init__" 454,.str "NoBook.__init__" 455,cp 456,i0 41,i0 2,i0 0,i0 0,i0 3,.ref 212,.bool true,i0 181,.ref 213,.none,.ref 214,.ref 215,.ref 216,i0 459,i0 41,cp 460]
def o251:Obj:=fu ⟨"__init__","NoBook.__init__",aH (aE (tp 16) 0),.stmts (aG (aE (tp 16) 0)),aB (aE (tp 16) 0),3,[],.none,.none,.none,.str "roomward.errors" 194,none,.ref 217,.none,0⟩
def o252:Obj:=tu [.str "row" 462]
def o253 (P:Params):Obj:=⟨.type "dict",none,.dict #[en P "__module__" 449 (.str "roomward.errors" 194),en P "__firstlineno__" 453 (.int 39 452),en P "__init__" 461 (.ref 218),en P "__static_attributes__" 463 (.ref 219),en P "__doc__" 464 .none] 2,#[]⟩
def o254:Obj:=⟨.type "type",none,.cls ⟨"NoBook",[.ref 31],[.ref 221,.ref 31,.type "ValueError",.type "Exception",.type "BaseException",.type "object"],220,"NoBook",true,[],[],false,none,false⟩,#[(some (.ref 205)),none,(some (.str "NoBook" 442)),(some (.str "NoBook" 450)),(some (.builtin "ValueError.__new__")),(some (.bool true))]⟩
def o255:Obj:=⟨.type "super",none,.fields #[.ref 221,.ref 221,.ref 221],#[]⟩
def o256:Obj:=⟨.type "builtin_function_or_method",none,.fields #[.builtin "object.__init_subclass__",.ref 221],#[]⟩
def o257:Obj:=tu []
def o258:Obj:=nf []
def o259:Obj:=tu [.str "begin" 472,.str "doors" 473,.str "most" 474,.str "rows" 475,.str "rooms" 476,.str "place" 477,.str "room" 478,.str "deed" 479,.str "far" 480]
def o260:Obj:=tu []
def o261:Obj:=nu ⟨"rows_to","rows_to",aH (tp 18),.stmts (aG (tp 18)),aB (tp 18),0,[],.none,.none,.none,.none,none,.none,.none,0⟩
def o262:Obj:=co [.str "rows_to" 469,.str "rows_to" 470,cp 471,i0 44,i0 3,i0 0,i0 0,i0 3,.ref 224,.bool true,i0 181,.ref 225,.none,.ref 226,.ref 227,.ref 228,i0 481,i0 44,cp 482]
def o263:Obj:=fu ⟨"rows_to","rows_to",aH (tp 18),.stmts (aG (tp 18)),aB (tp 18),3,[],.none,.none,.none,.str "roomward.coming" 467,none,.ref 229,.none,0⟩
def o264:Obj:=tu []
def o265:Obj:=nf []
def o266:Obj:=tu [.str "begin" 487,.str "doors" 488,.str "most" 489]
def o267:Obj:=tu []
def o268:Obj:=nu ⟨"come_to","come_to",aH (tp 19),.stmts (aG (tp 19)),aB (tp 19),0,[],.none,.none,.none,.none,none,.none,.none,0⟩
def o269:Obj:=co [.str "come_to" 484,.str "come_to" 485,cp 486,i0 58,i0 3,i0 0,i0 0,i0 3,.ref 231,.bool true,i0 181,.ref 232,.none,.ref 233,.ref 234,.ref 235,i0 490,i0 58,cp 491]
def o270:Obj:=fu ⟨"come_to","come_to",aH (tp 19),.stmts (aG (tp 19)),aB (tp 19),3,[],.none,.none,.none,.str "roomward.coming" 467,none,.ref 236,.none,0⟩
def o271:Obj:=tu []
def o272:Obj:=nf []
def o273:Obj:=nu ⟨"is_name","is_name",aH (tp 25),.stmts (aG (tp 25)),aB (tp 25),0,[],.none,.none,.none,.none,none,.none,.none,0⟩
def o274:Obj:=co [.str "is_name" 503,.str "is_name" 504,cp 505,i0 65,i0 1,i0 0,i0 0,i0 3,.ref 238,.bool true,i0 181,.ref 239,.none,.none,.none,.ref 240,i0 506,i0 65,cp 507]
def o275:Obj:=fu ⟨"is_name","is_name",aH (tp 25),.stmts (aG (tp 25)),aB (tp 25),3,[],.none,.none,.none,.str "roomward.deeds" 493,none,.ref 241,.none,0⟩
def T15 (P:Params):BT:=ns (T14 P) [(3,o235 P),(12,o236),(31,o237),(205,o238),(206,o239),(207,o240 P),(208,o241),(209,o242),(210,o243),(211,o244),(212,o245),(213,o246),(214,o247),(215,o248),(216,o249),(217,o250),(218,o251),(219,o252),(220,o253 P),(221,o254),(222,o255),(223,o256),(224,o257),(225,o258),(226,o259),(227,o260),(228,o261),(229,o262),(230,o263),(231,o264),(232,o265),(233,o266),(234,o267),(235,o268),(236,o269),(237,o270),(238,o271),(239,o272),(240,o273),(241,o274),(242,o275)]
theorem pc15:Hd.Pc pp env T14 205 442 T15 243 509 394 [tp 16,tp 17,tp 18,tp 19,tp 20,tp 21,tp 22,tp 23,tp 24,tp 25] ⟨35,0,38,22⟩ ⟨65,0,69,73⟩:=by
 intro w
 kernel_rfl
def g15 (P:Params):List DictEntry:=g14 P++[en P "refuse_names" 517 (.ref 249),en P "weights_of" 527 (.ref 256),en P "marks_of" 536 (.ref 263)]
def o276 (P:Params):Obj:=⟨.type "dict",none,.dict ⟨en P "__name__" 165 (.str "roomward.deeds" 493)::g15 P⟩ 35,#[]⟩
def o277:Obj:=nf [i0 1,i0 0,.ref 20,i0 5,i0 0,.ref 27,i0 7,i0 0,.ref 40,i0 9,i0 0,.ref 52,i0 11,i0 0,.ref 64,i0 13,i0 0,.ref 76,i0 15,i0 0,.ref 88,i0 17,i0 0,.ref 100,i0 19,i0 0,.ref 112,i0 21,i0 0,.ref 124,i0 23,i0 0,.ref 136,i0 25,i0 0,.ref 148,i0 27,i0 0,.ref 160,i0 29,i0 0,.ref 172,i0 35,i0 0,.ref 191,i0 39,i0 0,.ref 210,i0 44,i0 0,.ref 229,i0 58,i0 0,.ref 236,i0 65,i0 0,.ref 241,i0 70,i0 0,.ref 248,i0 80,i0 0,.ref 255,i0 87,i0 0,.ref 262]
def o278:Obj:=tu []
def o279:Obj:=nf []
def o280:Obj:=tu [.str "names" 512,.str "ahead" 513,.str "name" 514]
def o281:Obj:=tu []
def o282:Obj:=nu ⟨"refuse_names","refuse_names",aH (tp 26),.stmts (aG (tp 26)),aB (tp 26),0,[],.none,.none,.none,.none,none,.none,.none,0⟩
def o283:Obj:=co [.str "refuse_names" 509,.str "refuse_names" 510,cp 511,i0 70,i0 1,i0 0,i0 0,i0 3,.ref 243,.bool true,i0 181,.ref 244,.none,.ref 245,.ref 246,.ref 247,i0 515,i0 70,cp 516]
def o284:Obj:=fu ⟨"refuse_names","refuse_names",aH (tp 26),.stmts (aG (tp 26)),aB (tp 26),3,[],.none,.none,.none,.str "roomward.deeds" 493,none,.ref 248,.none,0⟩
def o285:Obj:=tu []
def o286:Obj:=nf []
def o287:Obj:=tu [.str "names" 521,.str "weights" 522,.str "weight" 523,.str "name" 524]
def o288:Obj:=tu []
def o289:Obj:=nu ⟨"weights_of","weights_of",aH (tp 27),.stmts (aG (tp 27)),aB (tp 27),0,[],.none,.none,.none,.none,none,.none,.none,0⟩
def o290:Obj:=co [.str "weights_of" 518,.str "weights_of" 519,cp 520,i0 80,i0 1,i0 0,i0 0,i0 3,.ref 250,.bool true,i0 181,.ref 251,.none,.ref 252,.ref 253,.ref 254,i0 525,i0 80,cp 526]
def o291:Obj:=fu ⟨"weights_of","weights_of",aH (tp 27),.stmts (aG (tp 27)),aB (tp 27),3,[],.none,.none,.none,.str "roomward.deeds" 493,none,.ref 255,.none,0⟩
def o292:Obj:=tu []
def o293:Obj:=nf []
def o294:Obj:=tu [.str "names" 531,.str "marks" 532,.str "name" 533]
def o295:Obj:=tu []
def o296:Obj:=nu ⟨"marks_of","marks_of",aH (tp 28),.stmts (aG (tp 28)),aB (tp 28),0,[],.none,.none,.none,.none,none,.none,.none,0⟩
def o297:Obj:=co [.str "marks_of" 528,.str "marks_of" 529,cp 530,i0 87,i0 1,i0 0,i0 0,i0 3,.ref 257,.bool true,i0 181,.ref 258,.none,.ref 259,.ref 260,.ref 261,i0 534,i0 87,cp 535]
def o298:Obj:=fu ⟨"marks_of","marks_of",aH (tp 28),.stmts (aG (tp 28)),aB (tp 28),3,[],.none,.none,.none,.str "roomward.deeds" 493,none,.ref 262,.none,0⟩
def T16 (P:Params):BT:=ns (T15 P) [(3,o276 P),(12,o277),(243,o278),(244,o279),(245,o280),(246,o281),(247,o282),(248,o283),(249,o284),(250,o285),(251,o286),(252,o287),(253,o288),(254,o289),(255,o290),(256,o291),(257,o292),(258,o293),(259,o294),(260,o295),(261,o296),(262,o297),(263,o298)]
theorem pc16:Hd.Pc pp env T15 243 509 T16 264 537 95 [tp 26,tp 27,tp 28] ⟨65,0,69,73⟩ ⟨87,0,91,16⟩:=by
 intro w
 kernel_rfl
def g16 (P:Params):List DictEntry:=g15 P++[en P "Deeds" 623 (.ref 330)]
def o299 (P:Params):Obj:=⟨.type "dict",none,.dict ⟨en P "__name__" 165 (.str "roomward.deeds" 493)::g16 P⟩ 36,#[]⟩
def o300:Obj:=nf [i0 1,i0 0,.ref 20,i0 5,i0 0,.ref 27,i0 7,i0 0,.ref 40,i0 9,i0 0,.ref 52,i0 11,i0 0,.ref 64,i0 13,i0 0,.ref 76,i0 15,i0 0,.ref 88,i0 17,i0 0,.ref 100,i0 19,i0 0,.ref 112,i0 21,i0 0,.ref 124,i0 23,i0 0,.ref 136,i0 25,i0 0,.ref 148,i0 27,i0 0,.ref 160,i0 29,i0 0,.ref 172,i0 35,i0 0,.ref 191,i0 39,i0 0,.ref 210,i0 44,i0 0,.ref 229,i0 58,i0 0,.ref 236,i0 65,i0 0,.ref 241,i0 70,i0 0,.ref 248,i0 80,i0 0,.ref 255,i0 87,i0 0,.ref 262,i0 92,i0 0,.ref 269]
def o301:Obj:=tu []
def o302:Obj:=⟨.type "builtin_function_or_method",none,.fields #[.builtin "type.__prepare__",.type "type"],#[]⟩
def g17 (P:Params):List DictEntry:=[en P "__qualname__" 546 (.str "Deeds" 545),en P "__firstlineno__" 548 (.int 92 547),en P "__init__" 558 (.ref 278),en P "names" 565 (.ref 285),en P "free" 572 (.ref 292),en P "has" 580 (.ref 299),en P "require" 589 (.ref 306),en P "is_free" 597 (.ref 313),en P "bits" 605 (.ref 320),en P "names_of" 613 (.ref 327),en P "__static_attributes__" 616 (.ref 328)]
def o303 (P:Params):Obj:=⟨.type "dict",none,.dict ⟨en P "__module__" 544 (.str "roomward.deeds" 493)::g17 P⟩ 12,#[]⟩
def o304:Obj:=tu []
def o305:Obj:=nf [i0 94,i0 4,.ref 277,i0 101,i0 4,.ref 284,i0 104,i0 4,.ref 291,i0 107,i0 4,.ref 298,i0 110,i0 4,.ref 305,i0 115,i0 4,.ref 312,i0 118,i0 4,.ref 319,i0 121,i0 4,.ref 326]
def o306:Obj:=co [.str "Deeds" 539,.str "Deeds" 540,cp 541,i0 92,i0 0,i0 0,i0 0,i0 0,.ref 267,.bool false,i0 181,.ref 268,.none,.none,.none,.none,i0 542,i0 92,cp 543]
def o307:Obj:=⟨.type "frame",none,.plain,#[(some (.ref 269)),(some (.ref 3)),(some (.ref 266)),none,(some (.str "roomward.deeds" 493)),none,(some (.ref 0))]⟩
def o308:Obj:=tu [.none]
def o309:Obj:=tu []
def o310:Obj:=nf []
def o311:Obj:=tu [.str "self" 552,.str "names" 553,.str "free" 554,.str "free_names" 555]
def o312:Obj:=tu []
def o313:Obj:=nu ⟨"__init__","Deeds.__init__",aH (aE (tp 29) 0),.stmts (aG (aE (tp 29) 0)),aB (aE (tp 29) 0),0,[],.none,.none,.none,.none,none,.none,.none,0⟩
def o314:Obj:=co [.str "__init__" 549,.str "Deeds.__init__" 550,cp 551,i0 94,i0 3,i0 0,i0 0,i0 3,.ref 272,.bool true,i0 181,.ref 273,.none,.ref 274,.ref 275,.ref 276,i0 556,i0 94,cp 557]
def o315:Obj:=fu ⟨"__init__","Deeds.__init__",aH (aE (tp 29) 0),.stmts (aG (aE (tp 29) 0)),aB (aE (tp 29) 0),3,[],.ref 271,.none,.none,.str "roomward.deeds" 493,none,.ref 277,.none,0⟩
def o316:Obj:=tu []
def o317:Obj:=nf []
def o318:Obj:=tu [.str "self" 562]
def o319:Obj:=tu []
def o320:Obj:=nu ⟨"names","Deeds.names",aH (aE (tp 29) 1),.stmts (aG (aE (tp 29) 1)),aB (aE (tp 29) 1),0,[],.none,.none,.none,.none,none,.none,.none,0⟩
def o321:Obj:=co [.str "names" 559,.str "Deeds.names" 560,cp 561,i0 101,i0 1,i0 0,i0 0,i0 3,.ref 279,.bool true,i0 181,.ref 280,.none,.ref 281,.ref 282,.ref 283,i0 563,i0 101,cp 564]
def o322:Obj:=fu ⟨"names","Deeds.names",aH (aE (tp 29) 1),.stmts (aG (aE (tp 29) 1)),aB (aE (tp 29) 1),3,[],.none,.none,.none,.str "roomward.deeds" 493,none,.ref 284,.none,0⟩
def o323:Obj:=tu []
def o324:Obj:=nf []
def o325:Obj:=tu [.str "self" 569]
def o326:Obj:=tu []
def o327:Obj:=nu ⟨"free","Deeds.free",aH (aE (tp 29) 2),.stmts (aG (aE (tp 29) 2)),aB (aE (tp 29) 2),0,[],.none,.none,.none,.none,none,.none,.none,0⟩
def o328:Obj:=co [.str "free" 566,.str "Deeds.free" 567,cp 568,i0 104,i0 1,i0 0,i0 0,i0 3,.ref 286,.bool true,i0 181,.ref 287,.none,.ref 288,.ref 289,.ref 290,i0 570,i0 104,cp 571]
def o329:Obj:=fu ⟨"free","Deeds.free",aH (aE (tp 29) 2),.stmts (aG (aE (tp 29) 2)),aB (aE (tp 29) 2),3,[],.none,.none,.none,.str "roomward.deeds" 493,none,.ref 291,.none,0⟩
def o330:Obj:=tu []
def o331:Obj:=nf []
def o332:Obj:=tu [.str "self" 576,.str "thing" 577]
def o333:Obj:=tu []
def o334:Obj:=nu ⟨"has","Deeds.has",aH (aE (tp 29) 3),.stmts (aG (aE (tp 29) 3)),aB (aE (tp 29) 3),0,[],.none,.none,.none,.none,none,.none,.none,0⟩
def o335:Obj:=co [.str "has" 573,.str "Deeds.has" 574,cp 575,i0 107,i0 2,i0 0,i0 0,i0 3,.ref 293,.bool true,i0 181,.ref 294,.none,.ref 295,.ref 296,.ref 297,i0 578,i0 107,cp 579]
def o336:Obj:=fu ⟨"has","Deeds.has",aH (aE (tp 29) 3),.stmts (aG (aE (tp 29) 3)),aB (aE (tp 29) 3),3,[],.none,.none,.none,.str "roomward.deeds" 493,none,.ref 298,.none,0⟩
def o337:Obj:=tu []
def o338:Obj:=nf []
def o339:Obj:=tu [.str "self" 584,.str "row" 585,.str "deed" 586]
def o340:Obj:=tu []
def o341:Obj:=nu ⟨"require","Deeds.require",aH (aE (tp 29) 4),.stmts (aG (aE (tp 29) 4)),aB (aE (tp 29) 4),0,[],.none,.none,.none,.none,none,.none,.none,0⟩
def o342:Obj:=co [.str "require" 581,.str "Deeds.require" 582,cp 583,i0 110,i0 2,i0 0,i0 0,i0 3,.ref 300,.bool true,i0 181,.ref 301,.none,.ref 302,.ref 303,.ref 304,i0 587,i0 110,cp 588]
def o343:Obj:=fu ⟨"require","Deeds.require",aH (aE (tp 29) 4),.stmts (aG (aE (tp 29) 4)),aB (aE (tp 29) 4),3,[],.none,.none,.none,.str "roomward.deeds" 493,none,.ref 305,.none,0⟩
def o344:Obj:=tu []
def o345:Obj:=nf []
def o346:Obj:=tu [.str "self" 593,.str "deed" 594]
def o347:Obj:=tu []
def o348:Obj:=nu ⟨"is_free","Deeds.is_free",aH (aE (tp 29) 5),.stmts (aG (aE (tp 29) 5)),aB (aE (tp 29) 5),0,[],.none,.none,.none,.none,none,.none,.none,0⟩
def o349:Obj:=co [.str "is_free" 590,.str "Deeds.is_free" 591,cp 592,i0 115,i0 2,i0 0,i0 0,i0 3,.ref 307,.bool true,i0 181,.ref 308,.none,.ref 309,.ref 310,.ref 311,i0 595,i0 115,cp 596]
def o350:Obj:=fu ⟨"is_free","Deeds.is_free",aH (aE (tp 29) 5),.stmts (aG (aE (tp 29) 5)),aB (aE (tp 29) 5),3,[],.none,.none,.none,.str "roomward.deeds" 493,none,.ref 312,.none,0⟩
def o351:Obj:=tu []
def o352:Obj:=nf []
def o353:Obj:=tu [.str "self" 601,.str "names" 602]
def o354:Obj:=tu []
def o355:Obj:=nu ⟨"bits","Deeds.bits",aH (aE (tp 29) 6),.stmts (aG (aE (tp 29) 6)),aB (aE (tp 29) 6),0,[],.none,.none,.none,.none,none,.none,.none,0⟩
def o356:Obj:=co [.str "bits" 598,.str "Deeds.bits" 599,cp 600,i0 118,i0 2,i0 0,i0 0,i0 3,.ref 314,.bool true,i0 181,.ref 315,.none,.ref 316,.ref 317,.ref 318,i0 603,i0 118,cp 604]
def o357:Obj:=fu ⟨"bits","Deeds.bits",aH (aE (tp 29) 6),.stmts (aG (aE (tp 29) 6)),aB (aE (tp 29) 6),3,[],.none,.none,.none,.str "roomward.deeds" 493,none,.ref 319,.none,0⟩
def o358:Obj:=tu []
def o359:Obj:=nf []
def o360:Obj:=tu [.str "self" 609,.str "bits" 610]
def o361:Obj:=tu []
def o362:Obj:=nu ⟨"names_of","Deeds.names_of",aH (aE (tp 29) 7),.stmts (aG (aE (tp 29) 7)),aB (aE (tp 29) 7),0,[],.none,.none,.none,.none,none,.none,.none,0⟩
def o363:Obj:=co [.str "names_of" 606,.str "Deeds.names_of" 607,cp 608,i0 121,i0 2,i0 0,i0 0,i0 3,.ref 321,.bool true,i0 181,.ref 322,.none,.ref 323,.ref 324,.ref 325,i0 611,i0 121,cp 612]
def o364:Obj:=fu ⟨"names_of","Deeds.names_of",aH (aE (tp 29) 7),.stmts (aG (aE (tp 29) 7)),aB (aE (tp 29) 7),3,[],.none,.none,.none,.str "roomward.deeds" 493,none,.ref 326,.none,0⟩
def o365:Obj:=tu [.str "free_marks" 614,.str "weights" 615]
def g18 (P:Params):List DictEntry:=[en P "__firstlineno__" 548 (.int 92 547),en P "__init__" 558 (.ref 278),en P "names" 565 (.ref 285),en P "free" 572 (.ref 292),en P "has" 580 (.ref 299),en P "require" 589 (.ref 306),en P "is_free" 597 (.ref 313),en P "bits" 605 (.ref 320),en P "names_of" 613 (.ref 327),en P "__static_attributes__" 616 (.ref 328),en P "__dict__" 618 (.ref 331),en P "__weakref__" 620 (.ref 332),en P "__doc__" 621 .none]
def o366 (P:Params):Obj:=⟨.type "dict",none,.dict ⟨en P "__module__" 544 (.str "roomward.deeds" 493)::g18 P⟩ 4,#[]⟩
def o367:Obj:=⟨.type "type",none,.cls ⟨"Deeds",[.type "object"],[.ref 330,.type "object"],329,"Deeds",true,[],[],false,none,false⟩,#[none,none,(some (.str "Deeds" 537)),(some (.str "Deeds" 545)),(some (.builtin "object.__new__")),(some (.bool true))]⟩
def o368:Obj:=⟨.type "getset_descriptor",none,.fields #[.str "__dict__" 617,.ref 330,.builtin "function.__dict__",.builtin "function.__dict__#set"],#[]⟩
def o369:Obj:=⟨.type "getset_descriptor",none,.fields #[.str "__weakref__" 619,.ref 330,.builtin "ExceptionGroup.__weakref__",.none],#[]⟩
def o370:Obj:=⟨.type "super",none,.fields #[.ref 330,.ref 330,.ref 330],#[]⟩
def o371:Obj:=⟨.type "builtin_function_or_method",none,.fields #[.builtin "object.__init_subclass__",.ref 330],#[]⟩
def T17 (P:Params):BT:=ns (T16 P) [(3,o299 P),(12,o300),(264,o301),(265,o302),(266,o303 P),(267,o304),(268,o305),(269,o306),(270,o307),(271,o308),(272,o309),(273,o310),(274,o311),(275,o312),(276,o313),(277,o314),(278,o315),(279,o316),(280,o317),(281,o318),(282,o319),(283,o320),(284,o321),(285,o322),(286,o323),(287,o324),(288,o325),(289,o326),(290,o327),(291,o328),(292,o329),(293,o330),(294,o331),(295,o332),(296,o333),(297,o334),(298,o335),(299,o336),(300,o337),(301,o338),(302,o339),(303,o340),(304,o341),(305,o342),(306,o343),(307,o344),(308,o345),(309,o346),(310,o347),(311,o348),(312,o349),(313,o350),(314,o351),(315,o352),(316,o353),(317,o354),(318,o355),(319,o356),(320,o357),(321,o358),(322,o359),(323,o360),(324,o361),(325,o362),(326,o363),(327,o364),(328,o365),(329,o366 P),(330,o367),(331,o368),(332,o369),(333,o370),(334,o371)]
theorem pc17:Hd.Pc pp env T16 264 537 T17 335 624 450 [tp 29] ⟨87,0,91,16⟩ ⟨92,0,122,16⟩:=by
 intro w
 kernel_rfl
def g19 (P:Params):List DictEntry:=g16 P++[en P "MOST_ROOMS" 627 (.int 60 626),en P "named_rooms" 640 (.ref 341),en P "refuse_rooms" 648 (.ref 348),en P "leads_of" 660 (.ref 355)]
def o372 (P:Params):Obj:=⟨.type "dict",none,.dict ⟨en P "__name__" 165 (.str "roomward.machines" 624)::g19 P⟩ 40,#[]⟩
def o373:Obj:=nf [i0 1,i0 0,.ref 20,i0 5,i0 0,.ref 27,i0 7,i0 0,.ref 40,i0 9,i0 0,.ref 52,i0 11,i0 0,.ref 64,i0 13,i0 0,.ref 76,i0 15,i0 0,.ref 88,i0 17,i0 0,.ref 100,i0 19,i0 0,.ref 112,i0 21,i0 0,.ref 124,i0 23,i0 0,.ref 136,i0 25,i0 0,.ref 148,i0 27,i0 0,.ref 160,i0 29,i0 0,.ref 172,i0 35,i0 0,.ref 191,i0 39,i0 0,.ref 210,i0 44,i0 0,.ref 229,i0 58,i0 0,.ref 236,i0 65,i0 0,.ref 241,i0 70,i0 0,.ref 248,i0 80,i0 0,.ref 255,i0 87,i0 0,.ref 262,i0 92,i0 0,.ref 269,i0 125,i0 0,.ref 340,i0 132,i0 0,.ref 347,i0 136,i0 0,.ref 354]
def o374:Obj:=tu []
def o375:Obj:=nf []
def o376:Obj:=tu [.str "begin" 631,.str "ends" 632,.str "doors" 633,.str "rooms" 634,.str "room" 635,.str "deed" 636,.str "far" 637]
def o377:Obj:=tu []
def o378:Obj:=nu ⟨"named_rooms","named_rooms",aH (tp 32),.stmts (aG (tp 32)),aB (tp 32),0,[],.none,.none,.none,.none,none,.none,.none,0⟩
def o379:Obj:=co [.str "named_rooms" 628,.str "named_rooms" 629,cp 630,i0 125,i0 3,i0 0,i0 0,i0 3,.ref 335,.bool true,i0 181,.ref 336,.none,.ref 337,.ref 338,.ref 339,i0 638,i0 125,cp 639]
def o380:Obj:=fu ⟨"named_rooms","named_rooms",aH (tp 32),.stmts (aG (tp 32)),aB (tp 32),3,[],.none,.none,.none,.str "roomward.machines" 624,none,.ref 340,.none,0⟩
def o381:Obj:=tu []
def o382:Obj:=nf []
def o383:Obj:=tu [.str "rooms" 644,.str "room" 645]
def o384:Obj:=tu []
def o385:Obj:=nu ⟨"refuse_rooms","refuse_rooms",aH (tp 33),.stmts (aG (tp 33)),aB (tp 33),0,[],.none,.none,.none,.none,none,.none,.none,0⟩
def o386:Obj:=co [.str "refuse_rooms" 641,.str "refuse_rooms" 642,cp 643,i0 132,i0 1,i0 0,i0 0,i0 3,.ref 342,.bool true,i0 181,.ref 343,.none,.ref 344,.ref 345,.ref 346,i0 646,i0 132,cp 647]
def o387:Obj:=fu ⟨"refuse_rooms","refuse_rooms",aH (tp 33),.stmts (aG (tp 33)),aB (tp 33),3,[],.none,.none,.none,.str "roomward.machines" 624,none,.ref 347,.none,0⟩
def o388:Obj:=tu []
def o389:Obj:=nf []
def o390:Obj:=tu [.str "rooms" 652,.str "doors" 653,.str "leads" 654,.str "room" 655,.str "deed" 656,.str "far" 657]
def o391:Obj:=tu []
def o392:Obj:=nu ⟨"leads_of","leads_of",aH (tp 34),.stmts (aG (tp 34)),aB (tp 34),0,[],.none,.none,.none,.none,none,.none,.none,0⟩
def o393:Obj:=co [.str "leads_of" 649,.str "leads_of" 650,cp 651,i0 136,i0 2,i0 0,i0 0,i0 3,.ref 349,.bool true,i0 181,.ref 350,.none,.ref 351,.ref 352,.ref 353,i0 658,i0 136,cp 659]
def o394:Obj:=fu ⟨"leads_of","leads_of",aH (tp 34),.stmts (aG (tp 34)),aB (tp 34),3,[],.none,.none,.none,.str "roomward.machines" 624,none,.ref 354,.none,0⟩
def T18 (P:Params):BT:=ns (T17 P) [(3,o372 P),(12,o373),(335,o374),(336,o375),(337,o376),(338,o377),(339,o378),(340,o379),(341,o380),(342,o381),(343,o382),(344,o383),(345,o384),(346,o385),(347,o386),(348,o387),(349,o388),(350,o389),(351,o390),(352,o391),(353,o392),(354,o393),(355,o394)]
theorem pc18:Hd.Pc pp env T17 335 624 T18 356 661 118 [tp 30,tp 31,tp 32,tp 33,tp 34] ⟨92,0,122,16⟩ ⟨136,0,144,16⟩:=by
 intro w
 kernel_rfl
def g20 (P:Params):List DictEntry:=g19 P++[en P "Machine" 778 (.ref 448)]
def o395 (P:Params):Obj:=⟨.type "dict",none,.dict ⟨en P "__name__" 165 (.str "roomward.machines" 624)::g20 P⟩ 41,#[]⟩
def o396:Obj:=nf [i0 1,i0 0,.ref 20,i0 5,i0 0,.ref 27,i0 7,i0 0,.ref 40,i0 9,i0 0,.ref 52,i0 11,i0 0,.ref 64,i0 13,i0 0,.ref 76,i0 15,i0 0,.ref 88,i0 17,i0 0,.ref 100,i0 19,i0 0,.ref 112,i0 21,i0 0,.ref 124,i0 23,i0 0,.ref 136,i0 25,i0 0,.ref 148,i0 27,i0 0,.ref 160,i0 29,i0 0,.ref 172,i0 35,i0 0,.ref 191,i0 39,i0 0,.ref 210,i0 44,i0 0,.ref 229,i0 58,i0 0,.ref 236,i0 65,i0 0,.ref 241,i0 70,i0 0,.ref 248,i0 80,i0 0,.ref 255,i0 87,i0 0,.ref 262,i0 92,i0 0,.ref 269,i0 125,i0 0,.ref 340,i0 132,i0 0,.ref 347,i0 136,i0 0,.ref 354,i0 145,i0 0,.ref 361]
def o397:Obj:=tu []
def o398:Obj:=⟨.type "builtin_function_or_method",none,.fields #[.builtin "type.__prepare__",.type "type"],#[]⟩
def g21 (P:Params):List DictEntry:=[en P "__qualname__" 670 (.str "Machine" 669),en P "__firstlineno__" 672 (.int 145 671),en P "__init__" 678 (.ref 368),en P "deeds" 685 (.ref 375),en P "begin" 692 (.ref 382),en P "rooms" 699 (.ref 389),en P "ends" 706 (.ref 396),en P "knows" 713 (.ref 403),en P "require_room" 721 (.ref 410),en P "at" 729 (.ref 417),en P "to" 738 (.ref 424),en P "is_end" 746 (.ref 431),en P "goes" 755 (.ref 438),en P "behind" 765 (.ref 445),en P "__static_attributes__" 771 (.ref 446)]
def o399 (P:Params):Obj:=⟨.type "dict",none,.dict ⟨en P "__module__" 668 (.str "roomward.machines" 624)::g21 P⟩ 16,#[]⟩
def o400:Obj:=tu []
def o401:Obj:=nf [i0 147,i0 4,.ref 367,i0 162,i0 4,.ref 374,i0 165,i0 4,.ref 381,i0 168,i0 4,.ref 388,i0 171,i0 4,.ref 395,i0 174,i0 4,.ref 402,i0 177,i0 4,.ref 409,i0 181,i0 4,.ref 416,i0 185,i0 4,.ref 423,i0 190,i0 4,.ref 430,i0 193,i0 4,.ref 437,i0 198,i0 4,.ref 444]
def o402:Obj:=co [.str "Machine" 663,.str "Machine" 664,cp 665,i0 145,i0 0,i0 0,i0 0,i0 0,.ref 359,.bool false,i0 181,.ref 360,.none,.none,.none,.none,i0 666,i0 145,cp 667]
def o403:Obj:=⟨.type "frame",none,.plain,#[(some (.ref 361)),(some (.ref 3)),(some (.ref 358)),none,(some (.str "roomward.machines" 624)),none,(some (.ref 0))]⟩
def o404:Obj:=tu [.none]
def o405:Obj:=tu []
def o406:Obj:=nf []
def o407:Obj:=nu ⟨"__init__","Machine.__init__",aH (aE (tp 35) 0),.stmts (aG (aE (tp 35) 0)),aB (aE (tp 35) 0),0,[],.none,.none,.none,.none,none,.none,.none,0⟩
def o408:Obj:=co [.str "__init__" 673,.str "Machine.__init__" 674,cp 675,i0 147,i0 6,i0 0,i0 0,i0 3,.ref 364,.bool true,i0 181,.ref 365,.none,.none,.none,.ref 366,i0 676,i0 147,cp 677]
def o409:Obj:=fu ⟨"__init__","Machine.__init__",aH (aE (tp 35) 0),.stmts (aG (aE (tp 35) 0)),aB (aE (tp 35) 0),3,[],.ref 363,.none,.none,.str "roomward.machines" 624,none,.ref 367,.none,0⟩
def o410:Obj:=tu []
def o411:Obj:=nf []
def o412:Obj:=tu [.str "self" 682]
def o413:Obj:=tu []
def o414:Obj:=nu ⟨"deeds","Machine.deeds",aH (aE (tp 35) 1),.stmts (aG (aE (tp 35) 1)),aB (aE (tp 35) 1),0,[],.none,.none,.none,.none,none,.none,.none,0⟩
def o415:Obj:=co [.str "deeds" 679,.str "Machine.deeds" 680,cp 681,i0 162,i0 1,i0 0,i0 0,i0 3,.ref 369,.bool true,i0 181,.ref 370,.none,.ref 371,.ref 372,.ref 373,i0 683,i0 162,cp 684]
def o416:Obj:=fu ⟨"deeds","Machine.deeds",aH (aE (tp 35) 1),.stmts (aG (aE (tp 35) 1)),aB (aE (tp 35) 1),3,[],.none,.none,.none,.str "roomward.machines" 624,none,.ref 374,.none,0⟩
def o417:Obj:=tu []
def o418:Obj:=nf []
def o419:Obj:=tu [.str "self" 689]
def o420:Obj:=tu []
def o421:Obj:=nu ⟨"begin","Machine.begin",aH (aE (tp 35) 2),.stmts (aG (aE (tp 35) 2)),aB (aE (tp 35) 2),0,[],.none,.none,.none,.none,none,.none,.none,0⟩
def o422:Obj:=co [.str "begin" 686,.str "Machine.begin" 687,cp 688,i0 165,i0 1,i0 0,i0 0,i0 3,.ref 376,.bool true,i0 181,.ref 377,.none,.ref 378,.ref 379,.ref 380,i0 690,i0 165,cp 691]
def o423:Obj:=fu ⟨"begin","Machine.begin",aH (aE (tp 35) 2),.stmts (aG (aE (tp 35) 2)),aB (aE (tp 35) 2),3,[],.none,.none,.none,.str "roomward.machines" 624,none,.ref 381,.none,0⟩
def o424:Obj:=tu []
def o425:Obj:=nf []
def o426:Obj:=tu [.str "self" 696]
def o427:Obj:=tu []
def o428:Obj:=nu ⟨"rooms","Machine.rooms",aH (aE (tp 35) 3),.stmts (aG (aE (tp 35) 3)),aB (aE (tp 35) 3),0,[],.none,.none,.none,.none,none,.none,.none,0⟩
def o429:Obj:=co [.str "rooms" 693,.str "Machine.rooms" 694,cp 695,i0 168,i0 1,i0 0,i0 0,i0 3,.ref 383,.bool true,i0 181,.ref 384,.none,.ref 385,.ref 386,.ref 387,i0 697,i0 168,cp 698]
def o430:Obj:=fu ⟨"rooms","Machine.rooms",aH (aE (tp 35) 3),.stmts (aG (aE (tp 35) 3)),aB (aE (tp 35) 3),3,[],.none,.none,.none,.str "roomward.machines" 624,none,.ref 388,.none,0⟩
def o431:Obj:=tu []
def o432:Obj:=nf []
def o433:Obj:=tu [.str "self" 703]
def o434:Obj:=tu []
def o435:Obj:=nu ⟨"ends","Machine.ends",aH (aE (tp 35) 4),.stmts (aG (aE (tp 35) 4)),aB (aE (tp 35) 4),0,[],.none,.none,.none,.none,none,.none,.none,0⟩
def o436:Obj:=co [.str "ends" 700,.str "Machine.ends" 701,cp 702,i0 171,i0 1,i0 0,i0 0,i0 3,.ref 390,.bool true,i0 181,.ref 391,.none,.ref 392,.ref 393,.ref 394,i0 704,i0 171,cp 705]
def o437:Obj:=fu ⟨"ends","Machine.ends",aH (aE (tp 35) 4),.stmts (aG (aE (tp 35) 4)),aB (aE (tp 35) 4),3,[],.none,.none,.none,.str "roomward.machines" 624,none,.ref 395,.none,0⟩
def o438:Obj:=tu []
def o439:Obj:=nf []
def o440:Obj:=tu [.str "self" 710]
def o441:Obj:=tu []
def o442:Obj:=nu ⟨"knows","Machine.knows",aH (aE (tp 35) 5),.stmts (aG (aE (tp 35) 5)),aB (aE (tp 35) 5),0,[],.none,.none,.none,.none,none,.none,.none,0⟩
def o443:Obj:=co [.str "knows" 707,.str "Machine.knows" 708,cp 709,i0 174,i0 1,i0 0,i0 0,i0 3,.ref 397,.bool true,i0 181,.ref 398,.none,.ref 399,.ref 400,.ref 401,i0 711,i0 174,cp 712]
def o444:Obj:=fu ⟨"knows","Machine.knows",aH (aE (tp 35) 5),.stmts (aG (aE (tp 35) 5)),aB (aE (tp 35) 5),3,[],.none,.none,.none,.str "roomward.machines" 624,none,.ref 402,.none,0⟩
def o445:Obj:=tu []
def o446:Obj:=nf []
def o447:Obj:=tu [.str "self" 717,.str "room" 718]
def o448:Obj:=tu []
def o449:Obj:=nu ⟨"require_room","Machine.require_room",aH (aE (tp 35) 6),.stmts (aG (aE (tp 35) 6)),aB (aE (tp 35) 6),0,[],.none,.none,.none,.none,none,.none,.none,0⟩
def o450:Obj:=co [.str "require_room" 714,.str "Machine.require_room" 715,cp 716,i0 177,i0 2,i0 0,i0 0,i0 3,.ref 404,.bool true,i0 181,.ref 405,.none,.ref 406,.ref 407,.ref 408,i0 719,i0 177,cp 720]
def o451:Obj:=fu ⟨"require_room","Machine.require_room",aH (aE (tp 35) 6),.stmts (aG (aE (tp 35) 6)),aB (aE (tp 35) 6),3,[],.none,.none,.none,.str "roomward.machines" 624,none,.ref 409,.none,0⟩
def o452:Obj:=tu []
def o453:Obj:=nf []
def o454:Obj:=tu [.str "self" 725,.str "room" 726]
def o455:Obj:=tu []
def o456:Obj:=nu ⟨"at","Machine.at",aH (aE (tp 35) 7),.stmts (aG (aE (tp 35) 7)),aB (aE (tp 35) 7),0,[],.none,.none,.none,.none,none,.none,.none,0⟩
def o457:Obj:=co [.str "at" 722,.str "Machine.at" 723,cp 724,i0 181,i0 2,i0 0,i0 0,i0 3,.ref 411,.bool true,i0 181,.ref 412,.none,.ref 413,.ref 414,.ref 415,i0 727,i0 181,cp 728]
def o458:Obj:=fu ⟨"at","Machine.at",aH (aE (tp 35) 7),.stmts (aG (aE (tp 35) 7)),aB (aE (tp 35) 7),3,[],.none,.none,.none,.str "roomward.machines" 624,none,.ref 416,.none,0⟩
def o459:Obj:=tu []
def o460:Obj:=nf []
def o461:Obj:=tu [.str "self" 733,.str "room" 734,.str "deed" 735]
def o462:Obj:=tu []
def o463:Obj:=nu ⟨"to","Machine.to",aH (aE (tp 35) 8),.stmts (aG (aE (tp 35) 8)),aB (aE (tp 35) 8),0,[],.none,.none,.none,.none,none,.none,.none,0⟩
def o464:Obj:=co [.str "to" 730,.str "Machine.to" 731,cp 732,i0 185,i0 3,i0 0,i0 0,i0 3,.ref 418,.bool true,i0 181,.ref 419,.none,.ref 420,.ref 421,.ref 422,i0 736,i0 185,cp 737]
def o465:Obj:=fu ⟨"to","Machine.to",aH (aE (tp 35) 8),.stmts (aG (aE (tp 35) 8)),aB (aE (tp 35) 8),3,[],.none,.none,.none,.str "roomward.machines" 624,none,.ref 423,.none,0⟩
def o466:Obj:=tu []
def o467:Obj:=nf []
def o468:Obj:=tu [.str "self" 742,.str "room" 743]
def o469:Obj:=tu []
def o470:Obj:=nu ⟨"is_end","Machine.is_end",aH (aE (tp 35) 9),.stmts (aG (aE (tp 35) 9)),aB (aE (tp 35) 9),0,[],.none,.none,.none,.none,none,.none,.none,0⟩
def o471:Obj:=co [.str "is_end" 739,.str "Machine.is_end" 740,cp 741,i0 190,i0 2,i0 0,i0 0,i0 3,.ref 425,.bool true,i0 181,.ref 426,.none,.ref 427,.ref 428,.ref 429,i0 744,i0 190,cp 745]
def o472:Obj:=fu ⟨"is_end","Machine.is_end",aH (aE (tp 35) 9),.stmts (aG (aE (tp 35) 9)),aB (aE (tp 35) 9),3,[],.none,.none,.none,.str "roomward.machines" 624,none,.ref 430,.none,0⟩
def o473:Obj:=tu []
def o474:Obj:=nf []
def o475:Obj:=tu [.str "self" 750,.str "room" 751,.str "deed" 752]
def o476:Obj:=tu []
def o477:Obj:=nu ⟨"goes","Machine.goes",aH (aE (tp 35) 10),.stmts (aG (aE (tp 35) 10)),aB (aE (tp 35) 10),0,[],.none,.none,.none,.none,none,.none,.none,0⟩
def o478:Obj:=co [.str "goes" 747,.str "Machine.goes" 748,cp 749,i0 193,i0 3,i0 0,i0 0,i0 3,.ref 432,.bool true,i0 181,.ref 433,.none,.ref 434,.ref 435,.ref 436,i0 753,i0 193,cp 754]
def o479:Obj:=fu ⟨"goes","Machine.goes",aH (aE (tp 35) 10),.stmts (aG (aE (tp 35) 10)),aB (aE (tp 35) 10),3,[],.none,.none,.none,.str "roomward.machines" 624,none,.ref 437,.none,0⟩
def o480:Obj:=tu []
def o481:Obj:=nf []
def o482:Obj:=tu [.str "self" 759,.str "row" 760,.str "room" 761,.str "deed" 762]
def o483:Obj:=tu []
def o484:Obj:=nu ⟨"behind","Machine.behind",aH (aE (tp 35) 11),.stmts (aG (aE (tp 35) 11)),aB (aE (tp 35) 11),0,[],.none,.none,.none,.none,none,.none,.none,0⟩
def o485:Obj:=co [.str "behind" 756,.str "Machine.behind" 757,cp 758,i0 198,i0 2,i0 0,i0 0,i0 3,.ref 439,.bool true,i0 181,.ref 440,.none,.ref 441,.ref 442,.ref 443,i0 763,i0 198,cp 764]
def o486:Obj:=fu ⟨"behind","Machine.behind",aH (aE (tp 35) 11),.stmts (aG (aE (tp 35) 11)),aB (aE (tp 35) 11),3,[],.none,.none,.none,.str "roomward.machines" 624,none,.ref 444,.none,0⟩
def o487:Obj:=tu [.str "deeds_made_of" 766,.str "end_marks" 767,.str "first_room" 768,.str "known_marks" 769,.str "leads" 770]
def g22 (P:Params):List DictEntry:=[en P "__firstlineno__" 672 (.int 145 671),en P "__init__" 678 (.ref 368),en P "deeds" 685 (.ref 375),en P "begin" 692 (.ref 382),en P "rooms" 699 (.ref 389),en P "ends" 706 (.ref 396),en P "knows" 713 (.ref 403),en P "require_room" 721 (.ref 410),en P "at" 729 (.ref 417),en P "to" 738 (.ref 424),en P "is_end" 746 (.ref 431),en P "goes" 755 (.ref 438),en P "behind" 765 (.ref 445),en P "__static_attributes__" 771 (.ref 446),en P "__dict__" 773 (.ref 449),en P "__weakref__" 775 (.ref 450),en P "__doc__" 776 .none]
def o488 (P:Params):Obj:=⟨.type "dict",none,.dict ⟨en P "__module__" 668 (.str "roomward.machines" 624)::g22 P⟩ 4,#[]⟩
def o489:Obj:=⟨.type "type",none,.cls ⟨"Machine",[.type "object"],[.ref 448,.type "object"],447,"Machine",true,[],[],false,none,false⟩,#[none,none,(some (.str "Machine" 661)),(some (.str "Machine" 669)),(some (.builtin "object.__new__")),(some (.bool true))]⟩
def o490:Obj:=⟨.type "getset_descriptor",none,.fields #[.str "__dict__" 772,.ref 448,.builtin "function.__dict__",.builtin "function.__dict__#set"],#[]⟩
def o491:Obj:=⟨.type "getset_descriptor",none,.fields #[.str "__weakref__" 774,.ref 448,.builtin "ExceptionGroup.__weakref__",.none],#[]⟩
def o492:Obj:=⟨.type "super",none,.fields #[.ref 448,.ref 448,.ref 448],#[]⟩
def o493:Obj:=⟨.type "builtin_function_or_method",none,.fields #[.builtin "object.__init_subclass__",.ref 448],#[]⟩
def T19 (P:Params):BT:=ns (T18 P) [(3,o395 P),(12,o396),(356,o397),(357,o398),(358,o399 P),(359,o400),(360,o401),(361,o402),(362,o403),(363,o404),(364,o405),(365,o406),(366,o407),(367,o408),(368,o409),(369,o410),(370,o411),(371,o412),(372,o413),(373,o414),(374,o415),(375,o416),(376,o417),(377,o418),(378,o419),(379,o420),(380,o421),(381,o422),(382,o423),(383,o424),(384,o425),(385,o426),(386,o427),(387,o428),(388,o429),(389,o430),(390,o431),(391,o432),(392,o433),(393,o434),(394,o435),(395,o436),(396,o437),(397,o438),(398,o439),(399,o440),(400,o441),(401,o442),(402,o443),(403,o444),(404,o445),(405,o446),(406,o447),(407,o448),(408,o449),(409,o450),(410,o451),(411,o452),(412,o453),(413,o454),(414,o455),(415,o456),(416,o457),(417,o458),(418,o459),(419,o460),(420,o461),(421,o462),(422,o463),(423,o464),(424,o465),(425,o466),(426,o467),(427,o468),(428,o469),(429,o470),(430,o471),(431,o472),(432,o473),(433,o474),(434,o475),(435,o476),(436,o477),(437,o478),(438,o479),(439,o480),(440,o481),(441,o482),(442,o483),(443,o484),(444,o485),(445,o486),(446,o487),(447,o488 P),(448,o489),(449,o490),(450,o491),(451,o492),(452,o493)]
theorem pc19:Hd.Pc pp env T18 356 661 T19 453 779 575 [tp 35] ⟨136,0,144,16⟩ ⟨145,0,205,19⟩:=by
 intro w
 kernel_rfl
def g23 (P:Params):List DictEntry:=g20 P++[en P "MOST_WOVEN" 782 (.int 7 781),en P "begin_of" 788 (.ref 457),en P "far_of" 794 (.ref 462),en P "known_of" 803 (.ref 469)]
def o494 (P:Params):Obj:=⟨.type "dict",none,.dict ⟨en P "__name__" 165 (.str "roomward.weaving" 779)::g23 P⟩ 45,#[]⟩
def o495:Obj:=nf [i0 1,i0 0,.ref 20,i0 5,i0 0,.ref 27,i0 7,i0 0,.ref 40,i0 9,i0 0,.ref 52,i0 11,i0 0,.ref 64,i0 13,i0 0,.ref 76,i0 15,i0 0,.ref 88,i0 17,i0 0,.ref 100,i0 19,i0 0,.ref 112,i0 21,i0 0,.ref 124,i0 23,i0 0,.ref 136,i0 25,i0 0,.ref 148,i0 27,i0 0,.ref 160,i0 29,i0 0,.ref 172,i0 35,i0 0,.ref 191,i0 39,i0 0,.ref 210,i0 44,i0 0,.ref 229,i0 58,i0 0,.ref 236,i0 65,i0 0,.ref 241,i0 70,i0 0,.ref 248,i0 80,i0 0,.ref 255,i0 87,i0 0,.ref 262,i0 92,i0 0,.ref 269,i0 125,i0 0,.ref 340,i0 132,i0 0,.ref 347,i0 136,i0 0,.ref 354,i0 145,i0 0,.ref 361,i0 208,i0 0,.ref 456,i0 210,i0 0,.ref 461,i0 213,i0 0,.ref 468]
def o496:Obj:=tu []
def o497:Obj:=nf []
def o498:Obj:=nu ⟨"begin_of","begin_of",aH (tp 38),.stmts (aG (tp 38)),aB (tp 38),0,[],.none,.none,.none,.none,none,.none,.none,0⟩
def o499:Obj:=co [.str "begin_of" 783,.str "begin_of" 784,cp 785,i0 208,i0 1,i0 0,i0 0,i0 3,.ref 453,.bool true,i0 181,.ref 454,.none,.none,.none,.ref 455,i0 786,i0 208,cp 787]
def o500:Obj:=fu ⟨"begin_of","begin_of",aH (tp 38),.stmts (aG (tp 38)),aB (tp 38),3,[],.none,.none,.none,.str "roomward.weaving" 779,none,.ref 456,.none,0⟩
def o501:Obj:=tu []
def o502:Obj:=nf []
def o503:Obj:=nu ⟨"far_of","far_of",aH (tp 39),.stmts (aG (tp 39)),aB (tp 39),0,[],.none,.none,.none,.none,none,.none,.none,0⟩
def o504:Obj:=co [.str "far_of" 789,.str "far_of" 790,cp 791,i0 210,i0 3,i0 0,i0 0,i0 3,.ref 458,.bool true,i0 181,.ref 459,.none,.none,.none,.ref 460,i0 792,i0 210,cp 793]
def o505:Obj:=fu ⟨"far_of","far_of",aH (tp 39),.stmts (aG (tp 39)),aB (tp 39),3,[],.none,.none,.none,.str "roomward.weaving" 779,none,.ref 461,.none,0⟩
def o506:Obj:=tu []
def o507:Obj:=nf []
def o508:Obj:=tu [.str "machines" 798,.str "known" 799,.str "machine" 800]
def o509:Obj:=tu []
def o510:Obj:=nu ⟨"known_of","known_of",aH (tp 40),.stmts (aG (tp 40)),aB (tp 40),0,[],.none,.none,.none,.none,none,.none,.none,0⟩
def o511:Obj:=co [.str "known_of" 795,.str "known_of" 796,cp 797,i0 213,i0 1,i0 0,i0 0,i0 3,.ref 463,.bool true,i0 181,.ref 464,.none,.ref 465,.ref 466,.ref 467,i0 801,i0 213,cp 802]
def o512:Obj:=fu ⟨"known_of","known_of",aH (tp 40),.stmts (aG (tp 40)),aB (tp 40),3,[],.none,.none,.none,.str "roomward.weaving" 779,none,.ref 468,.none,0⟩
def T20 (P:Params):BT:=ns (T19 P) [(3,o494 P),(12,o495),(453,o496),(454,o497),(455,o498),(456,o499),(457,o500),(458,o501),(459,o502),(460,o503),(461,o504),(462,o505),(463,o506),(464,o507),(465,o508),(466,o509),(467,o510),(468,o511),(469,o512)]
theorem pc20:Hd.Pc pp env T19 453 779 T20 470 804 102 [tp 36,tp 37,tp 38,tp 39,tp 40] ⟨145,0,205,19⟩ ⟨213,0,217,26⟩:=by
 intro w
 kernel_rfl
def g24 (P:Params):List DictEntry:=g23 P++[en P "Woven" 891 (.ref 538)]
def o513 (P:Params):Obj:=⟨.type "dict",none,.dict ⟨en P "__name__" 165 (.str "roomward.weaving" 779)::g24 P⟩ 46,#[]⟩
def o514:Obj:=nf [i0 1,i0 0,.ref 20,i0 5,i0 0,.ref 27,i0 7,i0 0,.ref 40,i0 9,i0 0,.ref 52,i0 11,i0 0,.ref 64,i0 13,i0 0,.ref 76,i0 15,i0 0,.ref 88,i0 17,i0 0,.ref 100,i0 19,i0 0,.ref 112,i0 21,i0 0,.ref 124,i0 23,i0 0,.ref 136,i0 25,i0 0,.ref 148,i0 27,i0 0,.ref 160,i0 29,i0 0,.ref 172,i0 35,i0 0,.ref 191,i0 39,i0 0,.ref 210,i0 44,i0 0,.ref 229,i0 58,i0 0,.ref 236,i0 65,i0 0,.ref 241,i0 70,i0 0,.ref 248,i0 80,i0 0,.ref 255,i0 87,i0 0,.ref 262,i0 92,i0 0,.ref 269,i0 125,i0 0,.ref 340,i0 132,i0 0,.ref 347,i0 136,i0 0,.ref 354,i0 145,i0 0,.ref 361,i0 208,i0 0,.ref 456,i0 210,i0 0,.ref 461,i0 213,i0 0,.ref 468,i0 218,i0 0,.ref 475]
def o515:Obj:=tu []
def o516:Obj:=⟨.type "builtin_function_or_method",none,.fields #[.builtin "type.__prepare__",.type "type"],#[]⟩
def g25 (P:Params):List DictEntry:=[en P "__qualname__" 813 (.str "Woven" 812),en P "__firstlineno__" 815 (.int 218 814),en P "__init__" 823 (.ref 483),en P "deeds" 830 (.ref 490),en P "begin" 837 (.ref 497),en P "knows" 844 (.ref 504),en P "at" 850 (.ref 509),en P "to" 859 (.ref 516),en P "is_end" 867 (.ref 523),en P "ways" 873 (.ref 528),en P "rooms" 881 (.ref 535),en P "__static_attributes__" 884 (.ref 536)]
def o517 (P:Params):Obj:=⟨.type "dict",none,.dict ⟨en P "__module__" 811 (.str "roomward.weaving" 779)::g25 P⟩ 13,#[]⟩
def o518:Obj:=tu []
def o519:Obj:=nf [i0 220,i0 4,.ref 482,i0 226,i0 4,.ref 489,i0 229,i0 4,.ref 496,i0 232,i0 4,.ref 503,i0 235,i0 4,.ref 508,i0 238,i0 4,.ref 515,i0 244,i0 4,.ref 522,i0 247,i0 4,.ref 527,i0 250,i0 4,.ref 534]
def o520:Obj:=co [.str "Woven" 806,.str "Woven" 807,cp 808,i0 218,i0 0,i0 0,i0 0,i0 0,.ref 473,.bool false,i0 181,.ref 474,.none,.none,.none,.none,i0 809,i0 218,cp 810]
def o521:Obj:=⟨.type "frame",none,.plain,#[(some (.ref 475)),(some (.ref 3)),(some (.ref 472)),none,(some (.str "roomward.weaving" 779)),none,(some (.ref 0))]⟩
def o522:Obj:=tu []
def o523:Obj:=nf []
def o524:Obj:=tu [.str "self" 819,.str "machines" 820]
def o525:Obj:=tu []
def o526:Obj:=nu ⟨"__init__","Woven.__init__",aH (aE (tp 41) 0),.stmts (aG (aE (tp 41) 0)),aB (aE (tp 41) 0),0,[],.none,.none,.none,.none,none,.none,.none,0⟩
def o527:Obj:=co [.str "__init__" 816,.str "Woven.__init__" 817,cp 818,i0 220,i0 2,i0 0,i0 0,i0 3,.ref 477,.bool true,i0 181,.ref 478,.none,.ref 479,.ref 480,.ref 481,i0 821,i0 220,cp 822]
def o528:Obj:=fu ⟨"__init__","Woven.__init__",aH (aE (tp 41) 0),.stmts (aG (aE (tp 41) 0)),aB (aE (tp 41) 0),3,[],.none,.none,.none,.str "roomward.weaving" 779,none,.ref 482,.none,0⟩
def o529:Obj:=tu []
def o530:Obj:=nf []
def o531:Obj:=tu [.str "self" 827]
def o532:Obj:=tu []
def o533:Obj:=nu ⟨"deeds","Woven.deeds",aH (aE (tp 41) 1),.stmts (aG (aE (tp 41) 1)),aB (aE (tp 41) 1),0,[],.none,.none,.none,.none,none,.none,.none,0⟩
def o534:Obj:=co [.str "deeds" 824,.str "Woven.deeds" 825,cp 826,i0 226,i0 1,i0 0,i0 0,i0 3,.ref 484,.bool true,i0 181,.ref 485,.none,.ref 486,.ref 487,.ref 488,i0 828,i0 226,cp 829]
def o535:Obj:=fu ⟨"deeds","Woven.deeds",aH (aE (tp 41) 1),.stmts (aG (aE (tp 41) 1)),aB (aE (tp 41) 1),3,[],.none,.none,.none,.str "roomward.weaving" 779,none,.ref 489,.none,0⟩
def o536:Obj:=tu []
def o537:Obj:=nf []
def o538:Obj:=tu [.str "self" 834]
def o539:Obj:=tu []
def o540:Obj:=nu ⟨"begin","Woven.begin",aH (aE (tp 41) 2),.stmts (aG (aE (tp 41) 2)),aB (aE (tp 41) 2),0,[],.none,.none,.none,.none,none,.none,.none,0⟩
def o541:Obj:=co [.str "begin" 831,.str "Woven.begin" 832,cp 833,i0 229,i0 1,i0 0,i0 0,i0 3,.ref 491,.bool true,i0 181,.ref 492,.none,.ref 493,.ref 494,.ref 495,i0 835,i0 229,cp 836]
def o542:Obj:=fu ⟨"begin","Woven.begin",aH (aE (tp 41) 2),.stmts (aG (aE (tp 41) 2)),aB (aE (tp 41) 2),3,[],.none,.none,.none,.str "roomward.weaving" 779,none,.ref 496,.none,0⟩
def o543:Obj:=tu []
def o544:Obj:=nf []
def o545:Obj:=tu [.str "self" 841]
def o546:Obj:=tu []
def o547:Obj:=nu ⟨"knows","Woven.knows",aH (aE (tp 41) 3),.stmts (aG (aE (tp 41) 3)),aB (aE (tp 41) 3),0,[],.none,.none,.none,.none,none,.none,.none,0⟩
def o548:Obj:=co [.str "knows" 838,.str "Woven.knows" 839,cp 840,i0 232,i0 1,i0 0,i0 0,i0 3,.ref 498,.bool true,i0 181,.ref 499,.none,.ref 500,.ref 501,.ref 502,i0 842,i0 232,cp 843]
def o549:Obj:=fu ⟨"knows","Woven.knows",aH (aE (tp 41) 3),.stmts (aG (aE (tp 41) 3)),aB (aE (tp 41) 3),3,[],.none,.none,.none,.str "roomward.weaving" 779,none,.ref 503,.none,0⟩
def o550:Obj:=tu []
def o551:Obj:=nf []
def o552:Obj:=nu ⟨"at","Woven.at",aH (aE (tp 41) 4),.stmts (aG (aE (tp 41) 4)),aB (aE (tp 41) 4),0,[],.none,.none,.none,.none,none,.none,.none,0⟩
def o553:Obj:=co [.str "at" 845,.str "Woven.at" 846,cp 847,i0 235,i0 2,i0 0,i0 0,i0 3,.ref 505,.bool true,i0 181,.ref 506,.none,.none,.none,.ref 507,i0 848,i0 235,cp 849]
def o554:Obj:=fu ⟨"at","Woven.at",aH (aE (tp 41) 4),.stmts (aG (aE (tp 41) 4)),aB (aE (tp 41) 4),3,[],.none,.none,.none,.str "roomward.weaving" 779,none,.ref 508,.none,0⟩
def o555:Obj:=tu []
def o556:Obj:=nf []
def o557:Obj:=tu [.str "self" 854,.str "room" 855,.str "deed" 856]
def o558:Obj:=tu []
def o559:Obj:=nu ⟨"to","Woven.to",aH (aE (tp 41) 5),.stmts (aG (aE (tp 41) 5)),aB (aE (tp 41) 5),0,[],.none,.none,.none,.none,none,.none,.none,0⟩
def o560:Obj:=co [.str "to" 851,.str "Woven.to" 852,cp 853,i0 238,i0 3,i0 0,i0 0,i0 3,.ref 510,.bool true,i0 181,.ref 511,.none,.ref 512,.ref 513,.ref 514,i0 857,i0 238,cp 858]
def o561:Obj:=fu ⟨"to","Woven.to",aH (aE (tp 41) 5),.stmts (aG (aE (tp 41) 5)),aB (aE (tp 41) 5),3,[],.none,.none,.none,.str "roomward.weaving" 779,none,.ref 515,.none,0⟩
def o562:Obj:=tu []
def o563:Obj:=nf []
def o564:Obj:=tu [.str "self" 863,.str "room" 864]
def o565:Obj:=tu []
def o566:Obj:=nu ⟨"is_end","Woven.is_end",aH (aE (tp 41) 6),.stmts (aG (aE (tp 41) 6)),aB (aE (tp 41) 6),0,[],.none,.none,.none,.none,none,.none,.none,0⟩
def o567:Obj:=co [.str "is_end" 860,.str "Woven.is_end" 861,cp 862,i0 244,i0 2,i0 0,i0 0,i0 3,.ref 517,.bool true,i0 181,.ref 518,.none,.ref 519,.ref 520,.ref 521,i0 865,i0 244,cp 866]
def o568:Obj:=fu ⟨"is_end","Woven.is_end",aH (aE (tp 41) 6),.stmts (aG (aE (tp 41) 6)),aB (aE (tp 41) 6),3,[],.none,.none,.none,.str "roomward.weaving" 779,none,.ref 522,.none,0⟩
def o569:Obj:=tu []
def o570:Obj:=nf []
def o571:Obj:=nu ⟨"ways","Woven.ways",aH (aE (tp 41) 7),.stmts (aG (aE (tp 41) 7)),aB (aE (tp 41) 7),0,[],.none,.none,.none,.none,none,.none,.none,0⟩
def o572:Obj:=co [.str "ways" 868,.str "Woven.ways" 869,cp 870,i0 247,i0 2,i0 0,i0 0,i0 3,.ref 524,.bool true,i0 181,.ref 525,.none,.none,.none,.ref 526,i0 871,i0 247,cp 872]
def o573:Obj:=fu ⟨"ways","Woven.ways",aH (aE (tp 41) 7),.stmts (aG (aE (tp 41) 7)),aB (aE (tp 41) 7),3,[],.none,.none,.none,.str "roomward.weaving" 779,none,.ref 527,.none,0⟩
def o574:Obj:=tu []
def o575:Obj:=nf []
def o576:Obj:=tu [.str "self" 877]
def o577:Obj:=tu [.str "self" 878]
def o578:Obj:=nu ⟨"rooms","Woven.rooms",aH (aE (tp 41) 8),.stmts (aG (aE (tp 41) 8)),aB (aE (tp 41) 8),0,[],.none,.none,.none,.none,none,.none,.none,0⟩
def o579:Obj:=co [.str "rooms" 874,.str "Woven.rooms" 875,cp 876,i0 250,i0 1,i0 0,i0 0,i0 3,.ref 529,.bool true,i0 181,.ref 530,.none,.ref 531,.ref 532,.ref 533,i0 879,i0 250,cp 880]
def o580:Obj:=fu ⟨"rooms","Woven.rooms",aH (aE (tp 41) 8),.stmts (aG (aE (tp 41) 8)),aB (aE (tp 41) 8),3,[],.none,.none,.none,.str "roomward.weaving" 779,none,.ref 534,.none,0⟩
def o581:Obj:=tu [.str "known_marks" 882,.str "machines" 883]
def g26 (P:Params):List DictEntry:=[en P "__firstlineno__" 815 (.int 218 814),en P "__init__" 823 (.ref 483),en P "deeds" 830 (.ref 490),en P "begin" 837 (.ref 497),en P "knows" 844 (.ref 504),en P "at" 850 (.ref 509),en P "to" 859 (.ref 516),en P "is_end" 867 (.ref 523),en P "ways" 873 (.ref 528),en P "rooms" 881 (.ref 535),en P "__static_attributes__" 884 (.ref 536),en P "__dict__" 886 (.ref 539),en P "__weakref__" 888 (.ref 540),en P "__doc__" 889 .none]
def o582 (P:Params):Obj:=⟨.type "dict",none,.dict ⟨en P "__module__" 811 (.str "roomward.weaving" 779)::g26 P⟩ 4,#[]⟩
def o583:Obj:=⟨.type "type",none,.cls ⟨"Woven",[.type "object"],[.ref 538,.type "object"],537,"Woven",true,[],[],false,none,false⟩,#[none,none,(some (.str "Woven" 804)),(some (.str "Woven" 812)),(some (.builtin "object.__new__")),(some (.bool true))]⟩
def o584:Obj:=⟨.type "getset_descriptor",none,.fields #[.str "__dict__" 885,.ref 538,.builtin "function.__dict__",.builtin "function.__dict__#set"],#[]⟩
def o585:Obj:=⟨.type "getset_descriptor",none,.fields #[.str "__weakref__" 887,.ref 538,.builtin "ExceptionGroup.__weakref__",.none],#[]⟩
def o586:Obj:=⟨.type "super",none,.fields #[.ref 538,.ref 538,.ref 538],#[]⟩
def o587:Obj:=⟨.type "builtin_function_or_method",none,.fields #[.builtin "object.__init_subclass__",.ref 538],#[]⟩
def T21 (P:Params):BT:=ns (T20 P) [(3,o513 P),(12,o514),(470,o515),(471,o516),(472,o517 P),(473,o518),(474,o519),(475,o520),(476,o521),(477,o522),(478,o523),(479,o524),(480,o525),(481,o526),(482,o527),(483,o528),(484,o529),(485,o530),(486,o531),(487,o532),(488,o533),(489,o534),(490,o535),(491,o536),(492,o537),(493,o538),(494,o539),(495,o540),(496,o541),(497,o542),(498,o543),(499,o544),(500,o545),(501,o546),(502,o547),(503,o548),(504,o549),(505,o550),(506,o551),(507,o552),(508,o553),(509,o554),(510,o555),(511,o556),(512,o557),(513,o558),(514,o559),(515,o560),(516,o561),(517,o562),(518,o563),(519,o564),(520,o565),(521,o566),(522,o567),(523,o568),(524,o569),(525,o570),(526,o571),(527,o572),(528,o573),(529,o574),(530,o575),(531,o576),(532,o577),(533,o578),(534,o579),(535,o580),(536,o581),(537,o582 P),(538,o583),(539,o584),(540,o585),(541,o586),(542,o587)]
theorem pc21:Hd.Pc pp env T20 470 804 T21 543 892 470 [tp 41] ⟨213,0,217,26⟩ ⟨218,0,251,78⟩:=by
 intro w
 kernel_rfl
def g27 (P:Params):List DictEntry:=g24 P++[en P "_law_mixed" 902 (.ref 549),en P "_law_cell_at" 910 (.ref 556),en P "_law_names_by" 916 (.ref 561),en P "_law_deeds_by" 922 (.ref 566),en P "_law_rooms_by" 928 (.ref 571),en P "_law_machine_by" 934 (.ref 576),en P "_law_plant_by" 940 (.ref 581),en P "_law_more" 951 (.ref 588),en P "_law_machines" 957 (.ref 593),en P "_law_word" 965 (.ref 600),en P "_law_tried" 973 (.ref 607),en P "_law_maps" 979 (.ref 612),en P "_law_step" 992 (.ref 619)]
def o588 (P:Params):Obj:=⟨.type "dict",none,.dict ⟨en P "__name__" 165 (.str "law_roomward_k22_rooms_come_to" 892)::g27 P⟩ 59,#[]⟩
def o589:Obj:=nf [i0 1,i0 0,.ref 20,i0 5,i0 0,.ref 27,i0 7,i0 0,.ref 40,i0 9,i0 0,.ref 52,i0 11,i0 0,.ref 64,i0 13,i0 0,.ref 76,i0 15,i0 0,.ref 88,i0 17,i0 0,.ref 100,i0 19,i0 0,.ref 112,i0 21,i0 0,.ref 124,i0 23,i0 0,.ref 136,i0 25,i0 0,.ref 148,i0 27,i0 0,.ref 160,i0 29,i0 0,.ref 172,i0 35,i0 0,.ref 191,i0 39,i0 0,.ref 210,i0 44,i0 0,.ref 229,i0 58,i0 0,.ref 236,i0 65,i0 0,.ref 241,i0 70,i0 0,.ref 248,i0 80,i0 0,.ref 255,i0 87,i0 0,.ref 262,i0 92,i0 0,.ref 269,i0 125,i0 0,.ref 340,i0 132,i0 0,.ref 347,i0 136,i0 0,.ref 354,i0 145,i0 0,.ref 361,i0 208,i0 0,.ref 456,i0 210,i0 0,.ref 461,i0 213,i0 0,.ref 468,i0 218,i0 0,.ref 475,i0 253,i0 0,.ref 548,i0 256,i0 0,.ref 555,i0 260,i0 0,.ref 560,i0 264,i0 0,.ref 565,i0 270,i0 0,.ref 570,i0 274,i0 0,.ref 575,i0 288,i0 0,.ref 580,i0 291,i0 0,.ref 587,i0 297,i0 0,.ref 592,i0 299,i0 0,.ref 599,i0 310,i0 0,.ref 606,i0 316,i0 0,.ref 611,i0 324,i0 0,.ref 618]
def o590:Obj:=tu []
def o591:Obj:=nf []
def o592:Obj:=tu [.str "_law_cell" 897,.str "_law_k" 898,.str "_law_one" 899]
def o593:Obj:=tu []
def o594:Obj:=nu ⟨"_law_mixed","_law_mixed",aH (tp 43),.stmts (aG (tp 43)),aB (tp 43),0,[],.none,.none,.none,.none,none,.none,.none,0⟩
def o595:Obj:=co [.str "_law_mixed" 894,.str "_law_mixed" 895,cp 896,i0 253,i0 2,i0 0,i0 0,i0 3,.ref 543,.bool true,i0 181,.ref 544,.none,.ref 545,.ref 546,.ref 547,i0 900,i0 253,cp 901]
def o596:Obj:=fu ⟨"_law_mixed","_law_mixed",aH (tp 43),.stmts (aG (tp 43)),aB (tp 43),3,[],.none,.none,.none,.str "law_roomward_k22_rooms_come_to" 892,none,.ref 548,.none,0⟩
def o597:Obj:=tu []
def o598:Obj:=nf []
def o599:Obj:=tu [.str "_law_script" 906,.str "_law_k" 907]
def o600:Obj:=tu []
def o601:Obj:=nu ⟨"_law_cell_at","_law_cell_at",aH (tp 44),.stmts (aG (tp 44)),aB (tp 44),0,[],.none,.none,.none,.none,none,.none,.none,0⟩
def o602:Obj:=co [.str "_law_cell_at" 903,.str "_law_cell_at" 904,cp 905,i0 256,i0 2,i0 0,i0 0,i0 3,.ref 550,.bool true,i0 181,.ref 551,.none,.ref 552,.ref 553,.ref 554,i0 908,i0 256,cp 909]
def o603:Obj:=fu ⟨"_law_cell_at","_law_cell_at",aH (tp 44),.stmts (aG (tp 44)),aB (tp 44),3,[],.none,.none,.none,.str "law_roomward_k22_rooms_come_to" 892,none,.ref 555,.none,0⟩
def o604:Obj:=tu []
def o605:Obj:=nf []
def o606:Obj:=nu ⟨"_law_names_by","_law_names_by",aH (tp 45),.stmts (aG (tp 45)),aB (tp 45),0,[],.none,.none,.none,.none,none,.none,.none,0⟩
def o607:Obj:=co [.str "_law_names_by" 911,.str "_law_names_by" 912,cp 913,i0 260,i0 2,i0 0,i0 0,i0 3,.ref 557,.bool true,i0 181,.ref 558,.none,.none,.none,.ref 559,i0 914,i0 260,cp 915]
def o608:Obj:=fu ⟨"_law_names_by","_law_names_by",aH (tp 45),.stmts (aG (tp 45)),aB (tp 45),3,[],.none,.none,.none,.str "law_roomward_k22_rooms_come_to" 892,none,.ref 560,.none,0⟩
def o609:Obj:=tu []
def o610:Obj:=nf []
def o611:Obj:=nu ⟨"_law_deeds_by","_law_deeds_by",aH (tp 46),.stmts (aG (tp 46)),aB (tp 46),0,[],.none,.none,.none,.none,none,.none,.none,0⟩
def o612:Obj:=co [.str "_law_deeds_by" 917,.str "_law_deeds_by" 918,cp 919,i0 264,i0 1,i0 0,i0 0,i0 3,.ref 562,.bool true,i0 181,.ref 563,.none,.none,.none,.ref 564,i0 920,i0 264,cp 921]
def o613:Obj:=fu ⟨"_law_deeds_by","_law_deeds_by",aH (tp 46),.stmts (aG (tp 46)),aB (tp 46),3,[],.none,.none,.none,.str "law_roomward_k22_rooms_come_to" 892,none,.ref 565,.none,0⟩
def o614:Obj:=tu []
def o615:Obj:=nf []
def o616:Obj:=nu ⟨"_law_rooms_by","_law_rooms_by",aH (tp 47),.stmts (aG (tp 47)),aB (tp 47),0,[],.none,.none,.none,.none,none,.none,.none,0⟩
def o617:Obj:=co [.str "_law_rooms_by" 923,.str "_law_rooms_by" 924,cp 925,i0 270,i0 2,i0 0,i0 0,i0 3,.ref 567,.bool true,i0 181,.ref 568,.none,.none,.none,.ref 569,i0 926,i0 270,cp 927]
def o618:Obj:=fu ⟨"_law_rooms_by","_law_rooms_by",aH (tp 47),.stmts (aG (tp 47)),aB (tp 47),3,[],.none,.none,.none,.str "law_roomward_k22_rooms_come_to" 892,none,.ref 570,.none,0⟩
def o619:Obj:=tu []
def o620:Obj:=nf []
def o621:Obj:=nu ⟨"_law_machine_by","_law_machine_by",aH (tp 48),.stmts (aG (tp 48)),aB (tp 48),0,[],.none,.none,.none,.none,none,.none,.none,0⟩
def o622:Obj:=co [.str "_law_machine_by" 929,.str "_law_machine_by" 930,cp 931,i0 274,i0 3,i0 0,i0 0,i0 3,.ref 572,.bool true,i0 181,.ref 573,.none,.none,.none,.ref 574,i0 932,i0 274,cp 933]
def o623:Obj:=fu ⟨"_law_machine_by","_law_machine_by",aH (tp 48),.stmts (aG (tp 48)),aB (tp 48),3,[],.none,.none,.none,.str "law_roomward_k22_rooms_come_to" 892,none,.ref 575,.none,0⟩
def o624:Obj:=tu []
def o625:Obj:=nf []
def o626:Obj:=nu ⟨"_law_plant_by","_law_plant_by",aH (tp 49),.stmts (aG (tp 49)),aB (tp 49),0,[],.none,.none,.none,.none,none,.none,.none,0⟩
def o627:Obj:=co [.str "_law_plant_by" 935,.str "_law_plant_by" 936,cp 937,i0 288,i0 2,i0 0,i0 0,i0 3,.ref 577,.bool true,i0 181,.ref 578,.none,.none,.none,.ref 579,i0 938,i0 288,cp 939]
def o628:Obj:=fu ⟨"_law_plant_by","_law_plant_by",aH (tp 49),.stmts (aG (tp 49)),aB (tp 49),3,[],.none,.none,.none,.str "law_roomward_k22_rooms_come_to" 892,none,.ref 580,.none,0⟩
def o629:Obj:=tu []
def o630:Obj:=nf []
def o631:Obj:=tu [.str "_law_plant" 944,.str "_law_cell" 945,.str "_law_names" 946,.str "_law_found" 947,.str "_law_k" 948]
def o632:Obj:=tu []
def o633:Obj:=nu ⟨"_law_more","_law_more",aH (tp 50),.stmts (aG (tp 50)),aB (tp 50),0,[],.none,.none,.none,.none,none,.none,.none,0⟩
def o634:Obj:=co [.str "_law_more" 941,.str "_law_more" 942,cp 943,i0 291,i0 3,i0 0,i0 0,i0 3,.ref 582,.bool true,i0 181,.ref 583,.none,.ref 584,.ref 585,.ref 586,i0 949,i0 291,cp 950]
def o635:Obj:=fu ⟨"_law_more","_law_more",aH (tp 50),.stmts (aG (tp 50)),aB (tp 50),3,[],.none,.none,.none,.str "law_roomward_k22_rooms_come_to" 892,none,.ref 587,.none,0⟩
def o636:Obj:=tu []
def o637:Obj:=nf []
def o638:Obj:=nu ⟨"_law_machines","_law_machines",aH (tp 51),.stmts (aG (tp 51)),aB (tp 51),0,[],.none,.none,.none,.none,none,.none,.none,0⟩
def o639:Obj:=co [.str "_law_machines" 952,.str "_law_machines" 953,cp 954,i0 297,i0 2,i0 0,i0 0,i0 3,.ref 589,.bool true,i0 181,.ref 590,.none,.none,.none,.ref 591,i0 955,i0 297,cp 956]
def o640:Obj:=fu ⟨"_law_machines","_law_machines",aH (tp 51),.stmts (aG (tp 51)),aB (tp 51),3,[],.none,.none,.none,.str "law_roomward_k22_rooms_come_to" 892,none,.ref 592,.none,0⟩
def o641:Obj:=tu []
def o642:Obj:=nf []
def o643:Obj:=tu [.str "_law_e" 961,.str "_law_words" 962]
def o644:Obj:=tu []
def o645:Obj:=nu ⟨"_law_word","_law_word",aH (tp 52),.stmts (aG (tp 52)),aB (tp 52),0,[],.none,.none,.none,.none,none,.none,.none,0⟩
def o646:Obj:=co [.str "_law_word" 958,.str "_law_word" 959,cp 960,i0 299,i0 1,i0 0,i0 0,i0 3,.ref 594,.bool true,i0 181,.ref 595,.none,.ref 596,.ref 597,.ref 598,i0 963,i0 299,cp 964]
def o647:Obj:=fu ⟨"_law_word","_law_word",aH (tp 52),.stmts (aG (tp 52)),aB (tp 52),3,[],.none,.none,.none,.str "law_roomward_k22_rooms_come_to" 892,none,.ref 599,.none,0⟩
def o648:Obj:=tu []
def o649:Obj:=nf []
def o650:Obj:=tu [.str "_law_deed" 969,.str "_law_e" 970]
def o651:Obj:=tu []
def o652:Obj:=nu ⟨"_law_tried","_law_tried",aH (tp 53),.stmts (aG (tp 53)),aB (tp 53),0,[],.none,.none,.none,.none,none,.none,.none,0⟩
def o653:Obj:=co [.str "_law_tried" 966,.str "_law_tried" 967,cp 968,i0 310,i0 1,i0 0,i0 0,i0 3,.ref 601,.bool true,i0 181,.ref 602,.none,.ref 603,.ref 604,.ref 605,i0 971,i0 310,cp 972]
def o654:Obj:=fu ⟨"_law_tried","_law_tried",aH (tp 53),.stmts (aG (tp 53)),aB (tp 53),3,[],.none,.none,.none,.str "law_roomward_k22_rooms_come_to" 892,none,.ref 606,.none,0⟩
def o655:Obj:=tu []
def o656:Obj:=nf []
def o657:Obj:=nu ⟨"_law_maps","_law_maps",aH (tp 54),.stmts (aG (tp 54)),aB (tp 54),0,[],.none,.none,.none,.none,none,.none,.none,0⟩
def o658:Obj:=co [.str "_law_maps" 974,.str "_law_maps" 975,cp 976,i0 316,i0 1,i0 0,i0 0,i0 3,.ref 608,.bool true,i0 181,.ref 609,.none,.none,.none,.ref 610,i0 977,i0 316,cp 978]
def o659:Obj:=fu ⟨"_law_maps","_law_maps",aH (tp 54),.stmts (aG (tp 54)),aB (tp 54),3,[],.none,.none,.none,.str "law_roomward_k22_rooms_come_to" 892,none,.ref 611,.none,0⟩
def o660:Obj:=tu []
def o661:Obj:=nf []
def o662:Obj:=tu [.str "_law_maps_here" 983,.str "_law_room" 984,.str "_law_deed" 985,.str "_law_found" 986,.str "_law_many" 987,.str "_law_k" 988,.str "_law_one" 989]
def o663:Obj:=tu []
def o664:Obj:=nu ⟨"_law_step","_law_step",aH (tp 55),.stmts (aG (tp 55)),aB (tp 55),0,[],.none,.none,.none,.none,none,.none,.none,0⟩
def o665:Obj:=co [.str "_law_step" 980,.str "_law_step" 981,cp 982,i0 324,i0 3,i0 0,i0 0,i0 3,.ref 613,.bool true,i0 181,.ref 614,.none,.ref 615,.ref 616,.ref 617,i0 990,i0 324,cp 991]
def o666:Obj:=fu ⟨"_law_step","_law_step",aH (tp 55),.stmts (aG (tp 55)),aB (tp 55),3,[],.none,.none,.none,.str "law_roomward_k22_rooms_come_to" 892,none,.ref 618,.none,0⟩
def T22 (P:Params):BT:=ns (T21 P) [(3,o588 P),(12,o589),(543,o590),(544,o591),(545,o592),(546,o593),(547,o594),(548,o595),(549,o596),(550,o597),(551,o598),(552,o599),(553,o600),(554,o601),(555,o602),(556,o603),(557,o604),(558,o605),(559,o606),(560,o607),(561,o608),(562,o609),(563,o610),(564,o611),(565,o612),(566,o613),(567,o614),(568,o615),(569,o616),(570,o617),(571,o618),(572,o619),(573,o620),(574,o621),(575,o622),(576,o623),(577,o624),(578,o625),(579,o626),(580,o627),(581,o628),(582,o629),(583,o630),(584,o631),(585,o632),(586,o633),(587,o634),(588,o635),(589,o636),(590,o637),(591,o638),(592,o639),(593,o640),(594,o641),(595,o642),(596,o643),(597,o644),(598,o645),(599,o646),(600,o647),(601,o648),(602,o649),(603,o650),(604,o651),(605,o652),(606,o653),(607,o654),(608,o655),(609,o656),(610,o657),(611,o658),(612,o659),(613,o660),(614,o661),(615,o662),(616,o663),(617,o664),(618,o665),(619,o666)]
theorem pc22:Hd.Pc pp env T21 543 892 T22 620 993 381 [tp 42,tp 43,tp 44,tp 45,tp 46,tp 47,tp 48,tp 49,tp 50,tp 51,tp 52,tp 53,tp 54,tp 55] ⟨218,0,251,78⟩ ⟨324,0,337,28⟩:=by
 intro w
 kernel_rfl
def g28 (P:Params):List DictEntry:=g27 P++[en P "_law_come" 998 (.ref 624),en P "_law_ring" 1004 (.ref 629),en P "_law_all_come" 1016 (.ref 636),en P "law" 1022 (.ref 641)]
def o667 (P:Params):Obj:=⟨.type "dict",none,.dict ⟨en P "__name__" 165 (.str "law_roomward_k22_rooms_come_to" 892)::g28 P⟩ 63,#[]⟩
def o668:Obj:=nf [i0 1,i0 0,.ref 20,i0 5,i0 0,.ref 27,i0 7,i0 0,.ref 40,i0 9,i0 0,.ref 52,i0 11,i0 0,.ref 64,i0 13,i0 0,.ref 76,i0 15,i0 0,.ref 88,i0 17,i0 0,.ref 100,i0 19,i0 0,.ref 112,i0 21,i0 0,.ref 124,i0 23,i0 0,.ref 136,i0 25,i0 0,.ref 148,i0 27,i0 0,.ref 160,i0 29,i0 0,.ref 172,i0 35,i0 0,.ref 191,i0 39,i0 0,.ref 210,i0 44,i0 0,.ref 229,i0 58,i0 0,.ref 236,i0 65,i0 0,.ref 241,i0 70,i0 0,.ref 248,i0 80,i0 0,.ref 255,i0 87,i0 0,.ref 262,i0 92,i0 0,.ref 269,i0 125,i0 0,.ref 340,i0 132,i0 0,.ref 347,i0 136,i0 0,.ref 354,i0 145,i0 0,.ref 361,i0 208,i0 0,.ref 456,i0 210,i0 0,.ref 461,i0 213,i0 0,.ref 468,i0 218,i0 0,.ref 475,i0 253,i0 0,.ref 548,i0 256,i0 0,.ref 555,i0 260,i0 0,.ref 560,i0 264,i0 0,.ref 565,i0 270,i0 0,.ref 570,i0 274,i0 0,.ref 575,i0 288,i0 0,.ref 580,i0 291,i0 0,.ref 587,i0 297,i0 0,.ref 592,i0 299,i0 0,.ref 599,i0 310,i0 0,.ref 606,i0 316,i0 0,.ref 611,i0 324,i0 0,.ref 618,i0 338,i0 0,.ref 623,i0 348,i0 0,.ref 628,i0 353,i0 0,.ref 635,i0 363,i0 0,.ref 640]
def o669:Obj:=tu []
def o670:Obj:=nf []
def o671:Obj:=nu ⟨"_law_come","_law_come",aH (tp 56),.stmts (aG (tp 56)),aB (tp 56),0,[],.none,.none,.none,.none,none,.none,.none,0⟩
def o672:Obj:=co [.str "_law_come" 993,.str "_law_come" 994,cp 995,i0 338,i0 3,i0 0,i0 0,i0 3,.ref 620,.bool true,i0 181,.ref 621,.none,.none,.none,.ref 622,i0 996,i0 338,cp 997]
def o673:Obj:=fu ⟨"_law_come","_law_come",aH (tp 56),.stmts (aG (tp 56)),aB (tp 56),3,[],.none,.none,.none,.str "law_roomward_k22_rooms_come_to" 892,none,.ref 623,.none,0⟩
def o674:Obj:=tu []
def o675:Obj:=nf []
def o676:Obj:=nu ⟨"_law_ring","_law_ring",aH (tp 57),.stmts (aG (tp 57)),aB (tp 57),0,[],.none,.none,.none,.none,none,.none,.none,0⟩
def o677:Obj:=co [.str "_law_ring" 999,.str "_law_ring" 1000,cp 1001,i0 348,i0 1,i0 0,i0 0,i0 3,.ref 625,.bool true,i0 181,.ref 626,.none,.none,.none,.ref 627,i0 1002,i0 348,cp 1003]
def o678:Obj:=fu ⟨"_law_ring","_law_ring",aH (tp 57),.stmts (aG (tp 57)),aB (tp 57),3,[],.none,.none,.none,.str "law_roomward_k22_rooms_come_to" 892,none,.ref 628,.none,0⟩
def o679:Obj:=tu []
def o680:Obj:=nf []
def o681:Obj:=tu [.str "_law_deeds" 1008,.str "_law_plant" 1009,.str "_law_names" 1010,.str "_law_due" 1011,.str "_law_found" 1012]
def o682:Obj:=tu [.str "_law_woven" 1013]
def o683:Obj:=nu ⟨"_law_all_come","_law_all_come",aH (tp 58),.stmts (aG (tp 58)),aB (tp 58),0,[],.none,.none,.none,.none,none,.none,.none,0⟩
def o684:Obj:=co [.str "_law_all_come" 1005,.str "_law_all_come" 1006,cp 1007,i0 353,i0 3,i0 0,i0 0,i0 3,.ref 630,.bool true,i0 181,.ref 631,.none,.ref 632,.ref 633,.ref 634,i0 1014,i0 353,cp 1015]
def o685:Obj:=fu ⟨"_law_all_come","_law_all_come",aH (tp 58),.stmts (aG (tp 58)),aB (tp 58),3,[],.none,.none,.none,.str "law_roomward_k22_rooms_come_to" 892,none,.ref 635,.none,0⟩
def o686:Obj:=tu []
def o687:Obj:=nf []
def o688:Obj:=nu ⟨"law","law",aH (tp 59),.stmts (aG (tp 59)),aB (tp 59),0,[],.none,.none,.none,.none,none,.none,.none,0⟩
def o689:Obj:=co [.str "law" 1017,.str "law" 1018,cp 1019,i0 363,i0 1,i0 0,i0 0,i0 3,.ref 637,.bool true,i0 181,.ref 638,.none,.none,.none,.ref 639,i0 1020,i0 363,cp 1021]
def o690:Obj:=fu ⟨"law","law",aH (tp 59),.stmts (aG (tp 59)),aB (tp 59),3,[],.none,.none,.none,.str "law_roomward_k22_rooms_come_to" 892,none,.ref 640,.none,0⟩
def T23 (P:Params):BT:=ns (T22 P) [(3,o667 P),(12,o668),(620,o669),(621,o670),(622,o671),(623,o672),(624,o673),(625,o674),(626,o675),(627,o676),(628,o677),(629,o678),(630,o679),(631,o680),(632,o681),(633,o682),(634,o683),(635,o684),(636,o685),(637,o686),(638,o687),(639,o688),(640,o689),(641,o690)]
theorem pc23:Hd.Pc pp env T22 620 993 T23 642 1023 113 [tp 56,tp 57,tp 58,tp 59] ⟨324,0,337,28⟩ ⟨363,0,380,120⟩:=by
 intro w
 kernel_rfl
def Hf (P:Params):Heap:=⟨Array.mk [boot_o_0 P,boot_o_1 P,boot_o_2 P,o667 P,boot_o_4 P,boot_o_5 P,boot_o_6 P,boot_o_7 P,boot_o_8 P,boot_o_9 P,boot_o_10 P,o0,o668,o2,o3,o6,o7,o8,o9,o10,o11,o12,o13,o14,o15 P,o16,o17,o18,o19,o20,o21 P,o237,o23,o24,o25,o29,o30,o31 P,o32,o33,o34,o35,o36,o37 P,o38,o39,o40,o44,o45,o46 P,o47,o48,o49,o50,o51,o52 P,o53,o54,o55,o59,o60,o61 P,o62,o63,o64,o65,o66,o67 P,o68,o69,o70,o74,o75,o76 P,o77,o78,o79,o80,o81,o82 P,o83,o84,o85,o89,o90,o91 P,o92,o93,o94,o95,o96,o97 P,o98,o99,o100,o104,o105,o106 P,o107,o108,o109,o110,o111,o112 P,o113,o114,o115,o119,o120,o121 P,o122,o123,o124,o125,o126,o127 P,o128,o129,o130,o134,o135,o136 P,o137,o138,o139,o140,o141,o142 P,o143,o144,o145,o149,o150,o151 P,o152,o153,o154,o155,o156,o157 P,o158,o159,o160,o164,o165,o166 P,o167,o168,o169,o170,o171,o172 P,o173,o174,o175,o179,o180,o181 P,o182,o183,o184,o185,o186,o187 P,o188,o189,o190,o194,o195,o196 P,o197,o198,o199,o200,o201,o202,o203,o204,o205,o206,o207,o208,o209 P,o210,o211,o212,o216,o217,o218 P,o219,o220,o221,o222,o223,o224,o225,o226,o227,o228,o229,o230,o231 P,o232,o233,o234,o238,o239,o240 P,o241,o242,o243,o244,o245,o246,o247,o248,o249,o250,o251,o252,o253 P,o254,o255,o256,o257,o258,o259,o260,o261,o262,o263,o264,o265,o266,o267,o268,o269,o270,o271,o272,o273,o274,o275,o278,o279,o280,o281,o282,o283,o284,o285,o286,o287,o288,o289,o290,o291,o292,o293,o294,o295,o296,o297,o298,o301,o302,o303 P,o304,o305,o306,o307,o308,o309,o310,o311,o312,o313,o314,o315,o316,o317,o318,o319,o320,o321,o322,o323,o324,o325,o326,o327,o328,o329,o330,o331,o332,o333,o334,o335,o336,o337,o338,o339,o340,o341,o342,o343,o344,o345,o346,o347,o348,o349,o350,o351,o352,o353,o354,o355,o356,o357,o358,o359,o360,o361,o362,o363,o364,o365,o366 P,o367,o368,o369,o370,o371,o374,o375,o376,o377,o378,o379,o380,o381,o382,o383,o384,o385,o386,o387,o388,o389,o390,o391,o392,o393,o394,o397,o398,o399 P,o400,o401,o402,o403,o404,o405,o406,o407,o408,o409,o410,o411,o412,o413,o414,o415,o416,o417,o418,o419,o420,o421,o422,o423,o424,o425,o426,o427,o428,o429,o430,o431,o432,o433,o434,o435,o436,o437,o438,o439,o440,o441,o442,o443,o444,o445,o446,o447,o448,o449,o450,o451,o452,o453,o454,o455,o456,o457,o458,o459,o460,o461,o462,o463,o464,o465,o466,o467,o468,o469,o470,o471,o472,o473,o474,o475,o476,o477,o478,o479,o480,o481,o482,o483,o484,o485,o486,o487,o488 P,o489,o490,o491,o492,o493,o496,o497,o498,o499,o500,o501,o502,o503,o504,o505,o506,o507,o508,o509,o510,o511,o512,o515,o516,o517 P,o518,o519,o520,o521,o522,o523,o524,o525,o526,o527,o528,o529,o530,o531,o532,o533,o534,o535,o536,o537,o538,o539,o540,o541,o542,o543,o544,o545,o546,o547,o548,o549,o550,o551,o552,o553,o554,o555,o556,o557,o558,o559,o560,o561,o562,o563,o564,o565,o566,o567,o568,o569,o570,o571,o572,o573,o574,o575,o576,o577,o578,o579,o580,o581,o582 P,o583,o584,o585,o586,o587,o590,o591,o592,o593,o594,o595,o596,o597,o598,o599,o600,o601,o602,o603,o604,o605,o606,o607,o608,o609,o610,o611,o612,o613,o614,o615,o616,o617,o618,o619,o620,o621,o622,o623,o624,o625,o626,o627,o628,o629,o630,o631,o632,o633,o634,o635,o636,o637,o638,o639,o640,o641,o642,o643,o644,o645,o646,o647,o648,o649,o650,o651,o652,o653,o654,o655,o656,o657,o658,o659,o660,o661,o662,o663,o664,o665,o666,o669,o670,o671,o672,o673,o674,o675,o676,o677,o678,o679,o680,o681,o682,o683,o684,o685,o686,o687,o688,o689,o690],Hd.lf⟩
theorem fin:Hd.Fi pp env T23 642 1023 Hf 1023 2 ⟨363,0,380,120⟩:=by
 intro w
 kernel_rfl
def vw:Program:={ pp with main:={ pp.main with body:=[tp 0,tp 2,tp 3,tp 4,tp 5,tp 6,tp 7,tp 8,tp 9,tp 10,tp 11,tp 12,tp 13,tp 14,tp 15,tp 16,tp 18,tp 19,tp 21,tp 22,tp 23,tp 24,tp 25,tp 26,tp 27,tp 28,tp 29,tp 31,tp 32,tp 33,tp 34,tp 35,tp 37,tp 38,tp 39,tp 40,tp 41,tp 43,tp 44,tp 45,tp 46,tp 47,tp 48,tp 49,tp 50,tp 51,tp 52,tp 53,tp 54,tp 55,tp 56,tp 57,tp 58,tp 59] } }
def kk (P:Params):Frag:=
 (nat_lit 2,boot_o_2 P)::(nat_lit 3,o667 P)::(nat_lit 15,o6)::(nat_lit 17,o8)::(nat_lit 18,o9)::(nat_lit 20,o11)::(nat_lit 21,o12)::(nat_lit 22,o13)::(nat_lit 29,o20)::(nat_lit 30,o21 P)::(nat_lit 31,o237)::(nat_lit 32,o23)::(nat_lit 35,o29)::(nat_lit 42,o36)::(nat_lit 43,o37 P)::(nat_lit 44,o38)::(nat_lit 47,o44)::(nat_lit 54,o51)::(nat_lit 55,o52 P)::(nat_lit 56,o53)::(nat_lit 59,o59)::(nat_lit 66,o66)::(nat_lit 67,o67 P)::(nat_lit 68,o68)::(nat_lit 71,o74)::(nat_lit 78,o81)::(nat_lit 79,o82 P)::(nat_lit 80,o83)::(nat_lit 83,o89)::(nat_lit 90,o96)::(nat_lit 91,o97 P)::(nat_lit 92,o98)::(nat_lit 95,o104)::(nat_lit 102,o111)::(nat_lit 103,o112 P)::(nat_lit 104,o113)::(nat_lit 107,o119)::(nat_lit 114,o126)::(nat_lit 115,o127 P)::(nat_lit 116,o128)::(nat_lit 119,o134)::(nat_lit 126,o141)::(nat_lit 127,o142 P)::(nat_lit 128,o143)::(nat_lit 131,o149)::(nat_lit 138,o156)::(nat_lit 139,o157 P)::(nat_lit 140,o158)::(nat_lit 143,o164)::(nat_lit 150,o171)::(nat_lit 151,o172 P)::(nat_lit 152,o173)::(nat_lit 155,o179)::(nat_lit 162,o186)::(nat_lit 163,o187 P)::(nat_lit 164,o188)::(nat_lit 167,o194)::(nat_lit 174,o201)::(nat_lit 176,o203)::(nat_lit 177,o204)::(nat_lit 179,o206)::(nat_lit 180,o207)::(nat_lit 181,o208)::(nat_lit 182,o209 P)::(nat_lit 183,o210)::(nat_lit 186,o216)::(nat_lit 193,o223)::(nat_lit 195,o225)::(nat_lit 196,o226)::(nat_lit 198,o228)::(nat_lit 199,o229)::(nat_lit 200,o230)::(nat_lit 201,o231 P)::(nat_lit 202,o232)::(nat_lit 205,o238)::(nat_lit 212,o245)::(nat_lit 214,o247)::(nat_lit 215,o248)::(nat_lit 217,o250)::(nat_lit 218,o251)::(nat_lit 219,o252)::(nat_lit 220,o253 P)::(nat_lit 221,o254)::(nat_lit 224,o257)::(nat_lit 226,o259)::(nat_lit 227,o260)::(nat_lit 229,o262)::(nat_lit 230,o263)::(nat_lit 231,o264)::(nat_lit 233,o266)::(nat_lit 234,o267)::(nat_lit 236,o269)::(nat_lit 237,o270)::(nat_lit 238,o271)::(nat_lit 241,o274)::(nat_lit 242,o275)::(nat_lit 243,o278)::(nat_lit 245,o280)::(nat_lit 246,o281)::(nat_lit 248,o283)::(nat_lit 249,o284)::(nat_lit 250,o285)::(nat_lit 252,o287)::(nat_lit 253,o288)::(nat_lit 255,o290)::(nat_lit 256,o291)::(nat_lit 257,o292)::(nat_lit 259,o294)::(nat_lit 260,o295)::(nat_lit 262,o297)::(nat_lit 263,o298)::(nat_lit 271,o308)::(nat_lit 272,o309)::(nat_lit 274,o311)::(nat_lit 275,o312)::(nat_lit 277,o314)::(nat_lit 278,o315)::(nat_lit 279,o316)::(nat_lit 281,o318)::(nat_lit 282,o319)::(nat_lit 284,o321)::(nat_lit 285,o322)::(nat_lit 286,o323)::(nat_lit 288,o325)::(nat_lit 289,o326)::(nat_lit 291,o328)::(nat_lit 292,o329)::(nat_lit 293,o330)::(nat_lit 295,o332)::(nat_lit 296,o333)::(nat_lit 298,o335)::(nat_lit 299,o336)::(nat_lit 300,o337)::(nat_lit 302,o339)::(nat_lit 303,o340)::(nat_lit 305,o342)::(nat_lit 306,o343)::(nat_lit 307,o344)::(nat_lit 309,o346)::(nat_lit 310,o347)::(nat_lit 312,o349)::(nat_lit 313,o350)::(nat_lit 314,o351)::(nat_lit 316,o353)::(nat_lit 317,o354)::(nat_lit 319,o356)::(nat_lit 320,o357)::(nat_lit 321,o358)::(nat_lit 323,o360)::(nat_lit 324,o361)::(nat_lit 326,o363)::(nat_lit 327,o364)::(nat_lit 328,o365)::(nat_lit 329,o366 P)::(nat_lit 330,o367)::(nat_lit 331,o368)::(nat_lit 332,o369)::(nat_lit 335,o374)::(nat_lit 337,o376)::(nat_lit 338,o377)::(nat_lit 340,o379)::(nat_lit 341,o380)::(nat_lit 342,o381)::(nat_lit 344,o383)::(nat_lit 345,o384)::(nat_lit 347,o386)::(nat_lit 348,o387)::(nat_lit 349,o388)::(nat_lit 351,o390)::(nat_lit 352,o391)::(nat_lit 354,o393)::(nat_lit 355,o394)::(nat_lit 363,o404)::(nat_lit 364,o405)::(nat_lit 367,o408)::(nat_lit 368,o409)::(nat_lit 369,o410)::(nat_lit 371,o412)::(nat_lit 372,o413)::(nat_lit 374,o415)::(nat_lit 375,o416)::(nat_lit 376,o417)::(nat_lit 378,o419)::(nat_lit 379,o420)::(nat_lit 381,o422)::(nat_lit 382,o423)::(nat_lit 383,o424)::(nat_lit 385,o426)::(nat_lit 386,o427)::(nat_lit 388,o429)::(nat_lit 389,o430)::(nat_lit 390,o431)::(nat_lit 392,o433)::(nat_lit 393,o434)::(nat_lit 395,o436)::(nat_lit 396,o437)::(nat_lit 397,o438)::(nat_lit 399,o440)::(nat_lit 400,o441)::(nat_lit 402,o443)::(nat_lit 403,o444)::(nat_lit 404,o445)::(nat_lit 406,o447)::(nat_lit 407,o448)::(nat_lit 409,o450)::(nat_lit 410,o451)::(nat_lit 411,o452)::(nat_lit 413,o454)::(nat_lit 414,o455)::(nat_lit 416,o457)::(nat_lit 417,o458)::(nat_lit 418,o459)::(nat_lit 420,o461)::(nat_lit 421,o462)::(nat_lit 423,o464)::(nat_lit 424,o465)::(nat_lit 425,o466)::(nat_lit 427,o468)::(nat_lit 428,o469)::(nat_lit 430,o471)::(nat_lit 431,o472)::(nat_lit 432,o473)::(nat_lit 434,o475)::(nat_lit 435,o476)::(nat_lit 437,o478)::(nat_lit 438,o479)::(nat_lit 439,o480)::(nat_lit 441,o482)::(nat_lit 442,o483)::(nat_lit 444,o485)::(nat_lit 445,o486)::(nat_lit 446,o487)::(nat_lit 447,o488 P)::(nat_lit 448,o489)::(nat_lit 449,o490)::(nat_lit 450,o491)::(nat_lit 453,o496)::(nat_lit 456,o499)::(nat_lit 457,o500)::(nat_lit 458,o501)::(nat_lit 461,o504)::(nat_lit 462,o505)::(nat_lit 463,o506)::(nat_lit 465,o508)::(nat_lit 466,o509)::(nat_lit 468,o511)::(nat_lit 469,o512)::(nat_lit 477,o522)::(nat_lit 479,o524)::(nat_lit 480,o525)::(nat_lit 482,o527)::(nat_lit 483,o528)::(nat_lit 484,o529)::(nat_lit 486,o531)::(nat_lit 487,o532)::(nat_lit 489,o534)::(nat_lit 490,o535)::(nat_lit 491,o536)::(nat_lit 493,o538)::(nat_lit 494,o539)::(nat_lit 496,o541)::(nat_lit 497,o542)::(nat_lit 498,o543)::(nat_lit 500,o545)::(nat_lit 501,o546)::(nat_lit 503,o548)::(nat_lit 504,o549)::(nat_lit 505,o550)::(nat_lit 508,o553)::(nat_lit 509,o554)::(nat_lit 510,o555)::(nat_lit 512,o557)::(nat_lit 513,o558)::(nat_lit 515,o560)::(nat_lit 516,o561)::(nat_lit 517,o562)::(nat_lit 519,o564)::(nat_lit 520,o565)::(nat_lit 522,o567)::(nat_lit 523,o568)::(nat_lit 524,o569)::(nat_lit 527,o572)::(nat_lit 528,o573)::(nat_lit 529,o574)::(nat_lit 531,o576)::(nat_lit 532,o577)::(nat_lit 534,o579)::(nat_lit 535,o580)::(nat_lit 536,o581)::(nat_lit 537,o582 P)::(nat_lit 538,o583)::(nat_lit 539,o584)::(nat_lit 540,o585)::(nat_lit 543,o590)::(nat_lit 545,o592)::(nat_lit 546,o593)::(nat_lit 548,o595)::(nat_lit 549,o596)::(nat_lit 550,o597)::(nat_lit 552,o599)::(nat_lit 553,o600)::(nat_lit 555,o602)::(nat_lit 556,o603)::(nat_lit 557,o604)::(nat_lit 560,o607)::(nat_lit 561,o608)::(nat_lit 562,o609)::(nat_lit 565,o612)::(nat_lit 566,o613)::(nat_lit 567,o614)::(nat_lit 570,o617)::(nat_lit 571,o618)::(nat_lit 572,o619)::(nat_lit 575,o622)::(nat_lit 576,o623)::(nat_lit 577,o624)::(nat_lit 580,o627)::(nat_lit 581,o628)::(nat_lit 582,o629)::(nat_lit 584,o631)::(nat_lit 585,o632)::(nat_lit 587,o634)::(nat_lit 588,o635)::(nat_lit 589,o636)::(nat_lit 592,o639)::(nat_lit 593,o640)::(nat_lit 594,o641)::(nat_lit 596,o643)::(nat_lit 597,o644)::(nat_lit 599,o646)::(nat_lit 600,o647)::(nat_lit 601,o648)::(nat_lit 603,o650)::(nat_lit 604,o651)::(nat_lit 606,o653)::(nat_lit 607,o654)::(nat_lit 608,o655)::(nat_lit 611,o658)::(nat_lit 612,o659)::(nat_lit 613,o660)::(nat_lit 615,o662)::(nat_lit 616,o663)::(nat_lit 618,o665)::(nat_lit 619,o666)::(nat_lit 620,o669)::(nat_lit 623,o672)::(nat_lit 624,o673)::(nat_lit 625,o674)::(nat_lit 628,o677)::(nat_lit 629,o678)::(nat_lit 630,o679)::(nat_lit 632,o681)::(nat_lit 633,o682)::(nat_lit 635,o684)::(nat_lit 636,o685)::(nat_lit 637,o686)::(nat_lit 640,o689)::(nat_lit 641,o690)::[]
def kl:List Addr:=[2,3,15,17,18,20,21,22,29,30,31,32,35,42,43,44,47,54,55,56,59,66,67,68,71,78,79,80,83,90,91,92,95,102,103,104,107,114,115,116,119,126,127,128,131,138,139,140,143,150,151,152,155,162,163,164,167,174,176,177,179,180,181,182,183,186,193,195,196,198,199,200,201,202,205,212,214,215,217,218,219,220,221,224,226,227,229,230,231,233,234,236,237,238,241,242,243,245,246,248,249,250,252,253,255,256,257,259,260,262,263,271,272,274,275,277,278,279,281,282,284,285,286,288,289,291,292,293,295,296,298,299,300,302,303,305,306,307,309,310,312,313,314,316,317,319,320,321,323,324,326,327,328,329,330,331,332,335,337,338,340,341,342,344,345,347,348,349,351,352,354,355,363,364,367,368,369,371,372,374,375,376,378,379,381,382,383,385,386,388,389,390,392,393,395,396,397,399,400,402,403,404,406,407,409,410,411,413,414,416,417,418,420,421,423,424,425,427,428,430,431,432,434,435,437,438,439,441,442,444,445,446,447,448,449,450,453,456,457,458,461,462,463,465,466,468,469,477,479,480,482,483,484,486,487,489,490,491,493,494,496,497,498,500,501,503,504,505,508,509,510,512,513,515,516,517,519,520,522,523,524,527,528,529,531,532,534,535,536,537,538,539,540,543,545,546,548,549,550,552,553,555,556,557,560,561,562,565,566,567,570,571,572,575,576,577,580,581,582,584,585,587,588,589,592,593,594,596,597,599,600,601,603,604,606,607,608,611,612,613,615,616,618,619,620,623,624,625,628,629,630,632,633,635,636,637,640,641]
theorem kl_eq:∀ P,kl=(kk P).map (·.1):=by
 intro P
 kernel_rfl
abbrev hk:Hook:=kmHook kk kl kl_eq [631,530,638]
def xt (s:Shared):Bool:=xlAt vw [] s&&recOk (RowW.records (OpenRow.toRowW (OpenLaw.row PySem.Challenge.rw_roomward_k22_rooms_come_to))) s
theorem looks:∀ w:World,(fun os=>((staticsOk (importedModules pp.main.body) (boot_heap w.params) (Hf w.params)&&namesBound pp (Hf w.params)&&gensDone (Hd.Sh Hf 1023 w os)&&laidKept (boot_heap w.params) (Hf w.params)),
  Hd.fSeen vw [] (importedModules pp.main.body) xt true (Hd.Sh Hf 1023 w os),hk.obs (Hd.Sh Hf 1023 w os)))=fun _=>(true,openGood vw [],hk.val w):=by
 intro w
 kernel_rfl
theorem aJk:[tp 0,tp 1,tp 2]++([tp 3]++([tp 4]++([tp 5]++([tp 6]++([tp 7]++([tp 8]++([tp 9]++([tp 10]++([tp 11]++([tp 12]++([tp 13]++([tp 14]++([tp 15]++([tp 16,tp 17,tp 18,tp 19,tp 20,tp 21,tp 22,tp 23,tp 24,tp 25]++([tp 26,tp 27,tp 28]++([tp 29]++([tp 30,tp 31,tp 32,tp 33,tp 34]++([tp 35]++([tp 36,tp 37,tp 38,tp 39,tp 40]++([tp 41]++([tp 42,tp 43,tp 44,tp 45,tp 46,tp 47,tp 48,tp 49,tp 50,tp 51,tp 52,tp 53,tp 54,tp 55]++([tp 56,tp 57,tp 58,tp 59]++[]))))))))))))))))))))))=behindTheImports pp:=by
 kernel_rfl
theorem left:LeftO pp vw [] xt hk.obs hk.val 11622 true:=
 Hd.left_of (by kernel_rfl) (fun s=>by kernel_rfl) (by decide) (by decide) (Hd.top_run pre blk aJk (pc1.run (pc2.run (pc3.run (pc4.run (pc5.run (pc6.run (pc7.run (pc8.run (pc9.run (pc10.run (pc11.run (pc12.run (pc13.run (pc14.run (pc15.run (pc16.run (pc17.run (pc18.run (pc19.run (pc20.run (pc21.run (pc22.run (pc23.run fin.run)))))))))))))))))))))))) looks
end
end K22H
open PySem PySem.W PyProof.Rows
set_option maxRecDepth 100000 in
set_option maxHeartbeats 0 in
theorem PySem.Challenge.cw_roomward_k22_rooms_come_to_holds : PySem.Challenge.rw_roomward_k22_rooms_come_to.Holds := by
 w_on; o_law
 refine holds_open (q:=K22H.vw) (loose:=[]) (Xt:=K22H.xt) (XP:=XL K22H.vw [])
  (Yf:=Hook.obs (kmHook K22H.kk K22H.kl K22H.kl_eq [631,530,638])) (Ya:=Hook.val (kmHook K22H.kk K22H.kl K22H.kl_eq [631,530,638])) (YP:=Hook.says (kmHook K22H.kk K22H.kl K22H.kl_eq [631,530,638]))
  (N:=11622) K22H.left (Hook.of (kmHook K22H.kk K22H.kl K22H.kl_eq [631,530,638])) (Hook.keeps (kmHook K22H.kk K22H.kl K22H.kl_eq [631,530,638])) ?x XL.keeps (by rfl) (by rfl) (by rfl) ?f ?wr ?k1 ?ok ?b ?hw ?hc
 case x=>exact fun s e=>xl_of s (Bool.and_eq_true_iff.mp e).1
 case f=>exact fun s e=>recFacts_of (Bool.and_eq_true_iff.mp e).2
 case wr=>rfl
 case k1=>first
  | assumption
  | decide +kernel
 case ok=>decide +kernel
 case b=>exact⟨rfl,rfl,rfl,rfl,rfl,by decide +kernel⟩
 case hw=>w_witness2
 k_fill
 refine' K22.walk (c0:=640) (c1:=635) (c2:=534) (l:=PySem.Challenge.rw_roomward_k22_rooms_come_to) 638 631 530 rfl rfl (by decide) (fun w h Y=>⟨PySem.W.km_in_of Y,fun p hp=>PySem.W.km_tabs_of Y p hp⟩) ?F ?hK
 case F=>
  intro w mg fa h KX G hmg
  refine' K22.all_mk KX G hmg ?a1 ?l1 ?c1 ?k1 ?a2 ?l2 ?c2 ?k2 ?a3 ?l3 ?c3 ?k3 ?a4 ?l4 ?c4 ?k4 ?a5 ?l5 ?c5 ?k5 ?a6 ?l6 ?c6 ?k6 ?a7 ?l7 ?c7 ?k7 ?a8 ?l8 ?c8 ?k8 ?a9 ?l9 ?c9 ?k9 ?a10 ?l10 ?c10 ?k10 ?a11 ?l11 ?c11 ?k11 ?a12 ?l12 ?c12 ?k12 ?a13 ?l13 ?c13 ?k13 ?a14 ?l14 ?c14 ?k14 ?a15 ?l15 ?c15 ?k15 ?a16 ?l16 ?c16 ?k16 ?a17 ?l17 ?c17 ?k17 ?a18 ?l18 ?c18 ?k18 ?a19 ?l19 ?c19 ?k19 ?a20 ?l20 ?c20 ?k20 ?a21 ?l21 ?c21 ?k21 ?a22 ?l22 ?c22 ?k22 ?a23 ?l23 ?c23 ?k23 ?a24 ?l24 ?c24 ?k24 ?a25 ?l25 ?c25 ?k25 ?a26 ?l26 ?c26 ?k26 ?a27 ?l27 ?c27 ?k27 ?a28 ?l28 ?c28 ?k28 ?a29 ?l29 ?c29 ?k29 ?aC ?qm0 ?lm0 ?cm0 ?km0 ?nm0 ?qm1 ?lm1 ?cm1 ?km1 ?nm1 ?aM ?qM0 ?lM0 ?cM0 ?kM0 ?nM0 ?qM1 ?lM1 ?cM1 ?kM1 ?nM1 ?qM2 ?lM2 ?cM2 ?kM2 ?nM2 ?qM3 ?lM3 ?cM3 ?kM3 ?nM3 ?aV ?qV0 ?lV0 ?cV0 ?kV0 ?nV0 ?qV1 ?lV1 ?cV1 ?kV1 ?nV1 ?qV2 ?lV2 ?cV2 ?kV2 ?nV2 ?qV3 ?lV3 ?cV3 ?kV3 ?nV3 ?qV4 ?lV4 ?cV4 ?kV4 ?nV4 ?qV5 ?lV5 ?cV5 ?kV5 ?nV5 ?qV6 ?lV6 ?cV6 ?kV6 ?nV6 ?qV7 ?lV7 ?cV7 ?kV7 ?nV7 ?mkV ?kpV ?pgV ?hdV ?poV ?saV ?nV0_ ?nV1_ ?qMI ?lMI ?cMI ?kMI ?nMI ?lE ?mkM ?kpM ?pgM ?hdM ?poM ?saM ?nM0_ ?nM1_ ?nM2_ ?nM3_ ?nM4_ ?qI ?lI ?cI ?kI ?nI ?lT ?mkC ?kpC ?pgC ?hdC ?poC ?saC ?nwC ?nfC ?e0 ?e1 ?e2 ?e3 ?e4 ?e5 ?e6 ?e7 ?e8 ?e9 ?e10 ?e11 ?e12 ?e13 ?eW ?xa0 ?xa1 ?xa3 ?xa4 ?xb4 ?xc4 ?xd4 ?xe4 ?xf4 ?kt ?kv ?kw ?hhd ?hh1 ?hh2 ?cst0 ?cst1 ?cst2 ?cst3 ?cst4 ?cst5 ?z0 ?z1 ?z2 ?z3 ?z4 ?z5 ?z6 ?z7 ?z8 ?z9 ?z10 ?z11 ?z12
  (case a1=>k_is)
  (case l1=>k_is)
  (case c1=>k_is)
  (case k1=>k_is)
  (case a2=>k_is)
  (case l2=>k_is)
  (case c2=>k_is)
  (case k2=>k_is)
  (case a3=>k_is)
  (case l3=>k_is)
  (case c3=>k_is)
  (case k3=>k_is)
  (case a4=>k_is)
  (case l4=>k_is)
  (case c4=>k_is)
  (case k4=>k_is)
  (case a5=>k_is)
  (case l5=>k_is)
  (case c5=>k_is)
  (case k5=>k_is)
  (case a6=>k_is)
  (case l6=>k_is)
  (case c6=>k_is)
  (case k6=>k_is)
  (case a7=>k_is)
  (case l7=>k_is)
  (case c7=>k_is)
  (case k7=>k_is)
  (case a8=>k_is)
  (case l8=>k_is)
  (case c8=>k_is)
  (case k8=>k_is)
  (case a9=>k_is)
  (case l9=>k_is)
  (case c9=>k_is)
  (case k9=>k_is)
  (case a10=>k_is)
  (case l10=>k_is)
  (case c10=>k_is)
  (case k10=>k_is)
  (case a11=>k_is)
  (case l11=>k_is)
  (case c11=>k_is)
  (case k11=>k_is)
  (case a12=>k_is)
  (case l12=>k_is)
  (case c12=>k_is)
  (case k12=>k_is)
  (case a13=>k_is)
  (case l13=>k_is)
  (case c13=>k_is)
  (case k13=>k_is)
  (case a14=>k_is)
  (case l14=>k_is)
  (case c14=>k_is)
  (case k14=>k_is)
  (case a15=>k_is)
  (case l15=>k_is)
  (case c15=>k_is)
  (case k15=>k_is)
  (case a16=>k_is)
  (case l16=>k_is)
  (case c16=>k_is)
  (case k16=>k_is)
  (case a17=>k_is)
  (case l17=>k_is)
  (case c17=>k_is)
  (case k17=>k_is)
  (case a18=>k_is)
  (case l18=>k_is)
  (case c18=>k_is)
  (case k18=>k_is)
  (case a19=>k_is)
  (case l19=>k_is)
  (case c19=>k_is)
  (case k19=>k_is)
  (case a20=>k_is)
  (case l20=>k_is)
  (case c20=>k_is)
  (case k20=>k_is)
  (case a21=>k_is)
  (case l21=>k_is)
  (case c21=>k_is)
  (case k21=>k_is)
  (case a22=>k_is)
  (case l22=>k_is)
  (case c22=>k_is)
  (case k22=>k_is)
  (case a23=>k_is)
  (case l23=>k_is)
  (case c23=>k_is)
  (case k23=>k_is)
  (case a24=>k_is)
  (case l24=>k_is)
  (case c24=>k_is)
  (case k24=>k_is)
  (case a25=>k_is)
  (case l25=>k_is)
  (case c25=>k_is)
  (case k25=>k_is)
  (case a26=>k_is)
  (case l26=>k_is)
  (case c26=>k_is)
  (case k26=>k_is)
  (case a27=>k_is)
  (case l27=>k_is)
  (case c27=>k_is)
  (case k27=>k_is)
  (case a28=>k_is)
  (case l28=>k_is)
  (case c28=>k_is)
  (case k28=>k_is)
  (case a29=>k_is)
  (case l29=>k_is)
  (case c29=>k_is)
  (case k29=>k_is)
  (case aC=>k_is)
  (case qm0=>k_is)
  (case lm0=>k_is)
  (case cm0=>k_is)
  (case km0=>k_is)
  (case nm0=>k_is)
  (case qm1=>k_is)
  (case lm1=>k_is)
  (case cm1=>k_is)
  (case km1=>k_is)
  (case nm1=>k_is)
  (case aM=>k_is)
  (case qM0=>k_is)
  (case lM0=>k_is)
  (case cM0=>k_is)
  (case kM0=>k_is)
  (case nM0=>k_is)
  (case qM1=>k_is)
  (case lM1=>k_is)
  (case cM1=>k_is)
  (case kM1=>k_is)
  (case nM1=>k_is)
  (case qM2=>k_is)
  (case lM2=>k_is)
  (case cM2=>k_is)
  (case kM2=>k_is)
  (case nM2=>k_is)
  (case qM3=>k_is)
  (case lM3=>k_is)
  (case cM3=>k_is)
  (case kM3=>k_is)
  (case nM3=>k_is)
  (case aV=>k_is)
  (case qV0=>k_is)
  (case lV0=>k_is)
  (case cV0=>k_is)
  (case kV0=>k_is)
  (case nV0=>k_is)
  (case qV1=>k_is)
  (case lV1=>k_is)
  (case cV1=>k_is)
  (case kV1=>k_is)
  (case nV1=>k_is)
  (case qV2=>k_is)
  (case lV2=>k_is)
  (case cV2=>k_is)
  (case kV2=>k_is)
  (case nV2=>k_is)
  (case qV3=>k_is)
  (case lV3=>k_is)
  (case cV3=>k_is)
  (case kV3=>k_is)
  (case nV3=>k_is)
  (case qV4=>k_is)
  (case lV4=>k_is)
  (case cV4=>k_is)
  (case kV4=>k_is)
  (case nV4=>k_is)
  (case qV5=>k_is)
  (case lV5=>k_is)
  (case cV5=>k_is)
  (case kV5=>k_is)
  (case nV5=>k_is)
  (case qV6=>k_is)
  (case lV6=>k_is)
  (case cV6=>k_is)
  (case kV6=>k_is)
  (case nV6=>k_is)
  (case qV7=>k_is)
  (case lV7=>k_is)
  (case cV7=>k_is)
  (case kV7=>k_is)
  (case nV7=>k_is)
  (case mkV=>k_is)
  (case kpV=>k_is)
  (case pgV=>k_is)
  (case hdV=>k_is)
  (case poV=>k_is)
  (case saV=>k_is)
  (case nV0_=>k_is)
  (case nV1_=>k_is)
  (case qMI=>k_is)
  (case lMI=>k_is)
  (case cMI=>k_is)
  (case kMI=>k_is)
  (case nMI=>k_is)
  (case lE=>k_is)
  (case mkM=>k_is)
  (case kpM=>k_is)
  (case pgM=>k_is)
  (case hdM=>k_is)
  (case poM=>k_is)
  (case saM=>k_is)
  (case nM0_=>k_is)
  (case nM1_=>k_is)
  (case nM2_=>k_is)
  (case nM3_=>k_is)
  (case nM4_=>k_is)
  (case qI=>k_is)
  (case lI=>k_is)
  (case cI=>k_is)
  (case kI=>k_is)
  (case nI=>k_is)
  (case lT=>k_is)
  (case mkC=>k_is)
  (case kpC=>k_is)
  (case pgC=>k_is)
  (case hdC=>k_is)
  (case poC=>k_is)
  (case saC=>k_is)
  (case nwC=>k_is)
  (case nfC=>k_is)
  (case e0=>k_is)
  (case e1=>k_is)
  (case e2=>k_is)
  (case e3=>k_is)
  (case e4=>k_is)
  (case e5=>k_is)
  (case e6=>k_is)
  (case e7=>k_is)
  (case e8=>k_is)
  (case e9=>k_is)
  (case e10=>k_is)
  (case e11=>k_is)
  (case e12=>k_is)
  (case e13=>k_is)
  (case eW=>k_is)
  (case xa0=>kernel_rfl)
  (case xa1=>kernel_rfl)
  (case xa3=>kernel_rfl)
  (case xa4=>kernel_rfl)
  (case xb4=>k_is)
  (case xc4=>k_is)
  (case xd4=>k_is)
  (case xe4=>k_is)
  (case xf4=>k_is)
  (case kt=>kernel_rfl)
  (case kv=>kernel_rfl)
  (case kw=>kernel_rfl)
  (case hhd=>kernel_rfl)
  (case hh1=>kernel_rfl)
  (case hh2=>kernel_rfl)
  (case cst0=>k_is)
  (case cst1=>k_is)
  (case cst2=>k_is)
  (case cst3=>k_is)
  (case cst4=>k_is)
  (case cst5=>k_is)
  (case z0=>k_is)
  (case z1=>k_is)
  (case z2=>k_is)
  (case z3=>k_is)
  (case z4=>k_is)
  (case z5=>k_is)
  (case z6=>k_is)
  (case z7=>k_is)
  (case z8=>k_is)
  (case z9=>k_is)
  (case z10=>k_is)
  (case z11=>k_is)
  (case z12=>k_is)
 case hK=>
  intro w p hp;rcases List.mem_cons.mp hp with rfl | hp
  ·exact⟨by kernel_rfl,by kernel_rfl⟩
  rcases List.mem_cons.mp hp with rfl | hp
  ·exact⟨by kernel_rfl,by kernel_rfl⟩
  rw[List.mem_singleton.mp hp];exact⟨by kernel_rfl,by kernel_rfl⟩

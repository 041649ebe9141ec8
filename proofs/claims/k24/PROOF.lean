import PyProof.Rows.All
import Wide.All
import OpenK.AllK
import Wide.FinOn
import Lean
import PyProof.EqAt
import PyProof.EqKinds
import PyProof.TupleCall
import PyProof.NeKinds
import PyProof.Rows.SetFrom
import PyProof.SetRoads
import PyProof.FactsAll.dict_keyiterator
import PyProof.DictIter
import PyProof.DictWalks
import KE.KDictSum
import PyProof.InstEq
import KE.KFmtOwn
import PyProof.ZipIter
import PyProof.Rows.ZipGen
import KE.KRevSl
import PyProof.SumWalk
import PySem.Challenge.RW_roomward_k24_whole_woven_rows
set_option Elab.async false
set_option linter.all false
set_option maxRecDepth 100000
set_option maxHeartbeats 4000000
noncomputable section
namespace L2
open PySem PySem.Spec PyProof.Rows

abbrev Key:=Sum Int Str
def pY:Key->Value->Bool
 | .inl k,v=>Value.isInt k v
 | .inr x,v=>Value.isStrOf x v
def aPb (w:World):Key->Int
 | .inl k=>hashInt k
 | .inr x=>hashStr w x
theorem dG:∀ {k:Key}{v:Value},pY k v=true->(∃ i t,k=Sum.inl i∧v=Value.int i t)∨(∃ x t,k=Sum.inr x∧v=Value.str x t)
 | .inl i,v,h=>by
  obtain⟨t,e⟩:=Value.isInt_shape (k:=i) (v:=v) h;exact .inl ⟨i,t,rfl,e⟩
 | .inr x,v,h=>by
  obtain⟨t,e⟩:=Value.isStrOf_shape (x:=x) (v:=v) h;exact .inr ⟨x,t,rfl,e⟩
theorem aCn (i:Int) (t:Tok):pY (.inl i) (.int i t)=true:=by simp[pY,Value.isInt]
theorem aCm (x:Str) (t:Tok):pY (.inr x) (.str x t)=true:=by simp[pY,Value.isStrOf]
theorem aKt (a b:Int):decide ((Sum.inl a:Key)=Sum.inl b)=(a==b):=by
 by_cases e:a=b
 ·subst e; simp
 ·have h:¬ (Sum.inl a:Key)=Sum.inl b:=fun q=>e (Sum.inl.inj q);rw[decide_eq_false h];exact (beq_eq_false_iff_ne.mpr e).symm
theorem aKq (a b:Str):decide ((Sum.inr a:Key)=Sum.inr b)=decide (a=b):=by
 by_cases e:a=b
 ·subst e; simp
 ·have h:¬ (Sum.inr a:Key)=Sum.inr b:=fun q=>e (Sum.inr.inj q);rw[decide_eq_false h,decide_eq_false e]
theorem aKs (a:Int) (b:Str):decide ((Sum.inl a:Key)=Sum.inr b)=false:=decide_eq_false (fun q=>nomatch q)
theorem aKr (a:Str) (b:Int):decide ((Sum.inr a:Key)=Sum.inl b)=false:=decide_eq_false (fun q=>nomatch q)

def dE (prog:Program) (w:World):PySem.KeyKind prog w Key where
 is:=pY
 hash:=aPb w
 inj:=fun v a b ha hb=>by
  rcases dG ha with⟨i,t,rfl,rfl⟩ | ⟨x,t,rfl,rfl⟩
  ·rcases dG hb with⟨j,u,rfl,e⟩ | ⟨y,u,rfl,e⟩
   ·injection e with e1 _; rw[e1]
   ·exact nomatch e
  ·rcases dG hb with⟨j,u,rfl,e⟩ | ⟨y,u,rfl,e⟩
   ·exact nomatch e
   ·injection e with e1 _; rw[e1]
 byValue:=fun k v h=>by
  rcases dG h with⟨i,t,rfl,rfl⟩ | ⟨x,t,rfl,rfl⟩ <;> rfl
 pyHash:=fun hv h=>by
  rcases dG hv with⟨i,t,rfl,rfl⟩ | ⟨x,t,rfl,rfl⟩
  ·exact wpAny_pyHash_int h
  ·exact wpAny_pyHash_str h
 eqBool:=fun hu hv h=>by
  rcases dG hu with⟨i,t,rfl,rfl⟩ | ⟨x,t,rfl,rfl⟩
  ·rcases dG hv with⟨j,u,rfl,rfl⟩ | ⟨y,u,rfl,rfl⟩
   ·rw[aKt] at h; exact wpAny_eqBool_int h
   ·rw[aKs] at h; exact SeqAt.EqAt.int_str i t y u _ _ _ _ h
  ·rcases dG hv with⟨j,u,rfl,rfl⟩ | ⟨y,u,rfl,rfl⟩
   ·rw[aKr] at h; exact SeqAt.EqAt.str_int x t j u _ _ _ _ h
   ·rw[aKq] at h; exact wpAny_eqBool_str h
 «strs»:=fun k x t v h=>by
  rcases dG h with⟨i,u,rfl,e⟩ | ⟨y,u,rfl,e⟩
  ·exact nomatch e
  ·injection e with e1 _;subst e1;cases v <;> rfl

theorem xE (prog:Program) (w:World) (i:Int) (t:Tok):(dE prog w).is (.inl i) (.int i t)=true:=aCn i t
theorem xD (prog:Program) (w:World) (x:Str) (t:Tok):(dE prog w).is (.inr x) (.str x t)=true:=aCm x t
end L2

namespace L2
open PySem PySem.Spec PyProof.Rows

inductive V where
 | non | bl (b:Bool) | int (i:Int) | str (x:Str) | byt (b:Array UInt8) | flt (b:UInt64) | ref (a:Addr) | ty (n:String)
 deriving DecidableEq

def cG:V->Value->Prop
 | .non,u=>u=Value.none
 | .bl b,u=>u=Value.bool b
 | .int i,u=>∃ t,u=Value.int i t
 | .str x,u=>∃ t,u=Value.str x t
 | .byt b,u=>∃ t,u=Value.bytes b t
 | .flt b,u=>∃ t,u=Value.float b t
 | .ref a,u=>u=Value.ref a
 | .ty n,u=>u=Value.type n

abbrev cA:List V->List Value->Prop:=Paired cG
theorem cA.length {xs:List V}{us:List Value}(r:cA xs us):xs.length=us.length:=Paired.length r
theorem cA.get:∀ {xs:List V}{us:List Value}{i:Nat}{x:V},cA xs us->xs[i]?=some x->∃ u,us[i]?=some u∧cG x u
 | _,_,_,_,.nil,e=>by simp at e
 | _,_,0,_,.cons r _,e=>by simp at e; subst e; exact⟨_,rfl,r⟩
 | _,_,i+1,x,.cons _ t,e=>by
  obtain⟨u,h1,h2⟩:=cA.get (i:=i) (x:=x) t (by simpa using e);exact⟨u,by simpa using h1,h2⟩
theorem cA.append:∀ {xs ys:List V}{us ws:List Value},cA xs us->cA ys ws->cA (xs++ys) (us++ws)
 | _,_,_,_,.nil,s=>s
 | _,_,_,_,.cons r t,s=>.cons r (cA.append t s)
theorem cA.take:∀ {xs:List V}{us:List Value}(n:Nat),cA xs us->cA (xs.take n) (us.take n)
 | _,_,0,_=>.nil
 | _,_,_+1,.nil=>.nil
 | _,_,n+1,.cons r t=>.cons r (cA.take n t)
theorem cA.drop:∀ {xs:List V}{us:List Value}(n:Nat),cA xs us->cA (xs.drop n) (us.drop n)
 | _,_,0,r=>r
 | _,_,_+1,.nil=>.nil
 | _,_,n+1,.cons _ t=>cA.drop n t

def jP:Option V->Option Value->Prop
 | some v,some u=>cG v u
 | none,none=>True
 | _,_=>False
def KV {κ:Type}:List (κ×V)->List (κ×Value)->Prop:=Paired fun (p:κ×V) (q:κ×Value)=>p.1=q.1∧cG p.2 q.2

def kV:Key->V
 | .inl i=>.int i
 | .inr x=>.str x

inductive HO where
  | lst (xs:List V)
  | tup (xs:List V)
  | dK (kvs:List (Key×V)) | dT (kvs:List (List Key×V))
  | set (S:Int->Bool) (n:Nat)
  | ins (C dx:Addr) (fs:List (Str×V))
  | own (x:Addr)
  | xd (fs:List (Str×V))
  | met (f x:Addr)
  | rng (lo hi:Int)
  | frz (o:Obj) (u:HO)
  | tbl (ps:Array Value)
  | ext (φ:Heap->Prop)

abbrev Hp:=Addr->Option HO
def upd (H:Hp) (a:Addr) (o:HO):Hp:=fun b=>if b=a then some o else H b
theorem aE {H:Hp}{a:Addr}{o:HO}:upd H a o a=some o:=by unfold upd; rw[if_pos rfl]
theorem aH {H:Hp}{a b:Addr}{o:HO}(h:b≠a):upd H a o b=H b:=by unfold upd; rw[if_neg h]
theorem eP {H:Hp}{a b:Addr}{o u:HO}(h:H a=some o) (h':H b=some u) (d:o≠u):a≠b:=by
 intro e; subst e; rw[h] at h'; exact d (Option.some.inj h')
theorem aI {H:Hp}{a b:Addr}{o:HO}(h:H a=some o) (h':H b=none):a≠b:=by
 intro e; subst e; rw[h] at h'; cases h'

section
variable (P:Program) (w:World)
def dA (H:Hp) (h:Heap) (a:Addr):HO->Prop
 | .lst xs=>xs.length<=sizeLine∧∃ (its:List Value) (n:Nat),cA xs its∧h.get? a=some { cls:=.type "list",data:=.seq its.toArray n }
 | .tup xs=>xs.length<=sizeLine∧∃ its:List Value,cA xs its∧IsTup h a its.toArray
 | .dK kvs=>kvs.length<=sizeLine∧(a==sysModules)=false∧∃ vs,KV kvs vs∧h.DictOf (dE P w) a vs
 | .dT kvs=>kvs.length<=sizeLine∧(a==sysModules)=false∧∃ xs:List (List Key×Addr×Value),
   Paired (fun (p:List Key×V) (q:List Key×Addr×Value)=>p.1=q.1∧H q.2.1=some (.tup (p.1.map kV))∧cG p.2 q.2.2) kvs xs ∧
   ∃ o es ep,h.get? a=some o∧o.ExactDict∧o.data=.dict es ep∧es.toList=xs.map (entryOfKey (tupleKind (dE P w)))∧(xs.map (·.1)).Nodup
 | .set S n=>h.SetOf (intKind P w) a S n
 | .ins C dx fs=>H dx=some (.own a)∧fs.length<=1000∧dx≠a∧h.get? a=some (PySem.W.instObj C dx) ∧
   ∃ mA,h.Ns1 dx mA∧(∀ f,jP (fs.lookup f) (mA f))∧PySem.Within mA (fs.map (·.1))
 | .own _=>∃ o,h.get? a=some o
 | .xd fs=>∃ mA,h.Ns1 a mA∧∀ f,jP (fs.lookup f) (mA f)
 | .rng lo hi=>∃ t u v,h.get? a=some { cls:=.type "range",data:=.fields #[.int lo t,.int hi u,.int 1 v] }
 | .frz o u=>h.get? a=some o∧dA H h a u
 | .tbl ps=>h.get? a=some { cls:=.none,data:=.fields ps }
 | .met f x=>h.get? a=some (PySem.W.methodObj (.ref f) (.ref x))
 | .ext φ=>φ h∧(∃ o,h.get? a=some o)∧∀ h1 h2:Heap,φ h1->(∀ o,h1.get? a=some o->h2.get? a=some o)->φ h2
def HOk (H:Hp) (h:Heap):Prop:=∀ a o,H a=some o->dA P w H h a o
end

section
variable {P:Program}{w:World}{H H':Hp}{h h':Heap}{a:Addr}{o:HO}
theorem dA.lt (x:dA P w H h a o):a<h.objs.size:=by
 cases o with
 | lst xs=>obtain⟨_,_,_,_,e⟩:=x; exact Heap.lt_size e
 | tup xs=>obtain⟨_,_,_,p⟩:=x; exact p.lt
 | dK kvs=>obtain⟨_,_,_,_,o,_,_,e,_⟩:=x; exact Heap.lt_size e
 | dT kvs=>obtain⟨_,_,_,_,o,_,_,e,_⟩:=x; exact Heap.lt_size e
 | set S n=>obtain⟨o,_,_,_,e,_⟩:=x; exact Heap.lt_size e
 | ins C dx fs=>obtain⟨_,_,_,e,_⟩:=x; exact Heap.lt_size e
 | own y=>obtain⟨_,e⟩:=x; exact Heap.lt_size e
 | xd fs=>obtain⟨_,⟨_,_,_,e,_⟩,_⟩:=x; exact Heap.lt_size e
 | rng lo hi=>obtain⟨_,_,_,e⟩:=x; exact Heap.lt_size e
 | frz ob u=>obtain⟨e,_⟩:=x; exact Heap.lt_size e
 | tbl ps=>exact Heap.lt_size (show h.get? a=some _ from x)
 | met f y=>exact Heap.lt_size (show h.get? a=some _ from x)
 | ext φ=>obtain⟨_,⟨_,e⟩,_⟩:=x; exact Heap.lt_size e
theorem Paired.mapP {α β:Type}{F G:α->β->Prop}:∀ {l₁:List α}{l₂:List β},Paired F l₁ l₂->(∀ a b,F a b->G a b)->Paired G l₁ l₂
 | _,_,.nil,_=>.nil
 | _,_,.cons r t,f=>.cons (f _ _ r) (Paired.mapP t f)
theorem dA.stay (x:dA P w H h a o) (k:∀ b u,(b=a∨H b=some (.own a))->h.get? b=some u->h'.get? b=some u)
  (ho:∀ b,H b=some (.own a)->H' b=some (.own a)) (ht:∀ b xs,H b=some (.tup xs)->H' b=some (.tup xs)):dA P w H' h' a o:=by
 induction o with
 | lst xs=>obtain⟨z,its,n,r,e⟩:=x; exact⟨z,its,n,r,k _ _ (.inl rfl) e⟩
 | tup xs=>obtain⟨z,its,r,ob,e,c⟩:=x; exact⟨z,its,r,ob,k _ _ (.inl rfl) e,c⟩
 | dK kvs=>obtain⟨z,y,vs,r,ob,es,ep,e,c⟩:=x; exact⟨z,y,vs,r,ob,es,ep,k _ _ (.inl rfl) e,c⟩
 | dT kvs=>
  obtain⟨z,y,xs,r,ob,es,ep,e,c⟩:=x;exact⟨z,y,xs,Paired.mapP r fun p q z=>⟨z.1,ht _ _ z.2.1,z.2.2⟩,ob,es,ep,k _ _ (.inl rfl) e,c⟩
 | set S n=>obtain⟨ob,es,ep,t,e,c⟩:=x; exact⟨ob,es,ep,t,k _ _ (.inl rfl) e,c⟩
 | ins C dx fs=>
  obtain⟨d,z,ne,e,mA,⟨od,es,ep,e2,c⟩,r⟩:=x;exact⟨ho _ d,z,ne,k _ _ (.inl rfl) e,mA,⟨od,es,ep,k _ _ (.inr d) e2,c⟩,r⟩
 | own y=>obtain⟨ob,e⟩:=x; exact⟨ob,k _ _ (.inl rfl) e⟩
 | xd fs=>obtain⟨mA,⟨od,es,ep,e,c⟩,r⟩:=x; exact⟨mA,⟨od,es,ep,k _ _ (.inl rfl) e,c⟩,r⟩
 | rng lo hi=>obtain⟨t,u,v,e⟩:=x; exact⟨t,u,v,k _ _ (.inl rfl) e⟩
 | frz ob u ih=>obtain⟨e,q⟩:=x; exact⟨k _ _ (.inl rfl) e,ih q⟩
 | tbl ps=>
  have e:h.get? a=some { cls:=.none,data:=.fields ps }:=x;show h'.get? a=some { cls:=.none,data:=.fields ps };exact k a _ (.inl rfl) e
 | met f y=>
  have e:h.get? a=some (PySem.W.methodObj (.ref f) (.ref y)):=x;show h'.get? a=some (PySem.W.methodObj (.ref f) (.ref y));exact k a _ (.inl rfl) e
 | ext φ=>obtain⟨p,⟨o,e⟩,st⟩:=x; exact⟨st _ _ p fun o q=>k _ _ (.inl rfl) q,⟨o,k _ _ (.inl rfl) e⟩,st⟩
theorem HOk.lt (x:HOk P w H h) (e:H a=some o):a<h.objs.size:=(x a o e).lt
theorem HOk.fresh (x:HOk P w H h) (e:h.objs.size<=a):H a=none:=by
 cases q:H a with
 | none=>rfl
 | some u=>exact absurd (Nat.lt_of_lt_of_le (x.lt q) e) (Nat.lt_irrefl _)
theorem HOk.kept (x:HOk P w H h) (k:∀ b u,h.get? b=some u->h'.get? b=some u):HOk P w H h':=fun a o e=>
 (x a o e).stay (fun b u _ q=>k b u q) (fun _ q=>q) fun _ _ q=>q
theorem HOk.laid (x:HOk P w H h) (k:∀ b u,h.get? b=some u->h'.get? b=some u) (hp:h.objs.size<=a) (new:dA P w (upd H a o) h' a o):HOk P w (upd H a o) h':=fun b u e=>by
 have hn:=x.fresh hp
 by_cases hb:b=a
 ·subst hb; rw[aE] at e; cases e; exact new
 ·rw[aH hb] at e;exact (x b u e).stay (fun c v _ q=>k c v q) (fun c q=>by rw[aH (aI q hn)]; exact q) fun c xs q=>by rw[aH (aI q hn)]; exact q
end

def Rd (H:Hp) (a:Addr) (u:HO):Prop:=H a=some u∨∃ o,H a=some (.frz o u)
theorem Rd.ok {P:Program}{w:World}{H:Hp}{h:Heap}{a:Addr}{u:HO}(r:Rd H a u) (x:HOk P w H h):dA P w H h a u:=by
 rcases r with r | ⟨o,r⟩
 ·exact x a u r
 ·obtain⟨_,q⟩:=x a _ r;exact q
def Mut:Option HO->Prop
 | some (.lst _)=>True
 | some (.dK _)=>True
 | some (.dT _)=>True
 | some (.set _ _)=>True
 | some (.ins _ _ _)=>True
 | some (.ext _)=>True
 | _=>False
section
variable {P:Program}{w:World}{H:Hp}{h h':Heap}{x e:Addr}{o':HO}
theorem HOk.write (ok:HOk P w H h) (mu:Mut (H x)) (he:e=x∨H e=some (.own x)) (k:∀ b u,b≠e->h.get? b=some u->h'.get? b=some u) (heo:∃ u,h'.get? e=some u)
  (new:dA P w (upd H x o') h' x o'):HOk P w (upd H x o') h':=fun b u q=>by
 have nown:∀ c y,H c=some (.own y)->c≠x:=fun c y r z=>by subst z; rw[r] at mu; exact mu
 have ntup:∀ c xs,H c=some (.tup xs)->c≠x:=fun c xs r z=>by subst z; rw[r] at mu; exact mu
 by_cases hb:b=x
 ·subst hb; rw[aE] at q; cases q; exact new
 ·rw[aH hb] at q
  by_cases hbe:b=e
  ·have q':H b=some (.own x):=by
    rcases he with z | z
    ·exact absurd (hbe.trans z) hb
    ·rw[hbe]; exact z
   rw[q] at q'; cases q';obtain⟨v,hv⟩:=heo;exact⟨v,by rw[hbe]; exact hv⟩
  ·refine (ok b u q).stay (fun c v hc r=>k c v ?_ r) (fun c r=>by rw[aH (nown c b r)]; exact r) fun c xs r=>by rw[aH (ntup c xs r)]; exact r
   rcases hc with rfl | hc
   ·exact hbe
   ·rintro rfl;rcases he with z | z
    ·exact nown c b hc z
    ·rw[hc] at z; cases z; exact hb rfl
end

structure Un (fs ex:List Addr) (H H':Hp) (h h':Heap):Prop where
 keep:∀ b o,h.get? b=some o->H b=none->b∉fs->b∉ex->h'.get? b=some o
 slot:∀ b o,h.get? b=some o->H b=none->b∈fs->b∉ex->∃ sl,h'.get? b=some { o with slots:=sl }
 free:∀ b o,h.get? b=some o->H b=none->b∉ex->H' b=none
 there:∀ b o,h.get? b=some o->b∉ex->∃ o',h'.get? b=some o'
 tups:∀ b xs,H b=some (.tup xs)->H' b=some (.tup xs)
 frzs:∀ b o u,H b=some (.frz o u)->H' b=some (.frz o u)
 tbls:∀ b ps,H b=some (.tbl ps)->∃ more,H' b=some (.tbl (ps++more))
section
variable {fs fs' ex ex':List Addr}{H H1 H2:Hp}{h h1 h2 h':Heap}{a x e:Addr}{o:HO}
theorem Un.any (u:Un fs ex H H1 h h1){b:Addr}{ob:Obj}(q:h.get? b=some ob) (n:H b=none) (hx:b∉ex):∃ sl,h1.get? b=some { ob with slots:=sl }:=by
 by_cases hb:b∈fs
 ·exact u.slot b ob q n hb hx
 ·exact⟨ob.slots,u.keep b ob q n hb hx⟩
theorem Un.kept (k:∀ b u,h.get? b=some u->h'.get? b=some u):Un fs ex H H h h':=
 ⟨fun b ob q _ _ _=>k b ob q,fun b ob q _ _ _=>⟨ob.slots,k b ob q⟩,fun _ _ _ n _=>n,fun b ob q _=>⟨ob,k b ob q⟩,fun _ _ q=>q,fun _ _ _ q=>q,fun _ ps q=>⟨#[],by rw[q]; simp⟩⟩
theorem Un.refl:Un fs ex H H h h:=Un.kept fun _ _ q=>q
theorem Un.laid (k:∀ b u,h.get? b=some u->h'.get? b=some u) (hp:h.objs.size<=a) (hn:H a=none):Un fs ex H (upd H a o) h h' where
 keep:=fun b u q _ _ _=>k b u q
 slot:=fun b u q _ _ _=>⟨u.slots,k b u q⟩
 free:=fun b u q n _=>by rw[aH (Nat.ne_of_lt (Nat.lt_of_lt_of_le (Heap.lt_size q) hp))]; exact n
 there:=fun b u q _=>⟨u,k b u q⟩
 tups:=fun b xs q=>by rw[aH (aI q hn)]; exact q
 frzs:=fun b u xs q=>by rw[aH (aI q hn)]; exact q
 tbls:=fun b ps q=>⟨#[],by rw[aH (aI q hn),q]; simp⟩
theorem Un.write (mu:Mut (H x)) (he:e=x∨H e=some (.own x)) (k:∀ b u,b≠e->h.get? b=some u->h'.get? b=some u) (heo:∃ u,h'.get? e=some u):Un fs ex H (upd H x o) h h':=by
 have hx:∀ b,H b=none->b≠x:=fun b n z=>by subst z; rw[n] at mu; exact mu
 have hb:∀ b,H b=none->b≠e:=fun b n z=>by
  subst z;rcases he with r | r
  ·exact hx b n r
  ·rw[n] at r; cases r
 have hm:∀ b u,H b=some u->¬ Mut (some u)->b≠x:=fun b u q nm z=>by subst z; rw[q] at mu; exact nm mu
 refine⟨fun b u q n _ _=>k b u (hb b n) q,fun b u q n _ _=>⟨u.slots,k b u (hb b n) q⟩,fun b u q n _=>by rw[aH (hx b n)]; exact n,fun b u q _=>?_,
  fun b xs q=>by rw[aH (hm b _ q fun z=>z)]; exact q,fun b u xs q=>by rw[aH (hm b _ q fun z=>z)]; exact q,fun b ps q=>⟨#[],by rw[aH (hm b _ q fun z=>z),q]; simp⟩⟩
 by_cases hbe:b=e
 ·subst hbe; exact heo
 ·exact⟨u,k b u hbe q⟩
end

def trk (h:Heap) (H:Hp):List Addr:=(List.range h.objs.size).filter fun a=>(H a).isSome
def vK (h:Heap) (H:Hp):Heap:=PySem.W.hideAll h (trk h H)
theorem aCp (h:Heap) (H:Hp):(vK h H).objs.size=h.objs.size:=PySem.W.hideAll_size _ _
theorem rT {h:Heap}{H:Hp}{b:Addr}{o:Obj}(e:h.get? b=some o) (n:H b=none):(vK h H).get? b=some o:=
 PySem.W.hideAll_get _ e fun hm=>by
  have q:(H b).isSome=true:=(List.mem_filter.mp hm).2;rw[n] at q; simp at q
theorem aHh {h:Heap}{H:Hp}{b:Addr}{o:Obj}(e:(vK h H).get? b=some o):h.get? b=some o∧H b=none:=by
 have e':h.get? b=some o:=PySem.W.of_hideAll (trk h H) e;refine⟨e',?_⟩;cases q:H b with
 | none=>rfl
 | some x=>
  have hm:b∈trk h H:=List.mem_filter.mpr ⟨List.mem_range.mpr (Heap.lt_size e'),by simp[q]⟩;have z:(vK h H).get? b=none:=PySem.W.hideAll_none (trk h H) hm;rw[z] at e; cases e

end L2

namespace L2
open PySem PySem.Spec PyProof.Rows

structure Mod (K:PySem.W.Frag) (mg:Str->Option Value) (base:Heap):Prop where
 kin:K.In base
 glob:base.Ns mainGlobals mg
 blt:∃ mb,base.Ns builtinsNs mb∧∀ x:Str,x≠"__name__" -> mb x=bootBuiltins x
 nolimit:base.NoLimit

structure Cx where
 prog:Program
 w:World
 K:PySem.W.Frag
 mg:Str->Option Value
 base:Heap
 A:Around
 N:List Str
 s₀:Shared
 H₀:Hp
 env:Env
 outer:List Env
 stack:List Env
 ex:List Addr
 fn:Str->Bool
 calm:Bool
 pn:List (Addr×Obj)
 xe:Value->Shared->Prop
def frs (l:List Env):List Addr:=l.filterMap (·.frame)
abbrev Cx.fs (X:Cx):List Addr:=frs X.outer

def Vis (sc:Scope) (x:Str):Prop:=sc.names.lookup x=some .local∨sc.names.lookup x=some .cell∨sc.names.lookup x=some .free
def Loc (sc:Scope) (x:Str):Prop:=sc.names.lookup x=some .local∨sc.names.lookup x=some .cell
def aPl (env:Env) (h:Heap) (m:Str->Option Value) (x:Str) (u:Value):Prop:=
 (env.kindOf x=some .local∧m x=some u)∨((env.kindOf x=some .cell∨env.kindOf x=some .free)∧∃ c,env.cells.lookup x=some c∧h.IsCell c (some u))

structure Cx.Ok (X:Cx):Prop where
 mod:Mod X.K X.mg X.base
 kind:X.env.scope.kind=.function
 glob:X.env.globals=mainGlobals
 blt:X.env.builtins=builtinsNs
 above:X.s₀.heap.objs.size<=X.env.locals
 inj:∀ x y c,X.env.cells.lookup x=some c->X.env.cells.lookup y=some c->x=y
 has:∀ x,(X.env.kindOf x=some .cell∨X.env.kindOf x=some .free)->∃ c,X.env.cells.lookup x=some c
 cab:∀ x c,X.fn x=true->X.env.cells.lookup x=some c->X.s₀.heap.objs.size<=c
 hd:X.calm=true->X.A.handled=none
 frames:X.A.frames=some X.stack
 stk:X.stack=X.outer∨(X.stack=X.env::X.outer∧X.env.frame=some X.env.locals)
 exf:∀ b∈X.ex,b≠X.env.locals∧∀ x c,X.env.cells.lookup x=some c->c≠b
 bs:∀ b o,X.base.get? b=some o->X.s₀.heap.get? b=some o∧X.H₀ b=none
 bsz:X.base.objs.size<=X.s₀.heap.objs.size
 noex:∀ b o,X.base.get? b=some o->b∉X.ex
 exfs:∀ b∈X.ex,b∉X.fs
 funs:X.s₀.heap.FunFrames X.base X.outer
 frf:∀ b∈X.fs,X.H₀ b=none

structure Inv (X:Cx) (pins:List (Addr×Obj)) (σ:List (Option V)) (H:Hp) (s:Shared):Prop where
 ok:X.Ok
 os:s.os=X.s₀.os
 bare:AllBare s.gens
 base:Un X.fs X.ex X.H₀ H X.s₀.heap s.heap
 loc:∃ m,s.heap.Ns X.env.locals m∧∀ (i:Nat) (x:Str) (v:V),X.N[i]?=some x->σ[i]?=some (some v)->Vis X.env.scope x->∃ u,cG v u∧aPl X.env s.heap m x u
 cell:∀ x c,X.env.cells.lookup x=some c->∃ v,s.heap.IsCell c v
 free:H X.env.locals=none
 freeC:∀ x c,X.env.cells.lookup x=some c->H c=none
 pin:∀ p∈X.pn++pins,s.heap.get? p.1=some p.2∧H p.1=none∧p.1≠X.env.locals∧p.1∉X.fs∧∀ v,p.2.data≠.cell v
 hok:HOk X.prog X.w H s.heap
 len:σ.length=X.N.length

section
variable {X:Cx}{pins:List (Addr×Obj)}{σ:List (Option V)}{H H':Hp}{s:Shared}{h':Heap}

theorem Cx.Ok.nofr (ok:X.Ok){b:Addr}{o:Obj}(e:X.base.get? b=some o):b∉X.fs:=fun hb=>by
 have:=(ok.funs.mem hb).1
 rw[e] at this; cases this
theorem Inv.bs (I:Inv X pins σ H s):∀ b o,X.base.get? b=some o->s.heap.get? b=some o∧H b=none:=fun b o e=>
 ⟨I.base.keep b o (I.ok.bs b o e).1 (I.ok.bs b o e).2 (I.ok.nofr e) (I.ok.noex b o e),I.base.free b o (I.ok.bs b o e).1 (I.ok.bs b o e).2 (I.ok.noex b o e)⟩
theorem Inv.bk (I:Inv X pins σ H s):∀ b o,X.base.get? b=some o->s.heap.get? b=some o:=fun b o e=>(I.bs b o e).1
theorem Inv.mod (I:Inv X pins σ H s):Mod X.K X.mg X.base:=I.ok.mod
theorem Inv.kIn (I:Inv X pins σ H s):X.K.In s.heap:=I.ok.mod.kin.keeps I.bk
theorem Inv.lt (I:Inv X pins σ H s):X.env.locals<s.heap.objs.size:=let ⟨_,hn,_⟩:=I.loc; hn.lt
theorem Inv.sz (I:Inv X pins σ H s):X.s₀.heap.objs.size<=s.heap.objs.size:=Nat.le_trans I.ok.above (Nat.le_of_lt I.lt)
theorem Inv.nofs (I:Inv X pins σ H s){a:Addr}(h:s.heap.objs.size<=a):a∉X.fs:=fun hb=>by
 obtain⟨_,o,ho,_⟩:=I.ok.funs.mem hb;exact absurd (Nat.lt_of_lt_of_le (Heap.lt_size ho) (Nat.le_trans I.sz h)) (Nat.lt_irrefl _)
theorem Inv.cne (I:Inv X pins σ H s):∀ x c,X.env.cells.lookup x=some c->c≠X.env.locals:=fun x c e z=>by
 obtain⟨v,o,ho,hd⟩:=I.cell x c e;obtain⟨m,⟨o',es,ep,ho',hd',_⟩,_⟩:=I.loc;rw[z,ho'] at ho; cases ho; rw[hd'] at hd; cases hd
theorem Inv.funs (I:Inv X pins σ H s):s.heap.FunFrames X.base X.outer:=by
 have all:∀ (l:List Env),(∀ b∈frs l,b∈X.fs)->X.s₀.heap.FunFrames X.base l->s.heap.FunFrames X.base l:=by
  intro l
  induction l with
  | nil=>intro _ _; trivial
  | cons env r ih=>
   intro hs hl;obtain⟨hk,⟨L,o,hf,hn,ho,hd⟩,hr⟩:=hl;have hL:L∈X.fs:=hs L (by unfold frs; rw[List.filterMap_cons,hf]; exact List.mem_cons_self);obtain⟨sl,e⟩:=I.base.slot L o ho (I.ok.frf L hL) hL fun z=>I.ok.exfs L z hL;exact⟨hk,⟨L,_,hf,hn,e,hd⟩,ih (fun b hb=>hs b (by unfold frs; rw[List.filterMap_cons,hf]; exact List.mem_cons_of_mem _ hb)) hr⟩
 exact all X.outer (fun _ hb=>hb) I.ok.funs

theorem Inv.stack (I:Inv X pins σ H s):s.heap.FunFrames X.base X.stack:=by
 rcases I.ok.stk with e | ⟨e,hf⟩
 ·rw[e]; exact I.funs
 ·rw[e];obtain⟨m,hn,_⟩:=I.loc;refine .cons (by rw[I.ok.kind]; decide) hf hn ?_ I.funs;exact Heap.get?_none_of_le (Nat.le_trans I.ok.bsz I.ok.above)
theorem Inv.stkSub (I:Inv X pins σ H s):∀ b∈frs X.stack,b∈X.env.locals::X.fs:=fun b hb=>by
 rcases I.ok.stk with e | ⟨e,hf⟩
 ·rw[e] at hb; exact List.mem_cons_of_mem _ hb
 ·rw[e] at hb;unfold frs at hb;rw[List.filterMap_cons,hf] at hb;exact hb
theorem Inv.stkFree (I:Inv X pins σ H s):∀ b∈frs X.stack,H b=none:=fun b hb=>by
 rcases List.mem_cons.mp (I.stkSub b hb) with e | hb
 ·rw[e]; exact I.free
 ·obtain⟨_,o,ho,_⟩:=I.ok.funs.mem hb;exact I.base.free b o ho (I.ok.frf b hb) fun z=>I.ok.exfs b z hb

theorem Inv.step {g':Array GenState}{t':Nat}{d':Drawn}{ch:List Addr}(I:Inv X pins σ H s)
  (hch:∀ b∈ch,(b∈X.ex∨X.s₀.heap.objs.size<=b)∧b≠X.env.locals∧(∀ x c,X.env.cells.lookup x=some c->c≠b)∧∀ p∈X.pn++pins,p.1≠b)
  (keep:∀ b o,b≠X.env.locals->b∉X.fs->b∉ch->s.heap.get? b=some o->H b=none->h'.get? b=some o)
  (slot:∀ b o,b≠X.env.locals->b∈X.fs->b∉ch->s.heap.get? b=some o->H b=none->∃ sl,h'.get? b=some { o with slots:=sl }) (free:∀ b o,b∉ch->s.heap.get? b=some o->H b=none->H' b=none)
  (there:∀ b o,b∉ch->s.heap.get? b=some o->∃ o',h'.get? b=some o')
  (tups:∀ b xs,H b=some (.tup xs)->H' b=some (.tup xs)) (frzs:∀ b o u,H b=some (.frz o u)->H' b=some (.frz o u)) (tbls:∀ b ps,H b=some (.tbl ps)->∃ more,H' b=some (.tbl (ps++more)))
  (ns:∀ m,s.heap.Ns X.env.locals m->h'.Ns X.env.locals m) (hok:HOk X.prog X.w H' h') (hg:AllBare g') :
  Inv X pins σ H' { s with heap:=h',gens:=g',drawn:=d',toks:=t' }:=by
 have neL:∀ b o,X.s₀.heap.get? b=some o->b≠X.env.locals:=fun b o e=>Nat.ne_of_lt (Nat.lt_of_lt_of_le (Heap.lt_size e) I.ok.above)
 have neC:∀ b o,X.s₀.heap.get? b=some o->b∉X.ex->b∉ch:=fun b o e hx hb=>by
  rcases (hch b hb).1 with z | z
  ·exact hx z
  ·exact absurd (Nat.lt_of_lt_of_le (Heap.lt_size e) z) (Nat.lt_irrefl _)
 have cellK:∀ x c,X.env.cells.lookup x=some c->∀ v,s.heap.IsCell c v->h'.IsCell c v:=fun x c e v ⟨o,ho,hd⟩=>by
  have nch:c∉ch:=fun z=>(hch c z).2.2.1 x c e rfl
  by_cases hc:c∈X.fs
  ·obtain⟨sl,q⟩:=slot c o (I.cne x c e) hc nch ho (I.freeC x c e);exact⟨_,q,hd⟩
  ·exact⟨o,keep c o (I.cne x c e) hc nch ho (I.freeC x c e),hd⟩
 refine⟨I.ok,I.os,hg,⟨fun b o e n hb hx=>?_,fun b o e n hb hx=>?_,fun b o e n hx=>?_,fun b o e hx=>?_,fun b xs e=>tups b xs (I.base.tups b xs e),fun b o xs e=>frzs b o xs (I.base.frzs b o xs e),fun b ps e=>?_⟩,?_,fun x c e=>?_,?_,fun x c e=>?_,fun p hp=>?_,hok,I.len⟩
 ·exact keep b o (neL b o e) hb (neC b o e hx) (I.base.keep b o e n hb hx) (I.base.free b o e n hx)
 ·obtain⟨sl,e1⟩:=I.base.slot b o e n hb hx;obtain⟨sl',e2⟩:=slot b _ (neL b o e) hb (neC b o e hx) e1 (I.base.free b o e n hx);exact⟨sl',e2⟩
 ·obtain⟨o',e1⟩:=I.base.there b o e hx;exact free b o' (neC b o e hx) e1 (I.base.free b o e n hx)
 ·obtain⟨o',e1⟩:=I.base.there b o e hx;exact there b o' (neC b o e hx) e1
 ·obtain⟨m1,e1⟩:=I.base.tbls b ps e;obtain⟨m2,e2⟩:=tbls b _ e1;exact⟨m1++m2,by rw[e2,Array.append_assoc]⟩
 ·obtain⟨m,hn,hl⟩:=I.loc;refine⟨m,ns m hn,fun i x v e1 e2 e3=>?_⟩;obtain⟨u,r,l⟩:=hl i x v e1 e2 e3;refine⟨u,r,?_⟩;rcases l with l | ⟨k,c,e,z⟩
  ·exact .inl l
  ·exact .inr ⟨k,c,e,cellK x c e _ z⟩
 ·obtain⟨v,z⟩:=I.cell x c e;exact⟨v,cellK x c e v z⟩
 ·obtain⟨m,⟨o,_,_,ho,_⟩,_⟩:=I.loc;exact free _ o (fun z=>(hch _ z).2.1 rfl) ho I.free
 ·obtain⟨v,o,ho,hd⟩:=I.cell x c e;exact free c o (fun z=>(hch c z).2.2.1 x c e rfl) ho (I.freeC x c e)
 ·obtain⟨e,n,ne,nf,d⟩:=I.pin p hp;have nch:p.1∉ch:=fun z=>(hch p.1 z).2.2.2 p hp rfl;exact⟨keep p.1 p.2 ne nf nch e n,free p.1 p.2 nch e n,ne,nf,d⟩
theorem Inv.un {t':Nat}(I:Inv X pins σ H s) (u:Un X.fs [] H H' s.heap h') (hok:HOk X.prog X.w H' h'):Inv X pins σ H' { s with heap:=h',toks:=t' }:=by
 obtain⟨m,⟨o,es,ep,ho,r⟩,_⟩:=id I.loc;obtain⟨sl,hL⟩:=u.any ho I.free (by simp)
 exact I.step (g':=s.gens) (d':=s.drawn) (ch:=[]) (fun _ z=>nomatch z) (fun b o _ hb _ e n=>u.keep b o e n hb (by simp)) (fun b o _ hb _ e n=>u.slot b o e n hb (by simp)) (fun b o _ e n=>u.free b o e n (by simp)) (fun b o _ e=>u.there b o e (by simp)) u.tups u.frzs u.tbls (fun m' hm=>by
  obtain⟨o',es',ep',ho',r'⟩:=hm;rw[ho] at ho'; cases ho';exact⟨_,es',ep',hL,r'⟩) hok I.bare
theorem Inv.call {g':Array GenState}{t':Nat}{d':Drawn}{ch:List Addr}(I:Inv X pins σ H s) (u:Un (frs X.stack) ch H H' s.heap h') (hok:HOk X.prog X.w H' h') (hg:AllBare g')
  (hch:∀ b∈ch,(b∈X.ex∨X.s₀.heap.objs.size<=b)∧b≠X.env.locals∧(∀ x c,X.env.cells.lookup x=some c->c≠b)∧∀ p∈X.pn++pins,p.1≠b) :
  Inv X pins σ H' { s with heap:=h',gens:=g',drawn:=d',toks:=t' }:=by
 obtain⟨m,⟨o,es,ep,ho,r⟩,_⟩:=id I.loc;obtain⟨sl,hL⟩:=u.any ho I.free fun z=>(hch _ z).2.1 rfl
 exact I.step (ch:=ch) hch (fun b o hL hb hc e n=>u.keep b o e n (fun z=>(List.mem_cons.mp (I.stkSub b z)).elim hL hb) hc) (fun b o _ _ hc e n=>u.any e n hc) (fun b o hc e n=>u.free b o e n hc) (fun b o hc e=>u.there b o e hc) u.tups u.frzs u.tbls (fun m' hm=>by
  obtain⟨o',es',ep',ho',r'⟩:=hm;rw[ho] at ho'; cases ho';exact⟨_,es',ep',hL,r'⟩) hok hg
theorem Inv.turned {t':Nat}{it:Addr}(I:Inv X pins σ H s) (k:∀ b o,b≠it->s.heap.get? b=some o->h'.get? b=some o) (hn:H it=none) (hL:it≠X.env.locals)
  (h1:it∈X.ex∨X.s₀.heap.objs.size<=it) (h2:∀ x c,X.env.cells.lookup x=some c->c≠it) (h3:∀ p∈X.pn++pins,p.1≠it):Inv X pins σ H { s with heap:=h',toks:=t' }:=by
 have nit:∀ b u,H b=some u->b≠it:=fun b u e z=>by rw[z,hn] at e; cases e
 refine I.step (g':=s.gens) (d':=s.drawn) (ch:=[it]) (fun b hb=>?_) (fun b o _ _ hc e _=>k b o (fun z=>hc (by simp[z])) e) (fun b o _ _ hc e _=>⟨o.slots,k b o (fun z=>hc (by simp[z])) e⟩) (fun _ _ _ _ n=>n)
  (fun b o hc e=>⟨o,k b o (fun z=>hc (by simp[z])) e⟩) (fun _ _ e=>e) (fun _ _ _ e=>e) (fun b ps e=>⟨#[],by rw[e]; simp⟩) (fun m hm=>?_) (fun b u e=>?_) I.bare
 ·have e:b=it:=by simpa using hb
  subst e;exact⟨h1,hL,h2,h3⟩
 ·obtain⟨o,es,ep,ho,r⟩:=hm;exact⟨o,es,ep,k _ o (Ne.symm hL) ho,r⟩
 ·refine (I.hok b u e).stay (fun c v hc q=>k c v ?_ q) (fun _ q=>q) fun _ _ q=>q;rcases hc with z | z
  ·rw[z]; exact nit b u e
  ·exact nit c _ z
theorem Inv.tok (I:Inv X pins σ H s) (t:Nat):Inv X pins σ H { s with toks:=t }:=I.un (h':=s.heap) (t':=t) Un.refl I.hok
theorem Inv.kept {t':Nat}(I:Inv X pins σ H s) (k:∀ b u,s.heap.get? b=some u->h'.get? b=some u):Inv X pins σ H { s with heap:=h',toks:=t' }:=I.un (Un.kept k) (I.hok.kept k)
theorem Inv.laid {a:Addr}{o:HO}{t':Nat}(I:Inv X pins σ H s) (k:∀ b u,s.heap.get? b=some u->h'.get? b=some u) (hp:s.heap.objs.size<=a) (new:dA X.prog X.w (upd H a o) h' a o) :
  Inv X pins σ (upd H a o) { s with heap:=h',toks:=t' }:=I.un (Un.laid k hp (I.hok.fresh hp)) (I.hok.laid k hp new)
theorem Inv.write {x e:Addr}{o:HO}{t':Nat}(I:Inv X pins σ H s) (mu:Mut (H x)) (he:e=x∨H e=some (.own x)) (k:∀ b u,b≠e->s.heap.get? b=some u->h'.get? b=some u) (heo:∃ u,h'.get? e=some u)
  (new:dA X.prog X.w (upd H x o) h' x o):Inv X pins σ (upd H x o) { s with heap:=h',toks:=t' }:=I.un (Un.write mu he k heo) (I.hok.write mu he k heo new)
theorem Inv.pins_of {pins':List (Addr×Obj)}(I:Inv X pins σ H s) (h:∀ p∈pins',s.heap.get? p.1=some p.2∧H p.1=none∧p.1≠X.env.locals∧p.1∉X.fs∧∀ v,p.2.data≠.cell v):Inv X pins' σ H s:=
 ⟨I.ok,I.os,I.bare,I.base,I.loc,I.cell,I.free,I.freeC,fun p hp=>(List.mem_append.mp hp).elim (fun z=>I.pin p (List.mem_append_left _ z)) (h p),I.hok,I.len⟩

theorem xA {N:List Str}(hN:N.Nodup){i j:Nat}{x:Str}(a:N[i]?=some x) (b:N[j]?=some x):i=j:=by
 obtain⟨h1,e1⟩:=List.getElem?_eq_some_iff.mp a;obtain⟨h2,e2⟩:=List.getElem?_eq_some_iff.mp b;exact (List.getElem_inj hN).mp (e1.trans e2.symm)

theorem tE {M:Model}{A:Around}{E:Value->Shared->Prop}{i:Nat}{x:Str}{v:V}{u:Value}{Q:Unit->Shared->Prop}(I:Inv X pins σ H s) (hN:X.N.Nodup) (hi:X.N[i]?=some x) (hx:Loc X.env.scope x) (r:cG v u)
  (h:∀ s',Inv X pins (σ.set i (some v)) H s'->(∃ a,Heap.SameBut a s.heap s'.heap∧(a=X.env.locals∨X.env.cells.lookup x=some a))->Q () s') (hf:X.fn x=true∨X.env.scope.names.lookup x=some .local:=by first | exact .inl rfl | exact .inr rfl | assumption):wpAny M A (storeName X.env x u) Q E s:=by
 obtain⟨m,hn,hl⟩:=id I.loc;have hcls:(X.env.scope.kind==.class||(X.env.scope.kind==.module&&X.env.locals != X.env.globals))=false:=by rw[I.ok.kind]; rfl
 have hiσ:i<σ.length:=by rw[I.len]; exact (List.getElem?_eq_some_iff.mp hi).1
 have cne:=I.cne
 have tracked:∀ {a:Addr}{h':Heap},(∃ o,s.heap.get? a=some o∧H a=none)->Heap.SameBut a s.heap h'->HOk X.prog X.w H h':=fun {a h'} ha hs b ob e=>by
  obtain⟨_,_,hfree⟩:=ha;refine (I.hok b ob e).stay (fun c w' hc q=>(hs.2 c ?_).trans q) (fun _ q=>q) fun _ _ q=>q;rintro rfl;rcases hc with rfl | hc
  ·rw[hfree] at e; cases e
  ·rw[hfree] at hc; cases hc
 rcases hx with hk | hk
 ·refine wpAny_storeName_local hk hn (fun h' hn' hs=>?_) hcls;obtain⟨oL,_,_,hoL,_⟩:=id hn;refine h _ ⟨I.ok,I.os,I.bare,⟨fun b o e n hb hx=>?_,fun b o e n hb hx=>?_,I.base.free,fun b o e hx=>?_,I.base.tups,I.base.frzs,I.base.tbls⟩,⟨_,hn',fun j y v' e1 e2 e3=>?_⟩,fun y c e=>?_,I.free,I.freeC,fun p hp=>?_,tracked ⟨oL,hoL,I.free⟩ hs,by simpa using I.len⟩ ⟨_,hs,.inl rfl⟩
  ·exact (hs.2 b (Nat.ne_of_lt (Nat.lt_of_lt_of_le (Heap.lt_size e) I.ok.above))).trans (I.base.keep b o e n hb hx)
  ·obtain⟨sl,e1⟩:=I.base.slot b o e n hb hx;exact⟨sl,(hs.2 b (Nat.ne_of_lt (Nat.lt_of_lt_of_le (Heap.lt_size e) I.ok.above))).trans e1⟩
  ·obtain⟨o',e1⟩:=I.base.there b o e hx;exact⟨o',(hs.2 b (Nat.ne_of_lt (Nat.lt_of_lt_of_le (Heap.lt_size e) I.ok.above))).trans e1⟩
  ·by_cases hj:j=i
   ·subst hj;rw[hi] at e1; cases e1;rw[List.getElem?_set_self hiσ] at e2;cases e2;exact⟨u,r,.inl ⟨hk,by simp⟩⟩
   ·rw[List.getElem?_set_ne (Ne.symm hj)] at e2;obtain⟨u',r',q⟩:=hl j y v' e1 e2 e3;refine⟨u',r',?_⟩;rcases q with⟨k,e⟩ | ⟨k,c,e,z⟩
    ·refine .inl ⟨k,?_⟩
     have:y≠x:=fun e=>hj (xA hN e1 (e▸hi))
     simp[this,e]
    ·exact .inr ⟨k,c,e,z.sameBut hs (cne y c e)⟩
  ·obtain⟨w',z⟩:=I.cell y c e;exact⟨w',z.sameBut hs (cne y c e)⟩
  ·obtain⟨e,n,ne,nf,d⟩:=I.pin p hp;exact⟨(hs.2 p.1 ne).trans e,n,ne,nf,d⟩
 ·have hfn:X.fn x=true:=by
   rcases hf with z | z
   ·exact z
   ·rw[z] at hk; cases hk
  obtain⟨c,hc⟩:=I.ok.has x (.inl hk);obtain⟨w',z⟩:=I.cell x c hc;refine wpAny_storeName_cell I.ok.kind hk hc z (fun h' hc' hs=>?_);obtain⟨oc,hoc,hocd⟩:=id z;refine h { s with heap:=h' } ⟨I.ok,I.os,I.bare,⟨fun b o e n hb hx=>?_,fun b o e n hb hx=>?_,I.base.free,fun b o e hx=>?_,I.base.tups,I.base.frzs,I.base.tbls⟩,⟨m,hn.sameBut hs (Ne.symm (cne x c hc)),fun j y v' e1 e2 e3=>?_⟩,fun y c' e=>?_,I.free,I.freeC,fun p hp=>?_,tracked ⟨oc,hoc,I.freeC x c hc⟩ hs,by simpa using I.len⟩ ⟨c,hs,.inr hc⟩
  ·exact (hs.2 b (Nat.ne_of_lt (Nat.lt_of_lt_of_le (Heap.lt_size e) (I.ok.cab x c hfn hc)))).trans (I.base.keep b o e n hb hx)
  ·obtain⟨sl,e1⟩:=I.base.slot b o e n hb hx;exact⟨sl,(hs.2 b (Nat.ne_of_lt (Nat.lt_of_lt_of_le (Heap.lt_size e) (I.ok.cab x c hfn hc)))).trans e1⟩
  ·obtain⟨o',e1⟩:=I.base.there b o e hx;exact⟨o',(hs.2 b (Nat.ne_of_lt (Nat.lt_of_lt_of_le (Heap.lt_size e) (I.ok.cab x c hfn hc)))).trans e1⟩
  ·by_cases hj:j=i
   ·subst hj;rw[hi] at e1; cases e1;rw[List.getElem?_set_self hiσ] at e2;cases e2;exact⟨u,r,.inr ⟨.inl hk,c,hc,hc'⟩⟩
   ·rw[List.getElem?_set_ne (Ne.symm hj)] at e2;obtain⟨u',r',q⟩:=hl j y v' e1 e2 e3;refine⟨u',r',?_⟩;rcases q with q | ⟨k,c',e,z'⟩
    ·exact .inl q
    ·refine .inr ⟨k,c',e,z'.sameBut hs ?_⟩;rintro rfl;exact hj (xA hN e1 (I.ok.inj _ _ _ e hc▸hi))
  ·by_cases hcc:c'=c
   ·subst hcc; exact⟨_,hc'⟩
   ·obtain⟨w2,z2⟩:=I.cell y c' e;exact⟨w2,z2.sameBut hs hcc⟩
  ·obtain⟨e,n,ne,nf,d⟩:=I.pin p hp;refine⟨(hs.2 p.1 ?_).trans e,n,ne,nf,d⟩;intro q;rw[q,hoc] at e;have q':oc=p.2:=Option.some.inj e;exact d w' (by rw[← q']; exact hocd)
theorem vY {M:Model}{A:Around}{E:Value->Shared->Prop}{i:Nat}{x:Str}{v:V}{u:Value}{Q:Unit->Shared->Prop}(I:Inv X pins σ H s) (hN:X.N.Nodup) (hi:X.N[i]?=some x) (hx:Loc X.env.scope x) (r:cG v u)
  (h:∀ s',Inv X pins (σ.set i (some v)) H s'->Q () s') (hf:X.fn x=true∨X.env.scope.names.lookup x=some .local:=by first | exact .inl rfl | exact .inr rfl | assumption):wpAny M A (storeName X.env x u) Q E s:=
 tE I hN hi hx r (fun s' I' _=>h s' I') hf
theorem Inv.call' {s':Shared}{ch:List Addr}(I:Inv X pins σ H s) (ho:s'.os=s.os) (u:Un (frs X.stack) ch H H' s.heap s'.heap) (hok:HOk X.prog X.w H' s'.heap) (hg:AllBare s'.gens)
  (hch:∀ b∈ch,(b∈X.ex∨X.s₀.heap.objs.size<=b)∧b≠X.env.locals∧(∀ x c,X.env.cells.lookup x=some c->c≠b)∧∀ p∈X.pn++pins,p.1≠b):Inv X pins σ H' s':=by
 obtain⟨h',g',d',t',o'⟩:=s';have e:o'=s.os:=ho;subst e;exact I.call (g':=g') (t':=t') (d':=d') u hok hg hch
end

abbrev XK:=Value->Option Addr->Hp->Prop
abbrev St:=List (Option V)
abbrev VK:=V->Hp->Prop
abbrev TE:=St->Hp->VK->Prop
abbrev TT:=St->Hp->(Bool->Hp->Prop)->Prop
abbrev TA:=St->Hp->(List V->Hp->Prop)->Prop
structure mY where
 nx:St->Hp->Prop
 rt:VK
 bk:St->Hp->Prop:=fun _ _=>False
 ct:St->Hp->Prop:=fun _ _=>False
abbrev TS:=mY->St->Hp->Prop

inductive EP (X:Cx) (pins:List (Addr×Obj)) (σ:St) (Q:VK) (u:Value) (s':Shared):Prop
 | mk (v:_) (H':_) (h0_:Inv X pins σ H' s') (h1_:cG v u) (h2_:Q v H')
inductive TP (X:Cx) (pins:List (Addr×Obj)) (σ:St) (Q:Bool->Hp->Prop) (b:Bool) (s':Shared):Prop
 | mk (H':_) (h0_:Inv X pins σ H' s') (h1_:Q b H')
inductive AP (X:Cx) (pins:List (Addr×Obj)) (σ:St) (Q:List V->Hp->Prop) (us:List Value) (s':Shared):Prop
 | mk (vs:_) (H':_) (h0_:Inv X pins σ H' s') (h1_:cA vs us) (h2_:Q vs H')
def SP (X:Cx) (pins:List (Addr×Obj)) (D:mY) (f:Flow) (s':Shared):Prop:=
 match f with
 | .next=>∃ σ' H',Inv X pins σ' H' s'∧D.nx σ' H'
 | .brk=>∃ σ' H',Inv X pins σ' H' s'∧D.bk σ' H'
 | .cont=>∃ σ' H',Inv X pins σ' H' s'∧D.ct σ' H'
 | .ret u=>∃ v σ' H',Inv X pins σ' H' s'∧cG v u∧D.rt v H'

def PE (X:Cx) (e:Expr) (t:TE):Prop:=
 ∀ (pins:List (Addr×Obj)) (s:Shared) (σ:St) (H:Hp) (Q:VK),Inv X pins σ H s->t σ H Q->wpAny (model X.prog X.w) X.A (eval e X.env) (EP X pins σ Q) X.xe s
def PT (X:Cx) (e:Expr) (t:TT):Prop:=
 ∀ (pins:List (Addr×Obj)) (s:Shared) (σ:St) (H:Hp) (Q:Bool->Hp->Prop),Inv X pins σ H s->t σ H Q->wpAny (model X.prog X.w) X.A (isTrue e X.env (eval e X.env)) (TP X pins σ Q) X.xe s
def PW (X:Cx) (e:Expr) (t:TT):Prop:=
 ∀ (whole:Sem Value) (pins:List (Addr×Obj)) (s:Shared) (σ:St) (H:Hp) (Q:Bool->Hp->Prop),Inv X pins σ H s->t σ H Q->wpAny (model X.prog X.w) X.A (isTrue e X.env whole) (TP X pins σ Q) X.xe s
theorem PW.pt {X:Cx}{e:Expr}{t:TT}(h:PW X e t):PT X e t:=h _
def PA (X:Cx) (es:List Expr) (t:TA):Prop:=
 ∀ (pos:Pos) (pins:List (Addr×Obj)) (s:Shared) (σ:St) (H:Hp) (Q:List V->Hp->Prop),Inv X pins σ H s->t σ H Q->wpAny (model X.prog X.w) X.A (spliced (backTo pos (starEach es X.env))) (AP X pins σ Q) X.xe s
def PS (X:Cx) (st:Stmt) (t:TS):Prop:=
 ∀ (pins:List (Addr×Obj)) (s:Shared) (σ:St) (H:Hp) (D:mY),Inv X pins σ H s->t D σ H->wpAny (model X.prog X.w) X.A (exec st X.env) (SP X pins D) X.xe s
def PSs (X:Cx) (st:List Stmt) (t:TS):Prop:=
 ∀ (pins:List (Addr×Obj)) (s:Shared) (σ:St) (H:Hp) (D:mY),Inv X pins σ H s->t D σ H->wpAny (model X.prog X.w) X.A (execs st X.env) (SP X pins D) X.xe s
theorem thn {α:Type}{t:Sem α}{Q Q':α->Shared->Prop}{M:Model}{A:Around}{E:Value->Shared->Prop}{s:Shared}(h:wpAny M A t Q E s) (hQ:∀ a s,Q a s->Q' a s):wpAny M A t Q' E s:=wpAny_mono h hQ fun _ _ x=>x
end L2

namespace L2
open PySem PySem.Spec PyProof.Rows
section
variable {X:Cx}


inductive aGl (i:Nat) (σ:St) (H:Hp) (Q:VK):Prop
 | mk (v:_) (h0_:σ[i]?=some (some v)) (h1_:Q v H)
def tC (v:V):TE:=fun _ H Q=>Q v H
theorem aEf {i:Nat}{x:Str}{pos:Pos}(hN:X.N[i]?=some x) (hv:Vis X.env.scope x) (hd:(x==("__debug__" : Str))=false:=by decide) (hcd:(x==("__classdict__" : Str))=false:=by decide):PE X (.Name x pos) (aGl i):=by
 intro pins s σ H Q I h;obtain⟨v,e,h⟩:=h;obtain⟨m,hn,hl⟩:=I.loc;obtain⟨u,r,l⟩:=hl i x v hN e hv;have fin:EP X pins σ Q u s:=⟨v,H,I,r,h⟩;rcases l with⟨hk,hm⟩ | ⟨hk,c,hc,hcell⟩
 ·exact wpAny_Name (wpAny_loadName_local I.ok.kind hk hn hm fin) hd
 ·rcases hk with hk | hk
  ·exact wpAny_Name (wpAny_loadName_cell I.ok.kind hk hc hcell fin) hd
  ·exact wpAny_Name (wpAny_loadName_free I.ok.kind hk hc hcell fin hcd) hd
theorem aN {i j pos}:PE X (.Constant (.int i) j pos) (tC (.int i)):=fun _ _ _ H _ I h=>wpAny_Constant_int ⟨.int i,H,I.tok _,⟨_,rfl⟩,h⟩
theorem tW {b j pos}:PE X (.Constant (.bool b) j pos) (tC (.bl b)):=fun _ _ _ H _ I h=>Constant_bool ⟨.bl b,H,I,rfl,h⟩
theorem eD {j pos}:PE X (.Constant .none j pos) (tC .non):=fun _ _ _ H _ I h=>Constant_none ⟨.non,H,I,rfl,h⟩
theorem bX {x j pos}:PE X (.Constant (.str x) j pos) (tC (.str x)):=fun _ _ _ H _ I h=>Calls.Constant_str ⟨.str x,H,I.tok _,⟨_,rfl⟩,h⟩

def Gl (X:Cx) (x:Str):Prop:=X.env.kindOf x=some .globalImplicit
theorem iJ {E:Value->Shared->Prop}{pins:List (Addr×Obj)}{s:Shared}{σ:St}{H:Hp}{x:Str}{u:Value}{pos:Pos}{Q:Value->Shared->Prop}(I:Inv X pins σ H s) (hg:Gl X x) (hm:X.mg x=some u) (h:Q u s)
  (hd:(x==("__debug__" : Str))=false:=by decide):wpAny (model X.prog X.w) X.A (eval (.Name x pos) X.env) Q E s:=
 Calls.Name_function_global I.ok.kind hg (Calls.loadGlobal_global (by rw[I.ok.glob]; exact I.mod.glob.keeps I.bk) hm h) hd
theorem mI {E:Value->Shared->Prop}{pins:List (Addr×Obj)}{s:Shared}{σ:St}{H:Hp}{x:Str}{u:Value}{pos:Pos}{Q:Value->Shared->Prop}(I:Inv X pins σ H s) (hg:Gl X x) (hm:X.mg x=none) (hv:bootBuiltins x=some u) (h:Q u s)
  (hn:x≠"__name__" := by decide) (hd:(x==("__debug__" : Str))=false:=by decide):wpAny (model X.prog X.w) X.A (eval (.Name x pos) X.env) Q E s:=by
 obtain⟨mb,h1,h2⟩:=I.mod.blt;exact Calls.Name_function_global I.ok.kind hg (Calls.loadGlobal_builtin (by rw[I.ok.glob]; exact I.mod.glob.keeps I.bk) hm (by rw[I.ok.blt]; exact h1.keeps I.bk) ((h2 x hn).trans hv) h) hd
theorem jE {x:Str}{v:V}{u:Value}{pos:Pos}(hg:Gl X x) (hm:X.mg x=some u) (r:cG v u) (hd:(x==("__debug__" : Str))=false:=by decide):PE X (.Name x pos) (tC v):=
 fun _ _ _ H _ I h=>iJ I hg hm ⟨v,H,I,r,h⟩ hd
theorem aHc {x:Str}{v:V}{u:Value}{pos:Pos}(hg:Gl X x) (hm:X.mg x=none) (hv:bootBuiltins x=some u) (r:cG v u) (hn:x≠"__name__" := by decide) (hd:(x==("__debug__" : Str))=false:=by decide):PE X (.Name x pos) (tC v):=
 fun _ _ _ H _ I h=>mI I hg hm hv ⟨v,H,I,r,h⟩ hn hd

variable {a b:Expr}{ta tb:TE}{pos:Pos}

def PC (X:Cx) (op:CmpOp) (a b:Expr) (t:TE):Prop:=
 ∀ (pins:List (Addr×Obj)) (s:Shared) (σ:St) (H:Hp) (Q:VK),Inv X pins σ H s->t σ H Q ->
  wpAny (model X.prog X.w) X.A (eval a X.env) (fun v s₁=>wpAny (model X.prog X.w) X.A (eval b X.env) (fun u s₂=>wpAny (model X.prog X.w) X.A (compareOp op v u) (EP X pins σ Q) X.xe s₂) X.xe s₁) X.xe s
def tB (t:TE):TT:=fun σ H Q=>t σ H fun x H1=>∃ c,x=.bl c∧Q c H1
theorem aEl {op:CmpOp}{t:TE}(h:PC X op a b t) (h1:behindInMarks op b=false:=by first | exact nobehind _ (by decide) (by decide) | rfl):PE X (.Compare a [op] [b] pos) t:=fun pins s σ H Q I hw=>wpAny_Compare1 (h pins s σ H Q I hw) h1
theorem oZ {op:CmpOp}{t:TE}(h:PC X op a b t) (h1:behindInMarks op b=false:=by first | exact nobehind _ (by decide) (by decide) | rfl):PT X (.Compare a [op] [b] pos) (tB t):=by
 intro pins s σ H Q I hw;refine wpAny_isTrue_Compare1 (thn (h pins s σ H _ I hw) fun v s1 h1=>thn h1 fun u s2 h2=>thn h2 fun c s3 ⟨x,H1,I1,r1,q1⟩=>?_) h1;obtain⟨d,rfl,q⟩:=q1;cases r1;exact wpAny_truthy_bool ⟨H1,I1,q⟩
theorem oY {e:Expr}{t:TE}(h:PE X e t) (he:∀ whole,isTrue e X.env whole=(do let v ← whole; standAt e.pos; holding [v] (truthy v)):=by intro _; rfl):PT X e (tB t):=by
 intro pins s σ H Q I hw;refine isTrue_plain (thn (h pins s σ H _ I hw) fun v s1 ⟨x,H1,I1,r1,q1⟩=>?_) (he _);obtain⟨d,rfl,q⟩:=q1;cases r1;exact wpAny_truthy_bool ⟨H1,I1,q⟩

variable {tA tB':TT}{rest:List Expr}
def aNu (t u:TT):TT:=fun σ H Q=>t σ H fun c H1=>if c=true then u σ H1 Q else Q false H1
def tOr (t u:TT):TT:=fun σ H Q=>t σ H fun c H1=>if c=true then Q true H1 else u σ H1 Q
def aNm (t:TT):TT:=fun σ H Q=>t σ H fun c H1=>Q (!c) H1
theorem qF (ha:PT X a tA):PW X (.BoolOp .And [a] pos) tA:=by
 intro wh pins s σ H Q I h;refine isTrue_and (thn (ha pins s σ H Q I h) fun c s1 e=>?_);cases c with
 | true=>exact isTrue_and_nil e
 | false=>exact e
theorem uZ (ha:PT X a tA):PW X (.BoolOp .Or [a] pos) tA:=by
 intro wh pins s σ H Q I h;refine isTrue_or (thn (ha pins s σ H Q I h) fun c s1 e=>?_);cases c with
 | false=>exact isTrue_or_nil e
 | true=>exact e
theorem rF (ha:PT X a tA) (hb:PW X (.BoolOp .And (b::rest) pos) tB'):PW X (.BoolOp .And (a::b::rest) pos) (aNu tA tB'):=by
 intro wh pins s σ H Q I h;refine isTrue_and (thn (ha pins s σ H _ I h) fun c s1 ⟨H1,I1,q1⟩=>?_);cases c with
 | true=>exact hb wh pins s1 σ H1 Q I1 q1
 | false=>exact⟨H1,I1,q1⟩
theorem wO (ha:PT X a tA) (hb:PW X (.BoolOp .Or (b::rest) pos) tB'):PW X (.BoolOp .Or (a::b::rest) pos) (tOr tA tB'):=by
 intro wh pins s σ H Q I h;refine isTrue_or (thn (ha pins s σ H _ I h) fun c s1 ⟨H1,I1,q1⟩=>?_);cases c with
 | true=>exact⟨H1,I1,q1⟩
 | false=>exact hb wh pins s1 σ H1 Q I1 q1
theorem lY (ha:PT X a tA):PT X (.UnaryOp .Not a pos) (aNm tA):=by
 intro pins s σ H Q I h;exact isTrue_not (thn (ha pins s σ H (fun c H1=>Q (!c) H1) I h) fun c s1 ⟨H',I',q⟩=>⟨H',I',q⟩)
inductive aNh (x:V) (H:Hp) (Q:Bool->Hp->Prop):Prop
 | mk (k:Bool) (h:x=.bl k) (q:Q k H)
def aLt (ta tb:TE):TE:=fun σ H Q=>ta σ H fun x H1=>aNh x H1 fun c H1=>if c=true then tb σ H1 Q else Q (.bl false) H1
theorem aEg {op} {t:TE}(h:PE X a t):PE X (.BoolOp op [a] pos) t:=fun pins s σ H Q I hw=>BoolOp_one (h pins s σ H Q I hw)
theorem aEn (ha:PE X a ta) (hb:PE X (.BoolOp .And (b::rest) pos) tb):PE X (.BoolOp .And (a::b::rest) pos) (aLt ta tb):=by
 intro pins s σ H Q I h;refine BoolOp_and (thn (ha pins s σ H _ I h) fun v s1 ⟨x,H1,I1,r1,q1⟩=>?_);obtain⟨c,rfl,q1⟩:=q1;cases r1;refine wpAny_truthy_bool ?_;cases c with
 | true=>exact hb pins s1 σ H1 Q I1 q1
 | false=>exact⟨.bl false,H1,I1,rfl,q1⟩
def tIf (t:TT) (ta tb:TE):TE:=fun σ H Q=>t σ H fun c H1=>if c=true then ta σ H1 Q else tb σ H1 Q
theorem wV {c:Expr}(hc:PT X c tA) (ha:PE X a ta) (hb:PE X b tb):PE X (.IfExp c a b pos) (tIf tA ta tb):=by
 intro pins s σ H Q I h;refine wpAny_IfExp (thn (hc pins s σ H _ I h) fun d s1 ⟨H1,I1,q1⟩=>?_);cases d with
 | true=>exact ha pins s1 σ H1 Q I1 q1
 | false=>exact hb pins s1 σ H1 Q I1 q1
end
end L2

namespace L2
open PySem PySem.Spec PyProof.Rows

def SqL (K:PySem.W.Frag) (H:Hp) (a:Addr) (xs:List V):Prop:=
 Rd H a (.lst xs) ∨
  ∃ (o:Obj) (its:Array Value) (n:Nat),K.lookup a=some o∧o.cls=.type "list" ∧ o.dict=none∧o.data=.seq its n∧its.size<=sizeLine∧cA xs its.toList
def SqT (K:PySem.W.Frag) (H:Hp) (a:Addr) (xs:List V):Prop:=
 Rd H a (.tup xs) ∨
  ∃ (o:Obj) (its:Array Value) (n:Nat),K.lookup a=some o∧o.cls=.type "tuple" ∧ o.data=.seq its n∧its.size<=sizeLine∧cA xs its.toList
def aPi:Value->Option V
 | .none=>some .non
 | .bool b=>some (.bl b)
 | .int i _=>some (.int i)
 | .str x _=>some (.str x)
 | .bytes b _=>some (.byt b)
 | .float b _=>some (.flt b)
 | .ref a=>some (.ref a)
 | .type n=>some (.ty n)
 | _=>none
theorem cG.abs {x:V}{u:Value}(r:cG x u):aPi u=some x:=by
 cases x with
 | non=>cases r; rfl
 | bl _=>cases r; rfl
 | int _=>obtain⟨t,rfl⟩:=r; rfl
 | str _=>obtain⟨t,rfl⟩:=r; rfl
 | byt _=>obtain⟨t,rfl⟩:=r; rfl
 | flt _=>obtain⟨t,rfl⟩:=r; rfl
 | ref _=>cases r; rfl
 | ty _=>cases r; rfl
theorem cG.inj {x y:V}{u:Value}(r:cG x u) (q:cG y u):x=y:=Option.some.inj (r.abs.symm.trans q.abs)
theorem cA.inj:∀ {xs ys:List V}{us:List Value},cA xs us->cA ys us->xs=ys
 | _,_,_,.nil,.nil=>rfl
 | _,_,_,.cons r t,.cons r' t'=>by rw[r.inj r',cA.inj t t']
section
variable {X:Cx}{pins:List (Addr×Obj)}{σ:St}{H:Hp}{s:Shared}{a:Addr}{xs ys:List V}
theorem SqL.of {K:PySem.W.Frag}(h:H a=some (.lst xs)):SqL K H a xs:=.inl (.inl h)
theorem SqT.of {K:PySem.W.Frag}(h:H a=some (.tup xs)):SqT K H a xs:=.inl (.inl h)
theorem Inv.list (I:Inv X pins σ H s) (h:SqL X.K H a xs):∃ its:List Value,cA xs its∧PlainL s.heap a its.toArray∧xs.length<=sizeLine:=by
 rcases h with h | ⟨o,its,n,hk,hc,hd,hs,hz,r⟩
 ·obtain⟨z,its,n,r,e⟩:=h.ok I.hok;exact⟨its,r,⟨_,n,e,rfl,rfl,rfl⟩,z⟩
 ·refine⟨its.toList,r,⟨o,n,I.kIn a o hk,hc,hd,by simpa using hs⟩,?_⟩;have e:=r.length;simp only[Array.length_toList] at e;omega
theorem Inv.tuple (I:Inv X pins σ H s) (h:SqT X.K H a xs):∃ its:List Value,cA xs its∧IsTup s.heap a its.toArray∧xs.length<=sizeLine:=by
 rcases h with h | ⟨o,its,n,hk,hc,hs,hz,r⟩
 ·obtain⟨z,its,r,p⟩:=h.ok I.hok;exact⟨its,r,p,z⟩
 ·refine⟨its.toList,r,⟨o,I.kIn a o hk,hc,n,by simpa using hs⟩,?_⟩;have e:=r.length;simp only[Array.length_toList] at e;omega
theorem Inv.list_inj (I:Inv X pins σ H s) (h:SqL X.K H a xs) (h':SqL X.K H a ys):xs=ys:=by
 obtain⟨its,r,⟨o,n,e,_,_,d⟩,_⟩:=I.list h;obtain⟨its',r',⟨o',n',e',_,_,d'⟩,_⟩:=I.list h';rw[e] at e'; cases e';rw[d] at d';injection d' with d1 _
 have:its=its':=by simpa using congrArg Array.toList d1
 subst this;exact r.inj r'
theorem Inv.tuple_inj (I:Inv X pins σ H s) (h:SqT X.K H a xs) (h':SqT X.K H a ys):xs=ys:=by
 obtain⟨its,r,⟨o,e,_,n,d⟩,_⟩:=I.tuple h;obtain⟨its',r',⟨o',e',_,n',d'⟩,_⟩:=I.tuple h';rw[e] at e'; cases e';rw[d] at d';injection d' with d1 _
 have:its=its':=by simpa using congrArg Array.toList d1
 subst this;exact r.inj r'
end

abbrev Cx.wish (X:Cx) (E:Value->Shared->Prop):Cx:={ X with xe:=E }
abbrev Cx.nox (X:Cx):Cx:=X.wish fun _ _=>False
theorem Cx.Ok.wish {X:Cx}(ok:X.Ok) (E:Value->Shared->Prop):(X.wish E).Ok:=
 ⟨ok.mod,ok.kind,ok.glob,ok.blt,ok.above,ok.inj,ok.has,ok.cab,ok.hd,ok.frames,ok.stk,ok.exf,ok.bs,ok.bsz,ok.noex,ok.exfs,ok.funs,ok.frf⟩
theorem Cx.Ok.unwish {X:Cx}{E:Value->Shared->Prop}(ok:(X.wish E).Ok):X.Ok:=
 ⟨ok.mod,ok.kind,ok.glob,ok.blt,ok.above,ok.inj,ok.has,ok.cab,ok.hd,ok.frames,ok.stk,ok.exf,ok.bs,ok.bsz,ok.noex,ok.exfs,ok.funs,ok.frf⟩
section
variable {X:Cx}{pins:List (Addr×Obj)}{σ:St}{H:Hp}{s:Shared}{E:Value->Shared->Prop}
theorem Inv.wish (I:Inv X pins σ H s) (E:Value->Shared->Prop):Inv (X.wish E) pins σ H s:=⟨I.ok.wish E,I.os,I.bare,I.base,I.loc,I.cell,I.free,I.freeC,I.pin,I.hok,I.len⟩
theorem Inv.unwish (I:Inv (X.wish E) pins σ H s):Inv X pins σ H s:=⟨I.ok.unwish,I.os,I.bare,I.base,I.loc,I.cell,I.free,I.freeC,I.pin,I.hok,I.len⟩
theorem SP.unwish {D:mY}{f:Flow}{s':Shared}(h:SP (X.wish E) pins D f s'):SP X pins D f s':=by
 cases f with
 | next=>obtain⟨σ',H',I,q⟩:=h; exact⟨σ',H',I.unwish,q⟩
 | brk=>obtain⟨σ',H',I,q⟩:=h; exact⟨σ',H',I.unwish,q⟩
 | cont=>obtain⟨σ',H',I,q⟩:=h; exact⟨σ',H',I.unwish,q⟩
 | ret u=>obtain⟨v,σ',H',I,r,q⟩:=h; exact⟨v,σ',H',I.unwish,r,q⟩
theorem PSs.nox {st:List Stmt}{t:TS}(h:PSs X.nox st t):PSs X st t:=fun pins s σ H D I hw=>
 wpAny_mono (h pins s σ H D (I.wish _) hw) (fun _ _ q=>q.unwish) fun _ _ z=>False.elim z
end

section
variable {X:Cx}{st:Stmt}{rest:List Stmt}{t u:TS}{e:Expr}{te:TE}{pos:Pos}
def aLn:TS:=fun D σ H=>D.nx σ H
def aNk (t u:TS):TS:=fun D σ H=>t { D with nx:=u D } σ H
theorem cF:PSs X [] aLn:=fun _ _ σ H _ I h=>wpAny_execs_nil ⟨σ,H,I,h⟩
theorem aK (h1:PS X st t) (h2:PSs X rest u):PSs X (st::rest) (aNk t u):=by
 intro pins s σ H D I h;refine wpAny_execs_cons (thn (h1 pins s σ H { D with nx:=u D } I h) fun f s1 q=>?_);cases f with
 | next=>
  obtain⟨σ',H',I',q⟩:=q;exact h2 pins s1 σ' H' D I' q
 | ret v=>exact q
 | brk=>exact q
 | cont=>exact q
theorem aL (h1:PS X st t):PSs X [st] t:=by
 intro pins s σ H D I h;refine wpAny_execs_cons (thn (h1 pins s σ H D I h) fun f s1 q=>?_);cases f with
 | next=>exact wpAny_execs_nil q
 | ret v=>exact q
 | brk=>exact q
 | cont=>exact q
theorem Inv.quiet {pins:List (Addr×Obj)}{σ:St}{H:Hp}{s:Shared}(I:Inv X pins σ H s):interactive X.env=false:=by simp[interactive,I.ok.kind]
def aLq (te:TE):TS:=fun D σ H=>te σ H fun _ H1=>D.nx σ H1
theorem dI (he:PE X e te) (hs:swapsWith e none pos.line X.env=pure false:=by rfl):PS X (.Expr e pos) (aLq te):=by
 intro pins s σ H D I h;exact wpAny_Expr_any (thn (he pins s σ H _ I h) fun v s1 ⟨x,H1,I1,r1,q1⟩=>⟨σ,H1,I1,q1⟩) I.quiet hs
def aNl (te:TE):TS:=fun D σ H=>te σ H D.rt
theorem bS (he:PE X e te):PS X (.Return (some e) pos) (aNl te):=by
 intro pins s σ H D I h;exact wpAny_Return_some (thn (he pins s σ H _ I h) fun v s1 ⟨x,H1,I1,r1,q1⟩=>⟨x,σ,H1,I1,r1,q1⟩)
def aNo (c:TT) (t u:TS):TS:=fun D σ H=>c σ H fun b H1=>if b=true then t D σ H1 else u D σ H1
theorem dJ {c:Expr}{a b:List Stmt}{tc:TT}(hc:PT X c tc) (ha:PSs X a t) (hb:PSs X b u):PS X (.If c a b pos) (aNo tc t u):=by
 intro pins s σ H D I h;refine wpAny_If (thn (hc pins s σ H _ I h) fun d s1 ⟨H1,I1,q1⟩=>?_);cases d with
 | true=>exact ha pins s1 σ H1 D I1 q1
 | false=>exact hb pins s1 σ H1 D I1 q1
end

abbrev TG:=V->St->Hp->(St->Hp->Prop)->Prop
abbrev TGs:=List V->St->Hp->(St->Hp->Prop)->Prop
def PG (X:Cx) (target:Expr) (t:TG):Prop:=
 ∀ (pins:List (Addr×Obj)) (s:Shared) (σ:St) (H:Hp) (v:V) (u:Value) (Q:St->Hp->Prop),Inv X pins σ H s->cG v u->t v σ H Q ->
  wpAny (model X.prog X.w) X.A (assign target X.env u) (fun _ s'=>∃ σ' H',Inv X pins σ' H' s'∧Q σ' H') X.xe s
def PGs (X:Cx) (ts:List Expr) (t:TGs):Prop:=
 ∀ (pins:List (Addr×Obj)) (s:Shared) (σ:St) (H:Hp) (vs:List V) (us:List Value) (Q:St->Hp->Prop),Inv X pins σ H s->cA vs us->t vs σ H Q ->
  wpAny (model X.prog X.w) X.A (assignInOrder ((assignEach ts X.env).map (·.2)) us) (fun _ s'=>∃ σ' H',Inv X pins σ' H' s'∧Q σ' H') X.xe s
section
variable {X:Cx}{pos:Pos}
def eQ (i:Nat):TG:=fun v σ H Q=>Q (σ.set i (some v)) H
theorem aP {i:Nat}{x:Str}(hN:X.N.Nodup) (hi:X.N[i]?=some x) (hx:Loc X.env.scope x) (hf:X.fn x=true∨X.env.scope.names.lookup x=some .local:=by first | exact .inl rfl | exact .inr rfl | assumption):PG X (.Name x pos) (eQ i):=by
 intro pins s σ H v u Q I r h;exact wpAny_assign_Name (vY I hN hi hx r (fun s' I'=>⟨_,H,I',h⟩) hf)
def vM:TGs:=fun vs σ H Q=>vs=[]∧Q σ H
inductive fY (t:TG) (u:TGs) (vs:List V) (σ:St) (H:Hp) (Q:St->Hp->Prop):Prop
 | mk (v:V) (r:List V) (h1:vs=v::r) (q:t v σ H fun σ' H'=>u r σ' H' Q)

theorem dL:PGs X [] vM:=by
 intro pins s σ H vs us Q I r h;obtain⟨e,h⟩:=h;subst e;cases r;exact assignInOrder_nil ⟨σ,H,I,h⟩
theorem aX {e:Expr}{es:List Expr}{t:TG}{u:TGs}(h1:PG X e t) (h2:PGs X es u)
  (hs:(assignEach (e::es) X.env).map (·.2)=assign e X.env::(assignEach es X.env).map (·.2):=by rfl):PGs X (e::es) (fY t u):=by
 intro pins s σ H vs us Q I r h;obtain⟨v,vr,e1,h⟩:=h;subst e1;cases r with
 | cons r rr=>
  rw[hs];refine assignInOrder_cons (thn (h1 pins s σ H _ _ _ I r h) fun _ s1 ⟨σ1,H1,I1,q1⟩=>?_);exact h2 pins s1 σ1 H1 _ _ Q I1 rr q1
inductive vL (K:PySem.W.Frag) (n:Nat) (t:TGs) (v:V) (σ:St) (H:Hp) (Q:St->Hp->Prop):Prop
 | mk (a:Addr) (xs:List V) (h1:v=.ref a) (h2:SqT K H a xs) (h3:xs.length=n) (q:t xs σ H Q)

theorem eU {es:List Expr}{k:Nat}{t:TGs}{n:Nat}(hc:X.calm=true) (h:PGs X es t)
  (hn:(assignEach es X.env).length=n:=by rfl) (hst:(assignEach es X.env).findIdx? (·.1)=none:=by rfl):PG X (.Tuple es k pos) (vL X.K n t):=by
 intro pins s σ H v u Q I r hw;obtain⟨a,xs,e1,hq,hl,hw⟩:=hw;subst e1;cases r;obtain⟨its,rv,ht,hz⟩:=I.tuple hq;refine assign_Tuple_tuple (I.ok.hd hc) ht (by simp[hn,← hl,rv.length]) hst fun h' hx=>?_;have I1:Inv X pins σ H { s with heap:=h' }:=I.kept (t':=s.toks) fun b o e=>hx b o (Nat.ne_of_lt (Heap.lt_size e)) e;exact h pins _ σ H xs _ Q I1 (by simpa using rv) hw
def aJp (te:TE) (g:TG):TS:=fun D σ H=>te σ H fun x H1=>g x σ H1 D.nx
theorem aJx {tg e:Expr}{te:TE}{g:TG}(he:PE X e te) (hg:PG X tg g) (hs:swapsWithSole [tg] e pos.line X.env=pure false:=by rfl) (hw:swappedStores [tg] e X.env=pure none:=by rfl)
  (h1:(assignEach [tg] X.env).map (·.2)=[assign tg X.env]:=by rfl):PS X (.Assign [tg] e pos) (aJp te g):=by
 intro pins s σ H D I h;refine wpAny_Assign_stores (thn (he pins s σ H _ I h) fun v s1 ⟨x,H1,I1,r1,q1⟩=>?_) hs hw;rw[h1];exact thn (hg pins s1 σ H1 x v _ I1 r1 q1) fun _ s2 q=>q
theorem bO {i:Nat}{x:Str}{e:Expr}{te:TE}{pos':Pos}(hN:X.N.Nodup) (hi:X.N[i]?=some x) (hx:Loc X.env.scope x) (he:PE X e te) (hs:swapsWith e (some (.Name x pos')) pos.line X.env=pure false:=by rfl) (hf:X.fn x=true∨X.env.scope.names.lookup x=some .local:=by first | exact .inl rfl | exact .inr rfl | assumption) :
  PS X (.Assign [.Name x pos'] e pos) (aJp te (eQ i)):=by
 intro pins s σ H D I h;refine wpAny_Assign_Name (thn (he pins s σ H _ I h) fun v s1 ⟨y,H1,I1,r1,q1⟩=>?_) hs;exact vY I1 hN hi hx r1 (fun s2 I2=>⟨_,H1,I2,q1⟩) hf
end

section
variable {X:Cx}{pos:Pos}
def aJh (c:TT) (tb:TS):TS:=fun D σ H=>∃ W:Nat->St->Hp->Prop,(∃ m,W m σ H)∧∀ m σ H,W m σ H ->
 c σ H fun b H1=>if b=true then ∃ N:St->Hp->Prop,(∀ σ' H',N σ' H'->∃ m',m'<m∧W m' σ' H')∧tb { D with nx:=N,ct:=N,bk:=D.nx } σ H1 else D.nx σ H1
theorem aEd {c:Expr}{body:List Stmt}{tc:TT}{tb:TS}(hp:PassesOwn (model X.prog X.w) X.A X.env X.xe) (hc:PT X c tc) (hb:PSs X body tb):PS X (.While c body [] pos) (aJh tc tb):=by
 intro pins s σ H D I h;obtain⟨W,⟨m0,w0⟩,turn⟩:=h;refine wpAny_While (codeAny_whileLoop (fun n s'=>∃ σ' H',Inv X pins σ' H' s'∧W n σ' H') ?_ m0 ⟨σ,H,I,w0⟩);rintro n s1 ⟨σ1,H1,I1,w1⟩;refine wpAny_passesOwn hp (thn (hc pins s1 σ1 H1 _ I1 (turn n σ1 H1 w1)) fun b s2 ⟨H2,I2,q2⟩=>?_);cases b with
 | true=>
  obtain⟨N,hN,q2⟩:=q2;rw[if_pos rfl];refine wpAny_passesOwn hp (thn (hb pins s2 σ1 H2 _ I2 q2) fun f s3 q3=>?_);cases f with
  | next=>
   obtain⟨σ3,H3,I3,n3⟩:=q3;obtain⟨m',hm,w3⟩:=hN σ3 H3 n3;exact⟨m',hm,σ3,H3,I3,w3⟩
  | cont=>
   obtain⟨σ3,H3,I3,n3⟩:=q3;obtain⟨m',hm,w3⟩:=hN σ3 H3 n3;exact⟨m',hm,σ3,H3,I3,w3⟩
  | brk=>exact q3
  | ret v=>exact q3
 | false=>
  rw[if_neg Bool.false_ne_true];exact wpAny_execs_nil ⟨σ1,H2,I2,q2⟩
end

structure It where
 go:Nat->Hp->Prop
 yld:Nat->Hp->V->Hp->Prop
 stop:Nat->Hp->Prop
def kY (X:Cx) (pins:List (Addr×Obj)) (H:Hp) (b:Addr):Prop:=
 H b=none∧b≠X.env.locals∧b∉X.fs∧(b∈X.ex∨X.s₀.heap.objs.size<=b)∧(∀ x c,X.env.cells.lookup x=some c->c≠b)∧∀ p∈X.pn++pins,p.1≠b
theorem Inv.fpOk {X:Cx}{pins:List (Addr×Obj)}{σ:St}{H H':Hp}{s:Shared}{b:Addr}(I:Inv X pins σ H s) (hb:s.heap.objs.size<=b) (hn:H' b=none):kY X pins H' b:=by
 refine⟨hn,Nat.ne_of_gt (Nat.lt_of_lt_of_le I.lt hb),I.nofs hb,.inr (Nat.le_trans I.sz hb),fun x c e z=>?_,fun p hp z=>?_⟩
 ·obtain⟨v,q⟩:=I.cell x c e;exact absurd (Nat.lt_of_lt_of_le q.lt (by rw[z]; exact hb)) (Nat.lt_irrefl _)
 ·exact absurd (Nat.lt_of_lt_of_le (Heap.lt_size (I.pin p hp).1) (by rw[z]; exact hb)) (Nat.lt_irrefl _)
structure xU (P:Program) (w:World) (K:PySem.W.Frag) (tg:Expr) (J:It) (fp:List Addr) (it:Addr) (tn:Nat->Heap->Prop):Prop where
 mem:it∈fp
 obj:∀ i h,tn i h->∀ b∈fp,∃ o,h.get? b=some o∧∀ v,o.data≠.cell v
 keep:∀ i h h',tn i h->(∀ b∈fp,∀ o,h.get? b=some o->h'.get? b=some o)->tn i h'
 item:∀ (X:Cx),X.prog=P->X.w=w->X.K=K->X.calm=true->∀ (i:Nat) (pins:List (Addr×Obj)) (s:Shared) (σ:St) (H:Hp) (E:Value->Shared->Prop),Inv X pins σ H s->(∀ b∈fp,kY X pins H b)->tn i s.heap->J.go i H ->
  wpAny (model P w) X.A (pyNext (.ref it)) (fun r s1=>∃ u,r=some u ∧
   wpAny (model P w) X.A (letOwnedTupleGo tg (.ref it) u) (fun _ s2=>∃ x H',Inv X pins σ H' s2∧cG x u∧J.yld i H x H'∧tn (i+1) s2.heap∧∀ b∈fp,H' b=none) E s1) E s
 done:∀ (X:Cx),X.prog=P->X.w=w->X.K=K->X.calm=true->∀ (i:Nat) (pins:List (Addr×Obj)) (s:Shared) (σ:St) (H:Hp) (E:Value->Shared->Prop),Inv X pins σ H s->(∀ b∈fp,kY X pins H b)->tn i s.heap->J.stop i H ->
  wpAny (model P w) X.A (pyNext (.ref it)) (fun r s1=>r=none∧Inv X pins σ H s1) E s
 self:∀ (A:Around) (i:Nat) (s:Shared) (Q:Value->Shared->Prop) (E:Value->Shared->Prop),tn i s.heap->Q (.ref it) s->wpAny (model P w) A (pyIter (.ref it)) Q E s
abbrev TI:=St->Hp->(It->Hp->Prop)->Prop
def PIE (X:Cx) (pins:List (Addr×Obj)) (σ:St) (tg:Expr) (R:It->Hp->Prop) (itv:Value) (s2:Shared):Prop:=
 ∃ (it:Addr) (fp:List Addr) (tn:Nat->Heap->Prop) (J:It) (H':Hp),itv=.ref it∧Inv X pins σ H' s2∧xU X.prog X.w X.K tg J fp it tn∧tn 0 s2.heap∧(∀ b∈fp,kY X pins H' b)∧R J H'
def PI (X:Cx) (tg iter:Expr) (wi:TI):Prop:=
 ∀ (pins:List (Addr×Obj)) (s:Shared) (σ:St) (H:Hp) (R:It->Hp->Prop),Inv X pins σ H s->wi σ H R ->
  wpAny (model X.prog X.w) X.A (eval iter X.env) (fun v s1=>wpAny (model X.prog X.w) X.A (pyIter v) (PIE X pins σ tg R) X.xe s1) X.xe s

theorem aAs {M:Model}{A:Around}{E:Value->Shared->Prop}{s:Shared}{tg:Expr}{it:Addr}{u:Value}{o:Obj}{n:String}{vs:Array Value}{Q:Unit->Shared->Prop}(ho:s.heap.get? it=some o) (hc:o.cls=.type n) (hd:o.data=.fields vs)
  (hn:["enumerate","zip","dict_itemiterator","dict_reverseitemiterator","odict_iterator","itertools.zip_longest","itertools.pairwise"].contains n=false) (hQ:Q () s):wpAny M A (letOwnedTupleGo tg (.ref it) u) Q E s:=by
 unfold letOwnedTupleGo
 cases tg <;> first
  | exact wpAny_pure hQ
  | (cases u <;> first
    | exact wpAny_pure hQ
    | (refine wpAny_bind (wpAny_load ho ?_)
       rw[hc,hd];show wpAny M A (if (["enumerate","zip","dict_itemiterator","dict_reverseitemiterator","odict_iterator","itertools.zip_longest","itertools.pairwise"].contains n&&vs[0]?==some (rawInt _))=true then _ else _) Q E s
       rw[if_neg (by intro h; rw[hn,Bool.false_and] at h; cases h)];exact wpAny_pure hQ))

def Itl (K:PySem.W.Frag) (a:Addr):It:=
 ⟨fun i H=>∃ xs x,SqL K H a xs∧xs[i]?=some x,fun i H x H'=>H'=H∧∀ xs,SqL K H a xs->xs[i]?=some x,fun i H=>∃ xs,SqL K H a xs∧xs.length<=i⟩
def Itr (lo:Int) (n:Nat):It:=⟨fun i _=>i<n,fun i H x H'=>H'=H∧x=.int (lo+i),fun i _=>n<=i⟩
theorem aBe {P:Program}{w:World}{K:PySem.W.Frag}{tg:Expr}(a it:Addr):xU P w K tg (Itl K a) [it] it (fun i h=>h.IsListIter it a i) where
 mem:=by simp
 obj:=fun i h st b hb=>by
  have e:b=it:=by simpa using hb
  subst e;obtain⟨o,e,c,d⟩:=st;exact⟨o,e,fun v z=>by rw[d] at z; cases z⟩
 keep:=fun i h h' st k=>st.at fun o e=>k it (by simp) o e
 item:=by
  intro X hP hw hK hc i pins s σ H E I hf st hg;subst hP hw hK;obtain⟨xs,x,hq,hx⟩:=hg;obtain⟨its,rv,p,hz⟩:=I.list hq;obtain⟨u,hu,ru⟩:=rv.get hx;obtain⟨f0,f1,f2,f3,f4,f5⟩:=hf it (by simp);refine wpAny_pyNext_list_item st p.isList (x:=u) (by simpa using hu) fun h' st' sb=>?_;have I1:Inv X pins σ H { s with heap:=h' }:=I.turned (t':=s.toks) (fun b o hb e=>(sb.2 b hb).trans e) f0 f1 f3 f4 f5;obtain⟨o,e,c,d⟩:=id st';exact⟨u,rfl,aAs (s:={ s with heap:=h' }) e c d (by decide) ⟨x,H,I1,ru,⟨rfl,fun ys hy=>by rw[I.list_inj hy hq]; exact hx⟩,st',fun b hb=>(hf b hb).1⟩⟩
 done:=by
  intro X hP hw hK hc i pins s σ H E I hf st hg;subst hP hw hK;obtain⟨xs,hq,hx⟩:=hg;obtain⟨its,rv,p,hz⟩:=I.list hq;obtain⟨f0,f1,f2,f3,f4,f5⟩:=hf it (by simp);have hl:=rv.length;exact wpAny_pyNext_list_end (I.ok.hd hc) st p.isList (by simp; omega) fun h' eb=>⟨rfl,I.turned (t':=s.toks) (fun b o hb e=>eb b o hb e) f0 f1 f3 f4 f5⟩
 self:=fun _ _ _ _ _ st h=>wpAny_pyIter_listiter st h
theorem xY {P:Program}{w:World}{K:PySem.W.Frag}{tg:Expr}(it:Addr) (lo:Int) (n:Nat):xU P w K tg (Itr lo n) [it] it (fun i h=>IsRangeIter h it (lo+(i:Nat)*1) ((n:Int)-(i:Nat)) 1) where
 mem:=by simp
 obj:=fun i h st b hb=>by
  have e:b=it:=by simpa using hb
  subst e
  exact⟨_,st,fun v z=>by
   have z':Data.fields _=Data.cell v:=z;cases z'⟩
 keep:=fun i h h' st k=>k it (by simp) _ st
 item:=by
  intro X hP hw hK hc i pins s σ H E I hf st hg;subst hP hw hK;obtain⟨f0,f1,f2,f3,f4,f5⟩:=hf it (by simp);have W:=Walks.range (prog:=X.prog) (w:=X.w) (I.ok.hd hc) it lo 1 n;refine W.item i s _ _ hg st fun v h' tk hv st' kk=>?_;obtain⟨t,rfl⟩:=hv;have I1:Inv X pins σ H { s with heap:=h',toks:=tk }:=I.turned (fun b o hb e=>kk b o (by simpa using hb) e) f0 f1 f3 f4 f5;refine⟨_,rfl,aAs (s:={ s with heap:=h',toks:=tk }) (n:="range_iterator") st' rfl rfl (by decide) ⟨.int (lo+i),H,I1,⟨t,?_⟩,⟨rfl,rfl⟩,st',fun b hb=>(hf b hb).1⟩⟩;rw[Int.mul_one]
 done:=by
  intro X hP hw hK hc i pins s σ H E I hf st hg;subst hP hw hK;obtain⟨f0,f1,f2,f3,f4,f5⟩:=hf it (by simp);exact wpAny_pyNext_range_end (I.ok.hd hc) st (by have:n<=i:=hg; omega) fun h' eb=>⟨rfl,I.turned (t':=s.toks) (fun b o hb e=>eb b o hb e) f0 f1 f3 f4 f5⟩
 self:=fun _ _ _ _ _ st h=>wpAny_pyIter_rangeiter st h
end L2

namespace L2
open PySem PySem.Spec PyProof.Rows
section
variable {X:Cx}{tg:Expr}
inductive aPo (K:PySem.W.Frag) (x:V) (H1:Hp) (R:It->Hp->Prop):Prop
 | mk (a:Addr) (h1:x=.ref a) (h2:∃ xs,SqL K H1 a xs) (r:R (Itl K a) H1)
def aMn (K:PySem.W.Frag) (tl:TE):TI:=fun σ H R=>tl σ H fun x H1=>aPo K x H1 R
theorem dC {l:Expr}{tl:TE}(hl:PE X l tl):PI X tg l (aMn X.K tl):=by
 intro pins s σ H R I h;refine thn (hl pins s σ H _ I h) fun v s1 ⟨x,H1,I1,r1,q1⟩=>?_;obtain⟨a,e,⟨xs,hq⟩,q⟩:=q1;subst e;cases r1;obtain⟨its,rv,p,hz⟩:=I1.list hq;refine wpAny_pyIter_list p.isList ?_;refine⟨s1.heap.objs.size,[s1.heap.objs.size],_,_,H1,rfl,I1.kept (t':=s1.toks) fun b o e=>Heap.get?_push_of_some _ e,aBe a _,⟨_,Heap.get?_push_size _ rfl,rfl,rfl⟩,fun b hb=>?_,q⟩;have e:b=s1.heap.objs.size:=by simpa using hb
 subst e;exact I1.fpOk (Nat.le_refl _) (I1.hok.fresh (Nat.le_refl _))
theorem wM {pins:List (Addr×Obj)}{σ:St}{H:Hp}{s:Shared}{R:It->Hp->Prop}{E:Value->Shared->Prop}{lo hi:Int}{t u v:Tok}{tk:Nat}(I:Inv X pins σ H s) (h1:-(2^62)<=lo) (h2:lo<2^62) (h3:-(2^62)<=hi) (h4:hi<2^62)
  (q:R (Itr lo (hi-lo).toNat) H):wpAny (model X.prog X.w) X.A (pyIter (.ref s.heap.objs.size)) (PIE X pins σ tg R) E { s with heap:=s.heap.push { cls:=.type "range",data:=.fields #[.int lo t,.int hi u,.int 1 v] },toks:=tk }:=by
 refine wpAny_pyIter_range (IsRange.new ..) (small_one h1 h2 h3 h4) ?_;have I1:Inv X pins σ H { s with heap:=s.heap.push { cls:=.type "range",data:=.fields #[.int lo t,.int hi u,.int 1 v] },toks:=tk }:=I.kept fun b o e=>Heap.get?_push_of_some _ e
 refine⟨(s.heap.push { cls:=.type "range",data:=.fields #[.int lo t,.int hi u,.int 1 v] }).objs.size,[(s.heap.push { cls:=.type "range",data:=.fields #[.int lo t,.int hi u,.int 1 v] }).objs.size],_,_,H,rfl,
  I1.kept (t':=tk) fun b o e=>Heap.get?_push_of_some _ e,xY _ lo (hi-lo).toNat,?_,fun b hb=>?_,q⟩
 ·have e1:lo+((0:Nat):Int)*1=lo:=by simp
  have e2:(((hi-lo).toNat:Nat):Int)-((0:Nat):Int)=Builtin.Range.rangeSize lo hi 1:=by rw[rangeSize_one]; split <;> omega
  show IsRangeIter _ _ (lo+((0:Nat):Int)*1) ((((hi-lo).toNat:Nat):Int)-((0:Nat):Int)) 1;rw[e1,e2];exact Heap.get?_push_size _ rfl
 ·have e:b=(s.heap.push { cls:=.type "range",data:=.fields #[.int lo t,.int hi u,.int 1 v] }).objs.size:=by simpa using hb
  subst e;exact I1.fpOk (Nat.le_refl _) (I1.hok.fresh (Nat.le_refl _))
inductive aPn (vs:List V) (H1:Hp) (R:It->Hp->Prop):Prop
 | mk (j:Int) (h1:vs=[.int j]) (h2:-(2^62)<=j) (h3:j<2^62) (r:R (Itr 0 j.toNat) H1)
def aMm (ta:TA):TI:=fun σ H R=>ta σ H fun vs H1=>aPn vs H1 R
def aMl (ta:TA):TI:=fun σ H R=>ta σ H fun vs H1=>∃ i j:Int,vs=[.int i,.int j]∧(-(2^62)<=i∧i<2^62∧-(2^62)<=j∧j<2^62)∧R (Itr i (j-i).toNat) H1
theorem gT {a:Expr}{ta:TA}{p pos:Pos}(hg:Gl X "range") (hm:X.mg "range" = none) (ha:PA X [a] ta) (hs:starEach [a] X.env=[(false,eval a X.env)]:=by rfl):PI X tg (.Call (.Name "range" p) [a] [] pos) (aMm ta):=by
 intro pins s σ H R I h;refine Call_ (mI I hg hm boot_range (PyProof.Rows.callWith_type1 (thn (ha pos pins s σ H _ I h) fun us s1 ⟨vs,H1,I1,r1,q1⟩=>?_) hs rfl));obtain⟨j,e,q1,q2,q⟩:=q1;subst e;cases r1 with
 | cons r rr=>
  cases rr;obtain⟨t,rfl⟩:=r;exact call_range_1 (wM I1 (by omega) (by omega) q1 q2 (by simpa using q))
theorem aBo {a b:Expr}{ta:TA}{p pos:Pos}(hg:Gl X "range") (hm:X.mg "range" = none) (ha:PA X [a,b] ta) (hs:starEach [a,b] X.env=[(false,eval a X.env),(false,eval b X.env)]:=by rfl) (hs2:starEach [b] X.env=[(false,eval b X.env)]:=by rfl) :
  PI X tg (.Call (.Name "range" p) [a,b] [] pos) (aMl ta):=by
 intro pins s σ H R I h;refine Call_ (mI I hg hm boot_range (PyProof.Rows.callWith_type1 (thn (ha pos pins s σ H _ I h) fun us s1 ⟨vs,H1,I1,r1,q1⟩=>?_) (by rw[hs,hs2]) (by rw[hs2]; rfl)));obtain⟨i,j,e,⟨q1,q2,q3,q4⟩,q⟩:=q1;subst e;cases r1 with
 | cons r rr=>
  cases rr with
  | cons r' rr=>
   cases rr;obtain⟨t,rfl⟩:=r;obtain⟨t',rfl⟩:=r';exact call_range_2 (wM I1 q1 q2 q3 q4 q)

def aNp (wi:TI) (g:TG) (tb:TS):TS:=fun D σ H=>wi σ H fun J H1=>∃ W:Nat->Nat->St->Hp->Prop,(∃ m,W 0 m σ H1)∧∀ i m σ H,W i m σ H ->
 (J.stop i H∧D.nx σ H)∨(J.go i H∧∃ N:St->Hp->Prop,(∀ σ' H',N σ' H'->∃ m',m'<m∧W (i+1) m' σ' H')∧∀ x H',J.yld i H x H'->g x σ H' fun σ2 H2=>tb { D with nx:=N,ct:=N,bk:=D.nx } σ2 H2)
def rG (fp:List Addr) (h:Heap):List (Addr×Obj):=fp.filterMap fun b=>(h.get? b).map fun o=>(b,o)
theorem jH {fp:List Addr}{h:Heap}{b:Addr}{o:Obj}(hb:b∈fp) (e:h.get? b=some o):(b,o)∈rG fp h:=List.mem_filterMap.mpr ⟨b,hb,by rw[e]; rfl⟩
theorem aCe {fp:List Addr}{h:Heap}{p:Addr×Obj}(hp:p∈rG fp h):p.1∈fp∧h.get? p.1=some p.2:=by
 obtain⟨b,hb,e⟩:=List.mem_filterMap.mp hp;cases q:h.get? b with
 | none=>rw[q] at e; cases e
 | some o=>
  rw[q] at e;have e':(b,o)=p:=Option.some.inj e;subst e';exact⟨hb,q⟩
theorem Inv.pinned {pins:List (Addr×Obj)}{σ:St}{H:Hp}{s:Shared}{fp:List Addr}(I:Inv X pins σ H s) (hf:∀ b∈fp,kY X pins H b) (ho:∀ b∈fp,∃ o,s.heap.get? b=some o∧∀ v,o.data≠.cell v):Inv X (pins++rG fp s.heap) σ H s:=
 I.pins_of fun p hp=>(List.mem_append.mp hp).elim (fun z=>I.pin p (List.mem_append_right _ z)) fun z=>by
  obtain⟨hb,e⟩:=aCe z;obtain⟨f0,f1,f2,_⟩:=hf p.1 hb;obtain⟨o,e',d⟩:=ho p.1 hb;rw[e] at e'; cases e';exact⟨e,f0,f1,f2,d⟩
theorem Inv.unpinned {pins pl:List (Addr×Obj)}{σ:St}{H:Hp}{s:Shared}(I:Inv X (pins++pl) σ H s):Inv X pins σ H s:=I.pins_of fun p hp=>I.pin p (List.mem_append_right _ (List.mem_append_left _ hp))
theorem dS {iter:Expr}{body:List Stmt}{wi:TI}{g:TG}{tb:TS}{pos:Pos}(hp:PassesOwn (model X.prog X.w) X.A X.env X.xe) (hc:X.calm=true) (hi:PI X tg iter wi) (hg:PG X tg g) (hb:PSs X body tb)
  (hs:∀ x,foldedSetIterable iter X.env x=pure x:=by intro _; rfl):PS X (.For tg iter body [] pos) (aNp wi g tb):=by
 intro pins s σ H D I h;refine wpAny_For (thn (hi pins s σ H _ I h) fun v s1 h1=>thn h1 fun itv s2 h2=>?_) hs;obtain⟨it,fp,tn,J,H2,e,I2,T,st2,f2,W,⟨m0,w0⟩,turn⟩:=h2;subst e
 -- what stays true of the iterator's objects through the loop
 have stat:∀ {H':Hp},(∀ b∈fp,H' b=none)->∀ b∈fp,kY X pins H' b:=fun hn b hb=>⟨hn b hb,(f2 b hb).2⟩;refine codeAny_forLoop_any (fun n s'=>∃ i σ' H',Inv X pins σ' H' s'∧tn i s'.heap∧(∀ b∈fp,H' b=none)∧W i n σ' H') ?_ m0 ⟨0,σ,H2,I2,st2,fun b hb=>(f2 b hb).1,w0⟩;rintro n s3 ⟨i,σ3,H3,I3,st3,fr3,w3⟩;rcases turn i n σ3 H3 w3 with⟨stop,qn⟩ | ⟨go,N,hN,step⟩
 ·refine wpAny_passesOwn hp (thn (T.done X rfl rfl rfl hc i pins s3 σ3 H3 X.xe I3 (stat fr3) st3 stop) fun r s4 ⟨hr,I4⟩=>?_);subst hr;exact wpAny_execs_nil ⟨σ3,H3,I4,qn⟩
 ·refine wpAny_passesOwn hp (thn (T.item X rfl rfl rfl hc i pins s3 σ3 H3 X.xe I3 (stat fr3) st3 go) fun r s4 ⟨u,hr,h4⟩=>?_);subst hr;refine wpAny_passesOwn hp (thn h4 fun _ s5 ⟨x,H5,I5,r5,y5,st5,fr5⟩=>?_);have I5':=I5.pinned (stat fr5) (T.obj _ _ st5);refine wpAny_passesOwn hp (thn (hg _ s5 σ3 H5 x u _ I5' r5 (step x H5 y5)) fun _ s6 ⟨σ6,H6,I6,q6⟩=>?_);refine wpAny_passesOwn hp (thn (hb _ s6 σ6 H6 _ I6 q6) fun f s7 q7=>?_)
  have again:∀ {σ7:St}{H7:Hp},Inv X (pins++rG fp s5.heap) σ7 H7 s7->N σ7 H7->∃ m,m<n∧∃ i σ' H',Inv X pins σ' H' s7∧tn i s7.heap∧(∀ b∈fp,H' b=none)∧W i m σ' H':=fun {σ7 H7} I7 n7=>by
   obtain⟨m',hm,w7⟩:=hN σ7 H7 n7;refine⟨m',hm,i+1,σ7,H7,I7.unpinned,T.keep _ _ _ st5 fun b hb o e=>(I7.pin (b,o) (List.mem_append_right _ (List.mem_append_right _ (jH hb e)))).1,fun b hb=>?_,w7⟩;obtain⟨o,e,d⟩:=T.obj _ _ st5 b hb;exact (I7.pin (b,o) (List.mem_append_right _ (List.mem_append_right _ (jH hb e)))).2.1
  cases f with
  | next=>obtain⟨σ7,H7,I7,n7⟩:=q7; exact again I7 n7
  | cont=>obtain⟨σ7,H7,I7,n7⟩:=q7; exact again I7 n7
  | brk=>obtain⟨σ7,H7,I7,q7⟩:=q7; exact⟨σ7,H7,I7.unpinned,q7⟩
  | ret v=>obtain⟨x7,σ7,H7,I7,r7,q7⟩:=q7; exact⟨x7,σ7,H7,I7.unpinned,r7,q7⟩
end

theorem dN {K:PySem.W.Frag}{a:Addr}{xs:List V}{g:TG}{tb:TS}{D:mY}{σ:St}{H:Hp}(Pv:Nat->St->Hp->Prop) (h0:Pv 0 σ H) (hl:∀ i σ H,i<=xs.length->Pv i σ H->SqL K H a xs)
  (hs:∀ i x σ H,xs[i]?=some x->Pv i σ H->g x σ H fun σ2 H2=>tb { D with nx:=Pv (i+1),ct:=Pv (i+1),bk:=D.nx } σ2 H2) (hd:∀ σ H,Pv xs.length σ H->D.nx σ H) :
  ∃ W:Nat->Nat->St->Hp->Prop,(∃ m,W 0 m σ H)∧∀ i m σ H,W i m σ H ->
   ((Itl K a).stop i H∧D.nx σ H)∨((Itl K a).go i H∧∃ N:St->Hp->Prop,(∀ σ' H',N σ' H'->∃ m',m'<m∧W (i+1) m' σ' H')∧∀ x H',(Itl K a).yld i H x H'->g x σ H' fun σ2 H2=>tb { D with nx:=N,ct:=N,bk:=D.nx } σ2 H2):=by
 refine⟨fun i m σ H=>m=xs.length-i∧i<=xs.length∧Pv i σ H,⟨xs.length,by simp,Nat.zero_le _,h0⟩,?_⟩;rintro i m σ H ⟨rfl,hi,p⟩;have q:=hl i σ H hi p
 by_cases hlt:i<xs.length
 ·refine .inr ⟨⟨xs,xs[i],q,by simp[hlt]⟩,Pv (i+1),fun σ' H' p'=>⟨xs.length-(i+1),by omega,rfl,hlt,p'⟩,fun x H' y=>?_⟩;obtain⟨e,y⟩:=y;subst e;exact hs i x σ _ (y xs q) p
 ·have e:i=xs.length:=by omega
  subst e;exact .inl ⟨⟨xs,q,Nat.le_refl _⟩,hd σ H p⟩
theorem uG {lo:Int}{n:Nat}{g:TG}{tb:TS}{D:mY}{σ:St}{H:Hp}(Pv:Nat->St->Hp->Prop) (h0:Pv 0 σ H)
  (hs:∀ i σ H,i<n->Pv i σ H->g (.int (lo+i)) σ H fun σ2 H2=>tb { D with nx:=Pv (i+1),ct:=Pv (i+1),bk:=D.nx } σ2 H2) (hd:∀ σ H,Pv n σ H->D.nx σ H) :
  ∃ W:Nat->Nat->St->Hp->Prop,(∃ m,W 0 m σ H)∧∀ i m σ H,W i m σ H ->
   ((Itr lo n).stop i H∧D.nx σ H)∨((Itr lo n).go i H∧∃ N:St->Hp->Prop,(∀ σ' H',N σ' H'->∃ m',m'<m∧W (i+1) m' σ' H')∧∀ x H',(Itr lo n).yld i H x H'->g x σ H' fun σ2 H2=>tb { D with nx:=N,ct:=N,bk:=D.nx } σ2 H2):=by
 refine⟨fun i m σ H=>m=n-i∧i<=n∧Pv i σ H,⟨n,by simp,Nat.zero_le _,h0⟩,?_⟩;rintro i m σ H ⟨rfl,hi,p⟩
 by_cases hlt:i<n
 ·refine .inr ⟨hlt,Pv (i+1),fun σ' H' p'=>⟨n-(i+1),by omega,rfl,hlt,p'⟩,fun x H' y=>?_⟩;obtain⟨e,y⟩:=y;subst e y;exact hs i σ _ hlt p
 ·have e:i=n:=by omega
  subst e;exact .inl ⟨Nat.le_refl _,hd σ H p⟩
end L2

namespace L2
open PySem PySem.Spec PyProof.Rows

abbrev R2:=V->V->Hp->VK->Prop
def OpR (X:Cx) (f:Value->Value->Sem Value) (r:R2):Prop:=
 ∀ (pins:List (Addr×Obj)) (s:Shared) (σ:St) (H:Hp) (x y:V) (v u:Value) (Q:VK),Inv X pins σ H s->cG x v->cG y u->r x y H Q ->
  wpAny (model X.prog X.w) X.A (f v u) (EP X pins σ Q) X.xe s
def UnR (X:Cx) (f:Value->Sem Value) (r:V->Hp->VK->Prop):Prop:=
 ∀ (pins:List (Addr×Obj)) (s:Shared) (σ:St) (H:Hp) (x:V) (v:Value) (Q:VK),Inv X pins σ H s->cG x v->r x H Q ->
  wpAny (model X.prog X.w) X.A (f v) (EP X pins σ Q) X.xe s
def CallR (X:Cx) (f:Value) (r:List V->Hp->VK->Prop):Prop:=
 ∀ (pins:List (Addr×Obj)) (s:Shared) (σ:St) (H:Hp) (xs:List V) (us:List Value) (Q:VK),Inv X pins σ H s->cA xs us->r xs H Q ->
  wpAny (model X.prog X.w) X.A (call f us) (EP X pins σ Q) X.xe s
def aPj (X:Cx) (r:V->Hp->(Bool->Hp->Prop)->Prop):Prop:=
 ∀ (pins:List (Addr×Obj)) (s:Shared) (σ:St) (H:Hp) (x:V) (v:Value) (Q:Bool->Hp->Prop),Inv X pins σ H s->cG x v->r x H Q ->
  wpAny (model X.prog X.w) X.A (truthy v) (TP X pins σ Q) X.xe s

def tOp (r:R2) (ta tb:TE):TE:=fun σ H Q=>ta σ H fun x H1=>tb σ H1 fun y H2=>r x y H2 Q
def tUn (r:V->Hp->VK->Prop) (ta:TE):TE:=fun σ H Q=>ta σ H fun x H1=>r x H1 Q
inductive rI (C:Int->Int->Prop) (g:Int->Int->V) (x:V) (y:V) (H:Hp) (Q:VK):Prop
 | mk (i:_) (j:_) (h0_:x=.int i) (h1_:y=.int j) (h2_:C i j) (h3_:Q (g i j) H)
inductive rI0 (g:Int->Int->V) (x:V) (y:V) (H:Hp) (Q:VK):Prop
 | mk (i:_) (j:_) (h0_:x=.int i) (h1_:y=.int j) (h2_:Q (g i j) H)
def rU (g:Int->V):V->Hp->VK->Prop:=fun x H Q=>∃ i,x=.int i∧Q (g i) H

section
variable {X:Cx}{a b c:Expr}{ta tb tc:TE}{pos:Pos}

theorem aLe (ha:PE X a ta) (hb:PE X b tb){pins:List (Addr×Obj)}{s:Shared}{σ:St}{H:Hp}{R:V->V->Hp->Prop}(I:Inv X pins σ H s)
  (h:ta σ H fun x H1=>tb σ H1 fun y H2=>R x y H2){Q:Value->Shared->Prop}{f:Value->Value->Sem Value}
  (hf:∀ v u s2 x y H2,Inv X pins σ H2 s2->cG x v->cG y u->R x y H2->wpAny (model X.prog X.w) X.A (f v u) Q X.xe s2) :
  wpAny (model X.prog X.w) X.A (eval a X.env) (fun v s₁=>wpAny (model X.prog X.w) X.A (eval b X.env) (fun u s₂=>wpAny (model X.prog X.w) X.A (f v u) Q X.xe s₂) X.xe s₁) X.xe s:=by
 refine thn (ha pins s σ H _ I h) fun v s1 ⟨x,H1,I1,r1,q1⟩=>?_;refine thn (hb pins s1 σ H1 _ I1 q1) fun u s2 ⟨y,H2,I2,r2,q2⟩=>?_;exact hf v u s2 x y H2 I2 r1 r2 q2

theorem aY {op:Operator}{r:R2}(ho:OpR X (binaryOp op) r) (ha:PE X a ta) (hb:PE X b tb):PE X (.BinOp a op b pos) (tOp r ta tb):=by
 intro pins s σ H Q I h;exact wpAny_BinOp (aLe ha hb I h fun v u s2 x y H2 I2 rx ry q=>ho pins s2 σ H2 x y v u Q I2 rx ry q)
theorem aMd {op:UnaryOp}{r:V->Hp->VK->Prop}(ho:UnR X (unaryOp op) r) (ha:PE X a ta):PE X (.UnaryOp op a pos) (tUn r ta):=by
 intro pins s σ H Q I h;exact UnaryOp_ (thn (ha pins s σ H _ I h) fun v s1 ⟨x,H1,I1,r1,q1⟩=>ho pins s1 σ H1 x v Q I1 r1 q1)

theorem opI {f:Value->Value->Sem Value}{C:Int->Int->Prop}{g:Int->Int->Int}
  (rule:∀ (i j:Int) (t u:Tok) (s:Shared) (Q:Value->Shared->Prop) (E:Value->Shared->Prop),C i j->Q (.int (g i j) s.toks) { s with toks:=s.toks+1 }->wpAny (model X.prog X.w) X.A (f (.int i t) (.int j u)) Q E s) :
  OpR X f (rI C fun i j=>.int (g i j)):=by
 intro pins s σ H x y v u Q I rx ry h;obtain⟨i,j,rfl,rfl,hc,q⟩:=h;obtain⟨t,rfl⟩:=rx;obtain⟨t',rfl⟩:=ry;exact rule i j t t' s _ _ hc ⟨.int (g i j),H,I.tok _,⟨_,rfl⟩,q⟩
theorem aMe {f:Value->Value->Sem Value}{g:Int->Int->Int}
  (rule:∀ (i j:Int) (t u:Tok) (s:Shared) (Q:Value->Shared->Prop) (E:Value->Shared->Prop),Q (.int (g i j) s.toks) { s with toks:=s.toks+1 }->wpAny (model X.prog X.w) X.A (f (.int i t) (.int j u)) Q E s) :
  OpR X f (rI0 fun i j=>.int (g i j)):=by
 intro pins s σ H x y v u Q I rx ry h;obtain⟨i,j,rfl,rfl,q⟩:=h;obtain⟨t,rfl⟩:=rx;obtain⟨t',rfl⟩:=ry;exact rule i j t t' s _ _ ⟨.int (g i j),H,I.tok _,⟨_,rfl⟩,q⟩
theorem aMf {f:Value->Value->Sem Value}{g:Int->Int->Bool}
  (rule:∀ (i j:Int) (t u:Tok) (s:Shared) (Q:Value->Shared->Prop) (E:Value->Shared->Prop),Q (.bool (g i j)) s->wpAny (model X.prog X.w) X.A (f (.int i t) (.int j u)) Q E s) :
  OpR X f (rI0 fun i j=>.bl (g i j)):=by
 intro pins s σ H x y v u Q I rx ry h;obtain⟨i,j,rfl,rfl,q⟩:=h;obtain⟨t,rfl⟩:=rx;obtain⟨t',rfl⟩:=ry;exact rule i j t t' s _ _ ⟨.bl (g i j),H,I,rfl,q⟩

def aPr (i j:Int):Prop:=0<j∧j<1073741824
def aLj (i j:Int):Prop:=(-(2^64)<i∧i<2^64)∨(-(2^64)<j∧j<2^64)
theorem aLj.ok {i j:Int}(h:aLj i j):IntMulOk i j:=by
 rcases h with⟨h1,h2⟩ | ⟨h1,h2⟩
 ·exact .of_left (intBits_le_64 h1 h2)
 ·exact .of_right (intBits_le_64 h1 h2)

theorem dU:OpR X (binaryOp .Add) (rI0 fun i j=>.int (i+j)):=aMe fun _ _ _ _ _ _ _ q=>add_int q
theorem aKc:OpR X (binaryOp .Sub) (rI0 fun i j=>.int (i-j)):=aMe fun _ _ _ _ _ _ _ q=>sub_int q
theorem lZ:OpR X (binaryOp .Mult) (rI aLj fun i j=>.int (i*j)):=opI fun _ _ _ _ _ _ _ hc q=>mul_int q hc.ok
theorem eE:OpR X (binaryOp .FloorDiv) (rI aPr fun i j=>.int (i/j)):=opI fun i j _ _ _ _ _ hc q=>by
 have h1:(0:Int)<j:=hc.1;have h2:j<1073741824:=hc.2;exact floordiv_int (by omega) (by rw[Int.fdiv_eq_ediv_of_nonneg i (by omega)]; exact q) (.inl (PyProof.noPylong_small (by omega)))
theorem cQ:OpR X (binaryOp .Mod) (rI (fun _ j=>0<j) fun i j=>.int (i%j)):=opI fun i j _ _ _ _ _ hc q=>by
 have h1:(0:Int)<j:=hc;exact mod_int' (by omega) (by rw[Int.fmod_eq_emod_of_nonneg i (by omega)]; exact q)


theorem unI {f:Value->Sem Value}{g:Int->Int}
  (rule:∀ (i:Int) (t:Tok) (s:Shared) (Q:Value->Shared->Prop) (E:Value->Shared->Prop),Q (.int (g i) s.toks) { s with toks:=s.toks+1 }->wpAny (model X.prog X.w) X.A (f (.int i t)) Q E s) :
  UnR X f (rU fun i=>.int (g i)):=by
 intro pins s σ H x v Q I rx h;obtain⟨i,rfl,q⟩:=h;obtain⟨t,rfl⟩:=rx;exact rule i t s _ _ ⟨.int (g i),H,I.tok _,⟨_,rfl⟩,q⟩
theorem aJf:UnR X (unaryOp .USub) (rU fun i=>.int (-i)):=unI fun _ _ _ _ _ q=>neg_int q

end

def aLu:V->V->Bool
 | .non,.non=>true | .non,.int _=>true | .int _,.non=>true | .non,.bl _=>true | .bl _,.non=>true | .non,.str _=>true | .str _,.non=>true
 | .int _,.int _=>true | .bl _,.bl _=>true | .str _,.str _=>true | .byt _,.byt _=>true
 | .int _,.str _=>true | .str _,.int _=>true | .bl _,.str _=>true | .str _,.bl _=>true
 | _,_=>false
def rEq:R2:=fun x y H Q=>aLu x y=true∧Q (.bl (decide (x=y))) H
def rNe:R2:=fun x y H Q=>aLu x y=true∧Q (.bl (!decide (x=y))) H

theorem aAw {i j:Int}:decide (V.int i=V.int j)=(i==j):=by
 rw[Bool.eq_iff_iff]
 simp
theorem aFv {i j:Bool}:decide (V.bl i=V.bl j)=(i==j):=by
 rw[Bool.eq_iff_iff]
 simp
theorem aAv {i j:Str}:decide (V.str i=V.str j)=(i==j):=by
 rw[Bool.eq_iff_iff]
 simp
theorem aAx {i j:Array UInt8}:decide (V.byt i=V.byt j)=(i.toList==j.toList):=by
 rw[Bool.eq_iff_iff];cases i;cases j
 simp

section
variable {X:Cx}{a b c:Expr}{ta tb tc:TE}{pos:Pos}
theorem cJ {pins:List (Addr×Obj)}{σ:St}{H:Hp}{s:Shared}{Q:VK}{k k':Bool}(I:Inv X pins σ H s) (q:Q (.bl k) H) (e:k=k'):EP X pins σ Q (.bool k') s:=by
 subst e;exact⟨.bl k,H,I,rfl,q⟩
theorem rO:OpR X (compareOp .Eq) rEq:=by
 intro pins s σ H x y v u Q I rx ry h;obtain⟨hs,q⟩:=h;cases x with
 | non=>
  cases rx;cases y with
  | non=>cases ry; exact PySem.EqNone.eq_none_none (cJ I q (by simp))
  | bl j=>cases ry; exact PySem.EqNone.eq_none_bool (cJ I q (by simp))
  | int j=>obtain⟨t',rfl⟩:=ry; exact PySem.EqNone.eq_none_int (cJ I q (by simp))
  | str j=>obtain⟨t',rfl⟩:=ry; exact PySem.EqNone.eq_none_str (cJ I q (by simp))
  | _=>exact absurd (show false=true from hs) Bool.false_ne_true
 | bl i=>
  cases rx;cases y with
  | non=>cases ry; exact PySem.EqNone.eq_bool_none (cJ I q (by simp))
  | bl j=>cases ry; exact eq_bool (cJ I q aFv)
  | str j=>obtain⟨t',rfl⟩:=ry; exact PySem.EqMixed.eq_bool_str (cJ I q (by simp))
  | _=>exact absurd (show false=true from hs) Bool.false_ne_true
 | int i=>
  obtain⟨t,rfl⟩:=rx;cases y with
  | non=>cases ry; exact PySem.EqNone.eq_int_none (cJ I q (by simp))
  | int j=>obtain⟨t',rfl⟩:=ry; exact eq_int (cJ I q aAw)
  | str j=>obtain⟨t',rfl⟩:=ry; exact PySem.EqMixed.eq_int_str (cJ I q (by simp))
  | _=>exact absurd (show false=true from hs) Bool.false_ne_true
 | str i=>
  obtain⟨t,rfl⟩:=rx;cases y with
  | non=>cases ry; exact PySem.EqNone.eq_str_none (cJ I q (by simp))
  | bl j=>cases ry; exact PySem.EqMixed.eq_str_bool (cJ I q (by simp))
  | int j=>obtain⟨t',rfl⟩:=ry; exact PySem.EqMixed.eq_str_int (cJ I q (by simp))
  | str j=>obtain⟨t',rfl⟩:=ry; exact eq_str (cJ I q aAv)
  | _=>exact absurd (show false=true from hs) Bool.false_ne_true
 | byt i=>
  obtain⟨t,rfl⟩:=rx;cases y with
  | byt j=>obtain⟨t',rfl⟩:=ry; exact PySem.W.eq_bytes (cJ I q aAx)
  | _=>exact absurd (show false=true from hs) Bool.false_ne_true
 | _=>cases y <;> exact absurd (show false=true from hs) Bool.false_ne_true
theorem aIs:OpR X (compareOp .NotEq) rNe:=by
 intro pins s σ H x y v u Q I rx ry h;obtain⟨hs,q⟩:=h;cases x with
 | non=>
  cases rx;cases y with
  | non=>cases ry; exact PySem.EqNone.ne_none_none (cJ I q (by simp))
  | bl j=>cases ry; exact PySem.EqNone.ne_none_bool (cJ I q (by simp))
  | int j=>obtain⟨t',rfl⟩:=ry; exact PySem.EqNone.ne_none_int (cJ I q (by simp))
  | str j=>obtain⟨t',rfl⟩:=ry; exact PySem.EqNone.ne_none_str (cJ I q (by simp))
  | _=>exact absurd (show false=true from hs) Bool.false_ne_true
 | bl i=>
  cases rx;cases y with
  | non=>cases ry; exact PySem.EqNone.ne_bool_none (cJ I q (by simp))
  | bl j=>cases ry; exact ne_bool (cJ I q (congrArg not aFv))
  | str j=>obtain⟨t',rfl⟩:=ry; exact PySem.EqMixed.ne_bool_str (cJ I q (by simp))
  | _=>exact absurd (show false=true from hs) Bool.false_ne_true
 | int i=>
  obtain⟨t,rfl⟩:=rx;cases y with
  | non=>cases ry; exact PySem.EqNone.ne_int_none (cJ I q (by simp))
  | int j=>obtain⟨t',rfl⟩:=ry; exact ne_int (cJ I q (congrArg not aAw))
  | str j=>obtain⟨t',rfl⟩:=ry; exact PySem.EqMixed.ne_int_str (cJ I q (by simp))
  | _=>exact absurd (show false=true from hs) Bool.false_ne_true
 | str i=>
  obtain⟨t,rfl⟩:=rx;cases y with
  | non=>cases ry; exact PySem.EqNone.ne_str_none (cJ I q (by simp))
  | bl j=>cases ry; exact PySem.EqMixed.ne_str_bool (cJ I q (by simp))
  | int j=>obtain⟨t',rfl⟩:=ry; exact PySem.EqMixed.ne_str_int (cJ I q (by simp))
  | str j=>obtain⟨t',rfl⟩:=ry; exact ne_str (cJ I q (congrArg not aAv))
  | _=>exact absurd (show false=true from hs) Bool.false_ne_true
 | byt i=>
  obtain⟨t,rfl⟩:=rx;cases y with
  | byt j=>obtain⟨t',rfl⟩:=ry; exact PySem.W.ne_bytes (cJ I q (congrArg not aAx))
  | _=>exact absurd (show false=true from hs) Bool.false_ne_true
 | _=>cases y <;> exact absurd (show false=true from hs) Bool.false_ne_true

theorem aEp:OpR X (compareOp .Lt) (rI0 fun i j=>.bl (decide (i<j))):=aMf fun _ _ _ _ _ _ _ q=>lt_int q
theorem rM:OpR X (compareOp .Gt) (rI0 fun i j=>.bl (decide (j<i))):=aMf fun _ _ _ _ _ _ _ q=>gt_int q
theorem tX:OpR X (compareOp .In) (fun x y H Q=>∃ i j,x=.str i∧y=.str j∧Q (.bl (!(Builtin.Str.occurrences j i 0 j.length 1).isEmpty)) H):=by
 intro pins s σ H x y v u Q I rx ry h;obtain⟨i,j,rfl,rfl,q⟩:=h;obtain⟨t,rfl⟩:=rx;obtain⟨t',rfl⟩:=ry;exact in_str (cJ I q rfl)

theorem vA:OpR X (compareOp .Is) (fun x y H Q=>y=.non∧Q (.bl (decide (x=.non))) H):=by
 intro pins s σ H x y v u Q I rx ry h;obtain⟨rfl,q⟩:=h;cases ry;refine is_none_gen (cJ I q ?_)
 cases x <;> first
  | (cases rx; rfl)
  | (obtain⟨t,rfl⟩:=rx; rfl)
theorem jF:OpR X (compareOp .IsNot) (fun x y H Q=>y=.non∧Q (.bl (!decide (x=.non))) H):=by
 intro pins s σ H x y v u Q I rx ry h;obtain⟨rfl,q⟩:=h;cases ry;refine isnot_none_gen (cJ I q ?_)
 cases x <;> first
  | (cases rx; rfl)
  | (obtain⟨t,rfl⟩:=rx; rfl)



theorem cH (b:Expr){op:CmpOp}(h:op≠.In:=by decide) (h2:op≠.NotIn:=by decide):behindInMarks op b=false:=by
 have e1:(op==CmpOp.In)=false:=by cases op <;> first | rfl | exact absurd rfl h
 have e2:(op==CmpOp.NotIn)=false:=by cases op <;> first | rfl | exact absurd rfl h2
 cases b <;> simp[behindInMarks,e1,e2]
theorem qH {op:CmpOp}{r:R2}(ho:OpR X (compareOp op) r) (ha:PE X a ta) (hb:PE X b tb) (hm:behindInMarks op b=false):PE X (.Compare a [op] [b] pos) (tOp r ta tb):=by
 intro pins s σ H Q I h;exact wpAny_Compare1 (aLe ha hb I h fun v u s2 x y H2 I2 rx ry q=>ho pins s2 σ H2 x y v u Q I2 rx ry q) hm
def aLl (t:TE):TT:=fun σ H Q=>t σ H fun x H'=>aNh x H' Q
theorem bY {op:CmpOp}{r:R2}(ho:OpR X (compareOp op) r) (ha:PE X a ta) (hb:PE X b tb) (hm:behindInMarks op b=false):PT X (.Compare a [op] [b] pos) (aLl (tOp r ta tb)):=by
 intro pins s σ H Q I h
 refine wpAny_isTrue_Compare1 (thn (ha pins s σ H _ I h) fun v s1 ⟨x,H1,I1,r1,q1⟩=>thn (hb pins s1 σ H1 _ I1 q1) fun u s2 ⟨y,H2,I2,r2,q2⟩=>
  thn (ho pins s2 σ H2 x y v u _ I2 r1 r2 q2) fun c s3 ⟨z,H3,I3,r3,k,e,q3⟩=>?_) hm
 subst e;cases r3;exact wpAny_truthy_bool ⟨H3,I3,q3⟩

def aMv (K:PySem.W.Frag) (x:V) (H:Hp) (k:Bool):Prop:=
 match x with
 | .non=>k=false
 | .bl b=>k=b
 | .int i=>k=(i != 0)
 | .str y=>y.length<=sizeLine∧k=((y.length:Int) != 0)
 | .byt y=>y.size<=sizeLine∧k=((y.size:Int) != 0)
 | .ref p=>(∃ xs,SqL K H p xs∧k=!xs.isEmpty)∨(∃ xs,SqT K H p xs∧k=!xs.isEmpty)∨∃ kvs,H p=some (.dK kvs)∧k=!kvs.isEmpty
 | _=>False
theorem zE {κ:Type}{kvs:List (κ×V)}{vs:List (κ×Value)}(r:KV kvs vs):(!vs.isEmpty)=!kvs.isEmpty:=by
 cases r <;> rfl
theorem rS {xs:List V}{its:List Value}(r:cA xs its):(!its.toArray.isEmpty)=!xs.isEmpty:=by
 cases r <;> simp
theorem rR:(sizeLine:Nat)<2^63:=by rw[sizeLine_eq]; decide
theorem aJg:aPj X (fun x H Q=>∃ k,aMv X.K x H k∧Q k H):=by
 intro pins s σ H x v Q I rx h;obtain⟨k,e,q⟩:=h;have hl:=rR;have hs:sizeLine=16777216:=sizeLine_eq;cases x with
 | non=>
  cases rx;have e':k=false:=e;subst e';exact truthy_none ⟨H,I,q⟩
 | bl b=>
  cases rx;have e':k=b:=e;subst e';exact wpAny_truthy_bool ⟨H,I,q⟩
 | int i=>
  obtain⟨t,rfl⟩:=rx;have e':k=(i != 0):=e;subst e';exact PySem.P.truthy_int ⟨H,I,q⟩
 | str y=>
  obtain⟨t,rfl⟩:=rx;obtain⟨hy,e'⟩:y.length<=sizeLine∧k=((y.length:Int) != 0):=e;subst e';exact PySem.P.truthy_str (by omega) ⟨H,I.tok _,q⟩
 | byt y=>
  obtain⟨t,rfl⟩:=rx;obtain⟨hy,e'⟩:y.size<=sizeLine∧k=((y.size:Int) != 0):=e;subst e';exact PySem.W.truthy_bytes (by omega) ⟨H,I.tok _,q⟩
 | ref p=>
  cases rx;have e':(∃ xs,SqL X.K H p xs∧k=!xs.isEmpty)∨(∃ xs,SqT X.K H p xs∧k=!xs.isEmpty)∨∃ kvs,H p=some (.dK kvs)∧k=!kvs.isEmpty:=e;rcases e' with⟨xs,hx,e'⟩ | ⟨xs,hx,e'⟩ | ⟨kvs,hx,e'⟩
  ·subst e';obtain⟨its,r,pl,hz⟩:=I.list hx;have hlen:=r.length;exact wpAny_truthy_list pl.isList (by simp only[List.size_toArray]; omega) ⟨H,I.tok _,by rw[rS r]; exact q⟩
  ·subst e';obtain⟨its,r,pl,hz⟩:=I.tuple hx;have hlen:=r.length;exact truthy_tuple pl (by simp only[List.size_toArray]; omega) ⟨H,I.tok _,by rw[rS r]; exact q⟩
  ·subst e';obtain⟨hz,hS,vs,r,m⟩:kvs.length<=sizeLine∧(p==sysModules)=false∧∃ vs,KV kvs vs∧s.heap.DictOf (dE X.prog X.w) p vs:=I.hok p _ hx;have hlen:kvs.length=vs.length:=Paired.length r;exact wpAny_truthy_dict hS m (by omega) ⟨H,I.tok _,by rw[zE r]; exact q⟩
 | _=>exact (show False from e).elim
theorem wP (ha:PE X a ta) (he:∀ whole,isTrue a X.env whole=(do let v ← whole; standAt a.pos; holding [v] (truthy v))) :
  PT X a (fun σ H Q=>ta σ H fun x H'=>∃ k,aMv X.K x H' k∧Q k H'):=by
 intro pins s σ H Q I h;exact isTrue_plain (thn (ha pins s σ H _ I h) fun v s1 ⟨x,H1,I1,r1,q1⟩=>aJg pins s1 σ H1 x v Q I1 r1 q1) (he _)

theorem yK:OpR X (binaryOp .Add) (fun x y H Q=>∃ i j,x=.str i∧y=.str j∧i.length+j.length<=sizeLine∧Q (.str (i++j)) H):=by
 intro pins s σ H x y v u Q I rx ry h;obtain⟨i,j,rfl,rfl,hz,q⟩:=h;obtain⟨t,rfl⟩:=rx;obtain⟨t',rfl⟩:=ry;exact add_str (fun t' tk=>⟨.str (i++j),H,I.tok _,⟨_,rfl⟩,q⟩) hz


theorem jR {x:V}{us:List Value}(r:cA [x] us):∃ u,us=[u]∧cG x u:=by
 cases r with
 | cons r1 r2=>cases r2; exact⟨_,rfl,r1⟩
theorem aIm {x y:V}{us:List Value}(r:cA [x,y] us):∃ u w',us=[u,w']∧cG x u∧cG y w':=by
 cases r with
 | cons r1 r2=>
  cases r2 with
  | cons r3 r4=>cases r4; exact⟨_,_,rfl,r1,r3⟩
end
end L2

namespace L2
open PySem PySem.Spec PyProof.Rows

structure zO (h:Heap) (x dx C:Addr) (mA:Str->Option Value):Prop where
 obj:h.get? x=some (PySem.W.instObj C dx)
 ns:h.Ns1 dx mA
 ne:dx≠x

theorem aCj {h:Heap}{dx:Addr}{mA:Str->Option Value}(n:h.Ns1 dx mA):∃ od,h.get? dx=some od∧∀ name,PySem.W.lookIn name od=some (mA name):=by
 obtain⟨o,es,ep,ho,hd,hk,_,hm⟩:=n;refine⟨o,ho,fun name=>?_⟩;have e:=hm name;unfold nsFind findBy at e;rw[← Array.find?_toList] at e;unfold PySem.W.lookIn;rw[hd];dsimp only;split
 ·rename_i y q
  rw[q] at e;exact congrArg some e
 ·rename_i q
  rw[q] at e
  have a:es.toList.any (·.refKey)=false:=by
   rw[List.any_eq_false];intro y hy;obtain⟨z,t,hkey⟩:=hk y (Array.mem_toList_iff.mp hy);simp[DictEntry.refKey,hkey]
  have a':¬ es.toList.any (·.refKey)=true:=by rw[a]; exact Bool.false_ne_true
  rw[if_neg a'];exact congrArg some e

theorem zO.look {h:Heap}{x dx C:Addr}{mA:Str->Option Value}(I:zO h x dx C mA):∃ od,PySem.W.InstAt h x (PySem.W.instObj C dx) C (some od)∧∀ name,PySem.W.lookIn name od=some (mA name):=
 let ⟨od,ho,hl⟩:=aCj I.ns
 ⟨od,⟨I.obj,rfl,rfl,ho⟩,hl⟩

section
variable {prog:Program}{w:World}{A:Around}{E:Value->Shared->Prop}{s:Shared}{K:PySem.W.Frag}{x dx C f:Addr}{mA:Str->Option Value}{name:Str}{v:Value}

theorem aHv {expr:Bool}{Q:Value->Shared->Prop}(X:K.In s.heap) (I:zO s.heap x dx C mA) (hg:PySem.W.plainGet K C name=true) (hh:PySem.W.hasDictIn K C=true)
  (ha:PySem.W.findIn K (.ref C) name=some none) (hv:mA name=some v) (hv':PySem.W.handedIn v=true) (h:Q v { s with toks:=s.toks+1 }) :
  wpAny (model prog w) A (getAttr (.ref x) name expr) Q E s:=by
 obtain⟨od,J,hl⟩:=I.look;exact PySem.W.get_value X J (PySem.W.plainGet_of hg).1 (PySem.W.findObj_own hh ha rfl (by rw[hl,hv])) hv' h


theorem aFp {pl:Sem Bool}{Q:Value×List Value->Shared->Prop}(X:K.In s.heap) (I:zO s.heap x dx C mA) (hg:PySem.W.plainGet K C name=true)
  (hf:PySem.W.findIn K (.ref C) name=some (some (.ref f))) (ht:PySem.W.isFn K (.ref f)=true) (hv:mA name=none) (h:Q (.ref f,[.ref x]) s) :
  wpAny (model prog w) A (getMethod (.ref x) name pl) Q E s:=by
 obtain⟨od,J,hl⟩:=I.look;exact PySem.W.method_fn X J (PySem.W.plainGet_of hg).1 (PySem.W.plainGet_of hg).2 hf (beq_iff_eq.mp ht) (by show (PySem.W.lookIn name od).map (·.isSome)=some false; rw[hl,hv]; rfl) h

theorem aGt {ns:List Str}{Q:Unit->Shared->Prop}(X:K.In s.heap) (I:zO s.heap x dx C mA)
  (hs:PySem.W.findIn K (.ref C) "__setattr__" = some (some (.builtin "object.__setattr__"))) (hp:PySem.W.plainOver K C=true) (ht:PySem.W.takerIn K C name=some none) (hh:PySem.W.hasDictIn K C=true)
  (hw:PySem.Within mA ns) (hsz:ns.length<=sizeLine)
  (h:∀ h',zO h' x dx C (fun y=>if y=name then some v else mA y)->Heap.SameBut dx s.heap h'->Q () { s with heap:=h',toks:=s.toks+2 }) :
  wpAny (model prog w) A (setAttr (.ref x) name v) Q E s:=by
 obtain⟨od,J,hl⟩:=I.look;refine PySem.W.set_plain X J hs (PySem.W.osa_open (s:={ s with toks:=s.toks+1 }) (r:=none) X J hp ht fun b=>?_);obtain⟨cd,hc,hd'⟩:=PySem.W.any_some hh;have hx:s.heap.get? x=some ⟨.ref C,some dx,.plain,#[]⟩:=I.obj;refine wpAny_bind (wpAny_pure (wpAny_bind (wpAny_bind (wpAny_loadPart hx (wpAny_bind (PySem.W.Looks.here (s:={ s with toks:=s.toks+1 }) (PySem.W.looks_clsIn X hc) ?_))))));rw[hd'];refine wpAny_pure (a:=some dx) (wpAny_bind (wpAny_pure (wpAny_bind ?_)));refine wpAny_nsSet1 (s:={ s with toks:=s.toks+1 }) I.ns fun h' hn2 hs2=>?_;obtain⟨oD,esD,epD,hoD,hdD,hcD⟩:=hn2.count (PySem.Within.cons name v hw);refine wpAny_bind (wpAny_lookBehind hoD (by rw[hdD]; exact pastItsLine_dict (Nat.le_trans hcD (by rw[List.length_cons]; omega))) ?_);exact wpAny_pure (h _ ⟨(hs2.2 _ (Ne.symm I.ne)).trans I.obj,hn2,I.ne⟩ hs2)

theorem aFj {R:Result->Shared->Prop}{vs:List Value}{kw:List (Str×Value)}(X:K.In s.heap) (hm:PySem.W.makesIn K C=true)
  (hi:PySem.W.findIn K (.ref C) "__init__" = some (some (.ref f))) (hf:PySem.W.typeIn K (.ref f)=some (.type "function"))
  (h:codeAny (model prog w) (A.under (.builtin "type.__call__" ⟨.ref C::vs,kw⟩)) (.call (.ref f) ⟨.ref (s.heap.objs.size+1)::vs,kw⟩) (PySem.W.InitBack (s.heap.objs.size+1) R)
   { s with heap:=(s.heap.push PySem.W.emptyDict).push (PySem.W.instObj C s.heap.objs.size) }) :
  codeAny (model prog w) A (.call (.ref C) ⟨vs,kw⟩) R s:=by
 obtain⟨hh,g,d,t,os⟩:=s;exact PySem.W.make_core (PySem.W.makes_of X hm) (PySem.W.looks_findIn X hi) (fun self=>PySem.W.bind_fn X self hf) (.inl rfl) h
end

def gC (f:Str) (v:V):List (Str×V)->List (Str×V)
 | []=>[(f,v)]
 | (g,x)::r=>if g=f then (g,v)::r else (g,x)::gC f v r
theorem pW (f g:Str) (v:V):∀ fs:List (Str×V),(gC f v fs).lookup g=if g=f then some v else fs.lookup g
 | []=>by
  show List.lookup g [(f,v)]=_
  by_cases h:g=f
  ·have hb:(g==f)=true:=beq_iff_eq.mpr h;simp only[List.lookup,hb,if_pos h]
  ·have hb:(g==f)=false:=beq_eq_false_iff_ne.mpr h;simp only[List.lookup,hb,if_neg h]
 | (k,x)::r=>by
  have ih:=pW f g v r;rw[show gC f v ((k,x)::r)=(if k=f then (k,v)::r else (k,x)::gC f v r) from rfl]
  by_cases hk:k=f
  ·rw[if_pos hk]
   by_cases h:g=k
   ·have hb:(g==k)=true:=beq_iff_eq.mpr h;simp only[List.lookup,hb,if_pos (h.trans hk)]
   ·have hb:(g==k)=false:=beq_eq_false_iff_ne.mpr h;simp only[List.lookup,hb,if_neg (fun e:g=f=>h (e.trans hk.symm))]
  ·rw[if_neg hk]
   by_cases h:g=k
   ·have hb:(g==k)=true:=beq_iff_eq.mpr h;simp only[List.lookup,hb,if_neg (fun e:g=f=>hk (h.symm.trans e))]
   ·have hb:(g==k)=false:=beq_eq_false_iff_ne.mpr h;simp only[List.lookup,hb];exact ih
theorem pL (f:Str) (v:V):∀ fs:List (Str×V),f∈(gC f v fs).map (·.1)∧∀ g,g∈fs.map (·.1)->g∈(gC f v fs).map (·.1)
 | []=>⟨by simp[gC],fun g h=>by simp at h⟩
 | (k,x)::r=>by
  obtain⟨i1,i2⟩:=pL f v r;rw[show gC f v ((k,x)::r)=(if k=f then (k,v)::r else (k,x)::gC f v r) from rfl]
  by_cases hk:k=f
  ·rw[if_pos hk];subst hk;exact⟨by simp,fun g h=>by simpa using h⟩
  ·rw[if_neg hk];refine⟨?_,fun g h=>?_⟩
   ·rw[List.map_cons];exact List.mem_cons_of_mem _ i1
   ·rw[List.map_cons] at h ⊢;rcases List.mem_cons.mp h with e | e
    ·exact List.mem_cons.mpr (.inl e)
    ·exact List.mem_cons_of_mem _ (i2 g e)
theorem pX (f:Str) (v:V):∀ fs:List (Str×V),(gC f v fs).length<=fs.length+1
 | []=>by simp[gC]
 | (k,x)::r=>by
  have ih:=pX f v r;rw[show gC f v ((k,x)::r)=(if k=f then (k,v)::r else (k,x)::gC f v r) from rfl]
  by_cases hk:k=f
  ·rw[if_pos hk,List.length_cons,List.length_cons]; omega
  ·rw[if_neg hk,List.length_cons,List.length_cons]; omega

theorem jP.some_of {v:V}{o:Option Value}(r:jP (some v) o):∃ u,o=some u∧cG v u:=by
 cases o with
 | none=>exact (show False from r).elim
 | some u=>exact⟨u,rfl,r⟩
theorem jP.none_of {o:Option Value}(r:jP none o):o=none:=by
 cases o with
 | none=>rfl
 | some u=>exact (show False from r).elim
theorem aCq {v:V}{u:Value}(r:cG v u):PySem.W.handedIn u=true:=by
 cases v with
 | non=>cases (show u=Value.none from r); rfl
 | bl b=>cases (show u=Value.bool b from r); rfl
 | int i=>obtain⟨t,e⟩:=(show ∃ t,u=Value.int i t from r); cases e; rfl
 | str x=>obtain⟨t,e⟩:=(show ∃ t,u=Value.str x t from r); cases e; rfl
 | byt b=>obtain⟨t,e⟩:=(show ∃ t,u=Value.bytes b t from r); cases e; rfl
 | flt b=>obtain⟨t,e⟩:=(show ∃ t,u=Value.float b t from r); cases e; rfl
 | ref a=>cases (show u=Value.ref a from r); rfl
 | ty n=>cases (show u=Value.type n from r); rfl

section
variable {P:Program}{w:World}{H H':Hp}{h h':Heap}{a C dx:Addr}{fs fs':List (Str×V)}
theorem qK (hok:HOk P w H h) (e:H a=some (.ins C dx fs)):∃ mA,zO h a dx C mA∧(∀ f,jP (fs.lookup f) (mA f))∧PySem.Within mA (fs.map (·.1))∧fs.length<=1000∧H dx=some (.own a):=by
 obtain⟨d,z,ne,ob,mA,n,r,q⟩:=(show dA P w H h a (.ins C dx fs) from hok a _ e)
 exact⟨mA,⟨ob,n,ne⟩,r,q,z,d⟩
end

structure Cls (K:PySem.W.Frag) (C:Addr):Prop where
 pg:PySem.W.plainGet K C Str.empty=true
 hd:PySem.W.hasDictIn K C=true
 po:PySem.W.plainOver K C=true
 sa:PySem.W.findIn K (.ref C) "__setattr__" = some (some (.builtin "object.__setattr__"))
theorem Cls.get {K:PySem.W.Frag}{C:Addr}(c:Cls K C) (f:Str):PySem.W.plainGet K C f=true:=c.pg
def fJ (K:PySem.W.Frag) (C:Addr) (f:Str):Prop:=PySem.W.findIn K (.ref C) f=some none
theorem fJ.taker {K:PySem.W.Frag}{C:Addr}{f:Str}(n:fJ K C f):PySem.W.takerIn K C f=some none:=by
 unfold PySem.W.takerIn;rw[show PySem.W.findIn K (.ref C) f=some none from n]
 rfl
structure cU (K:PySem.W.Frag) (C:Addr) (m:Str) (f:Addr):Prop where
 at_:PySem.W.findIn K (.ref C) m=some (some (.ref f))
 fn:PySem.W.isFn K (.ref f)=true
 kp:PySem.W.keepIn K (.ref f)=true

section
variable {X:Cx}{pins:List (Addr×Obj)}{σ:St}{H:Hp}{s:Shared}{a C dx:Addr}{fs:List (Str×V)}{f:Str}{v:V}{A:Around}{E:Value->Shared->Prop}

theorem zF {b:Bool}{Q:Value->Shared->Prop}(I:Inv X pins σ H s) (e:H a=some (.ins C dx fs)) (c:Cls X.K C) (n:fJ X.K C f) (l:fs.lookup f=some v)
  (h:∀ u s',Inv X pins σ H s'->cG v u->Q u s'):wpAny (model X.prog X.w) A (getAttr (.ref a) f b) Q E s:=by
 obtain⟨mA,O,r,_,_,_⟩:=qK I.hok e;obtain⟨u,hu,ru⟩:=jP.some_of (v:=v) (o:=mA f) (by rw[← l]; exact r f);exact aHv I.kIn O (c.get f) c.hd n hu (aCq ru) (h u _ (I.tok _) ru)


theorem rW {m:Str}{g:Addr}{pl:Sem Bool}{Q:Value×List Value->Shared->Prop}(I:Inv X pins σ H s) (e:H a=some (.ins C dx fs)) (c:Cls X.K C) (k:cU X.K C m g) (l:fs.lookup m=none)
  (h:Q (.ref g,[.ref a]) s):wpAny (model X.prog X.w) A (getMethod (.ref a) m pl) Q E s:=by
 obtain⟨mA,O,r,_,_,_⟩:=qK I.hok e;have hn:mA m=none:=jP.none_of (by rw[← l]; exact r m);exact aFp I.kIn O (c.get m) k.at_ k.fn hn h

theorem yC {y:V}{u:Value}{Q:Unit->Shared->Prop}(I:Inv X pins σ H s) (e:H a=some (.ins C dx fs)) (c:Cls X.K C) (n:fJ X.K C f) (hl:fs.length<1000) (ry:cG y u)
  (h:∀ s',Inv X pins σ (upd H a (.ins C dx (gC f y fs))) s'->Q () s'):wpAny (model X.prog X.w) A (setAttr (.ref a) f u) Q E s:=by
 obtain⟨mA,O,r,wi,_,ho⟩:=qK I.hok e;have hz:(fs.map (·.1)).length<=sizeLine:=by rw[List.length_map,sizeLine_eq]; omega
 refine aGt I.kIn O c.sa c.po n.taker c.hd wi hz fun h' O' sb=>h _ ?_;have hd:∃ o,h'.get? dx=some o:=let ⟨o,_,_,e',_⟩:=O'.ns; ⟨o,e'⟩;refine I.write (x:=a) (e:=dx) (by rw[e]; exact True.intro) (.inr ho) (fun b q hb z=>(sb.2 b hb).trans z) hd ?_;refine⟨by rw[aH O.ne]; exact ho,?_,O.ne,O'.obj,_,O'.ns,fun g=>?_,fun g hg=>?_⟩
 ·have:=pX f y fs; omega
 ·show jP ((gC f y fs).lookup g) (if g=f then some u else mA g)
  rw[pW]
  by_cases q:g=f
  ·rw[if_pos q,if_pos q]; exact ry
  ·rw[if_neg q,if_neg q]; exact r g
 ·by_cases q:g=f
  ·rw[q]; exact (pL f y fs).1
  ·refine (pL f y fs).2 g (wi g fun z=>hg ?_);show (if g=f then some u else mA g)=none
   rw[if_neg q]; exact z

theorem Inv.made (I:Inv X pins σ H s):Inv X pins σ (upd (upd H s.heap.objs.size (.own (s.heap.objs.size+1))) (s.heap.objs.size+1) (.ins C s.heap.objs.size []))
  { s with heap:=(s.heap.push PySem.W.emptyDict).push (PySem.W.instObj C s.heap.objs.size) }:=by
 have e1:(s.heap.push PySem.W.emptyDict).get? s.heap.objs.size=some PySem.W.emptyDict:=Heap.get?_push_size s.heap rfl
 have e2:((s.heap.push PySem.W.emptyDict).push (PySem.W.instObj C s.heap.objs.size)).get? (s.heap.objs.size+1)=some (PySem.W.instObj C s.heap.objs.size):=by
  have:=Heap.get?_push_size (s.heap.push PySem.W.emptyDict) (o:=PySem.W.instObj C s.heap.objs.size) rfl
  rwa [Heap.size_push] at this
 have e3:(s.heap.push PySem.W.emptyDict).Ns s.heap.objs.size (fun _=>none):=⟨PySem.W.emptyDict,#[],_,e1,rfl,(fun e he=>absurd he (by simp)),fun _=>rfl⟩;have I1:=I.laid (a:=s.heap.objs.size) (o:=.own (s.heap.objs.size+1)) (h':=s.heap.push PySem.W.emptyDict) (t':=s.toks) (fun b u q=>Heap.get?_push_of_some _ q) (Nat.le_refl _) ⟨_,e1⟩;refine I1.laid (a:=s.heap.objs.size+1) (o:=.ins C s.heap.objs.size []) (t':=s.toks) (fun b u q=>Heap.get?_push_of_some _ q) (Nat.le_of_eq (Heap.size_push _ _)) ?_;have ne:s.heap.objs.size≠s.heap.objs.size+1:=Nat.ne_of_lt (Nat.lt_succ_self _);refine⟨by rw[aH ne,aE],Nat.zero_le _,ne,e2,fun _=>none,(Heap.Ns1.of_empty e3).at fun o q=>Heap.get?_push_of_some _ q,fun _=>True.intro,fun y hy=>absurd rfl hy⟩

theorem aIc {prog:Program}{w:World}{env:Env}{e:Expr}{f:Str}{pos:Pos}{s:Shared}{Q:Value->Shared->Prop}(hb:attributeBase e f env (eval e env)=eval e env)
  (h:wpAny (model prog w) A (eval e env) (fun o s₁=>wpAny (model prog w) A (getAttr o f true) Q E s₁) E s):wpAny (model prog w) A (eval (.Attribute e f pos) env) Q E s:=
 Attribute_any_ h (by rw[arm_eval_Attribute,hb])
end

inductive aNg (K:PySem.W.Frag) (f:Str) (x:V) (H1:Hp) (Q:VK):Prop
 | mk (a C dx:Addr) (fs:List (Str×V)) (v:V) (h1:x=.ref a) (h2:H1 a=some (.ins C dx fs)) (h3:Cls K C) (h4:fJ K C f) (h5:fs.lookup f=some v) (q:Q v H1)
def aNq (K:PySem.W.Frag) (ta:TE) (f:Str):TE:=fun σ H Q=>ta σ H fun x H1=>aNg K f x H1 Q
inductive aNb (K:PySem.W.Frag) (f:Str) (x y:V) (H2:Hp) (R:Hp->Prop):Prop
 | mk (a C dx:Addr) (fs:List (Str×V)) (h1:x=.ref a) (h2:H2 a=some (.ins C dx fs)) (h3:Cls K C) (h4:fJ K C f) (h5:fs.length<1000) (q:R (upd H2 a (.ins C dx (gC f y fs))))
def aOp (K:PySem.W.Frag) (ta tv:TE) (f:Str):TS:=fun D σ H=>tv σ H fun y H1=>ta σ H1 fun x H2=>aNb K f x y H2 (D.nx σ)

section
variable {X:Cx}{o e value:Expr}{f:Str}{pos pos' tpos:Pos}{ta tv:TE}
theorem eK (he:PE X e ta) (hb:attributeBase e f X.env (eval e X.env)=eval e X.env):PE X (.Attribute e f pos) (aNq X.K ta f):=by
 intro pins s σ H Q I h;refine aIc hb (thn (he pins s σ H _ I h) fun u s1 ⟨x,H1,I1,rx,a,C,dx,fs,v,ex,ea,c,n,l,q⟩=>?_);subst ex;obtain rfl:u=Value.ref a:=rx;exact zF I1 ea c n l fun u' s2 I2 ru=>⟨v,H1,I2,ru,q⟩
theorem jB (ha:PE X o ta) (hv:PE X value tv) (hs:swapsWith value (some (.Attribute o f pos')) pos.line X.env=pure false):PS X (.Assign [.Attribute o f pos'] value pos) (aOp X.K ta tv f):=by
 intro pins s σ H D I h;refine plainObj_wpAny_Assign_Attribute (thn (hv pins s σ H _ I h) fun u s1 ⟨y,H1,I1,ry,q⟩=>thn (ha pins s1 σ H1 _ I1 q) fun ov s2 ⟨x,H2,I2,rx,a,C,dx,fs,ex,ea,c,n,l,q2⟩=>?_) hs;subst ex;obtain rfl:ov=Value.ref a:=rx;exact yC I2 ea c n l ry fun s3 I3=>⟨σ,_,I3,q2⟩

end

section
variable {X:Cx}{pins:List (Addr×Obj)}{σ:St}{H:Hp}{s:Shared}{A:Around}{E:Value->Shared->Prop}{Q:Value->Shared->Prop}{c:Value}{b:Bool}
inductive mU (K:PySem.W.Frag) (H:Hp):V->Value->Prop where
 | non:mU K H .non (.type "NoneType")
 | bl (x:Bool):mU K H (.bl x) (.type "bool")
 | int (i:Int):mU K H (.int i) (.type "int")
 | str (x:Str):mU K H (.str x) (.type "str")
 | flt (x:UInt64):mU K H (.flt x) (.type "float")
 | lst {a:Addr}{xs:List V}(e:H a=some (.lst xs)):mU K H (.ref a) (.type "list")
 | frz {a:Addr}{o:Obj}{xs:List V}(e:H a=some (.frz o (.lst xs))):mU K H (.ref a) (.type "list")
 | tup {a:Addr}{xs:List V}(e:H a=some (.tup xs)):mU K H (.ref a) (.type "tuple")
 | dK {a:Addr}{kvs:List (Key×V)}(e:H a=some (.dK kvs)):mU K H (.ref a) (.type "dict")
 | dT {a:Addr}{kvs:List (List Key×V)}(e:H a=some (.dT kvs)):mU K H (.ref a) (.type "dict")
 | ins {a C dx:Addr}{fs:List (Str×V)}(e:H a=some (.ins C dx fs)) (cl:Cls K C) (ha:PySem.W.findIn K (.ref C) "__class__" = some (some (.builtin "object.__class__")))
   (hn:PySem.W.specialIn K (.builtin "object.__class__") "__get__" = some (some (.builtin "getset_descriptor.__get__"))) (htk:PySem.W.takesIn K (.builtin "object.__class__")=some true)
   (hm:PySem.W.mroIn K C (.type "object")=some true):mU K H (.ref a) (.ref C)
theorem aCo {x:V}{u t:Value}(I:Inv X pins σ H s) (rx:cG x u) (ty:mU X.K H x t) (e:PySem.W.kitOne X.K t c=some b) (h:∀ tk,Q (.bool b) { s with toks:=tk }) :
  wpAny (model X.prog X.w) A (call (.builtin "isinstance") [u,c]) Q E s:=by
 cases ty with
 | non=>cases (show u=Value.none from rx); exact PySem.W.kia_one PySem.W.kitx_none I.kIn True.intro e (fun z=>nomatch z) h
 | bl y=>cases (show u=Value.bool y from rx); exact PySem.W.kia_one PySem.W.kitx_bool I.kIn True.intro e (fun z=>nomatch z) h
 | int i=>obtain⟨t,q⟩:=(show ∃ t,u=Value.int i t from rx); cases q; exact PySem.W.kia_one PySem.W.kitx_int I.kIn True.intro e (fun z=>nomatch z) h
 | str y=>obtain⟨t,q⟩:=(show ∃ t,u=Value.str y t from rx); cases q; exact PySem.W.kia_one PySem.W.kitx_str I.kIn True.intro e (fun z=>nomatch z) h
 | flt y=>obtain⟨t,q⟩:=(show ∃ t,u=Value.float y t from rx); cases q; exact PySem.W.kia_one PySem.W.kitx_float I.kIn True.intro e (fun z=>nomatch z) h
 | @lst a xs ea=>
  cases (show u=Value.ref a from rx)
  obtain⟨_,_,n,_,h1⟩:=(show dA X.prog X.w H s.heap a (.lst xs) from I.hok a _ ea)
  exact PySem.W.kia_one PySem.W.kitx_list I.kIn ⟨_,h1,rfl⟩ e (fun z=>nomatch z) h
 | @frz a ob xs ea=>
  cases (show u=Value.ref a from rx)
  obtain⟨_,_,_,n,_,h1⟩:=(show dA X.prog X.w H s.heap a (.frz ob (.lst xs)) from I.hok a _ ea)
  exact PySem.W.kia_one PySem.W.kitx_list I.kIn ⟨_,h1,rfl⟩ e (fun z=>nomatch z) h
 | @tup a xs ea=>
  cases (show u=Value.ref a from rx)
  obtain⟨_,_,_,p⟩:=(show dA X.prog X.w H s.heap a (.tup xs) from I.hok a _ ea)
  obtain⟨o,h1,h2,_⟩:=p;exact PySem.W.kia_one PySem.W.kitx_tuple I.kIn ⟨o,h1,h2⟩ e (fun z=>nomatch z) h
 | @dK a kvs ea=>
  cases (show u=Value.ref a from rx)
  obtain⟨_,_,vs,_,p⟩:=(show dA X.prog X.w H s.heap a (.dK kvs) from I.hok a _ ea)
  obtain⟨o,es,ep,h1,h2,_⟩:=p;exact PySem.W.kia_one PySem.W.kitx_dict I.kIn ⟨o,h1,h2.1⟩ e (fun z=>nomatch z) h
 | @dT a kvs ea=>
  cases (show u=Value.ref a from rx)
  obtain⟨_,_,xs,_,o,es,ep,h1,h2,_⟩:=(show dA X.prog X.w H s.heap a (.dT kvs) from I.hok a _ ea)
  exact PySem.W.kia_one PySem.W.kitx_dict I.kIn ⟨o,h1,h2.1⟩ e (fun z=>nomatch z) h
 | @ins a C dx fs ea cl ha hn htk hm=>
  cases (show u=Value.ref a from rx)
  obtain⟨mA,O,_⟩:=qK I.hok ea;obtain⟨od,J,_⟩:=O.look;exact PySem.W.kia_one (PySem.W.kitx_own (cl.get _) cl.hd ha hn htk hm) I.kIn J e (fun z=>nomatch z) h
end
end L2

namespace L2
open PySem PySem.Spec PyProof.Rows

structure cO (k:Nat) (A:Around):Prop where
 hd:A.handled=none
 dp:A.depth+3*k+5<recursionLimit
 un:A.units+16*k+200<cLine
theorem cO.mono {j k:Nat}{A:Around}(r:cO k A) (h:j<=k):cO j A:=⟨r.hd,by have:=r.dp; omega,by have:=r.un; omega⟩
theorem cO.deeper {k:Nat}{A:Around}(r:cO (k+1) A) (env:Env):cO k (A.deeper env):=
 ⟨r.hd,by have:=r.dp; show A.depth+1+3*k+5<_; omega,by have:=r.un; show A.units+3+16*k+200<_; omega⟩
theorem zC {A:Around}{C:Addr}{us:List Value}{kw:List (Str×Value)}:(A.under (.builtin "type.__call__" ⟨.ref C::us,kw⟩)).depth=A.depth+1:=by
 first | rfl | simp[Around.under,Code.weight,Code.isCreation,Code.isGuard,Code.isCaller,Code.frames,Code.isFrame,guardIds]
theorem zB {A:Around}{C:Addr}{us:List Value}{kw:List (Str×Value)}:(A.under (.builtin "type.__call__" ⟨.ref C::us,kw⟩)).units=A.units+1:=by
 first | rfl | simp[Around.under,Code.cUnits,Code.frames,Code.isFrame]
theorem cO.make {k:Nat}{A:Around}(r:cO (k+1) A) (C:Addr) (us:List Value) (kw:List (Str×Value)):cO k (A.under (.builtin "type.__call__" ⟨.ref C::us,kw⟩)):=
 ⟨r.hd,by have:=r.dp; rw[zC]; omega,by have:=r.un; rw[zB]; omega⟩
theorem cO.depth {k:Nat}{A:Around}(r:cO k A):A.depth<recursionLimit:=by have:=r.dp; omega
theorem cO.units {k:Nat}{A:Around}(r:cO k A):A.units+64<cLine:=by have:=r.un; omega

def aJj:TA:=fun _ H Q=>Q [] H
def aDk (ta:TE) (tr:TA):TA:=fun σ H Q=>ta σ H fun x H1=>tr σ H1 fun xs H2=>Q (x::xs) H2
section
variable {X:Cx}{e:Expr}{es:List Expr}{te:TE}{t:TA}{pos:Pos}
theorem aJ:PA X [] aJj:=fun _ _ _ _ H Q I h=>Calls.spliced_nil ⟨[],H,I,.nil,h⟩
theorem iH (ha:PE X e te) (hr:PA X es t) (hs:starEach (e::es) X.env=(false,eval e X.env)::starEach es X.env:=by rfl):PA X (e::es) (aDk te t):=by
 intro pos pins s σ H Q I h;rw[hs];show wpAny _ _ (spliced ((false,eval e X.env)::backTo pos (starEach es X.env))) _ _ s;refine Calls.spliced_cons (thn (ha pins s σ H _ I h) fun u s1 ⟨x,H1,I1,r1,q1⟩=>?_);exact thn (hr pos pins s1 σ H1 _ I1 q1) fun us s2 ⟨xs,H2,I2,r2,q2⟩=>⟨x::xs,H2,I2,.cons r1 r2,q2⟩

def aNj (t:TA):TE:=fun σ H Q=>t σ H fun xs H1=>xs.length<=sizeLine∧∀ p,H1 p=none->Q (.ref p) (upd H1 p (.tup xs))
def aNn (t:TA):TE:=fun σ H Q=>t σ H fun xs H1=>xs.length<=sizeLine∧∀ p,H1 p=none->Q (.ref p) (upd H1 p (.lst xs))
theorem rJ {x1} (h:PA X es t):PE X (.Tuple es x1 pos) (aNj t):=by
 intro pins s σ H Q I hq;refine wpAny_Tuple_spliced (thn (h pos pins s σ H _ I hq) fun us s1 ⟨xs,H1,I1,r,z,q⟩=>⟨by rw[← r.length]; exact z,?_⟩);have hf:H1 s1.heap.objs.size=none:=I1.hok.fresh (Nat.le_refl _);refine⟨.ref s1.heap.objs.size,upd H1 s1.heap.objs.size (.tup xs),I1.laid (t':=s1.toks) (fun b u e=>Heap.get?_push_of_some _ e) (Nat.le_refl _) ?_,rfl,q _ hf⟩;exact⟨z,us,r,⟨_,Heap.get?_push_size _ rfl,rfl,_,rfl⟩⟩
theorem dD (h:PA X es t):PE X (.List es pos) (aNn t):=by
 intro pins s σ H Q I hq;refine wpAny_List_spliced (thn (h pos pins s σ H _ I hq) fun us s1 ⟨xs,H1,I1,r,z,q⟩=>⟨by rw[← r.length]; exact z,?_⟩);have hf:H1 s1.heap.objs.size=none:=I1.hok.fresh (Nat.le_refl _);refine⟨.ref s1.heap.objs.size,upd H1 s1.heap.objs.size (.lst xs),I1.laid (t':=s1.toks) (fun b u e=>Heap.get?_push_of_some _ e) (Nat.le_refl _) ?_,rfl,q _ hf⟩;exact⟨z,us,0,r,Heap.get?_push_size _ rfl⟩
end

abbrev Sp:=List V->Hp->VK->XK->Prop
abbrev CXT:=List Env->Hp->Shared->XK->Value->Shared->Prop

structure sN (P:Program) (w:World) (K:PySem.W.Frag) (mg:Str->Option Value) (base:Heap) (A:Around) (outer:List Env) (s:Shared) (H:Hp):Prop where
 frames:A.frames=some outer
 mod:Mod K mg base
 bs:∀ b o,base.get? b=some o->s.heap.get? b=some o∧H b=none
 bsz:base.objs.size<=s.heap.objs.size
 funs:s.heap.FunFrames base outer
 frf:∀ b∈frs outer,H b=none
 hok:HOk P w H s.heap
 bare:AllBare s.gens
inductive CE (outer:List Env) (P:Program) (w:World) (H:Hp) (s:Shared) (Q:VK) (u:Value) (s':Shared):Prop
 | mk (v:_) (H':_) (h0_:s'.os=s.os) (h1_:AllBare s'.gens) (h2_:Un (frs outer) [] H H' s.heap s'.heap) (h3_:HOk P w H' s'.heap) (h4_:cG v u) (h5_:Q v H')
def CR (CX:CXT) (outer:List Env) (P:Program) (w:World) (H:Hp) (s:Shared) (Q:VK) (E:XK) (r:Result) (s':Shared):Prop:=
 match r with
 | .ok (.ret u)=>CE outer P w H s Q u s'
 | .ok _=>False
 | .error e=>CX outer H s E e s'
structure aS (P:Program) (w:World) (K:PySem.W.Frag) (mg:Str->Option Value) (base:Heap) (CX:CXT) (k:Nat) (f:Addr) (fd:FuncData) (ps:List Str) (sp:Sp):Prop where
 len:∀ vs H Q E,sp vs H Q E->vs.length=ps.length
 run:∀ (A:Around) (outer:List Env) (s:Shared) (H:Hp) (args:Args) (us:List Value) (vs:List V) (Q:VK) (E:XK),cO k A->sN P w K mg base A outer s H->BindsTo s fd args (ps.zip us)->cA vs us->sp vs H Q E ->
  codeAny (model P w) A (.call (.ref f) args) (CR CX outer P w H s Q E) s

theorem sN.make {P:Program}{w:World}{K:PySem.W.Frag}{mg:Str->Option Value}{base:Heap}{A:Around}{outer:List Env}{s:Shared}{H:Hp}(e:sN P w K mg base A outer s H) (C:Addr) (us:List Value) (kw:List (Str×Value)) :
  sN P w K mg base (A.under (.builtin "type.__call__" ⟨.ref C::us,kw⟩)) outer s H:=⟨by first | exact e.frames | (simpa [Around.under,Code.envs,Code.isFrame,pushEnvs] using e.frames),e.mod,e.bs,e.bsz,e.funs,e.frf,e.hok,e.bare⟩

section
variable {X:Cx}{pins:List (Addr×Obj)}{σ:St}{H:Hp}{s s':Shared}
theorem Inv.env0 (I:Inv X pins σ H s):sN X.prog X.w X.K X.mg X.base X.A X.stack s H:=
 ⟨I.ok.frames,I.ok.mod,I.bs,Nat.le_trans I.ok.bsz I.sz,I.stack,I.stkFree,I.hok,I.bare⟩
theorem Inv.after {Q:VK}{u:Value}(I:Inv X pins σ H s) (h:CE X.stack X.prog X.w H s Q u s'):EP X pins σ Q u s':=by
 obtain⟨v,H',os,bare,un,hok,r,q⟩:=h;obtain⟨hh,g,d,t,os'⟩:=s';obtain rfl:os'=s.os:=os;exact⟨v,H',I.call (h':=hh) (g':=g) (d':=d) (t':=t) (ch:=[]) un hok bare (fun b z=>absurd z (by simp)),r,q⟩
end

def aLs (sp:Sp) (dvs:List V) (E:XK) (t:TA):TE:=fun σ H Q=>t σ H fun vs H1=>sp (vs++dvs) H1 Q E
inductive aLh (C:Addr) (m:Str) (x:V) (H1:Hp) (R:Prop):Prop
 | mk (a dx:Addr) (fs:List (Str×V)) (h1:x=.ref a) (h2:H1 a=some (.ins C dx fs)) (h3:fs.lookup m=none) (r:R)
def aDi (C:Addr) (m:Str) (sp:Sp) (dvs:List V) (E:XK) (ta:TE) (t:TA):TE:=fun σ H Q=>ta σ H fun x H1=>aLh C m x H1 (t σ H1 fun vs H2=>sp (x::(vs++dvs)) H2 Q E)
def aLo (C:Addr) (sp:Sp) (dvs:List V) (E:XK) (t:TA):TE:=fun σ H Q=>t σ H fun vs H1=>∀ x dx,H1 x=none->H1 dx=none->dx≠x ->
 sp (.ref x::(vs++dvs)) (upd (upd H1 dx (.own x)) x (.ins C dx [])) (fun v H2=>v=.non∧Q (.ref x) H2) E

def aU (K:PySem.W.Frag) (fd:FuncData) (ps:List Str) (ds:List Value):Prop:=
 ∀ (s:Shared) (us:List Value),K.In s.heap->(us++ds).length=ps.length->BindsTo s fd ⟨us,[]⟩ (ps.zip (us++ds))
theorem aU.all {K:PySem.W.Frag}{fd:FuncData}{ps:List Str}(h:∀ us:List Value,us.length=ps.length->bindArgs fd ⟨us,[]⟩=pure (ps.zip us)):aU K fd ps []:=fun s us _ hl=>by
 rw[List.append_nil] at hl ⊢;exact .of_eq (h us hl)

def eZ (CX:CXT) (X:Cx) (E:XK):Prop:=∀ (pins:List (Addr×Obj)) (σ:St) (H:Hp) (s:Shared) (e:Value) (s':Shared),Inv X pins σ H s->CX X.stack H s E e s'->X.xe e s'

section
variable {X:Cx}{CX:CXT}{k:Nat}{f C:Addr}{fd:FuncData}{ps:List Str}{sp:Sp}{dvs:List V}{ds:List Value}{E:XK}{x m:Str}{p pos apos:Pos}{e o:Expr}{es:List Expr}{ta:TE}{t:TA}

theorem yG {pins:List (Addr×Obj)}{σ:St}{H:Hp}{s:Shared}{Q:VK}{us:List Value}{vs:List V}(F:aS X.prog X.w X.K X.mg X.base CX k f fd ps sp) (hr:cO k X.A) (hb:aU X.K fd ps ds) (hd:cA dvs ds) (hx:eZ CX X E)
  (I:Inv X pins σ H s) (r:cA vs us) (h:sp (vs++dvs) H Q E):wpAny (model X.prog X.w) X.A (call (.ref f) us) (EP X pins σ Q) X.xe s:=by
 have r2:cA (vs++dvs) (us++ds):=r.append hd;have hl:(us++ds).length=ps.length:=by rw[← r2.length]; exact F.len _ _ _ _ h
 refine wpAny_call (codeAny_mono (F.run X.A X.stack s H ⟨us,[]⟩ (us++ds) (vs++dvs) Q E hr I.env0 (hb s us I.kIn hl) r2 h) fun r s' hq=>?_);cases r with
 | error e=>exact hx pins σ H s e s' I hq
 | ok fl=>
  cases fl with
  | ret u=>exact I.after hq
  | next=>exact False.elim hq
  | brk=>exact False.elim hq
  | cont=>exact False.elim hq

theorem bJ (F:aS X.prog X.w X.K X.mg X.base CX k f fd ps sp) (hr:cO k X.A) (hg:Gl X x) (hm:X.mg x=some (.ref f)) (hk:PySem.W.keepIn X.K (.ref f)=true) (hb:aU X.K fd ps ds) (hd:cA dvs ds) (hx:eZ CX X E)
  (ha:PA X (e::es) t) (hdb:(x==("__debug__" : Str))=false:=by decide) (he:starEach (e::es) X.env=(false,eval e X.env)::starEach es X.env:=by rfl) (hpl:(backTo pos (starEach es X.env)).any (·.1)=false:=by rfl) :
  PE X (.Call (.Name x p) (e::es) [] pos) (aLs sp dvs E t):=by
 intro pins s σ H Q I h;refine wpAny_Call_Name_kw (iJ I hg hm ?_ hdb);refine PySem.W.callWith_K (h₀:=X.base) I.ok.mod.kin hk (thn (ha pos pins s σ H _ I h) fun us s1 ⟨vs,H1,I1,r,q⟩=>⟨I1.kIn,?_⟩) he hpl;exact yG F hr hb hd hx I1 r q

theorem cM {pl:Sem Bool}(he:PE X o ta) (c:Cls X.K C) (hm:cU X.K C m f) (F:aS X.prog X.w X.K X.mg X.base CX k f fd ps sp) (hr:cO k X.A) (hb:aU X.K fd ps ds) (hd:cA dvs ds) (hx:eZ CX X E) (ha:PA X (e::es) t)
  (hst:starEach (e::es) X.env=(false,eval e X.env)::starEach es X.env:=by rfl) (hpl:(backTo pos (starEach es X.env)).any (·.1)=false:=by rfl)
  (ht:eval (.Call (.Attribute o m apos) (e::es) [] pos) X.env=(do
   let ov ← eval o X.env
   standAt apos.atName
   let (f,first) ← holding [ov] (getMethod ov m pl)
   callWith pos f first (backTo pos (starEach (e::es) X.env)) (backToKw pos (keywordEach [] X.env))):=by rfl) :
  PE X (.Call (.Attribute o m apos) (e::es) [] pos) (aDi C m sp dvs E ta t):=by
 intro pins s σ H Q I h;refine PySem.W.methodCall_KW (pl:=pl) (thn (he pins s σ H _ I h) fun u s1 ⟨x,H1,I1,rx,a,dx,fs,ex,ea,l,q⟩=>?_) ht;subst ex;obtain rfl:u=Value.ref a:=rx;refine rW I1 ea c hm l ?_;refine PySem.W.callWith_K (first:=[.ref a]) (h₀:=X.base) I.ok.mod.kin hm.kp (thn (ha pos pins s1 σ H1 _ I1 q) fun us s2 ⟨vs,H2,I2,r,q2⟩=>⟨I2.kIn,?_⟩) hst hpl;exact yG (us:=.ref a::us) (vs:=.ref a::vs) F hr hb hd hx I2 (.cons rfl r) q2
theorem dM {pl:Sem Bool}(he:PE X o ta) (c:Cls X.K C) (hm:cU X.K C m f) (F:aS X.prog X.w X.K X.mg X.base CX k f fd ps sp) (hr:cO k X.A) (hb:aU X.K fd ps ds) (hd:cA dvs ds) (hx:eZ CX X E)
  (ht:eval (.Call (.Attribute o m apos) [] [] pos) X.env=(do
   let ov ← eval o X.env
   standAt apos.atName
   let (f,first) ← holding [ov] (getMethod ov m pl)
   callWith pos f first (backTo pos (starEach [] X.env)) (backToKw pos (keywordEach [] X.env))):=by rfl) :
  PE X (.Call (.Attribute o m apos) [] [] pos) (aDi C m sp dvs E ta aJj):=by
 intro pins s σ H Q I h;refine PySem.W.methodCall_KW (pl:=pl) (thn (he pins s σ H _ I h) fun u s1 ⟨x,H1,I1,rx,a,dx,fs,ex,ea,l,q⟩=>?_) ht;subst ex;obtain rfl:u=Value.ref a:=rx;refine rW I1 ea c hm l ?_;exact PySem.W.callWith_K0 (first:=[.ref a]) I1.kIn hm.kp (yG (us:=[.ref a]) (vs:=[.ref a]) F hr hb hd hx I1 (.cons rfl .nil) q)

structure Mk (K:PySem.W.Frag) (C f:Addr):Prop where
 makes:PySem.W.makesIn K C=true
 init:PySem.W.findIn K (.ref C) "__init__"=some (some (.ref f))
 fn:PySem.W.isFn K (.ref f)=true
 kp:PySem.W.keepIn K (.ref C)=true

theorem aDw {pins:List (Addr×Obj)}{σ:St}{H:Hp}{s:Shared}{Q:VK}{us:List Value}{vs:List V}(M:Mk X.K C f) (F:aS X.prog X.w X.K X.mg X.base CX k f fd ps sp) (hr:cO (k+1) X.A) (hb:aU X.K fd ps ds) (hd:cA dvs ds)
  (hx:eZ CX X E) (I:Inv X pins σ H s) (r:cA vs us)
  (h:∀ x dx,H x=none->H dx=none->dx≠x->sp (.ref x::(vs++dvs)) (upd (upd H dx (.own x)) x (.ins C dx [])) (fun v H2=>v=.non∧Q (.ref x) H2) E) :
  wpAny (model X.prog X.w) X.A (call (.ref C) us) (EP X pins σ Q) X.xe s:=by
 have hq:=h (s.heap.objs.size+1) s.heap.objs.size (I.hok.fresh (Nat.le_succ _)) (I.hok.fresh (Nat.le_refl _)) (Nat.ne_of_lt (Nat.lt_succ_self _));have I2:=Inv.made (C:=C) I;have r2:cA (V.ref (s.heap.objs.size+1)::(vs++dvs)) (Value.ref (s.heap.objs.size+1)::(us++ds)):=.cons rfl (r.append hd)
 have hl:(Value.ref (s.heap.objs.size+1)::us++ds).length=ps.length:=by
  have e:=r2.length;rw[F.len _ _ _ _ hq] at e;exact e.symm
 refine wpAny_call (aFj (f:=f) I.kIn M.makes M.init (beq_iff_eq.mp M.fn) (codeAny_mono (F.run _ X.stack _ _ ⟨Value.ref (s.heap.objs.size+1)::us,[]⟩ (Value.ref (s.heap.objs.size+1)::(us++ds)) _ _ E (hr.make C us [])
  (I2.env0.make C us []) (hb _ (Value.ref (s.heap.objs.size+1)::us) I2.kIn hl) r2 hq) fun r s' hq'=>?_))
 cases r with
 | error e=>exact hx pins σ _ _ e s' I2 hq'
 | ok fl=>
  cases fl with
  | ret u=>
   obtain⟨v,H',I3,rv,ev,q3⟩:=I2.after hq';subst ev;exact⟨rv,⟨V.ref (s.heap.objs.size+1),H',I3,rfl,q3⟩⟩
  | next=>exact False.elim hq'
  | brk=>exact False.elim hq'
  | cont=>exact False.elim hq'
theorem qG (M:Mk X.K C f) (F:aS X.prog X.w X.K X.mg X.base CX k f fd ps sp) (hr:cO (k+1) X.A) (hg:Gl X x) (hm:X.mg x=some (.ref C)) (hb:aU X.K fd ps ds) (hd:cA dvs ds) (hx:eZ CX X E)
  (ha:PA X (e::es) t) (hdb:(x==("__debug__" : Str))=false:=by decide) (he:starEach (e::es) X.env=(false,eval e X.env)::starEach es X.env:=by rfl) (hpl:(backTo pos (starEach es X.env)).any (·.1)=false:=by rfl) :
  PE X (.Call (.Name x p) (e::es) [] pos) (aLo C sp dvs E t):=by
 intro pins s σ H Q I h;refine wpAny_Call_Name_kw (iJ I hg hm ?_ hdb);refine PySem.W.callWith_K (h₀:=X.base) I.ok.mod.kin M.kp (thn (ha pos pins s σ H _ I h) fun us s1 ⟨vs,H1,I1,r,q⟩=>⟨I1.kIn,?_⟩) he hpl;exact aDw M F hr hb hd hx I1 r q
end

section
variable {X:Cx}{CX:CXT}{k:Nat}{f C:Addr}{fd:FuncData}{ps ks:List Str}{sp:Sp}{E:XK}{x m:Str}{p pos apos kpos:Pos}{e o:Expr}{es:List Expr}{kws:List Keyword}{te ta:TE}{t tk:TA}{nm:Option Str}

variable {g:List Value->List Value->List Value}{gV:List V->List V->List V}
end

structure aR (N P:List Str) (sc:Scope):Prop where
 kind:sc.kind=.function
 co:sc.isCoroutine=false
 gen:sc.isGenerator=false
 nd:N.Nodup
 pre:N.take P.length=P
 par:∀ x∈P,sc.names.lookup x=some .local∨sc.names.lookup x=some .cell
 nofree:∀ y∈sc.names,y.2≠.free

theorem uK {kindOf:Str->Option NameKind}{x:Str}:∀ {binds:List (Str×Value)}{m:Str->Option Value},(∀ v,(x,v)∉binds)->bindL kindOf binds m x=m x
 | [],_,_=>rfl
 | (n,v)::r,m,h=>by
  unfold bindL;rw[uK fun w hw=>h w (List.mem_cons_of_mem _ hw)];split
  ·have:x≠n:=by rintro rfl; exact h v List.mem_cons_self
   simp[this]
  ·rfl
theorem uM {kindOf:Str->Option NameKind}{x:Str}:∀ {binds:List (Str×Value)}{m:Str->Option Value},(∀ v,(x,v)∉binds)->bindC kindOf binds m x=m x
 | [],_,_=>rfl
 | (n,v)::r,m,h=>by
  unfold bindC;rw[uM fun w hw=>h w (List.mem_cons_of_mem _ hw)];split
  ·rfl
  ·have:x≠n:=by rintro rfl; exact h v List.mem_cons_self
   simp[this]
theorem uL {kindOf:Str->Option NameKind}{x:Str}{v:Value}:∀ {P:List Str}{vs:List Value}{i:Nat}{m:Str->Option Value},P.Nodup->P[i]?=some x->vs[i]?=some v->kindOf x=some .local ->
  bindL kindOf (P.zip vs) m x=some v
 | [],_,_,_,_,h,_,_=>by simp at h
 | _::_,[],_,_,_,_,h,_=>by simp at h
 | p::P,w::vs,0,m,nd,h1,h2,hk=>by
  simp at h1 h2; subst h1; subst h2;show bindL kindOf ((p,w)::P.zip vs) m p=_;unfold bindL;rw[uK fun v hv=>(List.nodup_cons.mp nd).1 (List.of_mem_zip hv).1,if_pos hk]
  simp
 | p::P,w::vs,i+1,m,nd,h1,h2,hk=>by
  show bindL kindOf ((p,w)::P.zip vs) m x=_;unfold bindL;exact uL (i:=i) (List.nodup_cons.mp nd).2 (by simpa using h1) (by simpa using h2) hk
theorem uN {kindOf:Str->Option NameKind}{x:Str}{v:Value}:∀ {P:List Str}{vs:List Value}{i:Nat}{m:Str->Option Value},P.Nodup->P[i]?=some x->vs[i]?=some v->kindOf x≠some .local ->
  bindC kindOf (P.zip vs) m x=some v
 | [],_,_,_,_,h,_,_=>by simp at h
 | _::_,[],_,_,_,_,h,_=>by simp at h
 | p::P,w::vs,0,m,nd,h1,h2,hk=>by
  simp at h1 h2; subst h1; subst h2;show bindC kindOf ((p,w)::P.zip vs) m p=_;unfold bindC;rw[uM fun v hv=>(List.nodup_cons.mp nd).1 (List.of_mem_zip hv).1,if_neg hk]
  simp
 | p::P,w::vs,i+1,m,nd,h1,h2,hk=>by
  show bindC kindOf ((p,w)::P.zip vs) m x=_;unfold bindC;exact uN (i:=i) (List.nodup_cons.mp nd).2 (by simpa using h1) (by simpa using h2) hk

def iD (N:List Str) (vs:List V):St:=vs.map some++List.replicate (N.length-vs.length) none

def iB (CX:CXT) (P:Program) (w:World) (K:PySem.W.Frag) (mg:Str->Option Value) (base:Heap) (N:List Str) (qual:Str) (scope:Scope) (f:Addr) (cd:Value) (A:Around) (outer:List Env) (s:Shared) (H:Hp) (E:XK):Cx where
 prog:=P
 w:=w
 K:=K
 mg:=mg
 base:=base
 A:=A.deeper (envOfC qual scope s.heap.objs.size f cd)
 N:=N
 s₀:=s
 H₀:=H
 env:=envOfC qual scope s.heap.objs.size f cd
 outer:=outer
 stack:=envOfC qual scope s.heap.objs.size f cd::outer
 ex:=[]
 calm:=true
 fn:=fun _=>true
 pn:=[]
 xe:=fun e s'=>wpAny (model P w) (A.deeper (envOfC qual scope s.heap.objs.size f cd)) (leaving (envOfC qual scope s.heap.objs.size f cd) e) (fun _ s''=>CX outer H s E e s'') (fun e' s''=>CX outer H s E e' s'') s'

theorem xS {sc:Scope}{n:Nat}{x:Str}(h:sc.names.lookup x=some .cell):∃ c,(cellsFrom n sc.names []).lookup x=some c:=by
 have q:=PySem.W.cellsFrom_some sc.names n [] (.inl h);exact Option.isSome_iff_exists.mp q

theorem uF {CX:CXT}{P:Program}{w:World}{K:PySem.W.Frag}{mg:Str->Option Value}{base:Heap}{N ps:List Str}{qual:Str}{scope:Scope}{f:Addr}{cd:Value}{A:Around}{outer:List Env}{s s1:Shared}{H:Hp}{E:XK}{us:List Value}{vs:List V}
  (S:aR N ps scope) (hd:A.handled=none) (e0:sN P w K mg base A outer s H) (hl:vs.length=ps.length) (r:cA vs us)
  (x:InCallC s s.heap.objs.size (bindL (envOfC qual scope s.heap.objs.size f cd).kindOf (ps.zip us) fun _=>none) (cellsFrom (s.heap.objs.size+1) scope.names []) (bindC (envOfC qual scope s.heap.objs.size f cd).kindOf (ps.zip us) fun _=>none) s1) :
  Inv (iB CX P w K mg base N qual scope f cd A outer s H E) [] (iD N vs) H s1:=by
 have hpl:ps.length<=N.length:=by have:=congrArg List.length S.pre; rw[List.length_take] at this; omega
 obtain⟨h1,tk,rfl,hk⟩:=x.done;have noA:∀ b:Addr,b∉(iB CX P w K mg base N qual scope f cd A outer s H E).ex:=fun b z=>absurd (show b∈([]:List Addr) from z) (by simp)
 refine⟨⟨e0.mod,S.kind,rfl,rfl,Nat.le_refl _,fun y z c h1 h2=>?_,fun y hy=>?_,fun y c _ h=>?_,fun _=>hd,Around.frames_deeper e0.frames,.inr ⟨rfl,rfl⟩,fun b z=>absurd z (noA b),e0.bs,e0.bsz,fun b _ _=>noA b,fun b z=>absurd z (noA b),e0.funs,e0.frf⟩,
  rfl,e0.bare,Un.kept hk,⟨_,x.toInCall.ns,fun i y v h1 h2 h3=>?_⟩,fun y c h=>⟨_,x.cell y c h⟩,e0.hok.fresh (Nat.le_refl _),fun y c h=>?_,fun p hp=>absurd (show p∈([]:List (Addr×Obj)) from hp) (by simp),e0.hok.kept hk,?_⟩
 ·exact name_of_addr x.apart (PySem.mem_of_lookup h1) (PySem.mem_of_lookup h2)
 ·have hy:scope.names.lookup y=some .cell∨scope.names.lookup y=some .free:=hy;rcases hy with hy | hy
  ·exact xS hy
  ·exact absurd rfl (S.nofree _ (PySem.mem_of_lookup hy))
 ·exact Nat.le_of_lt (x.above y c (PySem.mem_of_lookup h))
 ·have hi:i<vs.length:=by
   unfold iD at h2
   by_cases hi:i<vs.length
   ·exact hi
   ·rw[List.getElem?_append_right (by simpa using hi)] at h2;rw[List.getElem?_replicate] at h2;split at h2 <;> cases h2
  have ha:vs[i]?=some v:=by
   unfold iD at h2;rw[List.getElem?_append_left (by simpa using hi),List.getElem?_map] at h2;cases e:vs[i]? with
   | none=>rw[e] at h2; cases h2
   | some a=>rw[e] at h2; cases h2; rfl
  obtain⟨u,hu,rv⟩:=r.get ha
  have hp:ps[i]?=some y:=by
   rw[← S.pre,List.getElem?_take_of_lt (by omega)]; exact h1
  have ndP:ps.Nodup:=by rw[← S.pre]; exact S.nd.sublist (List.take_sublist _ _)
  refine⟨u,rv,?_⟩;rcases S.par y (List.mem_of_getElem? hp) with k | k
  ·exact .inl ⟨k,uL ndP hp hu k⟩
  ·obtain⟨c,e⟩:=xS (n:=s.heap.objs.size+1) k;refine .inr ⟨.inl k,c,e,?_⟩;have q:=x.cell y c e;rw[uN ndP hp hu (by show scope.names.lookup y≠_; rw[k]; decide)] at q;exact q
 ·exact e0.hok.fresh (Nat.le_of_lt (x.above y c (PySem.mem_of_lookup h)))
 ·unfold iD;show _=N.length;rw[List.length_append,List.length_map,List.length_replicate];omega

theorem aAt {CX:CXT}{P:Program}{w:World}{K:PySem.W.Frag}{mg:Str->Option Value}{base:Heap}{k:Nat}{f:Addr}{name qual:Str}{params:Arguments}{body:List Stmt}{scope:Scope}{dV kV doc pm cdv ct oc:Value}{an od:Option Addr}
  {osl:Array (Option Value)}{N ps:List Str}{sp:Sp}(lk:K.lookup f=some ⟨oc,od,.func (PySem.W.fnOf name qual params body scope dV kV doc pm an cdv ct),osl⟩) (hcd:PySem.W.codeIn K cdv qual=true) (S:aR N ps scope)
  (len:∀ vs H Q E,sp vs H Q E->vs.length=ps.length)
  (hbody:∀ (A:Around) (outer:List Env) (s:Shared) (H:Hp) (vs:List V) (Q:VK) (E:XK),cO k (A.deeper (envOfC qual scope s.heap.objs.size f cdv))->sp vs H Q E ->
   ∃ t,PSs (iB CX P w K mg base N qual scope f cdv A outer s H E) body t∧t { nx:=fun _ H'=>Q .non H',rt:=Q } (iD N vs) H) :
  aS P w K mg base CX (k+1) f (PySem.W.fnOf name qual params body scope dV kV doc pm an cdv ct) ps sp:=by
 refine⟨len,fun A outer s H args us vs Q E hr e0 hb r hsp=>?_⟩;have hl:=len _ _ _ _ hsp;have KX:K.In s.heap:=e0.mod.kin.keeps fun b o e=>(e0.bs b o e).1;have lim:s.heap.NoLimit:=e0.mod.nolimit.keeps fun b o e=>(e0.bs b o e).1
 have hkind:∀ y∈ps.zip us,scope.names.lookup y.1=some .local∨(scope.names.lookup y.1=some .cell∧((cellsFrom (s.heap.objs.size+1) scope.names []).lookup y.1).isSome=true):=fun ⟨n,v⟩ hy=>by
  rcases S.par n (List.of_mem_zip hy).1 with q | q
  ·exact .inl q
  ·exact .inr ⟨q,PySem.W.cellsFrom_some _ _ _ (.inl q)⟩
 refine codeAny_call_function hr.depth (KX _ _ lk) rfl S.co S.gen rfl (PySem.W.codeRec_of KX hcd) (hb _ _ _ _ ?_);refine wpAny_newFunctionEnv_cells S.kind hkind fun env he s1 x=>?_;subst he;refine⟨lim.keeps x.toInCall.keep,codeAny_func ?_⟩;obtain⟨t,ht,hq⟩:=hbody A outer s H vs Q E (hr.deeper _) hsp;have I:Inv (iB CX P w K mg base N qual scope f cdv A outer s H E) [] (iD N vs) H s1:=uF S hr.hd e0 hl r x;refine wpAny_mono (ht [] s1 (iD N vs) H _ I hq) (fun fl s' hs=>?_) fun e s' hs=>hs
 have fin:∀ {σ':St}{H':Hp}{v:V}{u:Value},Inv (iB CX P w K mg base N qual scope f cdv A outer s H E) [] σ' H' s'->cG v u->Q v H'->CE outer P w H s Q u s':=
  fun {σ' H' v u} J rv q=>⟨v,H',J.os,J.bare,J.base,J.hok,rv,q⟩
 cases fl with
 | ret u=>
  obtain⟨v,σ',H',J,rv,q⟩:=hs;exact fin J rv q
 | next=>
  obtain⟨σ',H',J,q⟩:=hs;exact fin (v:=V.non) (u:=Value.none) J rfl q
 | brk=>
  obtain⟨_,_,_,q⟩:=hs;exact False.elim q
 | cont=>
  obtain⟨_,_,_,q⟩:=hs;exact False.elim q
end L2

namespace L2
open PySem PySem.Spec PyProof.Rows
section
variable {X:Cx}{x:Str}{p pos:Pos}{e:Expr}{es:List Expr}{t:TA}{id T:String}{r:List V->Hp->VK->Prop}

def tCB (r:List V->Hp->VK->Prop) (t:TA):TE:=fun σ H Q=>t σ H fun vs H1=>r vs H1 Q
theorem cX (hc:CallR X (.builtin id) r) (hg:Gl X x) (hm:X.mg x=none) (hv:bootBuiltins x=some (.builtin id)) (ha:PA X (e::es) t) (hn:x≠"__name__" := by decide) (hdb:(x==("__debug__" : Str))=false:=by decide)
  (he:starEach (e::es) X.env=(false,eval e X.env)::starEach es X.env:=by rfl) (hpl:(backTo pos (starEach es X.env)).any (·.1)=false:=by rfl):PE X (.Call (.Name x p) (e::es) [] pos) (tCB r t):=by
 intro pins s σ H Q I h;refine wpAny_Call_Name_kw (mI I hg hm hv ?_ hn hdb);exact PyProof.Rows.callWith_builtin1 (thn (ha pos pins s σ H _ I h) fun us s1 ⟨vs,H1,I1,r1,q1⟩=>hc pins s1 σ H1 vs us Q I1 r1 q1) he hpl
theorem gU (hc:CallR X (.type T) r) (hg:Gl X x) (hm:X.mg x=none) (hv:bootBuiltins x=some (.type T)) (ha:PA X (e::es) t) (hn:x≠"__name__" := by decide) (hdb:(x==("__debug__" : Str))=false:=by decide)
  (he:starEach (e::es) X.env=(false,eval e X.env)::starEach es X.env:=by rfl) (hpl:(backTo pos (starEach es X.env)).any (·.1)=false:=by rfl):PE X (.Call (.Name x p) (e::es) [] pos) (tCB r t):=by
 intro pins s σ H Q I h;refine wpAny_Call_Name_kw (mI I hg hm hv ?_ hn hdb);exact PyProof.Rows.callWith_type1 (thn (ha pos pins s σ H _ I h) fun us s1 ⟨vs,H1,I1,r1,q1⟩=>hc pins s1 σ H1 vs us Q I1 r1 q1) he hpl
end
end L2

namespace HT
open PySem PyProof.Rows



section
open PySem.SeqAt
open PySem.AutoSeq1 (wpAny_loadPart')
open PySem.MeetsSeq PySem.MeetsSeq2 PySem.MeetsSeq3

end

section
variable {prog:Program}{w:World}{A:Around}{E:Value->Shared->Prop}{s:Shared}



def sIx (n d:Nat):Option Int->Nat
 | none=>d
 | some v=>if v<0 then (v+(n:Int)).toNat else min v.toNat n
theorem sIx_none (n d:Nat):sIx n d none=d:=rfl
theorem sIx_nat (n d k:Nat):sIx n d (some (k:Int))=min k n:=by
 show (if (k:Int)<0 then ((k:Int)+(n:Int)).toNat else min (k:Int).toNat n)=min k n
 rw[if_neg (by omega),Int.toNat_natCast]

end
end HT

namespace L2
open PySem PySem.Spec PyProof.Rows

abbrev TO:=St->Hp->(Option Int->Hp->Prop)->Prop
def PO (X:Cx) (e:Option Expr) (t:TO):Prop:=
 ∀ (pins:List (Addr×Obj)) (s:Shared) (σ:St) (H:Hp) (Q:Option Int->Hp->Prop),Inv X pins σ H s->t σ H Q ->
  wpAny (model X.prog X.w) X.A (evalPart e X.env) (fun u s'=>∃ o H',Inv X pins σ H' s'∧IsPart u o∧Q o H') X.xe s
def aGm:TO:=fun _ H Q=>Q none H
def aLm (t:TE):TO:=fun σ H Q=>t σ H fun x H1=>∃ i,x=.int i∧Q (some i) H1


section
variable {X:Cx}{e:Expr}{te:TE}{lo hi:Option Expr}{tl th:TO}{pos p2:Pos}

theorem aAi:PO X none aGm:=by
 intro pins s σ H Q I h;rw[evalPart_none];exact wpAny_pure ⟨none,H,I,.none,h⟩
theorem aAh (h:PE X e te):PO X (some e) (aLm te):=by
 intro pins s σ H Q I hw;rw[evalPart_some];refine thn (h pins s σ H _ I hw) fun u s1 ⟨x,H1,I1,r1,q1⟩=>?_;obtain⟨i,rfl,q⟩:=q1;obtain⟨t,rfl⟩:=r1;exact⟨some i,H1,I1,.int i t,q⟩

def SlR (X:Cx) (r:V->Option Int->Option Int->Hp->VK->Prop):Prop:=
 ∀ (pins:List (Addr×Obj)) (s:Shared) (σ:St) (H:Hp) (x:V) (v vl vu:Value) (lo hi:Option Int) (sl:Addr) (Q:VK),Inv X pins σ H s->cG x v->s.heap.IsSliceOf sl vl vu .none->IsPart vl lo->IsPart vu hi->r x lo hi H Q ->
  ∃ T id,typeLookup (.type T) "__getitem__"=pure (some (.builtin id))∧s.TypeIs v T∧wpAny (model X.prog X.w) X.A (getItem v (.ref sl)) (EP X pins σ Q) X.xe s
def tSl (r:V->Option Int->Option Int->Hp->VK->Prop) (te:TE) (tl th:TO):TE:=fun σ H Q=>te σ H fun x H1=>tl σ H1 fun l H2=>th σ H2 fun u H3=>r x l u H3 Q
theorem wT {r:V->Option Int->Option Int->Hp->VK->Prop}(hr:SlR X r) (he:PE X e te) (hl:PO X lo tl) (hu:PO X hi th):PE X (.Subscript e (.Slice lo hi none p2) pos) (tSl r te tl th):=by
 intro pins s σ H Q I h;refine Subscript_ (thn (he pins s σ H _ I h) fun v s1 ⟨x,H1,I1,r1,q1⟩=>?_);refine wpAny_Slice (thn (hl pins s1 σ H1 _ I1 q1) fun vl s2 ⟨l,H2,I2,pl,q2⟩=>thn (hu pins s2 σ H2 _ I2 q2) fun vu s3 ⟨u,H3,I3,pu,q3⟩=>?_);rw[evalPart_none];refine wpAny_pure ?_;have I4:Inv X pins σ H3 { s3 with heap:=s3.heap.push { cls:=.type "slice",data:=.fields #[vl,vu,.none] } }:=I3.kept (t':=s3.toks) fun b ob q=>Heap.get?_push_of_some _ q;obtain⟨T,id,hT,ht,hg⟩:=hr pins { s3 with heap:=s3.heap.push { cls:=.type "slice",data:=.fields #[vl,vu,.none] } } σ H3 x v vl vu l u s3.heap.objs.size Q I4 r1 (Heap.IsSliceOf.new ..) pl pu q3;show wpAny (model X.prog X.w) X.A (subscriptTail e (.Slice lo hi none p2) v (.ref s3.heap.objs.size)) (EP X pins σ Q) X.xe { s3 with heap:=s3.heap.push { cls:=.type "slice",data:=.fields #[vl,vu,.none] } };exact tail_any (ops:=[.ref s3.heap.objs.size,v]) ht hT hg (by with_unfolding_all rfl)

def zK (xs:List V) (lo hi:Option Int):List V:=(xs.drop (HT.sIx xs.length 0 lo)).take (HT.sIx xs.length xs.length hi-HT.sIx xs.length 0 lo)
theorem xO (xs:List V) (lo hi:Option Int):(zK xs lo hi).length<=xs.length:=by
 unfold zK;rw[List.length_take,List.length_drop];omega

end
end L2

namespace L2
open PySem PySem.Spec PyProof.Rows

def ixN (n:Nat) (i:Int):Option Nat:=if 0<=i then (if i<n then some i.toNat else none) else if -(n:Int)<=i then some (i+n).toNat else none
def atI {α:Type}(xs:List α) (i:Int):Option α:=(ixN xs.length i).bind fun j=>xs[j]?
theorem aHo {n:Nat}{i:Int}{j:Nat}(h:ixN n i=some j):seqIndex? i n=some j∧j<n∧-(n:Int)<=i∧i<n:=by
 unfold ixN at h
 by_cases h0:0<=i
 ·rw[if_pos h0] at h
  by_cases h1:i<n
  ·rw[if_pos h1] at h;have e:i.toNat=j:=Option.some.inj h;exact⟨by rw[seqIndex_of h0 h1,e],by omega,by omega,h1⟩
  ·rw[if_neg h1] at h; cases h
 ·rw[if_neg h0] at h
  by_cases h1:-(n:Int)<=i
  ·rw[if_pos h1] at h;have e:(i+n).toNat=j:=Option.some.inj h;exact⟨by rw[seqIndex_neg (by omega) h1,e],by omega,h1,by omega⟩
  ·rw[if_neg h1] at h; cases h
theorem aAz {α:Type}{xs:List α}{i:Int}{v:α}(h:atI xs i=some v):∃ j,seqIndex? i xs.length=some j∧xs[j]?=some v∧j<xs.length∧-(xs.length:Int)<=i∧i<xs.length:=by
 unfold atI at h;cases e:ixN xs.length i with
 | none=>rw[e] at h; cases h
 | some j=>
  rw[e] at h;obtain⟨h1,h2,h3,h4⟩:=aHo e;exact⟨j,h1,h,h2,h3,h4⟩
theorem jK {α:Type}{xs:List α}{j:Nat}{v:α}(h:xs[j]?=some v):atI xs (j:Int)=some v:=by
 have hj:j<xs.length:=(List.getElem?_eq_some_iff.mp h).1
 have e:ixN xs.length (j:Int)=some j:=by
  unfold ixN;rw[if_pos (by omega),if_pos (by omega)]; simp
 unfold atI; rw[e]; exact h

def aIh (b:Expr):Prop:=∀ o i,subscripted b false o i=operate [o,i] (getItem o i)
def IxR (X:Cx) (r:R2):Prop:=
 ∀ (value slice:Expr) (pins:List (Addr×Obj)) (s:Shared) (σ:St) (H:Hp) (x y:V) (v u:Value) (Q:VK),Inv X pins σ H s->cG x v->cG y u->r x y H Q ->
  subscripted slice false v u=operate [v,u] (getItem v u)->wpAny (model X.prog X.w) X.A (subscriptTail value slice v u) (EP X pins σ Q) X.xe s
def MtR (X:Cx) (id:String) (r:V->List V->Hp->VK->Prop):Prop:=
 ∀ (pins:List (Addr×Obj)) (s:Shared) (σ:St) (H:Hp) (x:V) (xs:List V) (v:Value) (us:List Value) (Q:VK),Inv X pins σ H s->cG x v->cA xs us->r x xs H Q ->
  wpAny (model X.prog X.w) X.A (call (.builtin id) (v::us)) (EP X pins σ Q) X.xe s
section
variable {X:Cx}{a b:Expr}{ta tb:TE}{pos:Pos}
theorem eW {r:R2}(hr:IxR X r) (ha:PE X a ta) (hb:PE X b tb) (hs:aIh b):PE X (.Subscript a b pos) (tOp r ta tb):=by
 intro pins s σ H Q I h;exact Subscript_ (aLe ha hb I h fun v u s2 x y H2 I2 rx ry q=>hr a b pins s2 σ H2 x y v u Q I2 rx ry q (hs _ _))

inductive aBl (K:PySem.W.Frag) (x:V) (y:V) (H:Hp) (Q:VK):Prop
 | mk (p:_) (xs:_) (i:_) (v:_) (h0_:x=.ref p) (h1_:y=.int i) (h2_:SqL K H p xs) (h3_:atI xs i=some v) (h4_:Q v H)
inductive aOt (x:V) (y:V) (H:Hp) (Q:VK):Prop
 | mk (z:_) (i:_) (c:_) (h0_:x=.str z) (h1_:y=.int i) (h2_:z.length<=sizeLine) (h3_:atI z.cps.toList i=some c) (h4_:Q (.str ⟨#[c]⟩) H)
theorem cY:IxR X (aBl X.K):=by
 intro value slice pins s σ H x y v u Q I rx ry h hs;obtain⟨p,xs,i,z,rfl,rfl,hq,he,q⟩:=h;cases rx;obtain⟨t,rfl⟩:=ry;obtain⟨its,r,pl,hz⟩:=I.list hq;obtain⟨j,h1,h2,h3,h4,h5⟩:=aAz he;obtain⟨w,ew,rw'⟩:=r.get h2;have hl:=r.length;have hn:=rR;have fin:EP X pins σ Q w s:=⟨z,H,I,rw',q⟩
 by_cases h0:0<=i
 ·have hj:i.toNat=j:=by
   rw[seqIndex_of h0 h5] at h1;exact Option.some.inj h1
  exact item_listR pl.isList h0 (by omega) (by rw[hj]; simpa using ew) fin hs
 ·have hj:(i+(its.toArray.size:Int)).toNat=j:=by
   rw[seqIndex_neg (by omega) h4] at h1;rw[List.size_toArray,← hl];exact Option.some.inj h1
  exact subscriptTail_builtinR (x:=w) pl.isList.typeIs slot_list_getitem.lookup
   (wpAny_getItem_list_neg (Q:=fun r s'=>r=w∧EP X pins σ Q r s') pl.isList (by omega) (by rw[List.size_toArray] <;> omega) (by omega) (by rw[hj]; simpa using ew) ⟨rfl,fin⟩) hs
theorem aKu:IxR X aOt:=by
 intro value slice pins s σ H x y v u Q I rx ry h hs;obtain⟨z,i,c,rfl,rfl,hz,he,q⟩:=h;obtain⟨t,rfl⟩:=rx;obtain⟨t',rfl⟩:=ry;obtain⟨j,h1,h2,h3,h4,h5⟩:=aAz he;have hl:z.cps.toList.length=z.length:=by simp[Str.length]
 rw[hl] at h1 h4 h5;have hn:=rR
 exact tail_any (typeIs_str s z t) slot_str_getitem.lookup (getItem_str (c:=c) (by
  have e1:decide (i < -(2^63:Int))=false:=decide_eq_false (by omega);have e2:decide (i≥2^63)=false:=decide_eq_false (by omega);rw[e1,e2,Bool.or_false]) (by rw[h1]; simpa using h2) ⟨.str ⟨#[c]⟩,H,I.tok _,⟨_,rfl⟩,q⟩) hs


theorem uU (lo hi:Option Int) (n:Nat):(sliceBounds lo hi none n).1=((HT.sIx n 0 lo:Nat):Int)∧(sliceBounds lo hi none n).2.1=((HT.sIx n n hi:Nat):Int)∧(sliceBounds lo hi none n).2.2=1:=by
 refine⟨?_,?_,rfl⟩
 ·cases lo with
  | none=>simp[sliceBounds,HT.sIx]
  | some i=>
   simp only[sliceBounds,HT.sIx,Option.getD_none,show (1:Int)>0 by decide,if_true]
   by_cases h:i<0
   ·simp only[h,if_true] <;> omega
   ·simp only[h,if_false] <;> omega
 ·cases hi with
  | none=>simp[sliceBounds,HT.sIx]
  | some i=>
   simp only[sliceBounds,HT.sIx,Option.getD_none,show (1:Int)>0 by decide,if_true]
   by_cases h:i<0
   ·simp only[h,if_true] <;> omega
   ·simp only[h,if_false] <;> omega
theorem sP (its:List Value) (lo hi:Option Int):slicePick its.toArray lo hi none=((its.drop (HT.sIx its.length 0 lo)).take (HT.sIx its.length its.length hi-HT.sIx its.length 0 lo)).toArray:=by
 obtain⟨h1,h2,h3⟩:=uU lo hi its.toArray.size;unfold slicePick;rw[h1,h2,h3];simp only[sliceRange_one,pick_run,List.size_toArray] <;> rfl
inductive aMb (K:PySem.W.Frag) (x:V) (lo hi:Option Int) (H:Hp) (Q:VK):Prop
 | mk (a:Addr) (xs:List V) (h1:x=.ref a) (h2:SqL K H a xs) (q:∀ p,H p=none->Q (.ref p) (upd H p (.lst (zK xs lo hi))))
theorem aAc:SlR X (aMb X.K):=by
 intro pins s σ H x v vl vu lo hi sl Q I rx hs pl pu h;obtain⟨a,xs,rfl,hx,q⟩:=h;cases rx;obtain⟨its,r,ht,hz⟩:=I.list hx;have hlen:=r.length;refine⟨"list",_,slot_list_getitem.lookup,ht.isList.typeIs,?_⟩;refine wpAny_getItem_list_slice ht.isList hs pl pu .none (by simp) ?_ (by rw[List.size_toArray] <;> omega)
 rw[sP,← hlen];refine⟨.ref s.heap.objs.size,_,I.laid (t':=s.toks) (o:=.lst (zK xs lo hi)) (fun b ob q=>Heap.get?_push_of_some _ q) (Nat.le_refl _) ?_,rfl,q _ (I.hok.fresh (Nat.le_refl _))⟩;exact⟨Nat.le_trans (xO xs lo hi) hz,_,0,(r.drop (HT.sIx xs.length 0 lo)).take (HT.sIx xs.length xs.length hi-HT.sIx xs.length 0 lo),Heap.get?_push_size _ rfl⟩

def nV:V->Bool
 | .non=>true
 | .bl _=>true
 | .int _=>true
 | .str _=>true
 | _=>false
def eqV:V->V->Bool
 | .non,.non=>true
 | .bl a,.bl b=>a==b
 | .bl a,.int b=>(if a then 1 else 0)==b
 | .int a,.bl b=>a==(if b then 1 else 0)
 | .int a,.int b=>a==b
 | .str a,.str b=>a==b
 | _,_=>false
theorem aLa {A:Around}{s:Shared}{y x:V}{u v:Value}(ry:cG y u) (rx:cG x v) (fy:nV y=true) (fx:nV x=true):SeqAt.EqAt A s u v (eqV y x):=by
 cases y with
 | non=>
  cases ry;cases x with
  | non=>cases rx; exact SeqAt.EqAt.same _
  | bl b=>cases rx; exact SeqAt.EqAt.none_bool b
  | int b=>obtain⟨t,rfl⟩:=rx; exact SeqAt.EqAt.none_int b t
  | str b=>obtain⟨t,rfl⟩:=rx; exact SeqAt.EqAt.none_str b t
  | _=>exact absurd (show false=true from fx) Bool.false_ne_true
 | bl a=>
  cases ry;cases x with
  | non=>cases rx; exact SeqAt.EqAt.bool_none a
  | bl b=>cases rx; exact SeqAt.EqAt.bool_bool a b
  | int b=>obtain⟨t,rfl⟩:=rx; exact SeqAt.EqAt.bool_int a b t
  | str b=>obtain⟨t,rfl⟩:=rx; exact SeqAt.EqAt.bool_str a b t
  | _=>exact absurd (show false=true from fx) Bool.false_ne_true
 | int a=>
  obtain⟨t',rfl⟩:=ry;cases x with
  | non=>cases rx; exact SeqAt.EqAt.int_none a t'
  | bl b=>cases rx; exact SeqAt.EqAt.int_bool a t' b
  | int b=>obtain⟨t,rfl⟩:=rx; exact SeqAt.EqAt.int_int a t' b t
  | str b=>obtain⟨t,rfl⟩:=rx; exact SeqAt.EqAt.int_str a t' b t
  | _=>exact absurd (show false=true from fx) Bool.false_ne_true
 | str a=>
  obtain⟨t',rfl⟩:=ry;cases x with
  | non=>cases rx; exact SeqAt.EqAt.str_none a t'
  | bl b=>cases rx; exact SeqAt.EqAt.str_bool a t' b
  | int b=>obtain⟨t,rfl⟩:=rx; exact SeqAt.EqAt.str_int a t' b t
  | str b=>obtain⟨t,rfl⟩:=rx; exact SeqAt.EqAt.str_str a t' b t
  | _=>exact absurd (show false=true from fx) Bool.false_ne_true
 | _=>exact absurd (show false=true from fy) Bool.false_ne_true
def eqU (x:V) (u:Value):Bool:=match u with
 | .none=>eqV .non x
 | .bool b=>eqV (.bl b) x
 | .int i _=>eqV (.int i) x
 | .str z _=>eqV (.str z) x
 | _=>false
theorem aFr {x y:V}{u:Value}(r:cG y u) (f:nV y=true):eqU x u=eqV y x:=by
 cases y with
 | non=>cases r; rfl
 | bl b=>cases r; rfl
 | int i=>obtain⟨t,rfl⟩:=r; rfl
 | str z=>obtain⟨t,rfl⟩:=r; rfl
 | _=>exact absurd (show false=true from f) Bool.false_ne_true
theorem vS {x:V}:∀ {xs:List V}{us:List Value},cA xs us->xs.all nV=true->us.any (eqU x)=xs.any fun y=>eqV y x
 | _,_,.nil,_=>rfl
 | y::xs,u::us,.cons r t,f=>by
  rw[List.all_cons,Bool.and_eq_true] at f;rw[List.any_cons,List.any_cons,aFr r f.1,vS t f.2]
theorem rQ {A:Around}{s:Shared}{x:V}{v:Value}(rx:cG x v) (fx:nV x=true):∀ {xs:List V}{us:List Value},cA xs us->xs.all nV=true->∀ u∈us,SeqAt.EqAt A s u v (eqU x u)
 | _,_,.nil,_=>fun u hu=>by cases hu
 | y::xs,u::us,.cons r t,f=>fun u' hu=>by
  rw[List.all_cons,Bool.and_eq_true] at f;rcases List.mem_cons.mp hu with rfl | hu
  ·rw[aFr r f.1]; exact aLa r rx f.1 fx
  ·exact rQ rx fx t f.2 u' hu
def inV (x:V) (xs:List V):Bool:=xs.any fun y=>eqV y x
inductive rIn (K:PySem.W.Frag) (neg:Bool) (x:V) (y:V) (H:Hp) (Q:VK):Prop
 | mk (p:_) (xs:_) (h0_:y=.ref p) (h1_:(SqL K H p xs∨SqT K H p xs)) (h2_:nV x=true) (h3_:xs.all nV=true) (h4_:Q (.bl (if neg then !inV x xs else inV x xs)) H)
theorem aBs:OpR X (compareOp .In) (rIn X.K false):=by
 intro pins s σ H x y v u Q I rx ry h;obtain⟨p,xs,rfl,hq,fx,fs,q⟩:=h;cases ry;rcases hq with hq | hq
 ·obtain⟨its,r,pl,hz⟩:=I.list hq;refine SeqAt.in_listAt (eqU x) pl.isList (fun w hw=>rQ rx fx r fs w (by simpa using hw)) ⟨.bl _,H,I,rfl,?_⟩;rw[show its.toArray.any (eqU x)=its.any (eqU x) by simp,vS r fs];exact q
 ·obtain⟨its,r,pl,hz⟩:=I.tuple hq;refine SeqAt.in_tupleAt (eqU x) pl (fun w hw=>rQ rx fx r fs w (by simpa using hw)) ⟨.bl _,H,I,rfl,?_⟩;rw[show its.toArray.any (eqU x)=its.any (eqU x) by simp,vS r fs];exact q

inductive aLg (K:PySem.W.Frag) (xs:List V) (H:Hp) (Q:VK):Prop
 | mk (p:_) (ys:_) (h0_:xs=[.ref p]) (h1_:(SqL K H p ys∨SqT K H p ys)) (h2_:Q (.int ys.length) H)
theorem dF:CallR X (.builtin "len") (aLg X.K):=by
 intro pins s σ H xs us Q I r h;obtain⟨p,ys,rfl,hq,q⟩:=h;obtain⟨u,rfl,rx⟩:=jR r;cases rx;have hn:=rR;rcases hq with hq | hq
 ·obtain⟨its,r',pl,hz⟩:=I.list hq;have hlen:=r'.length;exact Calls.call_len_list pl.isList (by simp only[List.size_toArray] <;> omega) ⟨.int ys.length,H,I.tok _,⟨s.toks+1,by rw[List.size_toArray,hlen]⟩,q⟩
 ·obtain⟨its,r',pl,hz⟩:=I.tuple hq;have hlen:=r'.length;exact len_tuple pl (by simp only[List.size_toArray] <;> omega) ⟨.int ys.length,H,I.tok _,⟨s.toks+1,by rw[List.size_toArray,hlen]⟩,q⟩
theorem vR:CallR X (.builtin "len") (fun xs H Q=>∃ z,xs=[.str z]∧z.length<=sizeLine∧Q (.int z.length) H):=by
 intro pins s σ H xs us Q I r h;obtain⟨z,rfl,hz,q⟩:=h;obtain⟨u,rfl,t,rfl⟩:=jR r;have hn:=rR;exact len_str (by omega) ⟨.int z.length,H,I.tok _,⟨_,rfl⟩,q⟩
inductive aLf (K:PySem.W.Frag) (xs:List V) (H:Hp) (Q:VK):Prop
 | mk (p:_) (ys:_) (h0_:xs=[.ref p]) (h1_:(SqL K H p ys∨SqT K H p ys)) (h2_:∀ l,H l=none->Q (.ref l) (upd H l (.lst ys)))
theorem oA:CallR X (.type "list") (aLf X.K):=by
 intro pins s σ H xs us Q I r h;obtain⟨p,ys,rfl,hq,q⟩:=h;obtain⟨u,rfl,rx⟩:=jR r;cases rx
 have fin:∀ (its:List Value),cA ys its->ys.length<=sizeLine->∀ (h':Heap) (c':Nat),(∀ b o',s.heap.get? b=some o'->h'.get? b=some o') ->
   h'.get? s.heap.objs.size=some { cls:=.type "list",dict:=none,data:=.seq its.toArray c',slots:=#[] }->EP X pins σ Q (.ref s.heap.objs.size) { s with heap:=h' }:=fun its r' hz h' c' kp e=>
  ⟨.ref s.heap.objs.size,_,I.laid (t':=s.toks) kp (Nat.le_refl _) (show dA X.prog X.w _ h' _ (.lst ys) from ⟨hz,its,c',r',e⟩),rfl,q _ (I.hok.fresh (Nat.le_refl _))⟩
 rcases hq with hq | hq
 ·obtain⟨its,r',pl,hz⟩:=I.list hq;have hlen:=r'.length;obtain⟨o,ho,hc,n,hd⟩:=pl.isList;exact call_list_seq p (.inl rfl) ho hc hd (fun h' c' kp e=>fin its r' hz h' c' kp e) (by simp only[List.size_toArray] <;> omega)
 ·obtain⟨its,r',pl,hz⟩:=I.tuple hq;have hlen:=r'.length;obtain⟨o,ho,hc,n,hd⟩:=pl;exact call_list_seq p (.inr rfl) ho hc hd (fun h' c' kp e=>fin its r' hz h' c' kp e) (by simp only[List.size_toArray] <;> omega)
theorem iL:CallR X (.type "tuple") (fun xs H Q=>∃ p ys,xs=[.ref p]∧((SqL X.K H p ys∧∀ l,H l=none->Q (.ref l) (upd H l (.tup ys)))∨(SqT X.K H p ys∧Q (.ref p) H))):=by
 intro pins s σ H xs us Q I r h;obtain⟨p,ys,rfl,h⟩:=h;obtain⟨u,rfl,rx⟩:=jR r;cases rx;rcases h with⟨hq,q⟩ | ⟨hq,q⟩
 ·obtain⟨its,r',pl,hz⟩:=I.list hq;have hlen:=r'.length;refine call_tuple_list pl.isList (fun h' kp=>?_) (by simp only[List.size_toArray] <;> omega)
  have I1:Inv X pins σ H { s with heap:=h' }:=I.kept (t':=s.toks) kp
  have I2:Inv X pins σ (upd H h'.objs.size (.tup ys)) { s with heap:=h'.push { cls:=.type "tuple",data:=.seq its.toArray } }:=
   I1.laid (t':=s.toks) (fun b o e=>Heap.get?_push_of_some _ e) (Nat.le_refl _) (show dA X.prog X.w _ _ _ (.tup ys) from ⟨hz,its,r',IsTup.new _ _⟩)
  exact⟨.ref h'.objs.size,_,I2,rfl,q _ (I1.hok.fresh (Nat.le_refl _))⟩
 ·obtain⟨its,r',pl,hz⟩:=I.tuple hq;exact call_tuple_same pl ⟨.ref p,H,I,rfl,q⟩

def tyV (K:PySem.W.Frag) (T:String) (x:V) (H:Hp):Prop:=match x with
 | .str _=>T="str"
 | .int _=>T="int"
 | .ref p=>(T="list" ∧ ∃ xs,SqL K H p xs)∨(T="tuple" ∧ ∃ o,K.lookup p=some o∧o.cls=.type "tuple" ∧ o.dict=none) ∨
   (T="dict" ∧ ((∃ kvs,H p=some (.dK kvs))∨∃ kvs,H p=some (.dT kvs)))∨(T="set" ∧ ∃ S n,H p=some (.set S n))
 | _=>False
theorem aDg {pins:List (Addr×Obj)}{σ:St}{H:Hp}{s:Shared}{T:String}{x:V}{v:Value}(I:Inv X pins σ H s) (r:cG x v) (ty:tyV X.K T x H) :
  s.TypeIs v T∧∀ a,v=.ref a->∃ ob,s.heap.get? a=some ob∧ob.dict=none:=by
 cases x with
 | str z=>
  obtain⟨t,rfl⟩:=r;cases (show T="str" from ty)
  exact⟨typeIs_str s z t,fun _ e=>nomatch e⟩
 | int i=>
  obtain⟨t,rfl⟩:=r;cases (show T="int" from ty)
  exact⟨typeIs_int s i t,fun _ e=>nomatch e⟩
 | ref p=>
  cases r;rcases ty with⟨rfl,xs,hq⟩ | ⟨rfl,o,hk,hc,hd⟩ | ⟨rfl,hk⟩ | ⟨rfl,S,n,hk⟩
  ·obtain⟨its,_,pl,_⟩:=I.list hq;refine⟨pl.isList.typeIs,fun a e=>?_⟩;cases e;obtain⟨o,n,e,c,hd,_⟩:=pl;exact⟨o,e,hd⟩
  ·refine⟨⟨o,I.kIn p o hk,hc⟩,fun a e=>?_⟩;cases e;exact⟨o,I.kIn _ o hk,hd⟩
  ·have z:∃ o,s.heap.get? p=some o∧o.ExactDict:=by
    rcases hk with⟨kvs,hk⟩ | ⟨kvs,hk⟩
    ·obtain⟨_,_,_,_,o,_,_,e,ex,_⟩:=I.hok p _ hk;exact⟨o,e,ex⟩
    ·obtain⟨_,_,_,_,o,_,_,e,ex,_⟩:=I.hok p _ hk;exact⟨o,e,ex⟩
   obtain⟨o,e,ex⟩:=z;refine⟨⟨o,e,ex.1⟩,fun a e2=>?_⟩;cases e2;exact⟨o,e,ex.2.1⟩
  ·obtain⟨o,_,_,_,e,ex,_⟩:=I.hok p _ hk;refine⟨⟨o,e,ex.1⟩,fun a e2=>?_⟩;cases e2;exact⟨o,e,ex.2.1⟩
 | _=>exact False.elim ty
def aNt (K:PySem.W.Frag) (T:String) (r:V->List V->Hp->VK->Prop) (to:TE):TE:=fun σ H Q=>to σ H fun x H1=>tyV K T x H1∧r x [] H1 Q
def tBM (K:PySem.W.Frag) (T:String) (r:V->List V->Hp->VK->Prop) (to:TE) (t:TA):TE:=fun σ H Q=>to σ H fun x H1=>tyV K T x H1∧t σ H1 fun xs H2=>r x xs H2 Q
variable {o e:Expr}{es:List Expr}{to:TE}{t:TA}{name:Str}{apos cpos:Pos}{T id:String}{r:V->List V->Hp->VK->Prop}
theorem aKb (pa:PlainAttrs T) (slot:Slot T name id) (hty:typeOf (.builtin id)=pure (.type "method_descriptor")) (hm:MtR X id r) (ho:PE X o to)
  (hbase:attributeBase o name X.env (eval o X.env)=eval o X.env:=by rfl) (hline:(apos.endLine==cpos.line)=true:=by rfl):PE X (.Call (.Attribute o name apos) [] [] cpos) (aNt X.K T r to):=by
 intro pins s σ H Q I h;refine wpAny_Call_method0_late hbase hline (thn (ho pins s σ H _ I h) fun v s1 ⟨x,H1,I1,r1,ty,q1⟩=>?_);obtain⟨h1,h2⟩:=aDg I1 r1 ty;exact⟨T,id,pa,slot,hty,h1,h2,Calls.callWith_builtin rfl (PySem.evalArgs_none (hm pins s1 σ H1 x [] v [] Q I1 r1 .nil q1))⟩
theorem lN (pa:PlainAttrs T) (slot:Slot T name id) (hty:typeOf (.builtin id)=pure (.type "method_descriptor")) (hm:MtR X id r) (ho:PE X o to) (ha:PA X (e::es) t)
  (hbase:attributeBase o name X.env (eval o X.env)=eval o X.env:=by rfl)
  (hfew:((backTo cpos (starEach (e::es) X.env)).all (fun x=>!x.1)&&(backToKw cpos (keywordEach [] X.env)).all (fun x=>x.1.isSome)
   && decide ((e::es).length+([]:List Keyword).length+(if ([]:List Keyword).isEmpty then 0 else 1)<30))=true:=by rfl)
  (hline:(apos.endLine==cpos.line)=true:=by rfl) (hs:starEach (e::es) X.env=(false,eval e X.env)::starEach es X.env:=by rfl) (hplain:(backTo cpos (starEach es X.env)).any (·.1)=false:=by rfl) :
  PE X (.Call (.Attribute o name apos) (e::es) [] cpos) (tBM X.K T r to t):=by
 intro pins s σ H Q I h;refine wpAny_Call_method_late hbase hfew hline rfl (thn (ho pins s σ H _ I h) fun v s1 ⟨x,H1,I1,r1,ty,q1⟩=>?_);obtain⟨h1,h2⟩:=aDg I1 r1 ty;refine⟨T,id,pa,slot,hty,h1,h2,?_⟩;have hA:=ha cpos pins s1 σ H1 _ I1 q1;rw[hs] at hA ⊢;refine Calls.callWith_builtin (by show (false||(backTo cpos (starEach es X.env)).any (·.1))=false; rw[hplain] <;> rfl) (Calls.evalArgs_plain ?_)
 exact thn hA fun us s2 ⟨vs,H2,I2,r2,q2⟩=>hm pins s2 σ H2 x vs v us Q I2 r1 r2 q2
/- xs.append(e),list.index on a module's tuple .. are MtR facts of 06m -/
end
end L2

namespace L2
open PySem PySem.Spec PyProof.Rows

def MtM (X:Cx) (id:String) (r:V->List V->Hp->VK->Prop):Prop:=
 ∀ (pins:List (Addr×Obj)) (s:Shared) (σ:St) (H:Hp) (x:V) (xs:List V) (v:Value) (us:List Value) (Q:VK),Inv X pins σ H s->cG x v->cA xs us->r x xs H Q ->
  wpAny (model X.prog X.w) X.A (call (.builtin id) (v::us)) (EP X pins σ Q) X.xe s

theorem cA.one:∀ {x:V}{us:List Value},cA [x] us->∃ u,us=[u]∧cG x u
 | _,_,.cons r .nil=>⟨_,rfl,r⟩
theorem cA.zero:∀ {us:List Value},cA [] us->us=[]
 | _,.nil=>rfl
theorem cA.reverse {xs:List V}{us:List Value}(h:cA xs us):cA xs.reverse us.reverse:=by
 induction h with
 | nil=>exact .nil
 | cons r t ih=>rw[List.reverse_cons,List.reverse_cons]; exact cA.append ih (.cons r .nil)
theorem cA.rep {xs:List V}{us:List Value}(h:cA xs us):∀ k:Nat,cA (List.replicate k xs).flatten (List.replicate k us).flatten
 | 0=>.nil
 | k+1=>by
  rw[List.replicate_succ,List.replicate_succ,List.flatten_cons,List.flatten_cons];exact cA.append h (cA.rep h k)
theorem uH (its:List Value):∀ (k:Nat) (acc:List Value),
  List.foldl (fun x1 x2=>x1++x2) acc.toArray (List.replicate k its.toArray)=(acc++(List.replicate k its).flatten).toArray
 | 0,acc=>by simp
 | k+1,acc=>by
  have e:acc.toArray++its.toArray=(acc++its).toArray:=by simp
  have e2:(acc++its)++(List.replicate k its).flatten=acc++(List.replicate (k+1) its).flatten:=by
   rw[List.replicate_succ,List.flatten_cons,List.append_assoc]
  rw[← e2,← uH its k (acc++its),← e,List.replicate_succ,List.foldl_cons]

section
variable {X:Cx}{pins:List (Addr×Obj)}{σ:St}{H:Hp}{s:Shared}{l b:Addr}{xs ys zs:List V}

theorem Inv.lset {its its':List Value}{n:Nat}{f:Array Value->Array Value}{t':Nat}(I:Inv X pins σ H s) (hH:H l=some (.lst xs))
  (e:s.heap.get? l=some { cls:=.type "list",data:=.seq its.toArray n }) (hf:f its.toArray=its'.toArray) (hv:cA ys its') (hz:ys.length<=sizeLine) :
  Inv X pins σ (upd H l (.lst ys)) { s with heap:=s.heap.update l (Obj.mapSeq f),toks:=t' }:=by
 have q:=PySem.IsL.update e f;rw[hf] at q;refine I.write (x:=l) (e:=l) (by rw[hH]; exact trivial) (.inl rfl) (fun b' u hb hu=>(Heap.get?_update_other s.heap (Obj.mapSeq f) (Ne.symm hb)).trans hu) ⟨_,q⟩ ?_;exact⟨hz,its',_,hv,q⟩
theorem Inv.lnew {its:List Value}{t':Nat}(I:Inv X pins σ H s) (hv:cA ys its) (hz:ys.length<=sizeLine) :
  Inv X pins σ (upd H s.heap.objs.size (.lst ys)) { s with heap:=s.heap.push { cls:=.type "list",data:=.seq its.toArray },toks:=t' }:=
 I.laid (fun _ _ q=>Heap.get?_push_of_some _ q) (Nat.le_refl _) ⟨hz,its,0,hv,Heap.get?_push_size _ rfl⟩
theorem Inv.fresh (I:Inv X pins σ H s):H s.heap.objs.size=none:=I.hok.fresh (Nat.le_refl _)
theorem Inv.lstM (I:Inv X pins σ H s) (hH:H l=some (.lst xs)):xs.length<=sizeLine∧∃ (its:List Value) (n:Nat),cA xs its∧xs.length=its.length∧s.heap.get? l=some { cls:=.type "list",data:=.seq its.toArray n }:=by
 obtain⟨z,its,n,r,e⟩:=I.hok l _ hH;exact⟨z,its,n,r,r.length,e⟩

theorem wZ {n:Nat}(h:n<=sizeLine):Builtin.List.listTooLong n=false:=by
 unfold Builtin.List.listTooLong;exact decide_eq_false (by omega)
end

section
variable {X:Cx}

def aGy:V->List V->Hp->VK->Prop:=fun x vs H Q=>∃ l xs y,x=.ref l∧vs=[y]∧H l=some (.lst xs)∧xs.length<sizeLine∧Q .non (upd H l (.lst (xs++[y])))
theorem fU:MtM X "list.append" aGy:=by
 intro pins s σ H x vs v us Q I rx rv h;obtain⟨l,xs,y,rfl,rfl,hH,hz,q⟩:=h;cases rx;obtain⟨u,rfl,ru⟩:=rv.one;obtain⟨z,its,n,r,hl,e⟩:=I.lstM hH;refine call_meets F.slot_list_append ⟨_,e,rfl⟩ F.entry_list_append (F.args_list_append_2 _ _) (PySem.list_append l its.toArray n u (by rw[List.size_toArray]; omega)) ⟨e,?_⟩;refine⟨.non,_,I.lset (its':=its++[u]) hH e (by simp) (r.append (.cons ru .nil)) ?_,rfl,q⟩;rw[List.length_append,List.length_singleton];omega

def aGx:V->List V->Hp->VK->Prop:=fun x vs H Q=>∃ l b xs zs,x=.ref l∧vs=[.ref b]∧H l=some (.lst xs)∧H b=some (.lst zs)∧xs.length+zs.length<=sizeLine∧Q .non (upd H l (.lst (xs++zs)))
theorem pC:MtM X "list.extend" aGx:=by
 intro pins s σ H x vs v us Q I rx rv h;obtain⟨l,b,xs,zs,rfl,rfl,hH,hB,hz,q⟩:=h;cases rx;obtain⟨u,rfl,ru⟩:=rv.one;cases ru;obtain⟨z,its,n,r,hl,e⟩:=I.lstM hH;obtain⟨z2,its2,n2,r2,hl2,e2⟩:=I.lstM hB;have hsz:its.toArray.size+its2.toArray.size<=sizeLine:=by rw[List.size_toArray,List.size_toArray]; omega
 have hlong:¬ (!its.toArray.isEmpty&&Builtin.List.listTooLong (its.toArray.size+its2.toArray.size))=true:=by
  rw[wZ hsz,Bool.and_false];exact Bool.false_ne_true
 refine call_meets F.slot_list_extend ⟨_,e,rfl⟩ F.entry_list_extend (F.args_list_extend_2 _ _)
  (AutoSeq1.list_extend_list_list_0 l its.toArray n b its2.toArray n2 hlong (by rw[List.size_toArray]; omega) (by omega)) ⟨e,e2,?_⟩
 refine⟨.non,_,I.lset (its':=its++its2) hH e (by simp) (r.append r2) ?_,rfl,q⟩;rw[List.length_append];omega



def aEa:V->List V->Hp->VK->Prop:=fun x vs H Q=>∃ l xs,x=.ref l∧vs=[]∧H l=some (.lst xs)∧Q .non (upd H l (.lst xs.reverse))
theorem zA:MtM X "list.reverse" aEa:=by
 intro pins s σ H x vs v us Q I rx rv h;obtain⟨l,xs,rfl,rfl,hH,q⟩:=h;cases rx;have hus:=rv.zero;subst hus;obtain⟨z,its,n,r,hl,e⟩:=I.lstM hH;refine call_meets F.slot_list_reverse ⟨_,e,rfl⟩ F.entry_list_reverse (F.args_list_reverse_1 _) (AutoSeq1.list_reverse_list_0 l its.toArray n (by rw[List.size_toArray]; omega)) ⟨e,?_⟩;refine⟨.non,_,I.lset (its':=its.reverse) hH e (by simp) r.reverse ?_,rfl,q⟩;rw[List.length_reverse];omega


inductive aOv (x:V) (y:V) (H:Hp) (Q:VK):Prop
 | mk (l:_) (b:_) (xs:_) (zs:_) (h0_:x=.ref l) (h1_:y=.ref b) (h2_:H l=some (.lst xs)) (h3_:H b=some (.lst zs)) (h4_:xs.length+zs.length<=sizeLine) (h5_:∀ p,H p=none->Q (.ref p) (upd H p (.lst (xs++zs))))
theorem yJ:OpR X (binaryOp .Add) aOv:=by
 intro pins s σ H x y v u Q I rx ry h;obtain⟨l,b,xs,zs,rfl,rfl,hH,hB,hz,q⟩:=h;cases rx;cases ry;obtain⟨z,its,n,r,hl,e⟩:=I.lstM hH;obtain⟨z2,its2,n2,r2,hl2,e2⟩:=I.lstM hB;refine PySem.P.add_list e e2 ?_ (by rw[List.size_toArray,List.size_toArray]; omega);have ea:its.toArray++its2.toArray=(its++its2).toArray:=by simp
 rw[ea];exact⟨.ref _,_,I.lnew (t':=s.toks) (r.append r2) (by rw[List.length_append]; omega),rfl,q _ I.fresh⟩
inductive aOr (x:V) (y:V) (H:Hp) (Q:VK):Prop
 | mk (l:_) (k:_) (xs:_) (h0_:x=.ref l) (h1_:y=.int k) (h2_:H l=some (.lst xs)) (h3_:-(2^63)<=k) (h4_:k<2^63) (h5_:xs.length*k.toNat<=sizeLine) (h6_:∀ p,H p=none->Q (.ref p) (upd H p (.lst (List.replicate k.toNat xs).flatten)))
theorem aHk {α:Type}(xs:List α) (k:Nat):(List.replicate k xs).flatten.length=k*xs.length:=by
 induction k with
 | zero=>simp
 | succ k ih=>rw[List.replicate_succ,List.flatten_cons,List.length_append,ih,Nat.succ_mul,Nat.add_comm]
theorem aKd:OpR X (binaryOp .Mult) aOr:=by
 intro pins s σ H x y v u Q I rx ry h;obtain⟨l,k,xs,rfl,rfl,hH,h1,h2,hz,q⟩:=h;cases rx;obtain⟨t,rfl⟩:=ry;obtain⟨z,its,n,r,hl,e⟩:=I.lstM hH;have hlen:its.toArray.size*k.toNat<=sizeLine:=by rw[List.size_toArray,← hl]; exact hz
 have hcap:¬ its.toArray.size*k.toNat>(2^63-1)/8:=by
  have:(sizeLine:Nat)<=(2^63-1)/8:=by decide
  omega
 have hfit:¬ (!Builtin.List.listFitsIndex k)=true:=by
  rw[fitsIndex_both h1 h2];exact Bool.false_ne_true
 have hlong:¬ Builtin.List.listTooLong (its.toArray.size*k.toNat)=true:=by
  rw[wZ hlen];exact Bool.false_ne_true
 have hnew:List.foldl (fun x1 x2=>x1++x2) #[] (List.replicate (if its.toArray.isEmpty=true then 0 else k.toNat) its.toArray)=(List.replicate k.toNat its).flatten.toArray:=by
  have f0:∀ m:Nat,List.foldl (fun x1 x2=>x1++x2) #[] (List.replicate m its.toArray)=(List.replicate m its).flatten.toArray:=fun m=>by
   have:=uH its m []
   rw[List.nil_append] at this;exact this
  rw[f0];cases its with
  | nil=>simp
  | cons a r'=>rw[if_neg (by simp)]
 refine wpAny_binaryOp_repeat_ref (T:="list") (U:="int") (by decide) ⟨_,e,rfl⟩ (fun s'=>typeIs_int s' k t) noFill_list_mul F.fills_int_mul F.slot_int_rmul repeat_list F.slot_int_index.lookup
  (call_meets F.slot_int_rmul (typeIs_int s k t) F.entry_int_rmul (F.args_int_rmul_2 _ _) (int___rmul___int_list k t l its.toArray n)
   ⟨e,rfl,⟨_,e,rfl⟩,call_meets F.slot_list_mul ⟨_,e,rfl⟩ F.entry_list_mul (F.args_list_mul_2 _ _) (AutoListH.list___mul___list_int_3 l its.toArray n k t hfit hcap hlong) ⟨e,?_⟩⟩)
 rw[hnew];exact⟨.ref _,_,I.lnew (t':=s.toks) (r.rep k.toNat) (by rw[aHk,Nat.mul_comm]; exact hz),rfl,q _ I.fresh⟩

end

section
variable {prog:Program}{w:World}{A:Around}{E:Value->Shared->Prop}{s:Shared}
set_option maxRecDepth 100000 in
end

section
variable {X:Cx}
end
end L2

namespace L2
open PySem PySem.Spec PyProof.Rows

section
variable {κ:Type} [DecidableEq κ]
def dB (kvs:List (κ×V)) (k:κ):Option V:=(kvs.find? fun kv=>decide (kv.1=k)).map (·.2)
def eV (kvs:List (κ×V)) (k:κ) (v:V):List (κ×V):=
 if (kvs.any fun kv=>decide (kv.1=k))=true then kvs.map (fun kv=>if kv.1=k then (kv.1,v) else kv) else kvs++[(k,v)]

theorem eB {p:κ×V}{r:List (κ×V)}{k:κ}(e:p.1=k):dB (p::r) k=some p.2:=by simp[dB,List.find?_cons,e]
theorem eI {p:κ×V}{r:List (κ×V)}{k:κ}(e:¬ p.1=k):dB (p::r) k=dB r k:=by simp[dB,List.find?_cons,e]
theorem fZ (k:κ):∀ kvs:List (κ×V),(kvs.any fun kv=>decide (kv.1=k))=(dB kvs k).isSome
 | []=>rfl
 | p::r=>by
  rw[List.any_cons]
  by_cases e:p.1=k
  ·simp only[eB e,decide_eq_true e,Bool.true_or,Option.isSome_some]
  ·rw[eI e,decide_eq_false e,Bool.false_or]; exact fZ k r
theorem vV (k j:κ) (y:V):∀ kvs:List (κ×V),dB (kvs.map fun kv=>if kv.1=k then (kv.1,y) else kv) j=(dB kvs j).map fun x=>if j=k then y else x
 | []=>rfl
 | p::r=>by
  have ih:=vV k j y r;rw[List.map_cons]
  by_cases h:p.1=k
  ·rw[if_pos h]
   by_cases e:p.1=j
   ·rw[eB (p:=(p.1,y)) e,eB e,Option.map_some,if_pos (e.symm.trans h)]
   ·rw[eI (p:=(p.1,y)) e,eI e,ih]
  ·rw[if_neg h]
   by_cases e:p.1=j
   ·rw[eB (p:=p) e,eB e,Option.map_some,if_neg (fun z=>h (e.trans z))]
   ·rw[eI (p:=p) e,eI e,ih]
theorem sZ (k j:κ) (y:V):∀ kvs:List (κ×V),dB kvs k=none->dB (kvs++[(k,y)]) j=if j=k then some y else dB kvs j
 | [],_=>by
  by_cases e:k=j
  ·rw[if_pos e.symm]; exact eB (p:=(k,y)) e
  ·rw[if_neg (fun z=>e z.symm)]; exact eI (p:=(k,y)) e
 | p::r,hn=>by
  rw[List.cons_append];have hk:¬ p.1=k:=fun z=>by rw[eB z] at hn; cases hn
  rw[eI hk] at hn;have ih:=sZ k j y r hn
  by_cases e:p.1=j
  ·rw[eB e,eB e,if_neg (fun z=>hk (e.trans z))]
  ·rw[eI e,eI e,ih]
theorem nA (kvs:List (κ×V)) (k j:κ) (y:V):dB (eV kvs k y) j=if j=k then some y else dB kvs j:=by
 unfold eV
 by_cases a:(kvs.any fun kv=>decide (kv.1=k))=true
 ·rw[if_pos a,vV];rw[fZ] at a
  by_cases e:j=k
  ·obtain⟨x,hx⟩:=Option.isSome_iff_exists.mp a;rw[if_pos e,e,hx,Option.map_some,if_pos rfl]
  ·rw[if_neg e];cases dB kvs j with
   | none=>rfl
   | some x=>rw[Option.map_some,if_neg e]
 ·rw[if_neg a];refine sZ k j y kvs ?_;rw[fZ] at a;cases q:dB kvs k with
  | none=>rfl
  | some x=>rw[q] at a; exact (a rfl).elim
theorem fV (kvs:List (κ×V)) (k:κ) (v:V):(eV kvs k v).length<=kvs.length+1:=by
 unfold eV;split
 ·rw[List.length_map]; omega
 ·rw[List.length_append,List.length_cons,List.length_nil]; omega
theorem aEc {kvs:List (κ×V)}{k:κ}(v:V) (h:dB kvs k=none):eV kvs k v=kvs++[(k,v)]:=by
 unfold eV;rw[fZ,h];exact if_neg (by decide)

theorem jP.isSome_eq {o:Option V}{u:Option Value}(r:jP o u):o.isSome=u.isSome:=by
 cases o with
 | none=>cases u with
  | none=>rfl
  | some _=>exact (show False from r).elim
 | some _=>cases u with
  | none=>exact (show False from r).elim
  | some _=>rfl
theorem jP.getD {o:Option V}{u:Option Value}{d:V}{d':Value}(r:jP o u) (rd:cG d d'):cG (o.getD d) (u.getD d'):=by
 cases o with
 | none=>cases u with
  | none=>exact rd
  | some _=>exact (show False from r).elim
 | some _=>cases u with
  | none=>exact (show False from r).elim
  | some _=>exact r

theorem KV.val {kvs:List (κ×V)}{vs:List (κ×Value)}(r:KV kvs vs) (k:κ):jP (dB kvs k) (valueAt vs k):=by
 unfold KV at r
 induction r with
 | nil=>exact True.intro
 | @cons p q ps qs h t ih=>
  obtain⟨h1,h2⟩:=h
  by_cases e:p.1=k
  ·have e':q.1=k:=h1.symm.trans e;have b:valueAt (q::qs) k=some q.2:=by simp[valueAt,List.find?_cons,e']
   rw[eB e,b]; exact h2
  ·have e':¬ q.1=k:=fun z=>e (h1.trans z);have b:valueAt (q::qs) k=valueAt qs k:=by simp[valueAt,List.find?_cons,e']
   rw[eI e,b]; exact ih
theorem KV.any {kvs:List (κ×V)}{vs:List (κ×Value)}(r:KV kvs vs) (k:κ):(kvs.any fun kv=>decide (kv.1=k))=vs.any fun kv=>decide (kv.1=k):=by
 unfold KV at r
 induction r with
 | nil=>rfl
 | cons h t ih=>rw[List.any_cons,List.any_cons,ih,h.1]
theorem KV.repl {kvs:List (κ×V)}{vs:List (κ×Value)}(r:KV kvs vs) (k:κ){y:V}{u:Value}(ry:cG y u) :
  KV (kvs.map fun kv=>if kv.1=k then (kv.1,y) else kv) (vs.map fun kv=>if kv.1=k then (kv.1,u) else kv):=by
 unfold KV at r ⊢
 induction r with
 | nil=>exact .nil
 | @cons p q ps qs h t ih=>
  rw[List.map_cons,List.map_cons];refine .cons ?_ ih;obtain⟨h1,h2⟩:=h
  by_cases e:p.1=k
  ·rw[if_pos e,if_pos (h1.symm.trans e)]; exact⟨h1,ry⟩
  ·rw[if_neg e,if_neg (fun z=>e (h1.trans z))]; exact⟨h1,h2⟩
theorem KV.put {kvs:List (κ×V)}{vs:List (κ×Value)}(r:KV kvs vs) (k:κ){y:V}{u:Value}(ry:cG y u):KV (eV kvs k y) (stored vs k u):=by
 unfold eV stored;rw[r.any k]
 by_cases e:(vs.any fun kv=>decide (kv.1=k))=true
 ·rw[if_pos e,if_pos e]; exact r.repl k ry
 ·rw[if_neg e,if_neg e]; exact Paired.snoc r ⟨rfl,ry⟩
theorem KV.length {kvs:List (κ×V)}{vs:List (κ×Value)}(r:KV kvs vs):kvs.length=vs.length:=Paired.length r
end


theorem uD {P:Program}{w:World}{k:Key}{u:Value}(r:cG (kV k) u):(dE P w).is k u=true:=by
 cases k with
 | inl i=>obtain⟨t,e⟩:=(show ∃ t,u=Value.int i t from r); subst e; exact xE P w i t
 | inr x=>obtain⟨t,e⟩:=(show ∃ t,u=Value.str x t from r); subst e; exact xD P w x t
theorem uE {P:Program}{w:World}:∀ {ks:List Key}{us:List Value},cA (ks.map kV) us->ItemsAre (dE P w) ks us
 | [],_,r=>by rw[List.map_nil] at r; cases r; exact .nil
 | k::ks,_,r=>by
  rw[List.map_cons] at r;cases r with
  | cons h t=>exact .cons (uD h) (uE t)

abbrev KT (H:Hp):List (List Key×V)->List (List Key×Addr×Value)->Prop:=Paired fun p q=>p.1=q.1∧H q.2.1=some (.tup (p.1.map kV))∧cG p.2 q.2.2
theorem KT.val {H:Hp}{kvs:List (List Key×V)}{xs:List (List Key×Addr×Value)}(r:KT H kvs xs) (k:List Key):jP (dB kvs k) ((atKey xs k).map (·.2)):=by
 induction r with
 | nil=>exact True.intro
 | @cons p q ps qs h t ih=>
  obtain⟨h1,_,h2⟩:=h
  by_cases e:p.1=k
  ·have e':q.1=k:=h1.symm.trans e;have b:atKey (q::qs) k=some q.2:=by simp[atKey,List.find?_cons,e']
   rw[eB e,b]; exact h2
  ·have e':¬ q.1=k:=fun z=>e (h1.trans z);have b:atKey (q::qs) k=atKey qs k:=by simp[atKey,List.find?_cons,e']
   rw[eI e,b]; exact ih
theorem KT.repl {H:Hp}{kvs:List (List Key×V)}{xs:List (List Key×Addr×Value)}(r:KT H kvs xs) (k:List Key){y:V}{u:Value}(ry:cG y u) :
  KT H (kvs.map fun kv=>if kv.1=k then (kv.1,y) else kv) (xs.map (putAt k u)):=by
 induction r with
 | nil=>exact .nil
 | @cons p q ps qs h t ih=>
  rw[List.map_cons,List.map_cons];refine .cons ?_ ih;obtain⟨h1,h2,h3⟩:=h;unfold putAt
  by_cases e:p.1=k
  ·rw[if_pos e,if_pos (h1.symm.trans e)]; exact⟨h1,h2,ry⟩
  ·rw[if_neg e,if_neg (fun z=>e (h1.trans z))]; exact⟨h1,h2,h3⟩
theorem KT.put {H:Hp}{kvs:List (List Key×V)}{xs:List (List Key×Addr×Value)}(r:KT H kvs xs) (k:List Key){b:Addr}{y:V}{u:Value}(hb:H b=some (.tup (k.map kV))) (ry:cG y u) :
  KT H (eV kvs k y) (storedH xs k b u):=by
 have e:(kvs.any fun kv=>decide (kv.1=k))=(atKey xs k).isSome:=by
  rw[fZ,(r.val k).isSome_eq,Option.isSome_map]
 unfold eV storedH;rw[e]
 by_cases q:(atKey xs k).isSome=true
 ·rw[if_pos q,if_pos q]; exact r.repl k ry
 ·rw[if_neg q,if_neg q]; exact Paired.snoc r ⟨rfl,hb,ry⟩
theorem KT.keeps {H H':Hp}{kvs:List (List Key×V)}{xs:List (List Key×Addr×Value)}(r:KT H kvs xs) (ht:∀ b ys,H b=some (.tup ys)->H' b=some (.tup ys)):KT H' kvs xs:=
 Paired.mapP r fun _ _ z=>⟨z.1,ht _ _ z.2.1,z.2.2⟩

section
variable {P:Program}{w:World}{H:Hp}{h:Heap}{a:Addr}
theorem aIq {u:HO}(ok:HOk P w H h) (e:Rd H a u):dA P w H h a u:=e.ok ok
theorem pZ {kvs:List (Key×V)}(ok:HOk P w H h) (e:Rd H a (.dK kvs)):kvs.length<=sizeLine∧(a==sysModules)=false∧∃ vs,KV kvs vs∧h.DictOf (dE P w) a vs:=
 show dA P w H h a (.dK kvs) from aIq ok e
theorem aJb {kvs:List (Key×V)}(ok:HOk P w H h) (e:H a=some (.dK kvs)):kvs.length<=sizeLine∧(a==sysModules)=false∧∃ vs,KV kvs vs∧h.DictOf (dE P w) a vs:=pZ ok (.inl e)
theorem mJ {ks:List Key}(ok:HOk P w H h) (e:H a=some (.tup (ks.map kV))):(tupleKind (dE P w)).is h ks a:=by
 obtain⟨_,its,r,o,h1,h2,n,h3⟩:=(show dA P w H h a (.tup (ks.map kV)) from ok a _ e)
 exact⟨o,its.toArray,n,h1,h2,h3,by simpa using uE r⟩
theorem rZ {kvs:List (List Key×V)}(ok:HOk P w H h) (e:Rd H a (.dT kvs)):kvs.length<=sizeLine∧(a==sysModules)=false ∧
  ∃ xs,KT H kvs xs∧h.DictOfH (tupleKind (dE P w)) a xs:=by
 obtain⟨z,y,xs,r,o,es,ep,h1,h2,h3,h4,h5⟩:=(show dA P w H h a (.dT kvs) from aIq ok e)
 refine⟨z,y,xs,r,o,es,ep,h1,h2,h3,h4,fun x hx=>?_,h5⟩
 have all:∀ {l:List (List Key×V)}{m:List (List Key×Addr×Value)},KT H l m->∀ x∈m,(tupleKind (dE P w)).is h x.1 x.2.1:=by
  intro l m q
  induction q with
  | nil=>intro x hx; exact nomatch hx
  | @cons p q ps qs hq t ih=>
   intro x hx;rcases List.mem_cons.mp hx with e | hx
   ·subst e;exact mJ ok (by rw[← hq.1]; exact hq.2.1)
   ·exact ih x hx
 exact all r x hx
theorem aJa {kvs:List (List Key×V)}(ok:HOk P w H h) (e:H a=some (.dT kvs)):kvs.length<=sizeLine∧(a==sysModules)=false ∧
  ∃ xs,KT H kvs xs∧h.DictOfH (tupleKind (dE P w)) a xs:=rZ ok (.inl e)
end

def eX (H:Hp) (a:Addr) (y:V) (r:Option V):Prop:=
 (∃ kvs k,Rd H a (.dK kvs)∧y=kV k∧r=dB kvs k)∨∃ kvs k b,Rd H a (.dT kvs)∧y=.ref b∧H b=some (.tup (k.map kV))∧r=dB kvs k
def pR (H:Hp) (a:Addr) (y v:V) (H':Hp):Prop:=
 (∃ kvs k,H a=some (.dK kvs)∧y=kV k∧kvs.length<sizeLine∧H'=upd H a (.dK (eV kvs k v))) ∨
 ∃ kvs k b,H a=some (.dT kvs)∧y=.ref b∧H b=some (.tup (k.map kV))∧kvs.length<sizeLine∧H'=upd H a (.dT (eV kvs k v))
theorem eX.k {H:Hp}{a:Addr}{kvs:List (Key×V)}{k:Key}(e:H a=some (.dK kvs)):eX H a (kV k) (dB kvs k):=.inl ⟨kvs,k,.inl e,rfl,rfl⟩
theorem eX.t {H:Hp}{a b:Addr}{kvs:List (List Key×V)}{k:List Key}(e:H a=some (.dT kvs)) (eb:H b=some (.tup (k.map kV))):eX H a (.ref b) (dB kvs k):=.inr ⟨kvs,k,b,.inl e,rfl,eb,rfl⟩
theorem pR.k {H:Hp}{a:Addr}{kvs:List (Key×V)}{k:Key}{v:V}(e:H a=some (.dK kvs)) (hl:kvs.length<sizeLine):pR H a (kV k) v (upd H a (.dK (eV kvs k v))):=.inl ⟨kvs,k,e,rfl,hl,rfl⟩
theorem pR.t {H:Hp}{a b:Addr}{kvs:List (List Key×V)}{k:List Key}{v:V}(e:H a=some (.dT kvs)) (eb:H b=some (.tup (k.map kV))) (hl:kvs.length<sizeLine) :
  pR H a (.ref b) v (upd H a (.dT (eV kvs k v))):=.inr ⟨kvs,k,b,e,rfl,eb,hl,rfl⟩


section
variable {X:Cx}{pins:List (Addr×Obj)}{σ:St}{H:Hp}{s:Shared}{a:Addr}{y v:V}{u r:Value}{o:Option V}{A:Around}{E:Value->Shared->Prop}

theorem Inv.big (I:Inv X pins σ H s):sysModules<s.heap.objs.size:=by
 have h:mainGlobals<s.heap.objs.size:=(I.mod.glob.keeps I.bk).lt;exact Nat.lt_trans (by decide) h

theorem aCw {Q:Value->Shared->Prop}(hu:A.units+1<cLine) (I:Inv X pins σ H s) (g:eX H a y (some v)) (ry:cG y u) (h:∀ w' s',Inv X pins σ H s'->cG v w'->Q w' s') :
  wpAny (model X.prog X.w) A (getItem (.ref a) u) Q E s:=by
 rcases g with⟨kvs,k,e,ey,l⟩ | ⟨kvs,k,b,e,ey,eb,l⟩
 ·subst ey;obtain⟨z,hd,vs,rel,dd⟩:=pZ I.hok e;obtain⟨w',hw,rw'⟩:=jP.some_of (v:=v) (o:=valueAt vs k) (by rw[l]; exact rel.val k);exact wpAny_getItem_of (uD ry) dd.mapOf hw (h w' _ (I.tok _) rw')
 ·subst ey;cases (show u=Value.ref b from ry)
  obtain⟨z,hd,xs,rel,dd⟩:=rZ I.hok e;obtain⟨w',hw,rw'⟩:=jP.some_of (v:=v) (o:=(atKey xs k).map (·.2)) (by rw[l]; exact rel.val k);obtain⟨p,hp,hp2⟩:=Option.map_eq_some_iff.mp hw;refine wpAny_getItem_heap (tupleKind_room_in1 hu) (mJ I.hok eb) dd hp ?_;rw[hp2];exact h w' _ (I.tok _) rw'
theorem aPg {Q:Value->Shared->Prop}(hu:A.units+1<cLine) (I:Inv X pins σ H s) (g:eX H a y o) (ry:cG y u) (h:∀ s',Inv X pins σ H s'->Q (.bool o.isSome) s') :
  wpAny (model X.prog X.w) A (compareOp .In u (.ref a)) Q E s:=by
 rcases g with⟨kvs,k,e,ey,l⟩ | ⟨kvs,k,b,e,ey,eb,l⟩
 ·subst ey;obtain⟨z,hd,vs,rel,dd⟩:=pZ I.hok e;refine wpAny_in_of (uD ry) hd dd.mapOf ?_;rw[← (rel.val k).isSome_eq,← l];exact h _ (I.tok _)
 ·subst ey;cases (show u=Value.ref b from ry)
  obtain⟨z,hd,xs,rel,dd⟩:=rZ I.hok e;refine wpAny_in_heap (tupleKind_room_in1 hu) (mJ I.hok eb) hd dd ?_;have q:=(rel.val k).isSome_eq;rw[Option.isSome_map] at q;rw[← q,← l];exact h _ (I.tok _)
theorem aHx {Q:Value->Shared->Prop}(hu:A.units+1<cLine) (I:Inv X pins σ H s) (g:eX H a y o) (ry:cG y u) (h:∀ s',Inv X pins σ H s'->Q (.bool (!o.isSome)) s') :
  wpAny (model X.prog X.w) A (compareOp .NotIn u (.ref a)) Q E s:=by
 rcases g with⟨kvs,k,e,ey,l⟩ | ⟨kvs,k,b,e,ey,eb,l⟩
 ·subst ey;obtain⟨z,hd,vs,rel,dd⟩:=pZ I.hok e;refine wpAny_notIn_of (uD ry) hd dd.mapOf ?_;rw[← (rel.val k).isSome_eq,← l];exact h _ (I.tok _)
 ·subst ey;cases (show u=Value.ref b from ry)
  obtain⟨z,hd,xs,rel,dd⟩:=rZ I.hok e;refine wpAny_notIn_heap (tupleKind_room_in1 hu) (mJ I.hok eb) hd dd ?_;have q:=(rel.val k).isSome_eq;rw[Option.isSome_map] at q;rw[← q,← l];exact h _ (I.tok _)
theorem vP {h':Heap}{t':Nat}{ob:HO}(I:Inv X pins σ H s) (mu:Mut (H a)) (hs:Heap.SameBut a s.heap h') (he:∃ q,h'.get? a=some q) (new:dA X.prog X.w (upd H a ob) h' a ob) :
  Inv X pins σ (upd H a ob) { s with heap:=h',toks:=t' }:=
 I.write (x:=a) (e:=a) mu (.inl rfl) (fun b q hb z=>(hs.2 b hb).trans z) he new
theorem aLb {P:Program}{w:World}{H':Hp}{h':Heap}{kvs:List (Key×V)}{vs:List (Key×Value)}(z:kvs.length<=sizeLine) (hd:(a==sysModules)=false) (rel:KV kvs vs) (dd:h'.DictOf (dE P w) a vs) :
  dA P w H' h' a (.dK kvs):=⟨z,hd,vs,rel,dd⟩
theorem aCv {H':Hp}{Q:Unit->Shared->Prop}(hu:A.units+1<cLine) (I:Inv X pins σ H s) (g:pR H a y v H') (ry:cG y u) (rv:cG v r) (h:∀ s',Inv X pins σ H' s'->Q () s') :
  wpAny (model X.prog X.w) A (setItem (.ref a) u r) Q E s:=by
 rcases g with⟨kvs,k,e,ey,l,eH⟩ | ⟨kvs,k,b,e,ey,eb,l,eH⟩
 ·subst ey eH;obtain⟨z,hd,vs,rel,dd⟩:=aJb I.hok e;have hz:vs.length<=sizeLine:=by rw[← rel.length]; exact z
  have hl:(eV kvs k v).length<=sizeLine:=by have:=fV kvs k v; omega
  refine wpAny_setItem_pairs (hsz:=hz) (uD ry) dd fun h' dd' hs=>h _ ?_;have he:∃ q,h'.get? a=some q:=let ⟨q,_,_,hq,_⟩:=dd'; ⟨q,hq⟩;exact vP I (by rw[e]; exact True.intro) hs he (aLb hl hd (rel.put k rv) dd')
 ·subst ey eH;cases (show u=Value.ref b from ry)
  obtain⟨z,hd,xs,rel,dd⟩:=aJa I.hok e;have hz:xs.length<=sizeLine:=by rw[← Paired.length rel]; exact z
  have hl:(eV kvs k v).length<=sizeLine:=by have:=fV kvs k v; omega
  refine wpAny_setItem_heap (hsz:=hz) (tupleKind_room_in1 hu) (mJ I.hok eb) dd fun h' dd' hs=>h _ ?_;obtain⟨q,es,ep,hq,h2,h3,h4,_,h5⟩:=dd';refine vP I (by rw[e]; exact True.intro) hs ⟨q,hq⟩ ⟨hl,hd,_,(rel.put k eb rv).keeps fun c ys ec=>?_,q,es,ep,hq,h2,h3,h4,h5⟩;rw[aH (eP ec e (fun z=>nomatch z))];exact ec
end

section
variable {X:Cx}{pins:List (Addr×Obj)}{σ:St}{H:Hp}{s:Shared}{a:Addr}{kvs:List (Key×V)}{k:Key}{u:Value}{A:Around}{E:Value->Shared->Prop}
theorem aMu {Q:Value->Shared->Prop}(I:Inv X pins σ H s) (e:Rd H a (.dK kvs)) (h:∀ t s',Inv X pins σ H s'->Q (.int kvs.length t) s'):wpAny (model X.prog X.w) A (call (.builtin "len") [.ref a]) Q E s:=by
 obtain⟨z,hd,vs,rel,dd⟩:=pZ I.hok e;refine call_len_dict hd dd (by rw[← rel.length]; rw[sizeLine_eq] at z; omega) ?_;rw[← rel.length];exact h _ _ (I.tok _)
end


def aMw (i:Expr):Prop:=∀ ov iv,subscripted i false ov iv=operate [ov,iv] (getItem ov iv)
theorem aGq {prog:Program}{w:World}{A:Around}{E:Value->Shared->Prop}{s:Shared}{env:Env}{value slice:Expr}{pos:Pos}{T id:String}{Q:Value->Shared->Prop}
  (hl:typeLookup (.type T) "__getitem__"=pure (some (.builtin id))) (hs:aMw slice)
  (h:wpAny (model prog w) A (eval value env) (fun o s₁=>wpAny (model prog w) A (eval slice env) (fun i s₂=>s₂.TypeIs o T∧wpAny (model prog w) A (getItem o i) Q E s₂) E s₁) E s) :
  wpAny (model prog w) A (eval (.Subscript value slice pos) env) Q E s:=by
 refine Subscript_ (wpAny_mono h (fun o s₁ h₁=>wpAny_mono h₁ (fun i s₂ h₂=>?_) fun _ _ x=>x) fun _ _ x=>x);obtain⟨hT,h₂⟩:=h₂;unfold subscriptTail;refine wpAny_bind ?_;rw[getitemInPython_of_ne hT.not_modules];refine wpAny_bind (wpAny_specialOf hT hl ?_)
 have fin:wpAny (model prog w) A (subscripted slice false o i) (fun r s₃=>wpAny (model prog w) A (letTemporaryGo value o r>>=fun _=>pure r) Q E s₃) E s₂:=by
  rw[hs o i];exact wpAny_operating (wpAny_mono h₂ (fun r s₃ h₃=>wpAny_bind (wpAny_letTemporaryGo (wpAny_pure h₃))) fun _ _ x=>x)
 first
  | exact wpAny_pure (wpAny_bind fin)
  | exact wpAny_bind (wpAny_pure (wpAny_bind fin))
  | exact wpAny_bind fin

theorem xN {X:Cx}{pins:List (Addr×Obj)}{σ:St}{H:Hp}{s:Shared}{a:Addr}{y:V}{o:Option V}(I:Inv X pins σ H s) (g:eX H a y o):s.TypeIs (.ref a) "dict":=by
 rcases g with⟨kvs,k,e,_,_⟩ | ⟨kvs,k,b,e,_,_,_⟩
 ·obtain⟨_,_,vs,_,dd⟩:=pZ I.hok e;exact dd.typeIs
 ·obtain⟨_,_,xs,_,dd⟩:=rZ I.hok e;exact dd.typeIs

inductive aNe (x y:V) (H:Hp) (Q:VK):Prop
 | mk (a:Addr) (v:V) (h1:x=.ref a) (h2:eX H a y (some v)) (q:Q v H)
inductive aNd (x y:V) (H:Hp) (Q:Option V->Hp->Prop):Prop
 | mk (a:Addr) (o:Option V) (h1:x=.ref a) (h2:eX H a y o) (q:Q o H)
def aLr (td ty:TE):TE:=fun σ H Q=>td σ H fun x H1=>ty σ H1 fun y H2=>aNe x y H2 Q
def aNr (ty td:TE):TE:=fun σ H Q=>ty σ H fun y H1=>td σ H1 fun x H2=>aNd x y H2 fun o H2=>Q (.bl o.isSome) H2
def aGp (ty td:TE):TE:=fun σ H Q=>ty σ H fun y H1=>td σ H1 fun x H2=>∃ a o,x=.ref a∧eX H2 a y o∧Q (.bl (!o.isSome)) H2
inductive aLi (x y v:V) (H3:Hp) (R:Hp->Prop):Prop
 | mk (a:Addr) (H4:Hp) (h1:x=.ref a) (h2:pR H3 a y v H4) (q:R H4)
def aLy (td ty tv:TE):TS:=fun D σ H=>tv σ H fun v H1=>td σ H1 fun x H2=>ty σ H2 fun y H3=>aLi x y v H3 (D.nx σ)

section
variable {X:Cx}{o i e value:Expr}{pos pos' tpos:Pos}{td ty tv:TE}
theorem iG (hu:X.A.units+1<cLine) (ho:PE X o td) (hi:PE X i ty) (hs:aMw i):PE X (.Subscript o i pos) (aLr td ty):=by
 intro pins s σ H Q I h;refine aGq PySem.F.slot_dict_getitem.lookup hs (thn (ho pins s σ H _ I h) fun u s1 ⟨x,H1,I1,rx,q1⟩=>thn (hi pins s1 σ H1 _ I1 q1) fun iv s2 ⟨y,H2,I2,ry,a,v,ex,g,q2⟩=>?_);subst ex;obtain rfl:u=Value.ref a:=rx;exact⟨xN I2 g,aCw hu I2 g ry fun w' s3 I3 rw'=>⟨v,H2,I3,rw',q2⟩⟩
theorem rL (hu:X.A.units+1<cLine) (hi:PE X i ty) (ho:PE X o td):PC X .In i o (aNr ty td):=by
 intro pins s σ H Q I h;refine thn (hi pins s σ H _ I h) fun iv s1 ⟨y,H1,I1,ry,q1⟩=>thn (ho pins s1 σ H1 _ I1 q1) fun u s2 ⟨x,H2,I2,rx,a,ov,ex,g,q2⟩=>?_;subst ex;obtain rfl:u=Value.ref a:=rx;exact aPg hu I2 g ry fun s3 I3=>⟨.bl ov.isSome,H2,I3,rfl,q2⟩
theorem pA (hu:X.A.units+1<cLine) (hi:PE X i ty) (ho:PE X o td):PC X .NotIn i o (aGp ty td):=by
 intro pins s σ H Q I h;refine thn (hi pins s σ H _ I h) fun iv s1 ⟨y,H1,I1,ry,q1⟩=>thn (ho pins s1 σ H1 _ I1 q1) fun u s2 ⟨x,H2,I2,rx,a,ov,ex,g,q2⟩=>?_;subst ex;obtain rfl:u=Value.ref a:=rx;exact aHx hu I2 g ry fun s3 I3=>⟨.bl (!ov.isSome),H2,I3,rfl,q2⟩
theorem jC (hu:X.A.units+1<cLine) (ho:PE X o td) (hi:PE X i ty) (hv:PE X value tv) (hs:swapsWith value (some (.Subscript o i pos')) pos.line X.env=pure false) :
  PS X (.Assign [.Subscript o i pos'] value pos) (aLy td ty tv):=by
 intro pins s σ H D I h;refine wpAny_Assign_Subscript (thn (hv pins s σ H _ I h) fun r s1 ⟨v,H1,I1,rv,q1⟩=>thn (ho pins s1 σ H1 _ I1 q1) fun u s2 ⟨x,H2,I2,rx,q2⟩=>thn (hi pins s2 σ H2 _ I2 q2) fun iv s3 ⟨y,H3,I3,ry,a,H4,ex,g,q3⟩=>?_) hs;subst ex;obtain rfl:u=Value.ref a:=rx;exact aCv hu I3 g ry rv fun s4 I4=>⟨σ,H4,I4,q3⟩
end


theorem aFt {P:Program}{w:World}{H:Hp}(h:Heap) (hb:sysModules<h.objs.size):dA P w H (h.push { cls:=.type "dict",data:=.dict #[] }) h.objs.size (.dK []):=
 ⟨Nat.zero_le _,beq_eq_false_iff_ne.mpr (Ne.symm (Nat.ne_of_lt hb)),[],.nil,Heap.DictOf.new h⟩
theorem xL {P:Program}{w:World}{H:Hp}(h:Heap) (hb:sysModules<h.objs.size):dA P w H (h.push { cls:=.type "dict",data:=.dict #[] }) h.objs.size (.dT []):=
 ⟨Nat.zero_le _,beq_eq_false_iff_ne.mpr (Ne.symm (Nat.ne_of_lt hb)),[],.nil,_,#[],0,Heap.get?_push_size _ rfl,⟨rfl,rfl,rfl⟩,rfl,rfl,List.nodup_nil⟩
def aJm:TE:=fun _ H Q=>∀ p,H p=none->Q (.ref p) (upd H p (.dK []))
def aJl:TE:=fun _ H Q=>∀ p,H p=none->Q (.ref p) (upd H p (.dT []))
section
variable {X:Cx}{pos:Pos}
theorem jZ:PE X (.Dict [] [] pos) aJm:=fun pins s σ H Q I h=>
 wpAny_Dict_empty ⟨.ref s.heap.objs.size,_,I.laid (a:=s.heap.objs.size) (o:=.dK []) (t':=s.toks) (fun _ _ q=>Heap.get?_push_of_some _ q) (Nat.le_refl _) (aFt s.heap I.big),rfl,h _ (I.hok.fresh (Nat.le_refl _))⟩
theorem aEi:PE X (.Dict [] [] pos) aJl:=fun pins s σ H Q I h=>
 wpAny_Dict_empty ⟨.ref s.heap.objs.size,_,I.laid (a:=s.heap.objs.size) (o:=.dT []) (t':=s.toks) (fun _ _ q=>Heap.get?_push_of_some _ q) (Nat.le_refl _) (xL s.heap I.big),rfl,h _ (I.hok.fresh (Nat.le_refl _))⟩
end




structure M1 (X:Cx) (o:Expr) (m:Str) (apos:Pos) (e:Expr) (cpos:Pos):Prop where
 base:attributeBase o m X.env (eval o X.env)=eval o X.env
 few:((backTo cpos (starEach [e] X.env)).all (fun x=>!x.1)&&(backToKw cpos (keywordEach [] X.env)).all (fun x=>x.1.isSome)
  && decide (([e]:List Expr).length+([]:List Keyword).length+(if ([]:List Keyword).isEmpty then 0 else 1)<30))=true
 line:(apos.endLine==cpos.line)=true
 trees:backTo cpos (starEach [e] X.env)=[(false,eval e X.env)]

def IsD (H:Hp) (a:Addr):Prop:=(∃ kvs,Rd H a (.dK kvs))∨∃ kvs,Rd H a (.dT kvs)
theorem aKv {X:Cx}{pins:List (Addr×Obj)}{σ:St}{H:Hp}{s:Shared}{a:Addr}(I:Inv X pins σ H s) (d:IsD H a) :
  s.TypeIs (.ref a) "dict" ∧ (∀ b,Value.ref a=.ref b->∃ ob,s.heap.get? b=some ob∧ob.dict=none)∧(a==sysModules)=false:=by
 rcases d with⟨kvs,e⟩ | ⟨kvs,e⟩
 ·obtain⟨_,hd,vs,_,dd⟩:=pZ I.hok e;refine⟨dd.typeIs,fun b q=>?_,hd⟩;cases q;obtain⟨ob,_,_,h1,h2,_⟩:=dd;exact⟨ob,h1,h2.2.1⟩
 ·obtain⟨_,hd,xs,_,dd⟩:=rZ I.hok e;refine⟨dd.typeIs,fun b q=>?_,hd⟩;cases q;obtain⟨ob,_,_,h1,h2,_⟩:=dd;exact⟨ob,h1,h2.2.1⟩

section
variable {X:Cx}{pins:List (Addr×Obj)}{σ:St}{H:Hp}{s:Shared}{a:Addr}{y d:V}{u r:Value}{o:Option V}{A:Around}{E:Value->Shared->Prop}
theorem aLc {Q:Value->Shared->Prop}(hu:A.units+1<cLine) (I:Inv X pins σ H s) (g:eX H a y o) (ry:cG y u) (h:∀ w' s',Inv X pins σ H s'->cG (o.getD .non) w'->Q w' s') :
  wpAny (model X.prog X.w) A (call (.builtin "dict.get") [.ref a,u]) Q E s:=by
 rcases g with⟨kvs,k,e,ey,l⟩ | ⟨kvs,k,b,e,ey,eb,l⟩
 ·subst ey;obtain⟨z,hd,vs,rel,dd⟩:=pZ I.hok e;refine call_meetsIn PySem.F.slot_dict_get dd.typeIs PySem.F.entry_dict_get (PySem.F.args_dict_get_2 _ _) (meets_dict_get (dE X.prog X.w) a (uD ry) hd) ⟨_,dd.mapOf,h _ _ (I.tok _) ?_⟩;rw[l];exact (rel.val k).getD rfl
 ·subst ey;cases (show u=Value.ref b from ry)
  obtain⟨z,hd,xs,rel,dd⟩:=rZ I.hok e;refine call_meetsIn PySem.F.slot_dict_get dd.typeIs PySem.F.entry_dict_get (PySem.F.args_dict_get_2 _ _) (meetsH_dict_get (tupleKind (dE X.prog X.w)) a b hd) ⟨tupleKind_room_in1 hu,k,xs,mJ I.hok eb,dd,h _ _ (I.tok _) ?_⟩;rw[l];exact (rel.val k).getD rfl
end

def aJn (td ty:TE):TE:=fun σ H Q=>td σ H fun x H1=>∃ a,x=.ref a∧IsD H1 a∧ty σ H1 fun y H2=>∃ o,eX H2 a y o∧Q (o.getD .non) H2
section
variable {X:Cx}{o e f:Expr}{apos cpos:Pos}{td ty tx:TE}
theorem aEk (hu:X.A.units+1<cLine) (ho:PE X o td) (he:PE X e ty) (m:M1 X o "get" apos e cpos):PE X (.Call (.Attribute o "get" apos) [e] [] cpos) (aJn td ty):=by
 intro pins s σ H Q I h;refine wpAny_Call_method m.base m.few m.line PySem.F.plainAttrs_dict PySem.F.slot_dict_get PySem.F.type_dict_get (thn (ho pins s σ H _ I h) fun u s1 ⟨x,H1,I1,rx,a,ex,d,q1⟩=>?_);subst ex;obtain rfl:u=Value.ref a:=rx;obtain⟨t1,t2,_⟩:=aKv I1 d;refine⟨t1,t2,?_⟩;rw[m.trees];refine Calls.callWith_builtin rfl (Calls.evalArgs_plain (Calls.spliced_cons (thn (he pins s1 σ H1 _ I1 q1) fun iv s2 ⟨y,H2,I2,ry,ov,g,q2⟩=>Calls.spliced_nil ?_)));exact aLc hu I2 g ry fun w' s3 I3 rw'=>⟨_,H2,I3,rw',q2⟩
end

section
variable {X:Cx}{pins:List (Addr×Obj)}{σ:St}{H:Hp}{s:Shared}{a:Addr}{kvs:List (Key×V)}{A:Around}{E:Value->Shared->Prop}
end


section
variable {X:Cx}{pins:List (Addr×Obj)}{σ:St}{H:Hp}{s:Shared}{a:Addr}{y:V}{u:Value}{A:Around}{E:Value->Shared->Prop}
end
end L2

namespace Att
open PySem PySem.W PySem.Calls PyProof.Rows

theorem qB {P:Params}{h:Heap}:∀ (ns:List Int) (vs:List Value),WellAll P h vs (ns.map WData.int)->IntsAre vs ns:=by
 intro ns
 induction ns with
 | nil=>
  intro vs w;rw[List.map_nil] at w;cases w;exact .nil
 | cons n ns ih=>
  intro vs w;rw[List.map_cons] at w;cases w with
  | cons a b=>
   cases a;exact .cons _ _ (ih _ b)

theorem aBh {l:OpenLaw}{n:Nat}(hn:l.most=some n){P:Params}{h:Heap}{args:List WData}{vals:List Value}
  (hpre:l.row.toRowW.claim.pre args=true) (hwl:WellAll P h vals args) :
  ∃ a vs ns,vals=[Value.ref a]∧args=[WData.list (ns.map WData.int)]∧h.get? a=some { cls:=.type "list",data:=.seq vs.toArray }∧IntsAre vs ns∧ns.length<=n:=by
 have hsh:WShape.hasAll [] args [.list .int]=true:=(pre_splitW hpre).1;have hc:l.pre.holds [] { args:=args }=true:=(pre_splitW hpre).2;obtain⟨d,r,rfl,h1,h2⟩:=hasAllW_cons hsh;obtain rfl:=hasAllW_nil h2;obtain⟨xs,rfl,h3⟩:=hasW_list h1;obtain⟨ns,rfl⟩:=items_int h3
 have hlen:ns.length<=n:=by
  unfold OpenLaw.pre at hc
  have h4:(WTm.not (.lt (.lit (.int (n:Int))) (.len (.arg 0)))).holds [] { args:=[.list (ns.map .int)] }=true:=by
   have h4:=(holds_andW hc).1;rw[hn] at h4;exact h4
  have h5:=condW_of h4 (w_not (w_lt w_lit (w_len_list (w_arg rfl))));rw[List.length_map] at h5;refine Nat.le_of_not_lt fun q=>?_;have q':(n:Int)<((ns.length:Nat):Int):=by omega
  first
   | (rw[decide_eq_true q'] at h5; exact absurd h5 (by decide))
   | (simp at h5; omega)
 cases hwl with
 | cons w1 w2=>
  cases w2;cases w1 with
  | list ho hall=>exact⟨_,_,ns,rfl,rfl,ho,qB ns _ hall,hlen⟩

theorem aBn (l:OpenLaw) (args:List WData):l.row.toRowW.claim.post args (.bool true) args=true:=
 postW_of (r:=l.row.toRowW) (X:=(true==true))
  (show WShape.has [] (.bool true) .bool=true by first | rfl | decide | simp[WShape.has,WShape.arms,WShape.armsAll])
  (show (WTm.eq .res (.lit (.bool true))).value [] { args:=args,res:=some (.bool true),after:=args }=some (.bool (true==true)) from w_eq_bool (w_res rfl) w_lit) rfl


theorem attach_call {l:OpenLaw}{n:Nat}{q:Program}{loose:List Str}{XP:(Str->Option Value)->Heap->Prop}{YP:World->Heap->Prop}{d:DefRec}
  (hn:l.most=some n) (hdf:d.params.defaults=[])
  (call:∀ (w:World) (s₀ s₁:Shared) (mg mb:Str->Option Value) (fa:Addr) (o:Obj) (pm cd doc:Value) (a:Addr) (vs:List Value) (ns:List Int),
   Ground q loose [] XP w s₀ mg mb s₁.heap->YP w s₁.heap ->
   s₁.heap.get? fa=some o->o.data=.func (docDef d.name d.params d.body d.scope pm cd doc)->s₁.heap.CodeRec cd d.name->mg d.name=some (.ref fa) ->
   s₁.heap.get? a=some { cls:=.type "list",data:=.seq vs.toArray }->IntsAre vs ns->ns.length<=n->s₁.gens=#[] ->
   codeAny (model l.prog w) callerA (.call (.ref fa) ⟨[.ref a],[]⟩) (fun r s'=>r=.ok (.ret (.bool true))∧OldK s₁.heap s'.heap∧s'.os=s₁.os∧AllBare s'.gens) s₁) :
  WalkO q loose XP YP l.row.toRowW d [] (fun f vs=>PySem.call f vs):=by
 intro w s₀ s₁ mg mb G Y fa o pm cd doc dV kV ho hd hcd hD hmg hg args vals as hpre hlay hrd hwl hlo;obtain rfl:dV=.none:=Dflts.none hD hdf;obtain rfl:kV=.none:=Dflts.noKw hD;obtain⟨a,vs,ns,rfl,rfl,hobj,hints,hlen⟩:=aBh hn hpre hwl;refine enter_call (codeAny_mono (call w s₀ s₁ mg mb fa o pm cd doc a vs ns G Y ho (fd_plain hd) hcd hmg hobj hints hlen hg) fun r s' hq=>?_);obtain⟨rfl,h2,h3,h4⟩:=hq;exact⟨.inl ⟨.bool true,.bool true,[],rfl,fun _=>rfl,.bool true,aBn l _,fun _=>⟨List.Pairwise.nil,fun _ hm=>(nomatch hm)⟩⟩,h2,h3,h4⟩


section
variable {prog:Program}{w:World}{A:Around}{E:Value->Shared->Prop}{s:Shared}{K:Frag}






end
end Att

namespace L2
open PySem PySem.Spec PyProof.Rows

theorem sY:∀ {vs:List Value}{ns:List Int},IntsAre vs ns->cA (ns.map V.int) vs
 | _,_,.nil=>.nil
 | _,_,.cons n t h=>.cons ⟨t,rfl⟩ (sY h)


end L2

namespace L2
open PySem PySem.Spec PyProof.Rows


end L2



namespace L2
open PySem PySem.Spec PyProof.Rows

def aD (s:Stmt) (j:Nat):Stmt:=match s with
 | .ClassDef _ _ _ body _ _ _ _ _ _ _=>body.getD j (.Pass ⟨0,0,0,0⟩)
 | _=>.Pass ⟨0,0,0,0⟩
def aG (s:Stmt):Arguments:=match s with
 | .FunctionDef _ a _ _ _ _ _ _ _ _=>a
 | _=>{ posonlyargs:=[],args:=[],vararg:=none,kwonlyargs:=[],kw_defaults:=[],kwarg:=none,defaults:=[] }
def aF (s:Stmt):List Stmt:=match s with
 | .FunctionDef _ _ b _ _ _ _ _ _ _=>b
 | _=>[]
def aB (s:Stmt):Scope:=match s with
 | .FunctionDef _ _ _ _ _ _ sc _ _ _=>sc
 | _=>{ kind:=.function,names:=[],isGenerator:=false,isCoroutine:=false }

abbrev CX0:CXT:=fun _ _ _ _ _ _=>False
abbrev E0:XK:=fun _ _ _=>False
theorem bU {X:Cx}:eZ CX0 X E0:=fun _ _ _ _ _ _ _ h=>h.elim

structure Fun (K:PySem.W.Frag) (x qual:Str) (st:Stmt) (f:Addr) (fd:FuncData):Prop where
 ex:∃ (oc:Value) (od:Option Addr) (kV doc pm:Value) (an:Option Addr) (cdv ct:Value) (osl:Array (Option Value)),
  fd=PySem.W.fnOf x qual (aG st) (aF st) (aB st) .none kV doc pm an cdv ct∧K.lookup f=some ⟨oc,od,.func fd,osl⟩∧PySem.W.codeIn K cdv qual=true
 kp:PySem.W.keepIn K (.ref f)=true
section
variable {P:Program}{w:World}{K:PySem.W.Frag}{mg:Str->Option Value}{base:Heap}
theorem Fun.ok {x qual:Str}{st:Stmt}{f:Addr}{fd:FuncData}{N ps:List Str}{k:Nat}{sp:Sp}(F:Fun K x qual st f fd) (S:aR N ps (aB st)) (len:∀ vs H Q E,sp vs H Q E->vs.length=ps.length)
  (hbody:∀ (cdv:Value) (A:Around) (outer:List Env) (s:Shared) (H:Hp) (vs:List V) (Q:VK) (E:XK),cO k (A.deeper (envOfC qual (aB st) s.heap.objs.size f cdv))->sp vs H Q E ->
   ∃ t,PSs (iB CX0 P w K mg base N qual (aB st) f cdv A outer s H E).nox (aF st) t∧t { nx:=fun _ H'=>Q .non H',rt:=Q } (iD N vs) H):aS P w K mg base CX0 (k+1) f fd ps sp:=by
 obtain⟨oc,od,kV,doc,pm,an,cdv,ct,osl,rfl,lk,hcd⟩:=F.ex;refine aAt lk hcd S len fun A outer s H vs Q E hr hsp=>?_;obtain⟨t,h,q⟩:=hbody cdv A outer s H vs Q E hr hsp;exact⟨t,h.nox,q⟩
theorem Fun.binds {x qual:Str}{st:Stmt}{f:Addr}{fd:FuncData}{ps:List Str}(F:Fun K x qual st f fd)
  (h:∀ (kV doc pm:Value) (an:Option Addr) (cdv ct:Value) (us:List Value),us.length=ps.length->bindArgs (PySem.W.fnOf x qual (aG st) (aF st) (aB st) .none kV doc pm an cdv ct) ⟨us,[]⟩=pure (ps.zip us)):aU K fd ps []:=by
 obtain⟨oc,od,kV,doc,pm,an,cdv,ct,osl,rfl,lk,hcd⟩:=F.ex;exact .all (h kV doc pm an cdv ct)
theorem bV {x qual:Str}{st:Stmt}{f:Addr}{oc:Value}{od an:Option Addr}{osl:Array (Option Value)}{kV doc pm cdv ct:Value}(l:K.lookup f=some ⟨oc,od,.func (PySem.W.fnOf x qual (aG st) (aF st) (aB st) .none kV doc pm an cdv ct),osl⟩)
  (c:PySem.W.codeIn K cdv qual=true) (k:PySem.W.keepIn K (.ref f)=true):Fun K x qual st f (PySem.W.fnOf x qual (aG st) (aF st) (aB st) .none kV doc pm an cdv ct):=⟨⟨oc,od,kV,doc,pm,an,cdv,ct,osl,rfl,l,c⟩,k⟩
end
theorem iS {A:Around}{k:Nat}(hr:cO k A):A.units+1<cLine:=Nat.lt_of_le_of_lt (Nat.add_le_add_left (by decide:1<=64) _) hr.units
theorem aW {n:Nat}(h:n<=1000):n<sizeLine:=Nat.lt_of_le_of_lt h (by decide)

section
variable {X:Cx}
theorem pv (i:Nat){x:Str}{pos:Pos}(hN:X.N[i]?=some x:=by rfl) (hv:Vis X.env.scope x:=by first | exact Or.inl rfl | exact Or.inr (Or.inl rfl) | exact Or.inr (Or.inr rfl)) (hd:(x==("__debug__" : Str))=false:=by decide)
  (hcd:(x==("__classdict__" : Str))=false:=by decide):PE X (.Name x pos) (aGl i):=aEf hN hv hd hcd
end

theorem gH {A B:Prop}(h:B):if false=true then A else B:=by
 rw[if_neg Bool.false_ne_true];exact h
theorem jI {A B:Prop}(h:A):if true=true then A else B:=by
 rw[if_pos rfl];exact h
theorem dY {c A B:Prop} [Decidable c] (h1:c->A) (h2:¬ c->B):if c then A else B:=by
 by_cases h:c
 ·rw[if_pos h];exact h1 h
 ·rw[if_neg h];exact h2 h

def aO (H H':Hp):Prop:=∀ b o,H b=some o->H' b=some o
theorem aO.refl (H:Hp):aO H H:=fun _ _ h=>h
theorem aO.trans {H H1 H2:Hp}(a:aO H H1) (b:aO H1 H2):aO H H2:=fun c o h=>b c o (a c o h)
theorem aO.free {H H':Hp}(e:aO H H'){l:Addr}(h:H' l=Option.none):H l=Option.none:=by
 cases q:H l with
 | none=>rfl
 | some o=>
  rw[e l o q] at h;cases h
theorem aO.seq {K:PySem.W.Frag}{H H':Hp}{a:Addr}{xs:List V}(e:aO H H') (h:SqL K H a xs):SqL K H' a xs:=by
 rcases h with (h | ⟨o,h⟩) | h
 ·exact .inl (.inl (e _ _ h))
 ·exact .inl (.inr ⟨o,e _ _ h⟩)
 ·exact .inr h

end L2


namespace L2
open PySem PySem.Spec PyProof.Rows
section
variable {X:Cx}
inductive aPm (xs:List V) (H:Hp) (Q:VK):Prop
 | mk (a:_) (kvs:_) (h0_:xs=[V.ref a]) (h1_:H a=some (.dK kvs)) (h2_:Q (.int kvs.length) H)
theorem aCy:CallR X (.builtin "len") aPm:=by
 intro pins s σ H xs us Q I r h;obtain⟨a,kvs,rfl,ha,q⟩:=h;obtain⟨u,rfl,ru⟩:=jR r;cases ru;exact aMu I (.inl ha) fun t s' I'=>⟨.int kvs.length,H,I',⟨t,rfl⟩,q⟩
end
section
variable {κ:Type} [DecidableEq κ]
end
end L2
namespace L2
open PySem PySem.Spec PyProof.Rows

def aAd (c:Nat):V:=.str ⟨#[c]⟩
def Its (x:Str):It:=⟨fun i _=>i<x.cps.size,fun i H v H'=>H'=H∧∃ c,x.cps[i]?=some c∧v=aAd c,fun i _=>x.cps.size<=i⟩
theorem vW {P:Program}{w:World}{K:PySem.W.Frag}{tg:Expr}(n:String) (it:Addr) (x:Str) (t:Tok)
  (hn:n="str_ascii_iterator" ∨ n="str_iterator"):xU P w K tg (Its x) [it] it (fun i h=>h.IsStrIter it n x t i) where
 mem:=by simp
 obj:=fun i h st b hb=>by
  have e:b=it:=by simpa using hb
  subst e;obtain⟨o,e,c,d⟩:=st;exact⟨o,e,fun v z=>by rw[d] at z; cases z⟩
 keep:=fun i h h' st k=>by
  obtain⟨o,e,c,d⟩:=st;exact⟨o,k it (by simp) o e,c,d⟩
 item:=by
  intro X hP hw hK hc i pins s σ H E I hf st hg;subst hP hw hK;obtain⟨f0,f1,f2,f3,f4,f5⟩:=hf it (by simp);have hg':i<x.cps.size:=hg;have hx:x.cps[i]?=some x.cps[i]:=by simp[hg']
  have fin:∀ h',h'.IsStrIter it n x t (i+1)->Heap.SameBut it s.heap h'->∃ u,some (Value.str ⟨#[x.cps[i]]⟩ s.toks)=some u ∧
   wpAny (model X.prog X.w) X.A (letOwnedTupleGo tg (.ref it) u) (fun _ s2=>∃ x_1 H',Inv X pins σ H' s2∧cG x_1 u∧(Its x).yld i H x_1 H'∧s2.heap.IsStrIter it n x t (i+1)∧∀ b∈[it],H' b=none) E { s with heap:=h',toks:=s.toks+1 }:=fun h' st' sb=>by
   have I1:Inv X pins σ H { s with heap:=h',toks:=s.toks+1 }:=I.turned (fun b o hb e=>(sb.2 b hb).trans e) f0 f1 f3 f4 f5;obtain⟨o,e,c,d⟩:=id st';refine⟨_,rfl,aAs (s:={ s with heap:=h',toks:=s.toks+1 }) e c d (by rcases hn with rfl | rfl <;> decide) ⟨aAd x.cps[i],H,I1,⟨_,rfl⟩,⟨rfl,_,hx,rfl⟩,st',fun b hb=>(hf b hb).1⟩⟩
  rcases hn with rfl | rfl
  ·exact wpAny_pyNext_ascii_item st hx fin
  ·exact wpAny_pyNext_wide_item st hx fin
 done:=by
  intro X hP hw hK hc i pins s σ H E I hf st hg;subst hP hw hK;obtain⟨f0,f1,f2,f3,f4,f5⟩:=hf it (by simp);have hg':x.cps.size<=i:=hg;have hx:x.cps[i]?=none:=by simp[hg']
  rcases hn with rfl | rfl
  ·exact wpAny_pyNext_ascii_end (I.ok.hd hc) st hx fun h' eb=>⟨rfl,I.turned (t':=s.toks) (fun b o hb e=>eb b o hb e) f0 f1 f3 f4 f5⟩
  ·exact wpAny_pyNext_wide_end (I.ok.hd hc) st hx fun h' eb=>⟨rfl,I.turned (t':=s.toks) (fun b o hb e=>eb b o hb e) f0 f1 f3 f4 f5⟩
 self:=fun _ _ _ _ _ st h=>by
  rcases hn with rfl | rfl
  ·exact wpAny_pyIter_striter_ascii st h
  ·exact wpAny_pyIter_striter_wide st h
section
variable {X:Cx}{tg:Expr}
def aPc (tl:TE):TI:=fun σ H R=>tl σ H fun v H1=>∃ x,v=.str x∧R (Its x) H1
theorem aJz {l:Expr}{tl:TE}(hl:PE X l tl):PI X tg l (aPc tl):=by
 intro pins s σ H R I h;refine thn (hl pins s σ H _ I h) fun v s1 ⟨x,H1,I1,r1,q1⟩=>?_;obtain⟨z,e,q⟩:=q1;subst e;obtain⟨t,rfl⟩:=r1
 have fp:∀ b∈[s1.heap.objs.size],kY X pins H1 b:=fun b hb=>by
  have e:b=s1.heap.objs.size:=by simpa using hb
  subst e;exact I1.fpOk (Nat.le_refl _) (I1.hok.fresh (Nat.le_refl _))
 cases ha:z.cps.all (·<128)
 ·exact wpAny_pyIter_wide ha ⟨s1.heap.objs.size,[s1.heap.objs.size],_,_,H1,rfl,I1.kept (t':=s1.toks) fun b o e=>Heap.get?_push_of_some _ e,vW "str_iterator" _ z t (.inr rfl),⟨_,Heap.get?_push_size _ rfl,rfl,rfl⟩,fp,q⟩
 ·exact wpAny_pyIter_ascii ha ⟨s1.heap.objs.size,[s1.heap.objs.size],_,_,H1,rfl,I1.kept (t':=s1.toks) fun b o e=>Heap.get?_push_of_some _ e,vW "str_ascii_iterator" _ z t (.inl rfl),⟨_,Heap.get?_push_size _ rfl,rfl,rfl⟩,fp,q⟩
end

theorem aCx {prog:Program}{w:World}{A:Around}{R:Result->Shared->Prop}{s:Shared}{elt target iter:Expr}{ifs:List Expr}{scope:Scope}{pos:Pos}{it acc:Value}{env:Env}(I:Nat->Shared->Prop)
  (turn:∀ n s,I n s->wpAny (model prog w) A (pyNext it) (fun r s₁=>match r with
   | none=>R (.ok .next) s₁
   | some v=>wpAny (model prog w) A (letOwnedTupleGo target it v) (fun _ s₁'=>wpAny (model prog w) A (assign target env v) (fun _ s₂=>
     wpAny (model prog w) A (forIn ifs true fun c r=>if r=true then do let ok ← isTrue c env (eval c env); pure (ForInStep.yield ok) else pure (ForInStep.yield r)) (fun ok s₃=>
      if ok=true then wpAny (model prog w) A (eval elt env) (fun x s₄=>
       wpAny (model prog w) A (call (.builtin "list.append") [acc,x]) (fun _ s₅=>∃ m,m<n∧I m s₅) (fun _ _=>False) s₄) (fun _ _=>False) s₃
      else ∃ m,m<n∧I m s₃) (fun _ _=>False) s₂) (fun _ _=>False) s₁') (fun _ _=>False) s₁) (fun _ _=>False) s)
  (n:Nat) (h:I n s) :
  codeAny (model prog w) A (.compLoop (.ListComp elt [⟨target,iter,ifs,0⟩] scope pos) 0 it acc env) R s:=by
 refine codeAny_loop rfl I (fun n s hI=>?_) n h;show wpAny _ A ((compTurn (.ListComp elt [⟨target,iter,ifs,0⟩] scope pos) 0 it acc env).onRaise (fun x=>do noteFrame x env; theTreesLotGoes x)) _ _ s;refine wpAny_noted ?_;rw[compTurn_list];refine wpAny_bind (wpAny_standAt (wpAny_bind (wpAny_mono (turn n s hI) (fun r s₁ h₁=>?_) fun _ _ h'=>h'.elim)));cases r with
 | none=>exact wpAny_pure h₁
 | some v=>
  refine wpAny_bind (wpAny_mono h₁ (fun _ s₁' h₁'=>?_) fun _ _ h'=>h'.elim);refine wpAny_bind (wpAny_mono h₁' (fun _ s₂ h₂=>wpAny_bind (wpAny_mono h₂ (fun ok s₃ h₃=>?_) fun _ _ h'=>h'.elim)) fun _ _ h'=>h'.elim);cases ok with
  | false=>exact wpAny_pure ⟨rfl,h₃⟩
  | true=>
   exact wpAny_bind (wpAny_bind (wpAny_mono h₃ (fun x s₄ h₄=>wpAny_bind (wpAny_mono h₄ (fun _ s₅ h₅=>wpAny_pure (wpAny_pure ⟨rfl,h₅⟩)) fun _ _ h'=>h'.elim)) fun _ _ h'=>h'.elim))

def dZ (scope:Scope):List Str:=(scope.names.filter fun x=>x.2==.free).map (·.1)
def eY (scope:Scope) (env:Env):List (Str×Addr):=(dZ scope).foldl (fun cs n=>(n,(env.cells.lookup n).getD 0)::cs) []
theorem gK {scope:Scope}{env:Env}(h:∀ n∈dZ scope,∃ c,env.cells.lookup n=some c):closureFor scope env=pure (eY scope env):=by
 have go:∀ (names:List (Str×NameKind)) (cs:List (Str×Addr)),(∀ n,(n,NameKind.free)∈names->∃ c,env.cells.lookup n=some c) ->
   (forIn names cs fun (x:Str×NameKind) r=>(do
    let (name,kind):=x
    if kind==.free then
     let a ← cellOf env name
     pure (ForInStep.yield ((name,a)::r))
    else pure (ForInStep.yield r):Sem (ForInStep (List (Str×Addr)))))=pure (((names.filter fun x=>x.2==.free).map (·.1)).foldl (fun cs n=>(n,(env.cells.lookup n).getD 0)::cs) cs):=by
  intro names
  induction names with
  | nil=>intro cs _; rfl
  | cons x r ih=>
   intro cs hx;obtain⟨n,k⟩:=x;rw[List.forIn_cons]
   by_cases hk:k=.free
   ·subst hk;obtain⟨c,hc⟩:=hx n (by simp);have e:cellOf env n=pure c:=by unfold cellOf; rw[hc]
    simp only[beq_self_eq_true,if_true,e,pure_bind,List.filter_cons,List.map_cons,List.foldl_cons];rw[ih _ fun m hm=>hx m (List.mem_cons_of_mem _ hm),hc];rfl
   ·have hb:(k==NameKind.free)=false:=by simpa using hk
    simp only[hb,Bool.false_eq_true,if_false,pure_bind,List.filter_cons];exact ih _ fun m hm=>hx m (List.mem_cons_of_mem _ hm)
 unfold closureFor;have g:=go scope.names [] fun n hn=>h n (by unfold dZ; exact List.mem_map.mpr ⟨(n,.free),List.mem_filter.mpr ⟨hn,by simp⟩,rfl⟩);refine (bind_congr (fun _=>rfl)).trans ?_;exact (congrArg (·>>=fun r=>pure r) g).trans (by simp only[pure_bind]; rfl)
end L2
namespace L2
open PySem PySem.Spec PyProof.Rows

theorem kS {env:Env}:∀ (ns:List Str) (cs:List (Str×Addr)),(∀ n∈ns,∃ c,env.cells.lookup n=some c)->(∀ x c,cs.lookup x=some c->env.cells.lookup x=some c) ->
  ∀ x c,(ns.foldl (fun cs n=>(n,(env.cells.lookup n).getD 0)::cs) cs).lookup x=some c->env.cells.lookup x=some c
 | [],cs,_,h=>h
 | n::r,cs,hn,h=>by
  refine kS r _ (fun m hm=>hn m (List.mem_cons_of_mem _ hm)) fun x c e=>?_;rw[List.lookup_cons] at e;cases q:(x==n) with
  | true=>
   rw[q] at e;have q':x=n:=by simpa using q
   subst q';obtain⟨c',hc⟩:=hn x List.mem_cons_self;rw[hc] at e ⊢;exact e
  | false=>rw[q] at e; exact h x c e
theorem kT {env:Env}:∀ (ns:List Str) (cs:List (Str×Addr)) (x:Str),(x∈ns∨∃ c,cs.lookup x=some c)->∃ c,(ns.foldl (fun cs n=>(n,(env.cells.lookup n).getD 0)::cs) cs).lookup x=some c
 | [],cs,x,h=>by
  rcases h with h | h
  ·simp at h
  ·exact h
 | n::r,cs,x,h=>by
  refine kT r _ x ?_;rcases h with h | ⟨c,h⟩
  ·rcases List.mem_cons.mp h with rfl | h
   ·exact .inr ⟨(env.cells.lookup x).getD 0,by rw[List.lookup_cons]; simp⟩
   ·exact .inl h
  ·refine .inr ?_;rw[List.lookup_cons];cases q:(x==n) with
   | true=>exact⟨_,rfl⟩
   | false=>exact⟨c,h⟩

structure oF (scope:Scope):Prop where
 kind:scope.kind=.function
 cell:∀ y∈scope.names,y.2≠.cell
 loc:∀ y∈scope.names,y.2=.local->scope.names.lookup y.1=some .local

theorem jA {env:Env}:∀ {names:List (Str×NameKind)}{x:Str}{k:NameKind},(∀ y∈names,y.2≠.cell) ->
  (names.map fun (n,k)=>if (k==NameKind.free&&env.scope.kind==.function&&env.kindOf n==some .cell) then (n,NameKind.cell) else (n,k)).lookup x=some k->(k=.cell∨k=.free)->(x,NameKind.free)∈names
 | [],_,_,_,h,_=>by simp at h
 | (n,k0)::r,x,k,hc,h,hk=>by
  have ih:=@jA env r x k fun y hy=>hc y (List.mem_cons_of_mem _ hy);have hq:List.lookup x ((if (k0==NameKind.free&&env.scope.kind==.function&&env.kindOf n==some .cell)=true then (n,NameKind.cell) else (n,k0))::_)=some k:=h
  have hk0:=hc (n,k0) List.mem_cons_self
  by_cases q:(k0==NameKind.free&&env.scope.kind==.function&&env.kindOf n==some .cell)=true
  ·rw[if_pos q,List.lookup_cons] at hq
   have hf:k0=.free:=by
    rw[Bool.and_eq_true,Bool.and_eq_true] at q
    simpa using q.1.1
   subst hf;cases hx:x==n with
   | true=>
    have e:x=n:=by simpa using hx
    subst e;exact List.mem_cons_self
   | false=>
    rw[hx] at hq;exact List.mem_cons_of_mem _ (ih hq hk)
  ·rw[if_neg q,List.lookup_cons] at hq;cases hx:x==n with
   | true=>
    rw[hx] at hq;have e:x=n:=by simpa using hx
    subst e;have e2:k0=k:=Option.some.inj hq;subst e2;rcases hk with z | z
    ·exact absurd z hk0
    ·rw[z]; exact List.mem_cons_self
   | false=>
    rw[hx] at hq;exact List.mem_cons_of_mem _ (ih hq hk)

def Cx.blk (X:Cx) (scope:Scope) (N':List Str) (C:Addr) (s₃:Shared) (H₃:Hp) (fp:List Addr):Cx:=
 { X with N:=N',s₀:=s₃,H₀:=H₃,env:=compEnvC scope (eY scope X.env) C X.env,outer:=X.stack,stack:=X.stack,ex:=fp,fn:=fun _=>false,pn:=[],xe:=fun _ _=>False }

def dO (nown:Nat) (js:List Nat) (σ:St):St:=List.replicate nown none++js.map fun j=>(σ[j]?).join
structure iW (X:Cx) (scope:Scope) (N':List Str) (nown:Nat) (js:List Nat):Prop where
 len:N'.length=nown+js.length
 at':∀ k j,js[k]?=some j->X.N[j]?=N'[nown+k]?
 cel:∀ n∈dZ scope,X.env.kindOf n=some .cell∨X.env.kindOf n=some .free
 fre:∀ k x,nown<=k->N'[k]?=some x->x∈dZ scope∧(relabel scope X.env).names.lookup x≠some .local

theorem aDa {X:Cx}{pins:List (Addr×Obj)}{σ:St}{H:Hp}{s₃:Shared}{h₁:Heap}{tk:Nat}{scope:Scope}{N':List Str}{nown:Nat}{js:List Nat}{fp:List Addr}
  (I:Inv X pins σ H s₃) (S:oF scope) (B:iW X scope N' nown js) (hfp:∀ b∈fp,kY X pins H b) (hlt:∀ b∈fp,b<s₃.heap.objs.size)
  (hn:h₁.Ns s₃.heap.objs.size (fun _=>none)) (hk:∀ b o,s₃.heap.get? b=some o->h₁.get? b=some o) :
  Inv (X.blk scope N' s₃.heap.objs.size s₃ H fp) [] (dO nown js σ) H { s₃ with heap:=h₁,toks:=tk }:=by
 have hcl:∀ n∈dZ scope,∃ c,X.env.cells.lookup n=some c:=fun n hn=>I.ok.has n (B.cel n hn);have cl1:∀ x c,(eY scope X.env).lookup x=some c->X.env.cells.lookup x=some c:=kS (dZ scope) [] hcl fun x c e=>by simp at e
 refine⟨⟨I.ok.mod,S.kind,I.ok.glob,I.ok.blt,Nat.le_refl _,fun x y c h1 h2=>I.ok.inj x y c (cl1 x c h1) (cl1 y c h2),fun x hx=>?_,fun x c h1 _=>?_,I.ok.hd,I.ok.frames,.inl rfl,fun b hb=>⟨Nat.ne_of_lt (hlt b hb),fun x c e=>(hfp b hb).2.2.2.2.1 x c (cl1 x c e)⟩,I.bs,Nat.le_trans I.ok.bsz I.sz,fun b o e hb=>?_,fun b hb z=>?_,I.stack,I.stkFree⟩,
  rfl,I.bare,Un.kept hk,⟨_,hn,fun i x v h1 h2 h3=>?_⟩,fun x c e=>?_,I.hok.fresh (Nat.le_refl _),fun x c e=>I.freeC x c (cl1 x c e),fun p hp=>?_,I.hok.kept hk,?_⟩
 ·have hx:(relabel scope X.env).names.lookup x=some .cell∨(relabel scope X.env).names.lookup x=some .free:=hx
  have m:(x,NameKind.free)∈scope.names:=by
   rcases hx with hx | hx
   ·exact jA S.cell hx (.inl rfl)
   ·exact jA S.cell hx (.inr rfl)
  exact kT (dZ scope) [] x (.inl (List.mem_map.mpr ⟨(x,.free),List.mem_filter.mpr ⟨m,by simp⟩,rfl⟩))
 ·exact absurd h1 (by simp[Cx.blk])
 ·have f:=(hfp b hb).2.2.2.1;rcases f with f | f
  ·exact I.ok.noex b o e f
  ·exact absurd (Nat.lt_of_lt_of_le (Heap.lt_size (I.ok.bs b o e).1) f) (Nat.lt_irrefl _)
 ·rcases List.mem_cons.mp (I.stkSub b z) with e | e
  ·exact (hfp b hb).2.1 e
  ·exact (hfp b hb).2.2.1 e
 ·-- the names' values
  have h1:N'[i]?=some x:=h1
  have hi:nown<=i:=by
   by_cases q:nown<=i
   ·exact q
   ·exfalso;unfold dO at h2;rw[List.getElem?_append_left (by rw[List.length_replicate]; omega),List.getElem?_replicate] at h2;split at h2 <;> cases h2
  unfold dO at h2;rw[List.getElem?_append_right (by rw[List.length_replicate]; exact hi),List.length_replicate,List.getElem?_map] at h2;cases hj:js[i-nown]? with
  | none=>rw[hj] at h2; cases h2
  | some j=>
   rw[hj] at h2;have h2:some ((σ[j]?).join)=some (some v):=h2
   have e1:σ[j]?=some (some v):=by
    cases q:σ[j]? with
    | none=>rw[q] at h2; cases h2
    | some z=>rw[q] at h2; cases z with
     | none=>cases h2
     | some z=>cases h2; rfl
   have e2:X.N[j]?=some x:=by rw[B.at' _ j hj,show nown+(i-nown)=i by omega]; exact h1
   obtain⟨hfr,hnl⟩:=B.fre i x hi h1;have kx:=B.cel x hfr;obtain⟨m,hm,hl⟩:=I.loc
   obtain⟨u,r,l⟩:=hl j x v e2 e1 (by
    rcases kx with k | k
    ·exact .inr (.inl k)
    ·exact .inr (.inr k))
   refine⟨u,r,.inr ⟨?_,?_⟩⟩
   ·have hv:(relabel scope X.env).names.lookup x=some .local∨(relabel scope X.env).names.lookup x=some .cell∨(relabel scope X.env).names.lookup x=some .free:=h3;exact hv.resolve_left hnl
   ·rcases l with⟨k,_⟩ | ⟨k,c,e,z⟩
    ·rcases kx with k' | k' <;> rw[k] at k' <;> cases k'
    ·obtain⟨c',hc'⟩:=kT (env:=X.env) (dZ scope) [] x (.inl hfr);have e3:=cl1 x c' hc';rw[e] at e3;cases e3;obtain⟨o,ho,hd⟩:=z;exact⟨c,hc',o,hk c o ho,hd⟩
 ·obtain⟨v,o,ho,hd⟩:=I.cell x c (cl1 x c e);exact⟨v,o,hk c o ho,hd⟩
 ·exact absurd (show p∈([]:List (Addr×Obj)) from hp) (by simp)
 ·unfold dO;show _=N'.length;rw[List.length_append,List.length_replicate,List.length_map,B.len]

theorem Inv.back {X:Cx}{pins:List (Addr×Obj)}{σ σ':St}{H H':Hp}{s₃ s':Shared}{scope:Scope}{N':List Str}{C:Addr}{fp:List Addr}{pl:List (Addr×Obj)}
  (I:Inv X pins σ H s₃) (hfp:∀ b∈fp,kY X pins H b) (J:Inv (X.blk scope N' C s₃ H fp) pl σ' H' s'):Inv X pins σ H' s':=
 I.call' J.os J.base J.hok J.bare fun b hb=>⟨(hfp b hb).2.2.2.1,(hfp b hb).2.1,(hfp b hb).2.2.2.2.1,(hfp b hb).2.2.2.2.2⟩

def PTs (X:Cx) (ifs:List Expr) (t:TT):Prop:=
 ∀ (pins:List (Addr×Obj)) (s:Shared) (σ:St) (H:Hp) (Q:Bool->Hp->Prop),Inv X pins σ H s->t σ H Q ->
  wpAny (model X.prog X.w) X.A (forIn ifs true fun c r=>if r=true then do let ok ← isTrue c X.env (eval c X.env); pure (ForInStep.yield ok) else pure (ForInStep.yield r)) (TP X pins σ Q) X.xe s
def aNi:TT:=fun _ H Q=>Q true H
theorem eN {X:Cx}:PTs X [] aNi:=fun _ _ _ H _ I h=>wpAny_tests_nil ⟨H,I,h⟩
theorem lC {X:Cx}{c:Expr}{t:TT}(h:PT X c t):PTs X [c] t:=fun pins s σ H Q I q=>wpAny_tests_one (h pins s σ H Q I q)

def vX (J:It) (D:Addr) (g:TG) (tc:TT) (te:TE) (R:Hp->Prop) (σ:St) (H:Hp):Prop:=
 ∃ W:Nat->Nat->St->Hp->Prop,(∃ m,W 0 m σ H)∧∀ i m σ H,W i m σ H ->
  (J.stop i H∧R H)∨(J.go i H∧∃ N:St->Hp->Prop,(∀ σ' H',N σ' H'->∃ m',m'<m∧W (i+1) m' σ' H')∧∀ x H',J.yld i H x H'->g x σ H' fun σ2 H2=>tc σ2 H2 fun b H3=>
   if b=true then te σ2 H3 fun y H4=>∃ ys,H4 D=some (.lst ys)∧ys.length<sizeLine∧N σ2 (upd H4 D (.lst (ys++[y]))) else N σ2 H3)
def aIo (wi:TI) (nown:Nat) (js:List Nat) (g:TG) (tc:TT) (te:TE):TE:=fun σ H Q=>
 wi σ H fun J H1=>∀ D,H1 D=none->vX J D g tc te (fun H2=>Q (.ref D) H2) (dO nown js σ) (upd H1 D (.lst []))

structure Blk (X:Cx) (scope:Scope) (N':List Str) (tg elt:Expr) (ifs:List Expr) (g:TG) (tc:TT) (te:TE):Prop where
 tg:∀ C s₃ H₃ fp,PG (X.blk scope N' C s₃ H₃ fp) tg g
 tc:∀ C s₃ H₃ fp,PTs (X.blk scope N' C s₃ H₃ fp) ifs tc
 te:∀ C s₃ H₃ fp,PE (X.blk scope N' C s₃ H₃ fp) elt te

theorem sC {X:Cx}{tg elt iter:Expr}{ifs:List Expr}{scope:Scope}{pos:Pos}{N':List Str}{nown:Nat}{js:List Nat}{g:TG}{tc:TT}{te:TE}{E:Value->Shared->Prop}
  (hc:X.calm=true) (S:oF scope) (B:iW X scope N' nown js) (K:Blk X scope N' tg elt ifs g tc te)
  {pins:List (Addr×Obj)}{σ:St}{H2:Hp}{s₂:Shared}{it:Addr}{fp:List Addr}{tn:Nat->Heap->Prop}{J:It}{Q:VK}{RR:Value->Addr->Result->Shared->Prop}
  (I2:Inv X pins σ H2 s₂) (T:xU X.prog X.w X.K tg J fp it tn) (st2:tn 0 s₂.heap) (f2:∀ b∈fp,kY X pins H2 b)
  (h:∀ D,H2 D=none->vX J D g tc te (fun H'=>Q (.ref D) H') (dO nown js σ) (upd H2 D (.lst [])))
  (hRR:∀ (D C:Addr) (H':Hp) (s':Shared),Inv X pins σ H' s'->(∃ m,s'.heap.Ns C m)->(∀ h',Heap.SameBut C s'.heap h'->Inv X pins σ H' { s' with heap:=h' })->kY X pins H' C->Q (.ref D) H'->RR (.ref D) C (.ok .next) s') :
  wpAny (model X.prog X.w) X.A (newList []) (fun acc s₃=>wpAny (model X.prog X.w) X.A (newFunctionEnv scope X.env.globals (eY scope X.env) [] X.env.qual none .none (some X.env)) (fun cenv s₄=>
   codeAny (model X.prog X.w) X.A (.compStart (.ListComp elt [⟨tg,iter,ifs,0⟩] scope pos) 0 (.ref it) acc { cenv with scope:=relabel scope X.env }) (RR acc cenv.locals) s₄) E s₃) E s₂:=by
 have hD:H2 s₂.heap.objs.size=none:=I2.hok.fresh (Nat.le_refl _);have k3:∀ b o,s₂.heap.get? b=some o->(s₂.heap.push { cls:=.type "list",dict:=none,data:=.seq ([]:List Value).toArray }).get? b=some o:=fun b o e=>Heap.get?_push_of_some _ e
 have I3:Inv X pins σ (upd H2 s₂.heap.objs.size (.lst [])) { s₂ with heap:=s₂.heap.push { cls:=.type "list",dict:=none,data:=.seq ([]:List Value).toArray } }:=
  I2.laid (t':=s₂.toks) k3 (Nat.le_refl _) ⟨Nat.zero_le _,[],0,.nil,Heap.get?_push_size _ rfl⟩
 have lt2:∀ b∈fp,b<s₂.heap.objs.size:=fun b hb=>let ⟨o,e,_⟩:=T.obj 0 _ st2 b hb; Heap.lt_size e;have f3:∀ b∈fp,kY X pins (upd H2 s₂.heap.objs.size (.lst [])) b:=fun b hb=>⟨by rw[aH (Nat.ne_of_lt (lt2 b hb))]; exact (f2 b hb).1,(f2 b hb).2⟩;have st3:=T.keep 0 _ _ st2 fun b _ o e=>k3 b o e;obtain⟨W,⟨m0,w0⟩,turn⟩:=h _ hD;refine wpAny_newObj_type (wpAny_newFunctionEnv S.cell (by intro y hy; simp at hy) (fun h₁ hns₁ hsb₁=>?_) S.kind);dsimp only at hns₁ hsb₁ ⊢;generalize hs3:({ s₂ with heap:=s₂.heap.push { cls:=.type "list",dict:=none,data:=.seq ([]:List Value).toArray } }:Shared)=s₃ at I3;have h3:s₂.heap.push { cls:=.type "list",dict:=none,data:=.seq ([]:List Value).toArray }=s₃.heap:=by rw[← hs3]
 rw[h3] at hns₁ hsb₁ st3 ⊢;have k4:∀ b o,s₃.heap.get? b=some o->h₁.get? b=some o:=fun b o e=>hsb₁.extBut b o (Nat.ne_of_lt (Heap.lt_size e)) (Heap.get?_push_of_some _ e)
 have hns:h₁.Ns s₃.heap.objs.size (fun _=>none):=by
  obtain⟨o,es,ep,e,d,k,r⟩:=hns₁;exact⟨o,es,ep,e,d,k,fun n=>by rw[r n]; rfl⟩
 have lt3:∀ b∈fp,b<s₃.heap.objs.size:=fun b hb=>let ⟨o,e,_⟩:=T.obj 0 _ st3 b hb; Heap.lt_size e;have J0:∀ tk,Inv (X.blk scope N' s₃.heap.objs.size s₃ (upd H2 s₂.heap.objs.size (.lst [])) fp) [] (dO nown js σ) (upd H2 s₂.heap.objs.size (.lst [])) { s₃ with heap:=h₁,toks:=tk }:=fun tk=>aDa I3 S B f3 lt3 hns k4
 have loop:∀ s4:Shared,s4={ s₃ with heap:=h₁,toks:=s₂.toks+([]:List (Str×Value)).length } ->
   codeAny (model X.prog X.w) X.A (.compLoop (.ListComp elt [⟨tg,iter,ifs,0⟩] scope pos) 0 (.ref it) (.ref s₂.heap.objs.size) (compEnvC scope (eY scope X.env) s₃.heap.objs.size X.env)) (RR (.ref s₂.heap.objs.size) s₃.heap.objs.size) s4:=by
  rintro s4 rfl
  have Y:∀ b∈fp,kY (X.blk scope N' s₃.heap.objs.size s₃ (upd H2 s₂.heap.objs.size (.lst [])) fp) [] (upd H2 s₂.heap.objs.size (.lst [])) b:=fun b hb=>by
   have F:=f3 b hb;refine⟨F.1,Nat.ne_of_lt (lt3 b hb),fun z=>?_,.inl hb,(J0 0).ok.exf b hb |>.2,fun p hp=>absurd (show p∈([]:List (Addr×Obj)) from hp) (by simp)⟩
   exact (J0 0).ok.exfs b hb z
  have stat:∀ {H':Hp},(∀ b∈fp,H' b=none)->∀ b∈fp,kY (X.blk scope N' s₃.heap.objs.size s₃ (upd H2 s₂.heap.objs.size (.lst [])) fp) [] H' b:=fun hn b hb=>⟨hn b hb,(Y b hb).2⟩
  refine aCx (fun n s'=>∃ i σ' H',Inv (X.blk scope N' s₃.heap.objs.size s₃ (upd H2 s₂.heap.objs.size (.lst [])) fp) [] σ' H' s'∧tn i s'.heap∧(∀ b∈fp,H' b=none)∧W i n σ' H') ?_ m0
   ⟨0,_,_,J0 _,T.keep 0 _ _ st3 fun b _ o e=>k4 b o e,fun b hb=>(f3 b hb).1,w0⟩
  rintro n s5 ⟨i,σ5,H5,I5,st5,fr5,w5⟩;rcases turn i n σ5 H5 w5 with⟨stop,qn⟩ | ⟨go,N,hN,step⟩
  ·refine thn (T.done (X.blk scope N' s₃.heap.objs.size s₃ (upd H2 s₂.heap.objs.size (.lst [])) fp) rfl rfl rfl hc i [] s5 σ5 H5 _ I5 (stat fr5) st5 stop) fun r s6 ⟨hr,I6⟩=>?_;subst hr;have I6':Inv X pins σ H5 s6:=I3.back f3 I6;have hC:kY X pins H5 s₃.heap.objs.size:=I3.fpOk (Nat.le_refl _) I6.free;refine hRR _ _ H5 s6 I6' (let ⟨m,hm,_⟩:=I6.loc; ⟨m,hm⟩) (fun h' sb=>?_) hC qn;exact I6'.turned (t':=s6.toks) (fun b o hb e=>(sb.2 b hb).trans e) hC.1 hC.2.1 hC.2.2.2.1 hC.2.2.2.2.1 hC.2.2.2.2.2
  ·refine thn (T.item (X.blk scope N' s₃.heap.objs.size s₃ (upd H2 s₂.heap.objs.size (.lst [])) fp) rfl rfl rfl hc i [] s5 σ5 H5 _ I5 (stat fr5) st5 go) fun r s6 ⟨u,hr,h6⟩=>?_;subst hr;refine thn h6 fun _ s7 ⟨x,H7,I7,r7,y7,st7,fr7⟩=>?_;have I7':=I7.pinned (stat fr7) (T.obj _ _ st7)
   have again:∀ {σ9:St}{H9:Hp}{s9:Shared},Inv (X.blk scope N' s₃.heap.objs.size s₃ (upd H2 s₂.heap.objs.size (.lst [])) fp) ([]++rG fp s7.heap) σ9 H9 s9->N σ9 H9 ->
     ∃ m,m<n∧∃ i σ' H',Inv (X.blk scope N' s₃.heap.objs.size s₃ (upd H2 s₂.heap.objs.size (.lst [])) fp) [] σ' H' s9∧tn i s9.heap∧(∀ b∈fp,H' b=none)∧W i m σ' H':=fun {σ9 H9 s9} I9 n9=>by
    obtain⟨m',hm,w9⟩:=hN σ9 H9 n9;refine⟨m',hm,i+1,σ9,H9,I9.unpinned,T.keep _ _ _ st7 fun b hb o e=>(I9.pin (b,o) (List.mem_append_right _ (List.mem_append_right _ (jH hb e)))).1,fun b hb=>?_,w9⟩;obtain⟨o,e,d⟩:=T.obj _ _ st7 b hb;exact (I9.pin (b,o) (List.mem_append_right _ (List.mem_append_right _ (jH hb e)))).2.1
   refine thn (K.tg _ _ _ _ _ s7 σ5 H7 x u _ I7' r7 (step x H7 y7)) fun _ s8 ⟨σ8,H8,I8,q8⟩=>?_;refine thn (K.tc _ _ _ _ _ s8 σ8 H8 _ I8 q8) fun ok s9 ⟨H9,I9,q9⟩=>?_;cases ok with
   | false=>exact again I9 q9
   | true=>
    rw[if_pos rfl] at q9 ⊢;refine thn (K.te _ _ _ _ _ s9 σ8 H9 _ I9 q9) fun y s10 ⟨yv,H10,I10,r10,ys,e10,l10,q10⟩=>?_;refine thn (fU _ s10 σ8 H10 (.ref s₂.heap.objs.size) [yv] (.ref s₂.heap.objs.size) [y] (fun v H'=>N σ8 H') I10 rfl (.cons r10 .nil) ⟨_,ys,yv,rfl,rfl,e10,l10,q10⟩) fun _ s11 ⟨_,H11,I11,_,q11⟩=>again I11 q11
 have fin:=loop _ rfl;have e4:({ s₂ with heap:=h₁,toks:=s₂.toks+([]:List (Str×Value)).length }:Shared)={ s₃ with heap:=h₁,toks:=s₂.toks+([]:List (Str×Value)).length }:=by rw[← hs3]
 rw[← e4] at fin;refine codeAny_compStart_list fin (T.self _ 0 _ _ _ ?_ fin);exact T.keep 0 _ _ st3 fun b _ o e=>k4 b o e

section
variable {X:Cx}{tg elt iter:Expr}{ifs:List Expr}{scope:Scope}{pos:Pos}{N':List Str}{nown:Nat}{js:List Nat}{wi:TI}{g:TG}{tc:TT}{te:TE}
theorem gB (hc:X.calm=true) (S:oF scope) (B:iW X scope N' nown js) (K:Blk X scope N' tg elt ifs g tc te) (hi:PI X tg iter wi)
  (hs:∀ x,foldedSetIterable iter X.env x=pure x:=by intro _; rfl):PE X (.ListComp elt [⟨tg,iter,ifs,0⟩] scope pos) (aIo wi nown js g tc te):=by
 intro pins s σ H Q I h;have hcl:closureFor scope X.env=pure (eY scope X.env):=gK fun n hn=>I.ok.has n (B.cel n hn);rw[eval_ListComp];refine wpAny_comprehension_free (use:=none) rfl hs hcl S.kind S.loc (thn (hi pins s σ H _ I h) fun xv s₁ h₁=>thn h₁ fun itv s₂ h₂=>?_);obtain⟨it,fp,tn,J,H2,e,I2,T,st2,f2,q⟩:=h₂;subst e;refine sC (RR:=fun acc C=>compPost (model X.prog X.w) X.A X.xe none (EP X pins σ Q) acc C) hc S B K I2 T st2 f2 q fun D C H' s' I' hm k hC qq=>?_;obtain⟨m,hm⟩:=hm;exact⟨m,hm,fun h' sb=>⟨.ref D,H',k h' sb,rfl,qq⟩⟩
theorem eJ {i:Nat}{x:Str}{px spos:Pos}(hsw:swapsWith (.ListComp elt [⟨tg,iter,ifs,0⟩] scope pos) (some (.Name x px)) spos.line X.env=pure true) (hN:X.N.Nodup) (hi':X.N[i]?=some x) (hx:X.env.scope.names.lookup x=some .local)
  (hc:X.calm=true) (S:oF scope) (B:iW X scope N' nown js) (K:Blk X scope N' tg elt ifs g tc te) (hi:PI X tg iter wi)
  (hs:∀ x,foldedSetIterable iter X.env x=pure x:=by intro _; rfl):PS X (.Assign [.Name x px] (.ListComp elt [⟨tg,iter,ifs,0⟩] scope pos) spos) (aJp (aIo wi nown js g tc te) (eQ i)):=by
 intro pins s σ H D I h;have hcl:closureFor scope X.env=pure (eY scope X.env):=gK fun n hn=>I.ok.has n (B.cel n hn);rw[exec_Assign_Name_used _ _ _ _ hsw];refine wpAny_bind (wpAny_standAt (wpAny_bind ?_));show wpAny _ _ (do let _ ← comprehension (.ListComp elt [⟨tg,iter,ifs,0⟩] scope pos) scope X.env _ (newList []) false (eval iter X.env) (some (assign (.Name x px) X.env))) _ _ s
 refine wpAny_bind (wpAny_mono (wpAny_comprehension_free (use:=some (assign (.Name x px) X.env)) (Q:=fun _ s'=>SP X pins D .next s') rfl hs hcl S.kind S.loc (thn (hi pins s σ H _ I h) fun xv s₁ h₁=>thn h₁ fun itv s₂ h₂=>?_))
  (fun _ s' hq=>wpAny_pure (wpAny_pure hq)) fun _ _ e=>e)
 obtain⟨it,fp,tn,J,H2,e,I2,T,st2,f2,q⟩:=h₂;subst e;refine sC (RR:=fun acc C=>compPost (model X.prog X.w) X.A X.xe (some (assign (.Name x px) X.env)) (fun _ s'=>SP X pins D .next s') acc C) (Q:=fun v H'=>D.nx (σ.set i (some v)) H') hc S B K I2 T st2 f2 q fun Da C H' s' I' hm k hC qq=>?_;show wpAny _ _ (assign (.Name x px) X.env (.ref Da)) _ _ _;refine wpAny_assign_Name (tE I' hN hi' (.inl hx) (v:=.ref Da) rfl (fun s'' I'' ⟨a,sb,ha⟩=>?_) (.inr hx))
 have hCa:C≠a:=by
  rcases ha with rfl | ha
  ·exact hC.2.1
  ·exact fun z=>hC.2.2.2.2.1 x a ha z.symm
 obtain⟨m,hm⟩:=hm;refine⟨m,hm.sameBut sb hCa,fun h' sb'=>⟨_,H',?_,qq⟩⟩;exact I''.turned (t':=s''.toks) (fun b o hb e=>(sb'.2 b hb).trans e) hC.1 hC.2.1 hC.2.2.2.1 hC.2.2.2.2.1 hC.2.2.2.2.2
end

theorem iV {K:PySem.W.Frag}{a D:Addr}{xs:List V}{g:TG}{tc:TT}{te:TE}{R:Hp->Prop}{σ:St}{H:Hp}(Pv:Nat->St->Hp->Prop) (h0:Pv 0 σ H)
  (hl:∀ i σ H,i<=xs.length->Pv i σ H->SqL K H a xs)
  (hs:∀ i x σ H,xs[i]?=some x->Pv i σ H->g x σ H fun σ2 H2=>tc σ2 H2 fun b H3=>if b=true then te σ2 H3 fun y H4=>∃ ys,H4 D=some (.lst ys)∧ys.length<sizeLine∧Pv (i+1) σ2 (upd H4 D (.lst (ys++[y]))) else Pv (i+1) σ2 H3)
  (hd:∀ σ H,Pv xs.length σ H->R H):vX (Itl K a) D g tc te R σ H:=by
 refine⟨fun i m σ H=>m=xs.length-i∧i<=xs.length∧Pv i σ H,⟨xs.length,by simp,Nat.zero_le _,h0⟩,?_⟩;rintro i m σ H ⟨rfl,hi,p⟩;have q:=hl i σ H hi p
 by_cases hlt:i<xs.length
 ·refine .inr ⟨⟨xs,xs[i],q,by simp[hlt]⟩,Pv (i+1),fun σ' H' p'=>⟨xs.length-(i+1),by omega,rfl,hlt,p'⟩,fun x H' y=>?_⟩;obtain⟨e,y⟩:=y;subst e;exact hs i x σ _ (y xs q) p
 ·have e:i=xs.length:=by omega
  subst e;exact .inl ⟨⟨xs,q,Nat.le_refl _⟩,hd σ H p⟩
theorem iU {lo:Int}{n:Nat}{D:Addr}{g:TG}{tc:TT}{te:TE}{R:Hp->Prop}{σ:St}{H:Hp}(Pv:Nat->St->Hp->Prop) (h0:Pv 0 σ H)
  (hs:∀ i σ H,i<n->Pv i σ H->g (.int (lo+i)) σ H fun σ2 H2=>tc σ2 H2 fun b H3=>if b=true then te σ2 H3 fun y H4=>∃ ys,H4 D=some (.lst ys)∧ys.length<sizeLine∧Pv (i+1) σ2 (upd H4 D (.lst (ys++[y]))) else Pv (i+1) σ2 H3)
  (hd:∀ σ H,Pv n σ H->R H):vX (Itr lo n) D g tc te R σ H:=by
 refine⟨fun i m σ H=>m=n-i∧i<=n∧Pv i σ H,⟨n,by simp,Nat.zero_le _,h0⟩,?_⟩;rintro i m σ H ⟨rfl,hi,p⟩
 by_cases hlt:i<n
 ·refine .inr ⟨hlt,Pv (i+1),fun σ' H' p'=>⟨n-(i+1),by omega,rfl,hlt,p'⟩,fun x H' y=>?_⟩;obtain⟨e,y⟩:=y;subst e y;exact hs i σ _ hlt p
 ·have e:i=n:=by omega
  subst e;exact .inl ⟨Nat.le_refl _,hd σ H p⟩
theorem aIb {x:Str}{D:Addr}{g:TG}{tc:TT}{te:TE}{R:Hp->Prop}{σ:St}{H:Hp}(Pv:Nat->St->Hp->Prop) (h0:Pv 0 σ H)
  (hs:∀ i c σ H,x.cps[i]?=some c->Pv i σ H->g (aAd c) σ H fun σ2 H2=>tc σ2 H2 fun b H3=>if b=true then te σ2 H3 fun y H4=>∃ ys,H4 D=some (.lst ys)∧ys.length<sizeLine∧Pv (i+1) σ2 (upd H4 D (.lst (ys++[y]))) else Pv (i+1) σ2 H3)
  (hd:∀ σ H,Pv x.cps.size σ H->R H):vX (Its x) D g tc te R σ H:=by
 refine⟨fun i m σ H=>m=x.cps.size-i∧i<=x.cps.size∧Pv i σ H,⟨x.cps.size,by simp,Nat.zero_le _,h0⟩,?_⟩;rintro i m σ H ⟨rfl,hi,p⟩
 by_cases hlt:i<x.cps.size
 ·refine .inr ⟨hlt,Pv (i+1),fun σ' H' p'=>⟨x.cps.size-(i+1),by omega,rfl,hlt,p'⟩,fun v H' y=>?_⟩;obtain⟨e,c,hc,rfl⟩:=y;subst e;exact hs i c σ _ hc p
 ·have e:i=x.cps.size:=by omega
  subst e;exact .inl ⟨Nat.le_refl _,hd σ H p⟩
end L2
namespace L2
open PySem PySem.Spec PyProof.Rows

section
variable {X:Cx}{e:Expr}{te:TE}{lo hi:Option Expr}{tl th:TO}{pos p2:Pos}
end

section
variable {X:Cx}
theorem zQ:∀ {bs:List Bool}{us:List Value},cA (bs.map V.bl) us->∀ (i:Nat) (v:Value),us[i]?=some v->∃ b,bs[i]?=some b∧v=.bool b
 | [],_,.nil,_,_,e=>by simp at e
 | b::bs,_,.cons r rr,0,v,e=>by
  cases r;simp at e;exact⟨b,rfl,e.symm⟩
 | b::bs,_,.cons r rr,i+1,v,e=>by
  obtain⟨c,h1,h2⟩:=zQ (bs:=bs) rr i v (by simpa using e);exact⟨c,by simpa using h1,h2⟩
inductive aPs (K:PySem.W.Frag) (xs:List V) (H:Hp) (Q:VK):Prop
 | mk (a:Addr) (bs:List Bool) (h0_:xs=[.ref a]) (h1_:SqL K H a (bs.map V.bl)) (h2_:Q (.bl (bs.all id)) H)
theorem uJ (hc:X.calm=true):CallR X (.builtin "all") (aPs X.K):=by
 intro pins s σ H xs us Q I r h;obtain⟨a,bs,rfl,hs,q⟩:=h;obtain⟨u,rfl,rx⟩:=jR r;cases rx;obtain⟨its,rv,pl,hz⟩:=I.list hs;have hl:=pl.isList;have hlt:a<s.heap.objs.size:=by obtain⟨_,e,_⟩:=hl; exact Heap.lt_size e
 have hlen:its.length=bs.length:=by rw[← rv.length,List.length_map]
 refine call_all_walk (wpAny_pyIter_list hl ⟨s.heap.objs.size,[s.heap.objs.size,a],[s.heap.objs.size],its.toArray.size,_,_,fun i=>(bs[i]?).getD true,rfl,
  Walks.list (A:=X.A.in1) (I.ok.hd hc) _ a (Nat.ne_of_lt hlt) its.toArray,⟨⟨_,Heap.get?_push_size _ rfl,rfl,rfl⟩,hl.push _⟩,fun i v s' Q' E' hP hQ=>?_,fun h' tk hk=>?_⟩)
 ·obtain⟨b,eb,rfl⟩:=zQ rv i v (by simpa using hP);simp only[eb,Option.getD_some] at hQ;exact wpAny_truthy_bool hQ
 ·have ea:((List.range its.toArray.size).all fun i=>(bs[i]?).getD true)=bs.all id:=by
   rw[List.size_toArray,hlen];exact LSm.range_all bs
  rw[ea];exact⟨.bl (bs.all id),H,I.kept (LSm.kept_iter hk),rfl,q⟩
inductive aMz (K:PySem.W.Frag) (xs:List V) (H:Hp) (Q:VK):Prop
 | mk (x:_) (c:_) (cv:_) (t:_) (b:_) (h0_:xs=[x,c]) (h1_:(∀ u,cG c u->u=cv)) (h2_:mU K H x t) (h3_:PySem.W.kitOne K t cv=some b) (h4_:Q (.bl b) H)
theorem aFx:CallR X (.builtin "isinstance") (aMz X.K):=by
 intro pins s σ H xs us Q I r h;obtain⟨x,c,cv,t,b,rfl,hc,ty,e,q⟩:=h;obtain⟨u,w',rfl,rx,rc⟩:=aIm r;have ec:=hc w' rc;subst ec;exact aCo I rx ty e fun tk=>⟨.bl b,H,I.tok tk,rfl,q⟩
theorem aDy {T:String}:∀ u,cG (.ty T) u->u=.type T:=fun _ r=>r
end

def aNs (P:St->Hp->Prop) (t u:TS):TS:=fun D σ H=>t { D with nx:=P } σ H∧∀ σ' H',P σ' H'->u D σ' H'
theorem iF {X:Cx}{st:Stmt}{rest:List Stmt}{t u:TS}(P:St->Hp->Prop) (h1:PS X st t) (h2:PSs X rest u):PSs X (st::rest) (aNs P t u):=by
 intro pins s σ H D I h;obtain⟨ht,hu⟩:=h;refine wpAny_execs_cons (thn (h1 pins s σ H { D with nx:=P } I ht) fun f s1 q=>?_);cases f with
 | next=>
  obtain⟨σ',H',I',q⟩:=q;exact h2 pins s1 σ' H' D I' (hu σ' H' q)
 | ret v=>exact q
 | brk=>exact q
 | cont=>exact q
end L2
namespace L2
open PySem PySem.Spec PyProof.Rows
namespace Bo
theorem isinstance:bootBuiltins "isinstance" = some (.builtin "isinstance"):=by decide +kernel
theorem str:bootBuiltins "str" = some (.type "str"):=by decide +kernel
theorem list:bootBuiltins "list" = some (.type "list"):=by decide +kernel
theorem tuple:bootBuiltins "tuple" = some (.type "tuple"):=by decide +kernel
theorem all:bootBuiltins "all" = some (.builtin "all"):=by decide +kernel
theorem len:bootBuiltins "len" = some (.builtin "len"):=by decide +kernel
theorem sorted:bootBuiltins "sorted" = some (.builtin "sorted"):=by decide +kernel
theorem enumerate:bootBuiltins "enumerate" = some (.type "enumerate"):=by decide +kernel
end Bo
def wL (scope sc:Scope):List (Str×NameKind):=scope.names.map fun (n,k)=>if (k==.free&&sc.kind==.function&&sc.names.lookup n==some .cell) then (n,.cell) else (n,k)
def aJc (sc scope:Scope) (N N':List Str) (nown:Nat) (js:List Nat):Bool:=
 decide (N'.length=nown+js.length)&&(List.range js.length).all (fun k=>decide (N[js.getD k 0]?=N'[nown+k]?))
  && (dZ scope).all (fun n=>decide (sc.names.lookup n=some .cell)||decide (sc.names.lookup n=some .free))
  && (List.range js.length).all (fun k=>match N'[nown+k]? with | some x=>decide (x∈dZ scope)&&decide ((wL scope sc).lookup x≠some .local) | none=>false)
theorem cK {X:Cx}{scope:Scope}{N':List Str}{nown:Nat}{js:List Nat}(sc:Scope) (N:List Str) (hsc:X.env.scope=sc) (hN:X.N=N) (h:aJc sc scope N N' nown js=true):iW X scope N' nown js:=by
 subst hsc hN;unfold aJc at h;rw[Bool.and_eq_true,Bool.and_eq_true,Bool.and_eq_true] at h;obtain⟨⟨⟨h1,h2⟩,h3⟩,h4⟩:=h;have h1:=of_decide_eq_true h1;refine⟨h1,fun k j e=>?_,fun n hn=>?_,fun k x hk e=>?_⟩
 ·have hk:k<js.length:=(List.getElem?_eq_some_iff.mp e).1;have q:=of_decide_eq_true (List.all_eq_true.mp h2 k (List.mem_range.mpr hk));have ej:js.getD k 0=j:=by rw[List.getD_eq_getElem?_getD,e]; rfl
  rw[ej] at q;exact q
 ·have q:=List.all_eq_true.mp h3 n hn;rw[Bool.or_eq_true] at q;exact q.imp (fun z=>of_decide_eq_true z) fun z=>of_decide_eq_true z
 ·have hl:k<N'.length:=(List.getElem?_eq_some_iff.mp e).1;have q:=List.all_eq_true.mp h4 (k-nown) (List.mem_range.mpr (by omega));have ek:nown+(k-nown)=k:=by omega
  rw[ek,e] at q;have q':(decide (x∈dZ scope)&&decide ((wL scope X.env.scope).lookup x≠some .local))=true:=q;rw[Bool.and_eq_true] at q';exact⟨of_decide_eq_true q'.1,of_decide_eq_true q'.2⟩

def pN:Expr->Bool
 | .Starred ..=>true
 | _=>false
theorem cW {e:Expr}{es:List Expr}{env:Env}(h:pN e=false):starEach (e::es) env=(false,eval e env)::starEach es env:=by
 cases e <;> first | rfl | cases h
theorem pac {X:Cx}{e:Expr}{es:List Expr}{te:TE}{t:TA}(ha:PE X e te) (hr:PA X es t) (hs:pN e=false:=by rfl):PA X (e::es) (aDk te t):=iH ha hr (cW hs)

end L2
namespace L2
open PySem
section
variable {X:Cx}{D:mY}{s1 s2 s3 s4 s5:Stmt}{rest:List Stmt}{t1 t2 t3 t4 t5:TS}{J:St->Hp->Prop}
end
end L2
namespace L2
open PySem PySem.Spec PyProof.Rows

inductive CXE (P:Program) (w:World) (outer:List Env) (H:Hp) (s:Shared) (E:XK) (ev:Value) (s':Shared):Prop
 | mk (e t:Addr) (cls:Value) (vs:List Value) (H':Hp) (B:Heap) (h1:ev=.ref e) (h2:s'.os=s.os) (h3:AllBare s'.gens) (h4:Un (frs outer) [] H H' s.heap s'.heap) (h5:HOk P w H' s'.heap)
  (h6:Heap.FlyingW B outer e cls (.ref t) s'.heap) (h7:s'.heap.TupAt t vs) (h8:B.get? t=none)
  (h9:∀ b o,s.heap.get? b=some o->H b=none->b∉frs outer->B.get? b=some o) (h10:∀ b u,H' b=some u->∃ o,B.get? b=some o)
  (h11:∀ b o,s.heap.get? b=some o->b∉frs outer->∃ o',B.get? b=some o') (h12:E cls none H')
theorem HOk.inB {P:Program}{w:World}{H:Hp}{h h' B:Heap}(x:HOk P w H h) (k:B.StaysIn h) (k':B.StaysIn h') (t:∀ b u,H b=some u->∃ o,B.get? b=some o):HOk P w H h':=fun a o e=>by
 refine (x a o e).stay (fun b u hb q=>?_) (fun _ q=>q) fun _ _ q=>q
 have hs:∃ v,H b=some v:=by
  rcases hb with rfl | hb
  ·exact⟨o,e⟩
  ·exact⟨_,hb⟩
 obtain⟨v,hv⟩:=hs;obtain⟨o',ho⟩:=t b v hv
 have:=k b o' ho
 rw[q] at this;cases this;exact k' b u ho
structure Cx.Body (X:Cx) (E:XK):Prop where
 xe:X.xe=fun ev s'=>wpAny (model X.prog X.w) X.A (leaving X.env ev) (fun _ s''=>CXE X.prog X.w X.outer X.H₀ X.s₀ E ev s'') (fun ev' s''=>CXE X.prog X.w X.outer X.H₀ X.s₀ E ev' s'') s'
 stk:X.stack=X.env::X.outer
 frm:X.env.frame=some X.env.locals
 ex:X.ex=[]
theorem qL {P:Program}{w:World}{K:PySem.W.Frag}{mg:Str->Option Value}{base:Heap}{N:List Str}{qual:Str}{scope:Scope}{f:Addr}{cd:Value}{A:Around}{outer:List Env}{s:Shared}{H:Hp}{E:XK} :
  (iB (CXE P w) P w K mg base N qual scope f cd A outer s H E).Body E:=⟨rfl,rfl,rfl,rfl⟩
section
variable {X:Cx}{E:XK}
theorem Cx.Body.stkFrs (D:X.Body E):frs X.stack=X.env.locals::X.fs:=by
 rw[D.stk];show List.filterMap _ (X.env::X.outer)=_;rw[List.filterMap_cons,D.frm];rfl
theorem Cx.Body.passes (D:X.Body E){E':XK}(hE:∀ c d H',E' c d H'->E c d H'):eZ (CXE X.prog X.w) X E':=by
 intro pins σ H s ev s' I h;obtain⟨e,t,cls,vs,H',B,rfl,h2,h3,h4,h5,h6,h7,h8,h9,h10,h12,h11⟩:=h;have J:Inv X pins σ H' s':=I.call' (ch:=[]) h2 h4 h5 h3 fun _ z=>nomatch z;rw[D.xe];show wpAny (model X.prog X.w) X.A (leaving X.env (.ref e)) _ _ s';have hfr:X.A.frames=some (X.env::X.outer):=by rw[I.ok.frames,D.stk]
 rw[D.stk] at h6;refine wpAny_leaves_onW hfr D.frm h6 fun h' f1 f2=>?_;have neL:∀ b o,X.s₀.heap.get? b=some o->b≠X.env.locals:=fun b o q=>Nat.ne_of_lt (Nat.lt_of_lt_of_le (Heap.lt_size q) I.ok.above)
 have inB:∀ b o,X.s₀.heap.get? b=some o->X.H₀ b=none->b∉X.fs->B.get? b=some o:=fun b o q n hb=>by
  have nex:b∉X.ex:=by rw[D.ex]; simp
  refine h9 b o (I.base.keep b o q n hb nex) (I.base.free b o q n nex) ?_;rw[D.stkFrs];intro z;rcases List.mem_cons.mp z with z | z
  ·exact neL b o q z
  ·exact hb z
 have allB:∀ b o,X.s₀.heap.get? b=some o->b∉X.fs->∃ o',B.get? b=some o':=fun b o q hb=>by
  obtain⟨o1,q1⟩:=I.base.there b o q (by rw[D.ex]; simp);refine h12 b o1 q1 ?_;rw[D.stkFrs];intro z;rcases List.mem_cons.mp z with z | z
  ·exact neL b o q z
  ·exact hb z
 refine⟨e,t,cls,vs,H',B,rfl,J.os,h3,⟨fun b o q n hb _=>f1.1 b o (inB b o q n hb),fun b o q n hb _=>?_,fun b o q n _=>J.base.free b o q n (by rw[D.ex]; simp),fun b o q _=>?_,J.base.tups,J.base.frzs,J.base.tbls⟩,?_,f1,h7.of_slots f2,h8,inB,h10,allB,hE _ _ _ h11⟩
 ·obtain⟨sl,e1⟩:=J.base.slot b o q n hb (by rw[D.ex]; simp)
  obtain⟨L,oL,hL,hn⟩:=(show ∃ L o,L=b∧s'.heap.get? L=some o∧∀ vs,o.data≠.fields vs from by
   obtain⟨_,oo,hoo,hnf⟩:=(J.funs).mem hb;exact⟨b,oo,rfl,hoo,hnf⟩)
  obtain⟨rfl,hn,hnf⟩:L=b∧s'.heap.get? L=some oL∧∀ vs,oL.data≠.fields vs:=⟨hL,hn.1,hn.2⟩;obtain⟨sl',e2⟩:=f2 L oL hn hnf;rw[e1] at hn;cases hn;exact⟨sl',e2⟩
 ·by_cases hb:b∈X.fs
  ·obtain⟨_,o',ho',_⟩:=f1.2.2.1.mem hb;exact⟨o',ho'⟩
  ·obtain⟨o',ho'⟩:=allB b o q hb;exact⟨o',f1.1 b o' ho'⟩
 ·exact h5.inB h6.1 f1.1 h10
end
end L2
namespace L2
open PySem PySem.Spec PyProof.Rows

abbrev qT:List Value:=[.type "ValueError",.type "Exception",.type "BaseException",.type "object"]
def xW (K:PySem.W.Frag) (C:Addr):Prop:=PySem.W.excIn K C qT "ValueError.__new__"=true
theorem xW.at {K:PySem.W.Frag}{C:Addr}{h:Heap}(q:xW K C) (X:K.In h):∃ bm N nm qn bs hd sn sub ab col dd k0 k1 k2 k3 k5 mN,
  h.get? C=some (excClassObj nm qn C N bs bm hd sn sub ab col dd k0 k1 k2 k3 k5 "ValueError.__new__")∧h.Ns N mN∧mN "__init__" = none∧OwnTail h qT bm:=by
 unfold xW PySem.W.excIn at q;cases hl:K.lookup C with
 | none=>rw[hl] at q; cases q
 | some o=>
  rw[hl] at q;split at q
  ·rename_i dd cd sl ho
   cases ho;split at q
   ·rename_i C' bm k0 k1 k2 k3 n k5 hm hs
    rw[Bool.and_eq_true,Bool.and_eq_true,Bool.and_eq_true,Bool.and_eq_true,Bool.and_eq_true] at q;obtain⟨⟨⟨⟨⟨q1,q2⟩,q3⟩,q4⟩,q5⟩,q6⟩:=q;have e1:C'=C:=by simpa using q1
    have e2:n="ValueError.__new__":=by simpa using q2
    subst e1 e2;obtain⟨nm,bs,mro,ns,qn,hd,sn,sub,ab,col,del⟩:=cd;have e3:del=false:=by simpa using q3
    have em:mro=.ref C'::bm:=hm;subst e3 em
    have es:sl=#[k0,k1,k2,k3,some (.builtin "ValueError.__new__"),k5]:=by
     obtain⟨l⟩:=sl
     have:l=[k0,k1,k2,k3,some (.builtin "ValueError.__new__"),k5]:=hs
     rw[this]
    subst es;exact⟨bm,ns,nm,qn,bs,hd,sn,sub,ab,col,dd,k0,k1,k2,k3,k5,_,X _ _ hl,.of_isNs (PySem.W.isNs_of_in X q5),PySem.W.nsMap_none_of_in X q5 (by simpa using q6),PySem.W.tail_of_in X q4⟩
   ·cases q
  ·cases q
theorem dA.ex {P:Program}{w:World}{H:Hp}{h:Heap}{a:Addr}{o:HO}(x:dA P w H h a o):∃ ob,h.get? a=some ob:=by
 cases o with
 | lst xs=>obtain⟨_,_,_,_,e⟩:=x; exact⟨_,e⟩
 | tup xs=>obtain⟨_,_,_,ob,e,_⟩:=x; exact⟨_,e⟩
 | dK kvs=>obtain⟨_,_,_,_,o,_,_,e,_⟩:=x; exact⟨_,e⟩
 | dT kvs=>obtain⟨_,_,_,_,o,_,_,e,_⟩:=x; exact⟨_,e⟩
 | set S n=>obtain⟨o,_,_,_,e,_⟩:=x; exact⟨_,e⟩
 | ins C dx fs=>obtain⟨_,_,_,e,_⟩:=x; exact⟨_,e⟩
 | own y=>exact x
 | xd fs=>obtain⟨_,⟨_,_,_,e,_⟩,_⟩:=x; exact⟨_,e⟩
 | rng lo hi=>obtain⟨_,_,_,e⟩:=x; exact⟨_,e⟩
 | frz ob u=>obtain⟨e,_⟩:=x; exact⟨_,e⟩
 | tbl ps=>exact⟨_,(show h.get? a=some _ from x)⟩
 | met f y=>exact⟨_,(show h.get? a=some _ from x)⟩
 | ext φ=>obtain⟨_,e,_⟩:=x; exact e
section
variable {X:Cx}{E:XK}
theorem Cx.Body.raised (D:X.Body E){pins:List (Addr×Obj)}{σ:St}{H:Hp}{s:Shared}{h':Heap}{e:Addr}{cls:Value}{us:List Value}(I:Inv X pins σ H s) (hx:Heap.MadeExcOf s.heap h' e cls us) (q:E cls none H) :
  X.xe (.ref e) { s with heap:=h' }:=by
 rw[D.xe];have hfr:X.A.frames=some (X.env::X.outer):=by rw[I.ok.frames,D.stk]
 have hin:∀ env∈X.stack,∀ a,env.frame=some a->a∈frs X.stack:=fun env he a ha=>List.mem_filterMap.mpr ⟨env,he,ha⟩
 have hl:s.heap.FunFrames (PySem.W.hideAll s.heap (frs X.stack)) (X.env::X.outer):=by
  have:=PySem.W.funFrames_hide I.stack hin
  rw[D.stk] at this ⊢;exact this
 refine wpAny_leaves_madeW hfr D.frm (fun b o q=>PySem.W.of_hideAll _ q) hl hx fun h'' t f1 f2 f3 f4=>?_;have neL:∀ b o,X.s₀.heap.get? b=some o->b≠X.env.locals:=fun b o q=>Nat.ne_of_lt (Nat.lt_of_lt_of_le (Heap.lt_size q) I.ok.above)
 have nfr:∀ b o,X.s₀.heap.get? b=some o->b∉X.fs->b∉frs X.stack:=fun b o q hb z=>by
  rw[D.stkFrs] at z;rcases List.mem_cons.mp z with z | z
  ·exact neL b o q z
  ·exact hb z
 have nex:∀ b,b∉X.ex:=fun b=>by rw[D.ex]; simp
 have inB:∀ b o,X.s₀.heap.get? b=some o->X.H₀ b=none->b∉X.fs->(PySem.W.hideAll s.heap (frs X.stack)).get? b=some o:=fun b o q n hb=>
  PySem.W.hideAll_get _ (I.base.keep b o q n hb (nex b)) (nfr b o q hb)
 have trB:∀ b u,H b=some u->∃ o,(PySem.W.hideAll s.heap (frs X.stack)).get? b=some o:=fun b u q=>by
  obtain⟨o,ho⟩:=(I.hok b u q).ex;exact⟨o,PySem.W.hideAll_get _ ho fun z=>by rw[I.stkFree b z] at q; cases q⟩
 have allB:∀ b o,X.s₀.heap.get? b=some o->b∉X.fs->∃ o',(PySem.W.hideAll s.heap (frs X.stack)).get? b=some o':=fun b o q hb=>by
  obtain⟨o1,q1⟩:=I.base.there b o q (nex b);exact⟨o1,PySem.W.hideAll_get _ q1 (nfr b o q hb)⟩
 refine⟨e,t,cls,us,H,_,rfl,I.os,I.bare,⟨fun b o q n hb _=>f1.1 b o (inB b o q n hb),fun b o q n hb _=>?_,fun b o q n _=>I.base.free b o q n (nex b),fun b o q _=>?_,I.base.tups,I.base.frzs,I.base.tbls⟩,
  I.hok.inB (fun b o q=>PySem.W.of_hideAll _ q) f1.1 trB,f1,f2,f3,inB,trB,allB,q⟩
 ·obtain⟨sl,e1⟩:=I.base.slot b o q n hb (nex b);obtain⟨_,oo,hoo,hnf⟩:=I.funs.mem hb;obtain⟨sl',e2⟩:=f4 b oo (hx.keeps b oo hoo) hnf;rw[e1] at hoo;cases hoo;exact⟨sl',e2⟩
 ·by_cases hb:b∈X.fs
  ·obtain⟨_,o',ho',_⟩:=f1.2.2.1.mem hb;exact⟨o',ho'⟩
  ·obtain⟨o',ho'⟩:=allB b o q hb;exact⟨o',f1.1 b o' ho'⟩
def aJi (E:XK) (c:Value) (t:TA):TS:=fun _ σ H=>t σ H fun vs H1=>vs.length<=sizeLine∧E c none H1
theorem gN {x:Str}{C:Addr}{np cpos pos:Pos}{e₀:Expr}{es:List Expr}{t:TA}(D:X.Body E) (hc:X.calm=true) (hg:Gl X x) (hm:X.mg x=some (.ref C)) (hq:xW X.K C) (ha:PA X (e₀::es) t)
  (hs:pN e₀=false:=by rfl) (hpl:(backTo cpos (starEach es X.env)).any (·.1)=false:=by rfl) (hd:(x==("__debug__" : Str))=false:=by decide) :
  PS X (.Raise (some (.Call (.Name x np) (e₀::es) [] cpos)) none pos) (aJi E (.ref C) t):=by
 intro pins s σ H Dn I h;obtain⟨bm,N,nm,qn,bs,hdd,sn,sub,ab,col,dd,k0,k1,k2,k3,k5,mN,hC,hN,hni,T⟩:=hq.at I.mod.kin;have he:starEach (e₀::es) X.env=(false,eval e₀ X.env)::starEach es X.env:=cW hs
 refine wpAny_Raise_call_subT (C:=C) (nm:=nm) (q:=qn) (N:=N) (bs:=bs) (bm:=bm) (hdct:=hdd) (sn:=sn) (sub:=sub) (ab:=ab) (col:=col) (dd:=dd) (k0:=k0) (k1:=k1) (k2:=k2) (k3:=k3) (k5:=k5)
  PySem.F.excBase_ValueError (mN:=mN) (T.hasType PySem.F.excBase_ValueError.hasBase) (I.ok.hd hc) (by rw[he]; exact hpl) hni (iJ I hg hm ⟨rfl,?_⟩ hd)
 have ha':=ha cpos pins s σ H _ I h;rw[he] at ha' ⊢;refine Calls.evalArgs_plain (thn ha' fun us s1 ⟨vs,H1,I1,r1,hz,q1⟩=>⟨rfl,by rw[← r1.length]; exact hz,I1.bk _ _ hC,hN.keeps I1.bk,T.keeps I1.bk,fun h' e hx=>D.raised I1 hx q1⟩)
end
end L2
namespace L2
open PySem PySem.Spec PySem.Calls PyProof.Rows PySem.W
open PySem.Builtin PySem.Builtin.ObjectAttr PySem.Builtin.Getset_descriptor

def sM (e C:Addr) (h:Heap):Prop:=∃ o vs,h.get? e=some o∧o.cls=.ref C∧o.data=.fields vs
section
variable {prog:Program}{w:World}{A:Around}{E:Value->Shared->Prop}{s:Shared}{K:Frag}{e C:Addr}
theorem sM.type {M:Model}{h:Heap}(I:sM e C h):Looks M h (typeOf (.ref e)) (.ref C):=by
 obtain⟨o,vs,h1,h2,_⟩:=I;exact h2▸(Looks.ld h1).andThen .now
end
end L2
namespace L2
open PySem PySem.Spec PySem.Calls PyProof.Rows

structure Cx.Frame (X:Cx):Prop where
 stk:X.stack=X.env::X.outer
 frm:X.env.frame=some X.env.locals
abbrev Cx.pinned (X:Cx) (pn:List (Addr×Obj)) (E:Value->Shared->Prop):Cx:={ X with pn:=pn,xe:=E }
abbrev Cx.caught (X:Cx) (e:Addr) (pn:List (Addr×Obj)):Cx:={ X with A:=X.A.mark (some (.ref e)),calm:=false,pn:=pn,xe:=fun _ _=>False }
section
variable {X:Cx}{pins:List (Addr×Obj)}{σ:St}{H:Hp}{s:Shared}
theorem Inv.repin (I:Inv X pins σ H s) (E:Value->Shared->Prop):Inv (X.pinned (X.pn++pins) E) [] σ H s:=
 ⟨⟨I.ok.mod,I.ok.kind,I.ok.glob,I.ok.blt,I.ok.above,I.ok.inj,I.ok.has,I.ok.cab,I.ok.hd,I.ok.frames,I.ok.stk,I.ok.exf,I.ok.bs,I.ok.bsz,I.ok.noex,I.ok.exfs,I.ok.funs,I.ok.frf⟩,
  I.os,I.bare,I.base,I.loc,I.cell,I.free,I.freeC,fun p hp=>I.pin p (by simpa using hp),I.hok,I.len⟩
theorem Inv.unpin {E:Value->Shared->Prop}{pl:List (Addr×Obj)}(I:Inv (X.pinned (X.pn++pins) E) pl σ H s):Inv X pins σ H s:=
 ⟨⟨I.ok.mod,I.ok.kind,I.ok.glob,I.ok.blt,I.ok.above,I.ok.inj,I.ok.has,I.ok.cab,I.ok.hd,I.ok.frames,I.ok.stk,I.ok.exf,I.ok.bs,I.ok.bsz,I.ok.noex,I.ok.exfs,I.ok.funs,I.ok.frf⟩,
  I.os,I.bare,I.base,I.loc,I.cell,I.free,I.freeC,fun p hp=>I.pin p (List.mem_append_left _ hp),I.hok,I.len⟩
theorem Inv.mark (I:Inv X pins σ H s) (e:Addr):Inv (X.caught e (X.pn++pins)) [] σ H s:=
 ⟨⟨I.ok.mod,I.ok.kind,I.ok.glob,I.ok.blt,I.ok.above,I.ok.inj,I.ok.has,I.ok.cab,(fun z=>nomatch z),I.ok.frames,I.ok.stk,I.ok.exf,I.ok.bs,I.ok.bsz,I.ok.noex,I.ok.exfs,I.ok.funs,I.ok.frf⟩,
  I.os,I.bare,I.base,I.loc,I.cell,I.free,I.freeC,fun p hp=>I.pin p (by simpa using hp),I.hok,I.len⟩
theorem Inv.unmark {e:Addr}{pl:List (Addr×Obj)}(I:Inv (X.caught e (X.pn++pins)) pl σ H s) (ok:X.Ok):Inv X pins σ H s:=
 ⟨ok,I.os,I.bare,I.base,I.loc,I.cell,I.free,I.freeC,fun p hp=>I.pin p (List.mem_append_left _ hp),I.hok,I.len⟩
end
end L2
namespace L2
open PySem PySem.Spec PySem.Calls PyProof.Rows
section
variable {X:Cx}
theorem aFk {pins:List (Addr×Obj)}{σ:St}{H H1:Hp}{s s1:Shared}{e C:Addr}{a0:Value}{B h':Heap}(I:Inv X pins σ H s) (ho:s1.os=s.os) (hg:AllBare s1.gens) (u:Un (frs X.stack) [] H H1 s.heap s1.heap) (hk:HOk X.prog X.w H1 s1.heap)
  (f0:B.StaysIn s1.heap) (fl:Heap.FlyingW B X.stack e (.ref C) a0 h') (up:s1.heap.UpToSlots h') (inB:∀ b o,s.heap.get? b=some o->H b=none->b∉frs X.stack->B.get? b=some o) (trB:∀ b v,H1 b=some v->∃ o,B.get? b=some o)
  (allB:∀ b o,s.heap.get? b=some o->b∉frs X.stack->∃ o',B.get? b=some o'):H1 e=none∧Inv X pins σ (upd H1 e (.ext (sM e C))) { s1 with heap:=h' }:=by
 have he:H1 e=none:=by
  cases q:H1 e with
  | none=>rfl
  | some v=>
   obtain⟨o,z⟩:=trB e v q;rw[fl.2.1] at z;cases z
 obtain⟨oe,vs,hoe,hoc,hod,_⟩:=fl.first
 have efr:e∉frs X.stack:=fun z=>by
  obtain⟨_,o,h1,h2⟩:=fl.2.2.1.mem z;rw[hoe] at h1;cases h1;exact h2 vs hod
 have eold:∀ o,s.heap.get? e≠some o:=fun o z=>by
  obtain⟨o',z'⟩:=allB e o z efr;rw[fl.2.1] at z';cases z'
 have hok:HOk X.prog X.w H1 h':=hk.inB f0 fl.1 trB;have xat:sM e C h':=⟨oe,vs,hoe,hoc,hod⟩
 have hok':HOk X.prog X.w (upd H1 e (.ext (sM e C))) h':=fun b v q=>by
  by_cases hb:b=e
  ·subst hb;rw[aE] at q;cases q;exact⟨xat,⟨oe,hoe⟩,fun h1 h2 ⟨o,ws,p1,p2,p3⟩ k=>⟨o,ws,k o p1,p2,p3⟩⟩
  ·rw[aH hb] at q;exact (hok b v q).stay (fun _ _ _ z=>z) (fun c z=>by rw[aH (aI z he)]; exact z) fun c xs z=>by rw[aH (aI z he)]; exact z
 refine⟨he,I.call' (ch:=[]) (s':={ s1 with heap:=h' }) ho ⟨fun b o q n hb _=>fl.1 b o (inB b o q n hb),fun b o q n hb _=>?_,fun b o q n hx=>?_,fun b o q hx=>?_,fun b xs q=>?_,fun b o v q=>?_,fun b ps q=>?_⟩ hok' hg fun _ z=>nomatch z⟩
 ·obtain⟨sl,e1⟩:=u.slot b o q n hb (by simp);obtain⟨_,oo,hoo,hnf⟩:=I.stack.mem hb;rw[q] at hoo;cases hoo;obtain⟨sl',e2⟩:=up b _ e1 hnf;exact⟨sl',e2⟩
 ·rw[aH fun z=>eold o (by rw[← z]; exact q)];exact u.free b o q n (by simp)
 ·by_cases hb:b∈frs X.stack
  ·obtain⟨_,o',ho',_⟩:=fl.2.2.1.mem hb;exact⟨o',ho'⟩
  ·obtain⟨o',ho'⟩:=allB b o q hb;exact⟨o',fl.1 b o' ho'⟩
 ·have z:=u.tups b xs q;rw[aH (aI z he)];exact z
 ·have z:=u.frzs b o v q;rw[aH (aI z he)];exact z
 ·obtain⟨more,z⟩:=u.tbls b ps q;exact⟨more,by rw[aH (aI z he)]; exact z⟩
end
end L2
namespace L2
open PySem PySem.Spec PySem.Calls PyProof.Rows
section
variable {P:Program}{w:World}{K:PySem.W.Frag}{mg:Str->Option Value}{base:Heap}
end
section
variable {X:Cx}{k:Nat}{f:Addr}{fd:FuncData}{ps:List Str}{sp:Sp}{x:Str}{e:Expr}{es:List Expr}{t:TA}{p pos:Pos}
end
end L2
namespace L2
open PySem PySem.Spec PySem.Calls PyProof.Rows PySem.W
def oG (mg:Str->Option Value) (base:Heap):Prop:=∃ bm ob,mg "__builtins__" = some (.ref bm)∧bm≠builtinsNs∧base.get? bm=some ob∧ob.cls=.type "module" ∧ ob.dict=some builtinsNs∧ob.data=.plain
def fO (c:Addr) (q:Str) (h:Heap):Prop:=∃ o vs t,h.get? c=some o∧o.data=.fields vs∧vs[1]?=some (.str q t)
section
variable {X:Cx}{pins:List (Addr×Obj)}{σ:St}{H:Hp}{s:Shared}
theorem Inv.lamTab {P c':Addr}{q:Str}{ps more:Array Value}{h':Heap}{t':Nat}(I:Inv X pins σ H s) (hP:H P=some (.tbl ps)) (k:Heap.ExtBut P s.heap h') (hn:h'.get? P=some (tabObj (ps++more)))
  (hge:s.heap.objs.size<=c') (hcd:fO c' q h'):Inv X pins σ (upd (upd H P (.tbl (ps++more))) c' (.ext (fO c' q))) { s with heap:=h',toks:=t' }:=by
 have neP:∀ b,H b=none->b≠P:=fun b n z=>by rw[z,hP] at n; cases n
 have nec:∀ b o,s.heap.get? b=some o->b≠c':=fun b o e=>Nat.ne_of_lt (Nat.lt_of_lt_of_le (Heap.lt_size e) hge);have hc0:H c'=none:=I.hok.fresh hge;have cP:c'≠P:=neP c' hc0;have H2:∀ b u,H b=some u->b≠P->upd (upd H P (.tbl (ps++more))) c' (.ext (fO c' q)) b=some u:=fun b u e hb=>by rw[aH (aI e hc0),aH hb]; exact e
 refine I.step (g':=s.gens) (d':=s.drawn) (ch:=[]) (fun _ z=>nomatch z) (fun b o _ _ _ e n=>k b o (neP b n) e) (fun b o _ _ _ e n=>⟨o.slots,k b o (neP b n) e⟩)
  (fun b o _ e n=>by rw[aH (nec b o e),aH (neP b n)]; exact n) (fun b o _ e=>?_) (fun b xs e=>H2 b _ e fun z=>by rw[z,hP] at e; cases e) (fun b o u e=>H2 b _ e fun z=>by rw[z,hP] at e; cases e)
  (fun b ps' e=>?_) (fun m hm=>hm.extBut k (neP _ I.free)) (fun b u e=>?_) I.bare
 ·by_cases hb:b=P
  ·subst hb; exact⟨_,hn⟩
  ·exact⟨o,k b o hb e⟩
 ·by_cases hb:b=P
  ·subst hb;rw[hP] at e;cases e;exact⟨more,by rw[aH (Ne.symm cP),aE]⟩
  ·exact⟨#[],by rw[H2 b _ e hb]; simp⟩
 ·by_cases hb:b=c'
  ·subst hb;rw[aE] at e;cases e;obtain⟨o,vs,t,e1,e2,e3⟩:=id hcd;exact⟨hcd,⟨o,e1⟩,fun h1 h2 ⟨o,vs,t,p1,p2,p3⟩ kk=>⟨o,vs,t,kk o p1,p2,p3⟩⟩
  ·rw[aH hb] at e
   by_cases hbP:b=P
   ·subst hbP;rw[aE] at e;cases e;exact hn
   ·rw[aH hbP] at e;refine (I.hok b u e).stay (fun d v hd z=>k d v ?_ z) (fun d z=>H2 d _ z fun y=>by rw[y,hP] at z; cases z) fun d xs z=>H2 d _ z fun y=>by rw[y,hP] at z; cases z
    rcases hd with rfl | hd
    ·exact hbP
    ·intro y;rw[y,hP] at hd;cases hd
theorem aFm {params:Arguments}{body:Expr}{scope:Scope}{pos:Pos}{c P:Addr}{ps:Array Value}{Q:Value->Shared->Prop}{E:Value->Shared->Prop}(I:Inv X pins σ H s) (hcode:X.env.code=.ref c) (hc:codeHdIn X.K c P=true) (bm:oG X.mg X.base)
  (hP:H P=some (.tbl ps)) (ht:TriplesOk ps.toList) (hnf:codeAmong pos ps.toList=none) (hdef:defaultsOf params X.env=([],[])) (hfr:∀ n∈dZ scope,X.env.kindOf n=some .cell∨X.env.kindOf n=some .free)
  (k:∀ (f c':Addr) (pm ctv:Value) (s1:Shared),Inv X pins σ (upd (upd H P (.tbl (ps++#[rawInt pos.line,rawInt pos.col,.ref c']))) c' (.ext (fO c' (X.env.qual++"<lambda>")))) s1->H c'=none->c'≠P->c'<f->s.heap.objs.size<=c' ->
   (∀ b o,b≠P->s.heap.get? b=some o->s1.heap.get? b=some o) ->
   s1.heap.get? f=some (kla_obj "<lambda>" (X.env.qual++"<lambda>") params body scope (eY scope X.env) pm c' ctv)->Q (.ref f) s1) :
  wpAny (model X.prog X.w) X.A (eval (.Lambda params body scope pos) X.env) Q E s:=by
 have hcl:closureFor scope X.env=pure (eY scope X.env):=gK fun n hn=>I.ok.has n (hfr n hn);obtain⟨b,ob,b1,b2,b3,b4,b5,b6⟩:=bm;have hg:s.heap.Ns mainGlobals X.mg:=I.mod.glob.keeps I.bk;have bP:∀ d o,X.base.get? d=some o->d≠P:=fun d o e z=>by have:=(I.bs d o e).2; rw[z,hP] at this; cases this
 have hgP:mainGlobals≠P:=by
  obtain⟨o,_,_,e,_⟩:=I.mod.glob;exact bP _ o e
 have hbG:b≠mainGlobals:=fun z=>by
  obtain⟨o,es,ep,e,hd,_⟩:=I.mod.glob;rw[z,e] at b3;cases b3;rw[hd] at b6;cases b6
 have hob:s.heap.get? P=some (tabObj ps):=I.hok P _ hP;refine kla_eval hdef (kla_makeFunction (mg:=X.mg) hcl I.ok.glob hg hcode (codeHd_of_K I.kIn hc) hob ht hnf hgP ⟨b,ob,b1,b2,hbG,bP _ _ b3,I.bk _ _ b3,b4,b5,b6⟩ fun c' ctv h' tk hx hge hlt hrec htb=>?_);obtain⟨c2,o2,vs2,t2,e2,r1,r2,r3⟩:=hrec;cases e2;have hc0:H c'=none:=I.hok.fresh hge
 refine k h'.objs.size c' _ ctv _ (I.lamTab (t':=tk) hP (fun d o hd e=>Heap.get?_push_of_some _ (hx d o hd e)) (Heap.get?_push_of_some _ htb) hge ⟨o2,vs2,t2,Heap.get?_push_of_some _ r1,r2,r3⟩) hc0 (fun z=>by rw[z,hP] at hc0; cases hc0) hlt hge
  (fun d o hd e=>Heap.get?_push_of_some _ (hx d o hd e)) (Heap.get?_push_size _ rfl)
end
end L2
namespace L2
open PySem PySem.Spec PySem.Calls PyProof.Rows PySem.W
structure xV (h:Heap) (H:Hp) (fr:List Addr) (f c':Addr) (q:Str) (params:Arguments) (body:Expr) (scope:Scope) (cl:List (Str×Addr)) (NL:List Str) (σL:St):Prop where
 fn:∃ pm ctv,h.get? f=some (kla_obj "<lambda>" q params body scope cl pm c' ctv)
 fH:H f=none
 ff:f∉fr
 code:H c'=some (.ext (fO c' q))
 inj:∀ x y a,cl.lookup x=some a->cl.lookup y=some a->x=y
 cell:∀ x a,cl.lookup x=some a->(∃ v,h.IsCell a v)∧H a=none∧a∉fr
 val:∀ (i:Nat) x v,NL[i]?=some x->σL[i]?=some (some v)->∃ a u,cl.lookup x=some a∧cG v u∧h.IsCell a (some u)
 len:σL.length=NL.length
section
variable {X:Cx}{q:Str}{scope:Scope}{f c':Addr}{cl:List (Str×Addr)}{H:Hp}{s:Shared}{NL:List Str}{E:XK}
end
end L2
namespace L2
open PySem PySem.Spec PySem.Calls PyProof.Rows PySem.W
section
variable {P:Program}{w:World}{K:Frag}{mg:Str->Option Value}{base:Heap}
theorem aKz {CX:CXT}{x qual:Str}{st:Stmt}{f:Addr}{fd:FuncData}{N ps:List Str}{k:Nat}(F:Fun K x qual st f fd) (S:aR N ps (aB st)){A:Around}{outer:List Env}{s:Shared}{H:Hp}{args:Args}{us:List Value}{vs:List V}{Q:VK}{E:XK}
  (hr:cO (k+1) A) (e0:sN P w K mg base A outer s H) (hb:BindsTo s fd args (ps.zip us)) (hl:vs.length=ps.length) (r:cA vs us)
  (hbody:∀ cdv,cO k (A.deeper (envOfC qual (aB st) s.heap.objs.size f cdv))->∃ t,PSs (iB CX P w K mg base N qual (aB st) f cdv A outer s H E) (aF st) t∧t { nx:=fun _ H'=>Q .non H',rt:=Q } (iD N vs) H) :
  codeAny (model P w) A (.call (.ref f) args) (CR CX outer P w H s Q E) s:=by
 obtain⟨oc,od,kV,doc,pm,an,cdv,ct,osl,rfl,lk,hcd⟩:=F.ex;have KX:K.In s.heap:=e0.mod.kin.keeps fun b o e=>(e0.bs b o e).1;have lim:s.heap.NoLimit:=e0.mod.nolimit.keeps fun b o e=>(e0.bs b o e).1
 have hkind:∀ y∈ps.zip us,(aB st).names.lookup y.1=some .local∨((aB st).names.lookup y.1=some .cell∧((cellsFrom (s.heap.objs.size+1) (aB st).names []).lookup y.1).isSome=true):=fun ⟨n,v⟩ hy=>by
  rcases S.par n (List.of_mem_zip hy).1 with q | q
  ·exact .inl q
  ·exact .inr ⟨q,cellsFrom_some _ _ _ (.inl q)⟩
 refine codeAny_call_function hr.depth (KX _ _ lk) rfl S.co S.gen rfl (codeRec_of KX hcd) (hb _ _ _ _ ?_);refine wpAny_newFunctionEnv_cells S.kind hkind fun env he s1 x=>?_;subst he;refine⟨lim.keeps x.toInCall.keep,codeAny_func ?_⟩;obtain⟨t,ht,hq⟩:=hbody cdv (hr.deeper _);have I:Inv (iB CX P w K mg base N qual (aB st) f cdv A outer s H E) [] (iD N vs) H s1:=uF S hr.hd e0 hl r x;refine wpAny_mono (ht [] s1 (iD N vs) H _ I hq) (fun fl s' hs=>?_) fun e s' hs=>hs
 have fin:∀ {σ':St}{H':Hp}{v:V}{u:Value},Inv (iB CX P w K mg base N qual (aB st) f cdv A outer s H E) [] σ' H' s'->cG v u->Q v H'->CE outer P w H s Q u s':=
  fun {σ' H' v u} J rv q=>⟨v,H',J.os,J.bare,J.base,J.hok,rv,q⟩
 cases fl with
 | ret u=>obtain⟨v,σ',H',J,rv,q⟩:=hs; exact fin J rv q
 | next=>obtain⟨σ',H',J,q⟩:=hs; exact fin (v:=V.non) (u:=Value.none) J rfl q
 | brk=>obtain⟨_,_,_,q⟩:=hs; exact False.elim q
 | cont=>obtain⟨_,_,_,q⟩:=hs; exact False.elim q
end
section
variable {X:Cx}
end
end L2
namespace L2
open PySem PySem.Spec PySem.Calls PyProof.Rows PySem.W
theorem aCl {P:Program}{w:World}{K:Frag}{mg mb:Str->Option Value}{CX:CXT}{k:Nat}{fa a:Addr}{fd:FuncData}{x:Str}{sp:Sp}{s₁:Shared}{vs:List Value}{ns:List Int}{tabs:List (Addr×Addr)}
  (KX:K.In s₁.heap) (hns:s₁.heap.Ns mainGlobals mg) (hb:s₁.heap.Ns builtinsNs mb) (hbb:∀ x:Str,x≠"__name__" -> mb x=bootBuiltins x) (hlim:s₁.heap.NoLimit) (hg:s₁.gens=#[])
  (htab:∀ q∈tabs,codeHdIn K q.1 q.2=true∧K.lookup q.2=none∧s₁.heap.get? q.2=some (tabObj #[]))
  (hbm:∃ bm ob,mg "__builtins__" = some (.ref bm)∧bm≠builtinsNs∧s₁.heap.get? bm=some ob∧ob.cls=.type "module" ∧ ob.dict=some builtinsNs∧ob.data=.plain)
  (ha:s₁.heap.get? a=some { cls:=.type "list",data:=.seq vs.toArray }) (hi:IntsAre vs ns) (hl:ns.length<=sizeLine) (hr:cO k callerA)
  (F:∀ base:Heap,K.In base->base.Ns mainGlobals mg->oG mg base->aS P w K mg base CX k fa fd [x] sp) (hbind:∀ (s:Shared) (u:Value),BindsTo s fd ⟨[u],[]⟩ [(x,u)])
  (hsp:∀ H:Hp,(∀ q∈tabs,H q.2=some (.tbl #[]))->SqL K H a (ns.map V.int)->sp [.ref a] H (fun v _=>v=.bl true) fun _ _ _=>False)
  (hCX:∀ H e s',CX [] H s₁ (fun _ _ _=>False) e s'->False) :
  codeAny (model P w) callerA (.call (.ref fa) ⟨[.ref a],[]⟩) (fun r s'=>r=.ok (.ret (.bool true))∧OldK s₁.heap s'.heap∧s'.os=s₁.os∧AllBare s'.gens) s₁:=by
 have rv:=sY hi;have lenV:=hi.length
 have core:∀ H:Hp,SqL K H a (ns.map V.int)->HOk P w H s₁.heap->(∀ q∈tabs,H q.2=some (.tbl #[]))->(∀ b u,H b=some u->(∃ q∈tabs,b=q.2)∨(b=a∧K.lookup a=none∧∃ o ys,u=.frz o (.lst ys))) ->
   codeAny (model P w) callerA (.call (.ref fa) ⟨[.ref a],[]⟩) (fun r s'=>r=.ok (.ret (.bool true))∧OldK s₁.heap s'.heap∧s'.os=s₁.os∧AllBare s'.gens) s₁:=by
  intro H hS hok hT hA
  -- what is tracked is the script or a table
  have noA:∀ {b:Addr}{o:Obj},s₁.heap.get? b=some o->(∀ ws,o.data≠.fields ws)->(∀ ws n,o.data≠.seq ws n)->H b=none:=fun {b o} e d1 d2=>by
   cases z:H b with
   | none=>rfl
   | some u=>
    rcases hA b u z with⟨q,hq,rfl⟩ | ⟨rfl,_⟩
    ·have:=(htab q hq).2.2
     rw[e] at this;cases this;exact absurd rfl (d1 #[])
    ·rw[ha] at e;cases e;exact absurd rfl (d2 vs.toArray 0)
  have nsK:∀ {b:Addr}{m:Str->Option Value},s₁.heap.Ns b m->(vK s₁.heap H).Ns b m:=fun {b m} ⟨o,es,ep,e,d,r⟩=>⟨o,es,ep,rT e (noA e (fun ws z=>by rw[d] at z; cases z) fun ws n z=>by rw[d] at z; cases z),d,r⟩
  have hKb:K.In (vK s₁.heap H):=fun b o e=>rT (KX b o e) (by
   cases z:H b with
   | none=>rfl
   | some u=>
    rcases hA b u z with⟨q,hq,rfl⟩ | ⟨rfl,hk,_⟩
    ·rw[(htab q hq).2.1] at e; cases e
    ·rw[hk] at e; cases e)
  have hM:Mod K mg (vK s₁.heap H):=⟨hKb,nsK hns,⟨mb,nsK hb,hbb⟩,let ⟨mc,h1,h2⟩:=hlim; ⟨mc,nsK h1,h2⟩⟩
  have hB:oG mg (vK s₁.heap H):=by
   obtain⟨bm,ob,b1,b2,b3,b4,b5,b6⟩:=hbm;exact⟨bm,ob,b1,b2,rT b3 (noA b3 (fun ws z=>by rw[b6] at z; cases z) fun ws n z=>by rw[b6] at z; cases z),b4,b5,b6⟩
  have e0:sN P w K mg (vK s₁.heap H) callerA [] s₁ H:=⟨rfl,hM,fun b o e=>aHh e,Nat.le_of_eq (aCp _ _),trivial,fun b hb=>absurd (show b∈([]:List Addr) from hb) (by simp),hok,.of_eq hg⟩
  refine codeAny_mono ((F _ hKb (nsK hns) hB).run callerA [] s₁ H ⟨[.ref a],[]⟩ [.ref a] [.ref a] _ _ hr e0 (hbind s₁ (.ref a)) (.cons rfl .nil) (hsp H hT hS)) fun r s' h=>?_;cases r with
  | error e=>exact (hCX H e s' h).elim
  | ok fl=>
   cases fl with
   | next=>exact False.elim h
   | brk=>exact False.elim h
   | cont=>exact False.elim h
   | ret u=>
    obtain⟨v,H',os,bare,un,hok',r',q⟩:=h;have q':v=.bl true:=q;subst q';obtain rfl:u=Value.bool true:=r';refine⟨rfl,⟨fun b o e=>?_,fun b o e=>un.there b o e (by simp)⟩,os,bare⟩;cases z:H b with
    | none=>exact .inl (un.keep b o e z (by intro y; exact absurd (show b∈([]:List Addr) from y) (by simp)) (by simp))
    | some u=>
     rcases hA b u z with⟨q,hq,rfl⟩ | ⟨_,_,ob,ys,rfl⟩
     ·obtain⟨hc,_,hP⟩:=htab q hq;obtain⟨more,z2⟩:=un.tbls q.2 #[] (hT q hq);have e2:s'.heap.get? q.2=some { cls:=.none,data:=.fields (#[]++more) }:=hok' q.2 _ z2;rw[hP] at e;cases e;exact .inr (.inl ⟨((codeHd_of_K KX hc).tab hP).isCodeTable,rfl,#[],more,rfl,e2⟩)
     ·have z2:=un.frzs b ob _ z;obtain⟨e1,_⟩:=hok b _ z;obtain⟨e2,_⟩:=hok' b _ z2;rw[e] at e1;cases e1;exact .inl e2
 have aT:∀ q∈tabs,q.2≠a:=fun q hq z=>by
  have:=(htab q hq).2.2
  rw[z,ha] at this;cases this
 cases hk:K.lookup a with
 | some o=>
  have e:=KX a o hk;rw[ha] at e;cases e;refine core (fun b=>if b∈tabs.map (·.2) then some (.tbl #[]) else none) (.inr ⟨_,vs.toArray,_,hk,rfl,rfl,rfl,by rw[List.size_toArray,lenV]; exact hl,by simpa using rv⟩) (fun b u z=>?_) (fun q hq=>if_pos (List.mem_map_of_mem hq)) fun b u z=>?_
  ·by_cases hb:b∈tabs.map (·.2)
   ·have z':=(if_pos hb).symm.trans z;cases z';obtain⟨q,hq,rfl⟩:=List.mem_map.mp hb;exact (htab q hq).2.2
   ·have z':=(if_neg hb).symm.trans z;cases z'
  ·by_cases hb:b∈tabs.map (·.2)
   ·obtain⟨q,hq,rfl⟩:=List.mem_map.mp hb;exact .inl ⟨q,hq,rfl⟩
   ·have z':=(if_neg hb).symm.trans z;cases z'
 | none=>
  refine core (fun b=>if b∈tabs.map (·.2) then some (.tbl #[]) else if b=a then some (.frz { cls:=.type "list",data:=.seq vs.toArray } (.lst (ns.map V.int))) else none) ?_ (fun b u z=>?_) (fun q hq=>if_pos (List.mem_map_of_mem hq)) fun b u z=>?_
  ·refine .inl (.inr ⟨{ cls:=.type "list",data:=.seq vs.toArray },?_⟩)
   have na:a∉tabs.map (·.2):=fun z=>by
    obtain⟨q,hq,e⟩:=List.mem_map.mp z;exact aT q hq e
   exact (if_neg na).trans (if_pos rfl)
  ·by_cases hb:b∈tabs.map (·.2)
   ·have z':=(if_pos hb).symm.trans z;cases z';obtain⟨q,hq,rfl⟩:=List.mem_map.mp hb;exact (htab q hq).2.2
   ·have z':=(if_neg hb).symm.trans z
    by_cases hba:b=a
    ·have z'':=(if_pos hba).symm.trans z';cases z'';subst hba;exact⟨ha,by rw[List.length_map]; exact hl,vs,_,rv,ha⟩
    ·have z'':=(if_neg hba).symm.trans z';cases z''
  ·by_cases hb:b∈tabs.map (·.2)
   ·obtain⟨q,hq,rfl⟩:=List.mem_map.mp hb;exact .inl ⟨q,hq,rfl⟩
   ·have z':=(if_neg hb).symm.trans z
    by_cases hba:b=a
    ·have z'':=(if_pos hba).symm.trans z';cases z'';exact .inr ⟨hba,hk,_,_,rfl⟩
    ·have z'':=(if_neg hba).symm.trans z';cases z''
theorem walk_ofT {l:OpenLaw}{n k:Nat}{q:Program}{loose:List Str}{XP:(Str->Option Value)->Heap->Prop}{YP:World->Heap->Prop}{d:DefRec}{K:Params->Frag}{sp:World->Sp}{x:Str}(tabs:List (Addr×Addr))
  (hn:l.most=some n) (hn2:n<=sizeLine) (hdf:d.params.defaults=[]) (hr:cO k callerA)
  (hY:∀ (w:World) (h:Heap),YP w h->(K w.params).In h∧∀ p∈tabs,h.get? p.2=some (tabObj #[]))
  (hK:∀ (w:World),∀ p∈tabs,codeHdIn (K w.params) p.1 p.2=true∧(K w.params).lookup p.2=none)
  (F:∀ (w:World) (mg:Str->Option Value) (fa:Addr) (h:Heap),(K w.params).In h->h.Ns mainGlobals mg->mg d.name=some (.ref fa) ->
   ∃ fd:FuncData,(∀ (s:Shared) (u:Value),BindsTo s fd ⟨[u],[]⟩ [(x,u)]) ∧
    ∀ base:Heap,(K w.params).In base->base.Ns mainGlobals mg->oG mg base->aS l.prog w (K w.params) mg base CX0 k fa fd [x] (sp w))
  (hsp:∀ (w:World) (H:Hp) (a:Addr) (ns:List Int),ns.length<=n->(∀ p∈tabs,H p.2=some (.tbl #[]))->SqL (K w.params) H a (ns.map V.int)->sp w [.ref a] H (fun v _=>v=.bl true) fun _ _ _=>False) :
  WalkO q loose XP YP l.row.toRowW d [] (fun f vs=>PySem.call f vs):=by
 refine Att.attach_call hn hdf fun w s₀ s₁ mg mb fa o pm cd doc a vs ns G Y ho hd hcd hmg hobj hints hlen hg=>?_;obtain⟨KX,hts⟩:=hY w _ Y;obtain⟨fd,hb,hF⟩:=F w mg fa _ KX G.T.g hmg;exact aCl (tabs:=tabs) KX G.T.g G.T.b G.T.builtins G.T.nolimit hg (fun p hp=>⟨(hK w p hp).1,(hK w p hp).2,hts p hp⟩) G.T.bmain hobj hints (Nat.le_trans hlen hn2) hr hF hb (fun H hT hS=>hsp w H a ns hlen hT hS) fun H e s' z=>z
end L2
namespace L2
open PySem PySem.Spec PySem.Calls PyProof.Rows PySem.W
section
variable {X:Cx}
theorem lW:∀ {ss:List Str}{us:List Value},cA (ss.map V.str) us->StrsAre us ss
 | [],_,r=>by rw[List.map_nil] at r; cases r; exact .nil
 | x::ss,_,r=>by
  rw[List.map_cons] at r;cases r with
  | cons r1 r2=>
   obtain⟨t,rfl⟩:=r1;exact .cons _ _ (lW r2)
theorem oM:∀ {us:List Value}{ss:List Str},StrsAre us ss->cA (ss.map V.str) us
 | _,_,.nil=>.nil
 | _,_,.cons _ t r=>.cons ⟨t,rfl⟩ (oM r)
inductive aId (K:PySem.W.Frag) (xs:List V) (H:Hp) (Q:VK):Prop
 | mk (a:Addr) (ss:List Str) (h0_:xs=[.ref a]) (h1_:SqL K H a (ss.map V.str)) (h2_:ss.length<64) (h3_:∀ (p:Addr) (ss':List Str),H p=none->ss'.Perm ss->sortedS ss'=true->Q (.ref p) (upd H p (.lst (ss'.map V.str))))
theorem vQ:CallR X (.builtin "sorted") (aId X.K):=by
 intro pins s σ H xs us Q I r h;obtain⟨a,ss,rfl,hs,h64,q⟩:=h;obtain⟨u,rfl,rx⟩:=jR r;cases rx;obtain⟨its,rv,pl,hz⟩:=I.list hs;have hl:its.length=ss.length:=by rw[← rv.length,List.length_map]
 refine sorted_strs pl.isList (lW rv) (by omega) fun out ss' a1 a2 a3=>?_;obtain⟨e,he⟩:=sortedAll_at s.heap its out;have hn:H (s.heap.objs.size+1)=none:=I.hok.fresh (Nat.le_succ _);refine⟨.ref (s.heap.objs.size+1),_,I.laid (t':=s.toks) (fun b o z=>sortedAll_old z) (Nat.le_succ _) ?_,rfl,q _ ss' hn a2 a3⟩;have hl':ss'.length=ss.length:=a2.length_eq;exact⟨by rw[List.length_map,hl',sizeLine_eq]; omega,out.toList,e,oM a1,he⟩
def aOq:V->Hp->VK->Prop:=fun x H Q=>∃ z,x=.str z∧z.length<=sizeLine∧Q (.str z) H
theorem aKa {e:Expr}{te:TE}{pos:Pos}(he:PE X e te):PE X (.FormattedValue e (-1) none pos) (tUn aOq te):=by
 intro pins s σ H Q I h;refine FormattedValue_plain (thn (he pins s σ H _ I h) fun v s1 ⟨x,H1,I1,r1,z,e1,hz,q⟩=>?_);subst e1;obtain⟨t,rfl⟩:=r1;exact formatField_str (fun t' tk=>⟨.str z,H1,I1.tok tk,⟨_,rfl⟩,q⟩) hz
def zS:List TE->Str->TE
 | [],out=>fun _ H Q=>out.length<=sizeLine∧Q (.str out) H
 | t::r,out=>fun σ H Q=>t σ H fun x H1=>∃ y,x=.str y∧(out++y).length<=sizeLine∧zS r (out++y) σ H1 Q
def PJ (X:Cx) (ps:List (Sem Value)) (ts:List TE):Prop:=
 ∀ (out:Str) (pins:List (Addr×Obj)) (s:Shared) (σ:St) (H:Hp) (Q:VK),Inv X pins σ H s->zS ts out σ H Q->wpAny (model X.prog X.w) X.A (joinParts out ps) (EP X pins σ Q) X.xe s
theorem aEe:PJ X [] []:=fun out pins s σ H Q I ⟨hz,q⟩=>joinParts_nil ⟨.str out,H,I.tok _,⟨_,rfl⟩,q⟩ hz
theorem nK {e:Expr}{te:TE}{ps:List (Sem Value)}{ts:List TE}(he:PE X e te) (hr:PJ X ps ts):PJ X (eval e X.env::ps) (te::ts):=by
 intro out pins s σ H Q I h;refine joinParts_cons (thn (he pins s σ H _ I h) fun v s1 ⟨x,H1,I1,r1,y,e1,hz,q⟩=>?_);subst e1;obtain⟨t,rfl⟩:=r1;exact⟨hz,hr _ pins s1 σ H1 Q I1 q⟩
theorem wU {a b c:Expr}{ta tb tc:TE}{pos:Pos}(ha:PE X a ta) (hb:PE X b tb) (hc:PE X c tc):PE X (.JoinedStr [a,b,c] pos) (zS [ta,tb,tc] Str.empty):=by
 intro pins s σ H Q I h;exact JoinedStr_many ((nK ha (nK hb (nK hc aEe))) Str.empty pins s σ H Q I h)
end
end L2
namespace L2
open PySem PySem.Spec PySem.Calls PyProof.Rows PySem.W
def Ite (K:Frag) (a:Addr):It:=
 ⟨fun i H=>∃ xs x,SqL K H a xs∧xs[i]?=some x,fun i H y H'=>∃ (t:Addr) (x:V),H t=none∧y=.ref t∧H'=upd H t (.tup [.int i,x])∧∀ xs,SqL K H a xs->xs[i]?=some x,fun i H=>∃ xs,SqL K H a xs∧xs.length<=i⟩
theorem aBf {P:Program}{w:World}{K:Frag}{elts:List Expr}{x1:Nat}{tpos:Pos}(a e it:Addr) (hne:e≠it) :
  xU P w K (.Tuple elts x1 tpos) (Ite K a) [e,it] e (fun i h=>(∃ old,IsEnum h e it i old)∧h.IsListIter it a i) where
 mem:=by simp
 obj:=fun i h st b hb=>by
  obtain⟨⟨old,h1⟩,o,h2,c,d⟩:=st;rcases List.mem_cons.mp hb with rfl | hb
  ·exact⟨_,h1,fun v z=>by cases z⟩
  ·have e':b=it:=by simpa using hb
   subst e';exact⟨o,h2,fun v z=>by rw[d] at z; cases z⟩
 keep:=fun i h h' st k=>by
  obtain⟨⟨old,h1⟩,h2⟩:=st;exact⟨⟨old,k e (by simp) _ h1⟩,h2.at fun o z=>k it (by simp) o z⟩
 item:=by
  intro X hP hw hK hc i pins s σ H E I hf st hg;subst hP hw hK;obtain⟨xs,x,hq,hx⟩:=hg;obtain⟨its,rv,p,hz⟩:=I.list hq;obtain⟨u,hu,ru⟩:=rv.get hx;obtain⟨⟨old,he⟩,hit⟩:=st;have fe:=hf e (by simp);have fi:=hf it (by simp);refine wpAny_pyNext_enum_item he hit p.isList (x:=u) (by simpa using hu) hne fun h1 eo hit1 htup hsz hk=>⟨.ref s.heap.objs.size,rfl,wpAny_letOwnedTupleGo_enum eo fun h2 en sb=>?_⟩;have hn:H s.heap.objs.size=none:=I.hok.fresh (Nat.le_refl _);have nes:e≠s.heap.objs.size:=Nat.ne_of_lt (Heap.lt_size he);have kp:∀ b o,b≠e->b≠it->s.heap.get? b=some o->h2.get? b=some o:=fun b o n1 n2 z=>(sb.2 b n1).trans (hk b o n1 n2 z);have nH:∀ b v,H b=some v->b≠e∧b≠it:=fun b v z=>⟨fun y=>(by rw[y,fe.1] at z; cases z),fun y=>(by rw[y,fi.1] at z; cases z)⟩;have nS:∀ b v,H b=some v->b≠s.heap.objs.size:=fun b v z=>aI z hn
  have I2:Inv X pins σ (upd H s.heap.objs.size (.tup [.int i,x])) { s with heap:=h2,toks:=s.toks+1 }:=by
   refine I.step (g':=s.gens) (d':=s.drawn) (ch:=[e,it]) (fun b hb=>?_) (fun b o _ _ hc z _=>kp b o (fun y=>hc (by simp[y])) (fun y=>hc (by simp[y])) z) (fun b o _ _ hc z _=>⟨o.slots,kp b o (fun y=>hc (by simp[y])) (fun y=>hc (by simp[y])) z⟩)
    (fun b o _ z n=>by rw[aH (Nat.ne_of_lt (Heap.lt_size z))]; exact n) (fun b o hc z=>⟨o,kp b o (fun y=>hc (by simp[y])) (fun y=>hc (by simp[y])) z⟩) (fun b ys z=>by rw[aH (nS b _ z)]; exact z) (fun b o v z=>by rw[aH (nS b _ z)]; exact z)
    (fun b ps z=>⟨#[],by rw[aH (nS b _ z),z]; simp⟩) (fun m hm=>?_) (fun b v z=>?_) I.bare
   ·rcases List.mem_cons.mp hb with rfl | hb
    ·exact⟨fe.2.2.2.1,fe.2.1,fe.2.2.2.2.1,fe.2.2.2.2.2⟩
    ·have e':b=it:=by simpa using hb
     subst e';exact⟨fi.2.2.2.1,fi.2.1,fi.2.2.2.2.1,fi.2.2.2.2.2⟩
   ·obtain⟨o,es,ep,ho,r⟩:=hm;exact⟨o,es,ep,kp _ o (Ne.symm fe.2.1) (Ne.symm fi.2.1) ho,r⟩
   ·by_cases hb:b=s.heap.objs.size
    ·subst hb;rw[aE] at z;cases z;exact⟨by show 2<=sizeLine; decide,[.int i s.toks,u],.cons ⟨_,rfl⟩ (.cons ru .nil),⟨_,(sb.2 _ (Ne.symm nes)).trans htup,rfl,_,rfl⟩⟩
    ·rw[aH hb] at z;refine (I.hok b v z).stay (fun c y hc q=>kp c y ?_ ?_ q) (fun c q=>by rw[aH (nS c _ q)]; exact q) fun c ys q=>by rw[aH (nS c _ q)]; exact q
     ·rcases hc with rfl | hc
      ·exact (nH c v z).1
      ·exact (nH c _ hc).1
     ·rcases hc with rfl | hc
      ·exact (nH c v z).2
      ·exact (nH c _ hc).2
  refine⟨.ref s.heap.objs.size,_,I2,rfl,⟨s.heap.objs.size,x,hn,rfl,rfl,fun ys hy=>by rw[I.list_inj hy hq]; exact hx⟩,⟨⟨u,en⟩,?_⟩,fun b hb=>?_⟩
  ·obtain⟨o,z,c,d⟩:=hit1;exact⟨o,(sb.2 it (Ne.symm hne)).trans z,c,d⟩
  ·rw[aH ?_]
   ·exact (hf b hb).1
   ·rcases List.mem_cons.mp hb with rfl | hb
    ·exact nes
    ·have e':b=it:=by simpa using hb
     subst e';obtain⟨o,z,_⟩:=hit;exact Nat.ne_of_lt (Heap.lt_size z)
 done:=by
  intro X hP hw hK hc i pins s σ H E I hf st hg;subst hP hw hK;obtain⟨xs,hq,hlen⟩:=hg;obtain⟨its,rv,p,hz⟩:=I.list hq;obtain⟨⟨old,he⟩,hit⟩:=st;have fi:=hf it (by simp);have hl:=rv.length
  have hn:its.toArray[i]?=none:=by
   rw[List.getElem?_toArray];exact List.getElem?_eq_none_iff.mpr (by omega)
  exact wpAny_pyNext_enum_end (I.ok.hd hc) he hit p.isList hn fun h' ext=>⟨rfl,I.turned (t':=s.toks) (fun b o hb z=>ext b o hb z) fi.1 fi.2.1 fi.2.2.2.1 fi.2.2.2.2.1 fi.2.2.2.2.2⟩
 self:=fun _ i s _ _ ⟨⟨_,h1⟩,_⟩ h=>wpAny_pyIter_enum h1 h
section
variable {X:Cx}{elts:List Expr}{x1:Nat}{tpos:Pos}
inductive aPq (K:Frag) (vs:List V) (H1:Hp) (R:It->Hp->Prop):Prop
 | mk (a:Addr) (h1:vs=[.ref a]) (h2:∃ xs,SqL K H1 a xs) (r:R (Ite K a) H1)
def aMo (K:Frag) (ta:TA):TI:=fun σ H R=>ta σ H fun vs H1=>aPq K vs H1 R
theorem jD {l:Expr}{ta:TA}{p pos:Pos}(hg:Gl X "enumerate") (hm:X.mg "enumerate" = none) (ha:PA X [l] ta) (hs:pN l=false:=by rfl):PI X (.Tuple elts x1 tpos) (.Call (.Name "enumerate" p) [l] [] pos) (aMo X.K ta):=by
 intro pins s σ H R I h;have he:starEach [l] X.env=[(false,eval l X.env)]:=cW hs;refine Call_ (mI I hg hm Bo.enumerate (PyProof.Rows.callWith_type1 (thn (ha pos pins s σ H _ I h) fun us s1 ⟨vs,H1,I1,r1,a,e1,⟨xs,hq⟩,q⟩=>?_) he rfl));subst e1;obtain⟨u,rfl,rx⟩:=jR r1;cases rx;obtain⟨its,rv,pl,hz⟩:=I1.list hq;refine call_enumerate_list pl.isList fun h' h1 h2 h3 h4=>?_;have I2:Inv X pins σ H1 { s1 with heap:=h' }:=I1.kept (t':=s1.toks) h4;refine wpAny_pyIter_enum h1 ⟨s1.heap.objs.size+1,[s1.heap.objs.size+1,s1.heap.objs.size],_,Ite X.K a,H1,rfl,I2,aBf a _ _ (Nat.succ_ne_self _),⟨⟨_,h1⟩,h2⟩,fun b hb=>?_,q⟩
 have hge:s1.heap.objs.size<=b:=by
  rcases List.mem_cons.mp hb with rfl | hb
  ·exact Nat.le_succ _
  ·have e':b=s1.heap.objs.size:=by simpa using hb
   rw[e'];exact Nat.le_refl _
 exact I1.fpOk hge (I1.hok.fresh hge)
theorem oB {K:Frag}{a D:Addr}{xs:List V}{g:TG}{tc:TT}{te:TE}{R:Hp->Prop}{σ:St}{H:Hp}(Pv:Nat->St->Hp->Prop) (h0:Pv 0 σ H)
  (hl:∀ i σ H,i<=xs.length->Pv i σ H->SqL K H a xs)
  (hs:∀ i x σ H t,xs[i]?=some x->Pv i σ H->H t=none->g (.ref t) σ (upd H t (.tup [.int i,x])) fun σ2 H2=>tc σ2 H2 fun b H3=>if b=true then te σ2 H3 fun y H4=>∃ ys,H4 D=some (.lst ys)∧ys.length<sizeLine∧Pv (i+1) σ2 (upd H4 D (.lst (ys++[y]))) else Pv (i+1) σ2 H3)
  (hd:∀ σ H,Pv xs.length σ H->R H):vX (Ite K a) D g tc te R σ H:=by
 refine⟨fun i m σ H=>m=xs.length-i∧i<=xs.length∧Pv i σ H,⟨xs.length,by simp,Nat.zero_le _,h0⟩,?_⟩;rintro i m σ H ⟨rfl,hi,p⟩;have q:=hl i σ H hi p
 by_cases hlt:i<xs.length
 ·refine .inr ⟨⟨xs,xs[i],q,by simp[hlt]⟩,Pv (i+1),fun σ' H' p'=>⟨xs.length-(i+1),by omega,rfl,hlt,p'⟩,fun x H' y=>?_⟩;obtain⟨t,v,ht,rfl,rfl,hv⟩:=y;exact hs i v σ H t (hv xs q) p ht
 ·have e:i=xs.length:=by omega
  subst e;exact .inl ⟨⟨xs,q,Nat.le_refl _⟩,hd σ H p⟩
theorem rX {K:Frag}{a:Addr}{xs:List V}{g:TG}{tb:TS}{D:mY}{σ:St}{H:Hp}(Pv:Nat->St->Hp->Prop) (h0:Pv 0 σ H) (hl:∀ i σ H,i<=xs.length->Pv i σ H->SqL K H a xs)
  (hs:∀ i x σ H t,xs[i]?=some x->Pv i σ H->H t=none->g (.ref t) σ (upd H t (.tup [.int i,x])) fun σ2 H2=>tb { D with nx:=Pv (i+1),ct:=Pv (i+1),bk:=D.nx } σ2 H2) (hd:∀ σ H,Pv xs.length σ H->D.nx σ H) :
  ∃ W:Nat->Nat->St->Hp->Prop,(∃ m,W 0 m σ H)∧∀ i m σ H,W i m σ H ->
   ((Ite K a).stop i H∧D.nx σ H)∨((Ite K a).go i H∧∃ N:St->Hp->Prop,(∀ σ' H',N σ' H'->∃ m',m'<m∧W (i+1) m' σ' H')∧∀ x H',(Ite K a).yld i H x H'->g x σ H' fun σ2 H2=>tb { D with nx:=N,ct:=N,bk:=D.nx } σ2 H2):=by
 refine⟨fun i m σ H=>m=xs.length-i∧i<=xs.length∧Pv i σ H,⟨xs.length,by simp,Nat.zero_le _,h0⟩,?_⟩;rintro i m σ H ⟨rfl,hi,p⟩;have q:=hl i σ H hi p
 by_cases hlt:i<xs.length
 ·refine .inr ⟨⟨xs,xs[i],q,by simp[hlt]⟩,Pv (i+1),fun σ' H' p'=>⟨xs.length-(i+1),by omega,rfl,hlt,p'⟩,fun x H' y=>?_⟩;obtain⟨t,v,ht,rfl,rfl,hv⟩:=y;exact hs i v σ H t (hv xs q) p ht
 ·have e:i=xs.length:=by omega
  subst e;exact .inl ⟨⟨xs,q,Nat.le_refl _⟩,hd σ H p⟩
end
end L2
namespace L2
open PySem PySem.Spec PySem.Calls PyProof.Rows PySem.W
section
variable {X:Cx}
theorem aHm {k:Key}{v:Value}(h:pY k v=true):cG (kV k) v:=by
 rcases dG h with⟨i,t,rfl,rfl⟩ | ⟨x,t,rfl,rfl⟩
 ·exact⟨t,rfl⟩
 ·exact⟨t,rfl⟩
theorem uC:∀ {kvs:List (Key×V)}{vs:List (Key×Value)}{us:List Value},KV kvs vs->us.length=vs.length->(∀ (j:Nat) (u:Value),us[j]?=some u->∃ k x,vs[j]?=some (k,x)∧pY k u=true)->cA (kvs.map fun kv=>kV kv.1) us
 | [],_,us,r,hl,_=>by
  unfold KV at r;cases r
  have:us=[]:=List.length_eq_zero_iff.mp hl
  subst this;exact .nil
 | p::kvs,_,us,r,hl,h=>by
  unfold KV at r;cases r with
  | @cons a b as bs h1 h2=>
   cases us with
   | nil=>simp at hl
   | cons u us=>
    refine .cons ?_ (uC (vs:=bs) h2 (by simpa using hl) fun j v e=>?_)
    ·obtain⟨k,x,e1,e2⟩:=h 0 u rfl;have e1:some b=some (k,x):=e1;cases e1;show cG (kV p.1) u;rw[show p.1=k from h1.1]
     exact aHm e2
    ·obtain⟨k,x,e1,e2⟩:=h (j+1) v (by simpa using e);exact⟨k,x,by simpa using e1,e2⟩
theorem uY {α:Type} [DecidableEq α]:∀ (xs ys:List α),xs.length=ys.length->((List.range xs.length).all fun j=>decide (xs[j]?=ys[j]?))=decide (xs=ys):=by
 intro xs ys hl;rw[Bool.eq_iff_iff,List.all_eq_true,decide_eq_true_iff];constructor
 ·intro h;refine List.ext_getElem? fun i=>?_
  by_cases hi:i<xs.length
  ·exact of_decide_eq_true (h i (List.mem_range.mpr hi))
  ·rw[List.getElem?_eq_none_iff.mpr (by omega),List.getElem?_eq_none_iff.mpr (by omega)]
 ·rintro rfl j _;exact decide_eq_true rfl
theorem tD {A:Around}{s:Shared}{ss ts:List Str}{us ws:List Value}(r:cA (ss.map V.str) us) (r':cA (ts.map V.str) ws) (hl:ss.length=ts.length) :
  ∀ j (h1:j<us.toArray.size) (h2:j<ws.toArray.size),SeqAt.EqAt A s us.toArray[j] ws.toArray[j] (decide (ss[j]?=ts[j]?)):=by
 intro j h1 h2;have l1:=r.length;have l2:=r'.length;rw[List.length_map] at l1 l2;have g1:j<ss.length:=by rw[l1]; simpa using h1
 have g2:j<ts.length:=by rw[l2]; simpa using h2
 obtain⟨u,e1,q1⟩:=r.get (i:=j) (x:=.str ss[j]) (by simp[g1]);obtain⟨v,e2,q2⟩:=r'.get (i:=j) (x:=.str ts[j]) (by simp[g2]);obtain⟨t,rfl⟩:=q1;obtain⟨t',rfl⟩:=q2
 have f1:us.toArray[j]=.str ss[j] t:=by
  have:us[j]?=some us.toArray[j]:=by simp
  rw[e1] at this;exact (Option.some.inj this).symm
 have f2:ws.toArray[j]=.str ts[j] t':=by
  have:ws[j]?=some ws.toArray[j]:=by simp
  rw[e2] at this;exact (Option.some.inj this).symm
 rw[f1,f2];have eb:decide (ss[j]?=ts[j]?)=decide (ss[j]=ts[j]):=by simp[g1,g2]
 rw[eb];intro prog w E Q hq;exact wpAny_eqBool_str hq
inductive aMc (K:Frag) (neg:Bool) (x:V) (y:V) (H:Hp) (Q:VK):Prop
 | mk (a b:Addr) (ss ts:List Str) (h0_:x=.ref a) (h1_:y=.ref b) (h2_:SqL K H a (ss.map V.str)) (h3_:SqL K H b (ts.map V.str)) (h4_:Q (.bl (if neg then !decide (ss=ts) else decide (ss=ts))) H)
theorem aAl (hu:X.A.units<cLine):OpR X (compareOp .NotEq) (aMc X.K true):=by
 intro pins s σ H x y v u Q I rx ry h;obtain⟨a,b,ss,ts,rfl,rfl,ha,hb,q⟩:=h;cases rx;cases ry;obtain⟨us,r1,p1,_⟩:=I.list ha;obtain⟨ws,r2,p2,_⟩:=I.list hb;have l1:=r1.length;have l2:=r2.length;rw[List.length_map] at l1 l2
 by_cases hl:ss.length=ts.length
 ·refine SeqAt.RcNeAt.lists p1.isList p2.isList (by simp; omega) hu (tD r1 r2 hl) X.prog X.w X.xe _ ⟨.bl (!decide (ss=ts)),H,I,?_,q⟩;rw[List.size_toArray,← l1,uY ss ts hl];rfl
 ·refine SeqAt.RcNeAt.lists_lengths p1.isList p2.isList (by simp; omega) hu X.prog X.w X.xe _ ⟨.bl (!decide (ss=ts)),H,I,?_,q⟩;rw[decide_eq_false fun z=>hl (by rw[z])];rfl
end
end L2
namespace L2
open PySem PySem.Spec PySem.Calls PyProof.Rows PySem.W
section
variable {X:Cx}
inductive aIe (xs:List V) (H:Hp) (Q:VK):Prop
 | mk (d:Addr) (kvs:List (Key×V)) (ss:List Str) (h0_:xs=[.ref d]) (h1_:H d=some (.dK kvs)) (h2_:kvs.map (fun kv=>kV kv.1)=ss.map V.str) (h3_:ss.length<64) (h4_:∀ (p:Addr) (ss':List Str),H p=none->ss'.Perm ss->sortedS ss'=true->Q (.ref p) (upd H p (.lst (ss'.map V.str))))
theorem nZ (hc:X.calm=true):CallR X (.builtin "sorted") aIe:=by
 intro pins s σ H xs us Q I r h;obtain⟨d,kvs,ss,rfl,hd,hks,h64,q⟩:=h;obtain⟨u,rfl,rx⟩:=jR r;cases rx;obtain⟨hz,lo,vs,rel,dd⟩:=aJb I.hok hd;obtain⟨ep,hat⟩:=dd.dictAt;have hl:kvs.length=vs.length:=Paired.length rel
 have hls:kvs.length=ss.length:=by
  have:=congrArg List.length hks
  simpa using this
 refine call_function_entry kind_sorted plain_sorted entry_sorted (args_sorted1 _) ?_;unfold Builtin.«sorted»;refine wpAny_bind (m:=checkCount "sorted" 1 1 _) (wpAny_pure ?_);refine wpAny_bind (kdu_collect (A:=X.A.in1) (kdl_dict (knd:=dE X.prog X.w) (kvs:=vs) (ep:=ep) lo) (I.ok.hd hc) hat (by omega) fun h' tk acc hk hacc=>?_);have hal:acc.toList.length=vs.length:=by rw[Array.length_toList]; exact hacc.1
 have rv:cA (ss.map V.str) acc.toList:=by
  rw[← hks];exact uC rel hal fun j v e=>hacc.2 j v (by rw[← Array.getElem?_toList]; exact e)
 have hS:=lW rv;refine wpAny_bind (wpAny_newList ?_ (by rw[hal]; omega));have hoL:(h'.push (seqObj "list" acc.toList.toArray 0)).get? h'.objs.size=some (seqObj "list" acc.toList.toArray 0):=Heap.get?_push_size _ rfl;refine wpAny_bind (wpAny_holding (wpAny_call_entry slot_list_sort ⟨_,hoL,rfl⟩ entry_list_sort (list_sort_treeK strKind_oneLt hoL hS.keysOf (fun v₁ v₂ rest e=>keyKind_strs (by rw[← e]; exact hS)) (by rw[hal]; omega) fun st' a1 a2=>⟨_,rfl,?_⟩) (args_list_sort _)));obtain⟨ss',b1,b2,b3⟩:=sorted_out_str hS a1 a2;refine wpAny_pure ⟨_,rfl,?_⟩;have I1:Inv X pins σ H { s with heap:=h',toks:=tk }:=I.kept (t':=tk) hk;have hn:H h'.objs.size=none:=I1.hok.fresh (Nat.le_refl _);obtain⟨e,he⟩:=sortedHeap_at (vs:=acc.toList) (out:=(arrOf st').map (·.2)) hoL;refine⟨.ref h'.objs.size,_,I1.laid (t':=tk) (fun b o z=>?_) (Nat.le_refl _) ?_,rfl,q _ ss' hn b2 b3⟩
 ·have hb:b<h'.objs.size:=Heap.lt_size z;rw[sortedHeap_old (Nat.ne_of_lt hb) (by rw[size_push']; exact Nat.lt_succ_of_lt hb)];exact Heap.get?_push_of_some _ z
 ·exact⟨by rw[List.length_map,b2.length_eq,sizeLine_eq]; omega,_,e,oM b1,he⟩
end
end L2
namespace L2
open PySem PySem.Spec PySem.Calls PyProof.Rows PySem.W
section
variable {X:Cx}{pins:List (Addr×Obj)}{σ:St}{H:Hp}{s:Shared}{d:Addr}{kvs:List (Key×V)}
theorem Inv.freeze (I:Inv X pins σ H s) (e:H d=some (.dK kvs)):∃ o,Inv X pins σ (upd H d (.frz o (.dK kvs))) s:=by
 have hO:=I.hok d _ e;obtain⟨o,ho⟩:=hO.ex
 have ne:∀ b u,H b=some u->(∀ k,u≠.dK k)->(upd H d (.frz o (.dK kvs))) b=some u:=fun b u z n=>by
  rw[aH (fun y=>by rw[y,e] at z; cases z; exact n kvs rfl)];exact z
 refine⟨o,I.step (h':=s.heap) (g':=s.gens) (d':=s.drawn) (t':=s.toks) (ch:=[]) (fun b hb=>nomatch hb) (fun b u _ _ _ z _=>z) (fun b u _ _ _ z _=>⟨u.slots,z⟩)
  (fun b u _ _ n=>by rw[aH (fun y=>by rw[y,e] at n; cases n)]; exact n) (fun b u _ z=>⟨u,z⟩) (fun b xs z=>ne b _ z fun k y=>by cases y) (fun b u v z=>ne b _ z fun k y=>by cases y)
  (fun b ps z=>⟨#[],by rw[ne b _ z fun k y=>by cases y]; simp⟩) (fun m hm=>hm) (fun b u z=>?_) I.bare⟩
 by_cases hb:b=d
 ·subst hb;rw[aE] at z;cases z;exact⟨ho,hO⟩
 ·rw[aH hb] at z;exact (I.hok b u z).stay (fun c y _ q=>q) (fun c q=>ne c _ q fun k y=>by cases y) fun c ys q=>ne c _ q fun k y=>by cases y
inductive aPp (v:V) (H':Hp) (Q:VK):Prop
 | mk (d:Addr) (kvs:List (Key×V)) (h1:v=.ref d) (h2:H' d=some (.dK kvs)) (q:∀ o,Q v (upd H' d (.frz o (.dK kvs))))
def aGo (t:TE):TE:=fun σ H Q=>t σ H fun v H'=>aPp v H' Q
theorem aBq {e:Expr}{t:TE}(h:PE X e t):PE X e (aGo t):=by
 intro pins s σ H Q I q;refine thn (h pins s σ H _ I q) fun v s1 ⟨x,H1,I1,r1,d,kvs,e1,e2,q1⟩=>?_;obtain⟨o,I2⟩:=I1.freeze e2;exact⟨x,_,I2,r1,q1 o⟩
end
section
variable {X:Cx}{tg:Expr}
end
end L2
namespace L2
open PySem PySem.Spec PySem.Calls PyProof.Rows PySem.W
section
variable {X:Cx}
end
end L2
namespace L2
open PySem PySem.Spec PySem.Calls PyProof.Rows PySem.W
section
variable {X:Cx}{pins:List (Addr×Obj)}{σ:St}{H:Hp}{s:Shared}
theorem aHl {params:Arguments}{body:Expr}{scope:Scope}{pos:Pos}{c c' P:Addr}{ps:Array Value}{Q:Value->Shared->Prop}{E:Value->Shared->Prop}(I:Inv X pins σ H s) (hcode:X.env.code=.ref c) (hc:codeHdIn X.K c P=true) (bm:oG X.mg X.base)
  (hP:H P=some (.tbl ps)) (ht:TriplesOk ps.toList) (hf:codeAmong pos ps.toList=some (.ref c')) (hdef:defaultsOf params X.env=([],[])) (hfr:∀ n∈dZ scope,X.env.kindOf n=some .cell∨X.env.kindOf n=some .free)
  (k:∀ (f:Addr) (pm ctv:Value) (s1:Shared),Inv X pins σ H s1->s.heap.objs.size<=f->(∀ b o,s.heap.get? b=some o->s1.heap.get? b=some o) ->
   s1.heap.get? f=some (kla_obj "<lambda>" (X.env.qual++"<lambda>") params body scope (eY scope X.env) pm c' ctv)->Q (.ref f) s1) :
  wpAny (model X.prog X.w) X.A (eval (.Lambda params body scope pos) X.env) Q E s:=by
 have hcl:closureFor scope X.env=pure (eY scope X.env):=gK fun n hn=>I.ok.has n (hfr n hn);obtain⟨b,ob,b1,b2,b3,b4,b5,b6⟩:=bm;have hg:s.heap.Ns mainGlobals X.mg:=I.mod.glob.keeps I.bk;have bP:∀ d o,X.base.get? d=some o->d≠P:=fun d o e z=>by have:=(I.bs d o e).2; rw[z,hP] at this; cases this
 have hbG:b≠mainGlobals:=fun z=>by
  obtain⟨o,es,ep,e,hd,_⟩:=I.mod.glob;rw[z,e] at b3;cases b3;rw[hd] at b6;cases b6
 have hob:s.heap.get? P=some (tabObj ps):=I.hok P _ hP;refine kla_eval hdef (kla_makeFunctionHit (mg:=X.mg) hcl I.ok.glob hg hcode (codeHd_of_K I.kIn hc) hob ht hf ⟨b,ob,b1,b2,hbG,bP _ _ b3,I.bk _ _ b3,b4,b5,b6⟩ fun ctv h' tk hx hge=>?_);exact k h'.objs.size _ ctv _ (I.kept (t':=tk) fun d o e=>Heap.get?_push_of_some _ (hx d o e)) hge (fun d o e=>Heap.get?_push_of_some _ (hx d o e)) (Heap.get?_push_size _ rfl)
end
section
variable {X:Cx}

end
end L2
namespace L2
open PySem PySem.Spec PySem.Calls PyProof.Rows
def unl:List Str->List Str->List Str
 | [],k=>k
 | z::r,k=>unl r (if z∈k then k else k++[z])
theorem nd1 (y:Str):[y].Nodup:=List.nodup_cons.mpr ⟨fun h=>(nomatch h),.nil⟩
theorem zR:∀ (r k:List Str) (z:Str),z∈unl r k↔z∈k∨z∈r
 | [],k,z=>by simp[unl]
 | y::r,k,z=>by
  show z∈unl r _↔_;rw[zR r]
  by_cases h:y∈k
  ·rw[if_pos h,List.mem_cons];exact⟨fun q=>q.imp id .inr,fun q=>q.elim .inl fun q=>q.elim (fun e=>.inl (e▸h)) .inr⟩
  ·rw[if_neg h,List.mem_cons,List.mem_append,List.mem_singleton,or_assoc]
theorem oO:∀ (r k:List Str),k.Nodup->(unl r k).Nodup
 | [],k,h=>h
 | y::r,k,h=>by
  refine oO r _ ?_
  by_cases q:y∈k
  ·rw[if_pos q]; exact h
  ·rw[if_neg q];exact List.nodup_append.mpr ⟨h,nd1 _,fun a ha b hb e=>q (by rw[← List.mem_singleton.mp hb,← e]; exact ha)⟩
end L2
namespace L2
open PySem PySem.Spec PySem.Calls PyProof.Rows
section
variable {prog:Program}{w:World}{A:Around}{E:Value->Shared->Prop}{s:Shared}
end
end L2
namespace L2
open PySem PySem.Spec PySem.Calls PyProof.Rows
section
variable {M:Model}{A:Around}{E:Value->Shared->Prop}{s:Shared}{α:Type}
end
end L2
namespace L2
open PySem PySem.Spec PySem.Calls PyProof.Rows
section
variable {prog:Program}{w:World}
variable {A:Around}{R:Result->Shared->Prop}{It:Addr}{fp wr:List Addr}{G:Array GenState->Array GenState->Prop}{n:Nat}{Pv:Nat->Value->Prop}{St':Nat->Shared->Prop}
end
section
variable {prog:Program}{w:World}{A:Around}{E:Value->Shared->Prop}{s:Shared}
set_option maxHeartbeats 6000000 in
set_option maxHeartbeats 6000000 in
end
end L2
namespace L2
open PySem PySem.Spec PySem.Calls PyProof.Rows
section
variable {prog:Program}{w:World}{A:Around}{E:Value->Shared->Prop}{s:Shared}
end
end L2
namespace L2
open PySem PySem.Spec PySem.Calls PyProof.Rows
section
variable {prog:Program}{w:World}{A:Around}{E:Value->Shared->Prop}{s:Shared}
theorem jY {α:Type} [DecidableEq α]:∀ {l m:List α},l.Nodup->(∀ x∈l,x∈m)->m.length<=l.length->l.Perm m
 | [],[],_,_,_=>.nil
 | [],_::_,_,_,h=>absurd h (by simp)
 | a::l,m,hn,hs,hl=>by
  obtain⟨ha,hn⟩:=List.nodup_cons.mp hn;have hm:a∈m:=hs a (.head _);have p:=List.perm_cons_erase hm;refine ((jY (l:=l) (m:=m.erase a) hn (fun x hx=>?_) ?_).cons a).trans p.symm
  ·have:=p.mem_iff.mp (hs x (.tail _ hx))
   rcases List.mem_cons.mp this with e | e
   ·exact absurd (e▸hx) ha
   ·exact e
  ·rw[List.length_erase_of_mem hm];simp at hl;omega
end
end L2
namespace L2
open PySem PySem.Spec PySem.Calls PyProof.Rows PySem.W
section
variable {X:Cx}
end
end L2
namespace L2
open PySem PySem.Spec PySem.Calls PyProof.Rows PySem.W
section
variable {prog:Program}{w:World}{M:Model}{A:Around}{E:Value->Shared->Prop}{s:Shared}{K:Frag}{x C:Addr}{ox:Obj}{od:Option Obj}
end
section
variable {X:Cx}
end
end L2
namespace L2
open PySem PySem.Spec PySem.Calls PyProof.Rows PySem.W
open PySem.AutoSeq1 (wpAny_loadPart')
structure Src (P:Program) (w:World) (it l:Addr) (st:Nat->Heap->Prop) (bk:Array Value->Heap->Prop):Prop where
 one:∀ {A:Around}{E:Value->Shared->Prop}{s:Shared}{k:Nat}{us:Array Value}{x:Value}{Q:Value->Shared->Prop},st k s.heap->bk us s.heap->us[k]?=some x ->
  (∀ h',st (k+1) h'->Heap.SameBut it s.heap h'->Q x { s with heap:=h' })->wpAny (model P w) A (Builtin.SmallTypes.nextOf (.ref it)) Q E s
 out:∀ {A:Around}{E:Value->Shared->Prop}{s:Shared}{k:Nat}{us:Array Value}{Q:Value->Shared->Prop},A.handled=none->st k s.heap->bk us s.heap->us[k]?=none ->
  (∀ h' e,Heap.ExtBut it s.heap h'->(∃ o,h'.get? e=some o∧o.cls=.type "StopIteration")->E (.ref e) { s with heap:=h' })->wpAny (model P w) A (Builtin.SmallTypes.nextOf (.ref it)) Q E s
 kp:∀ {k:Nat}{h h':Heap},st k h->(∀ o,h.get? it=some o->h'.get? it=some o)->st k h'
 bp:∀ {us:Array Value}{h h':Heap},bk us h->(∀ o,h.get? l=some o->h'.get? l=some o)->bk us h'
 ob:∀ {k:Nat}{h:Heap},st k h->∃ o vs,h.get? it=some o∧o.data=.fields vs
section
variable {P:Program}{w:World}
theorem aDm (it l:Addr):Src P w it l (fun k h=>h.IsListIter it l k) (fun us h=>h.IsList l us):=
 ⟨fun h1 h2 hx q=>wpAny_nextOf_list_item h1 h2 hx q,fun hh h1 h2 hx q=>wpAny_nextOf_list_end hh h1 h2 hx q,fun h k=>h.at k,fun h k=>h.at k,fun ⟨o,e,_,d⟩=>⟨o,_,e,d⟩⟩
section
variable {A:Around}{E:Value->Shared->Prop}{s:Shared}
theorem aGk {it t:Addr}{k:Nat}{us:Array Value}{x:Value}{Q:Value->Shared->Prop}(h1:s.heap.IsTupleIter it t k) (h2:s.heap.IsTuple t us) (hx:us[k]?=some x)
  (q:∀ h',h'.IsTupleIter it t (k+1)->Heap.SameBut it s.heap h'->Q x { s with heap:=h' }):wpAny (model P w) A (Builtin.SmallTypes.nextOf (.ref it)) Q E s:=by
 obtain⟨o,e,c,d⟩:=id h1;obtain⟨ot,et,_,n,dt⟩:=h2;unfold Builtin.SmallTypes.nextOf;refine wpAny_bind (wpAny_callSpecial?_slot (name:=Str.ofString "__next__") h1.typeIs PySem.F.slot_tuple_iterator_next (wpAny_call_entry PySem.F.slot_tuple_iterator_next h1.typeIs PySem.F.entry_tuple_iterator_next ?_ (PySem.F.args_tuple_iterator_next_1 _)));show wpAny _ _ (field (.ref it) 0>>=_) _ E s;refine wpAny_bind (wpAny_field e d (x:=.ref t) rfl ?_);show wpAny _ _ (if (Value.ref t==Value.none)=true then _ else _) _ E s
 rw[if_neg (c:=(Value.ref t==Value.none)=true) fun z=>Bool.false_ne_true z];show wpAny _ _ (field (.ref it) 1>>=_) _ E s;refine wpAny_bind (wpAny_field e d (x:=.int k 0) rfl ?_);show wpAny _ _ (seqItems? (.ref t)>>=_) _ E s;refine wpAny_bind (wpAny_seqItems et dt ?_);simp only[hx,Int.toNat_natCast];refine wpAny_bind (wpAny_setField e d (by simp) (wpAny_pure ⟨x,rfl,wpAny_pure (q _ ⟨_,Heap.get?_update_self _ e (Obj.isFreed_of_fields (Obj.data_mapFields d _)),(Obj.cls_mapFields ..).trans c,?_⟩ (Heap.SameBut.update ..))⟩));rw[Obj.data_mapFields d];simp[rawInt]
theorem aGj {it t:Addr}{k:Nat}{us:Array Value}{Q:Value->Shared->Prop}(hh:A.handled=none) (h1:s.heap.IsTupleIter it t k) (h2:s.heap.IsTuple t us) (hx:us[k]?=none)
  (q:∀ h' e,Heap.ExtBut it s.heap h'->(∃ o,h'.get? e=some o∧o.cls=.type "StopIteration")->E (.ref e) { s with heap:=h' }):wpAny (model P w) A (Builtin.SmallTypes.nextOf (.ref it)) Q E s:=by
 obtain⟨o,e,c,d⟩:=id h1;obtain⟨ot,et,_,n,dt⟩:=h2;unfold Builtin.SmallTypes.nextOf;refine wpAny_bind (wpAny_callSpecial?_slot (name:=Str.ofString "__next__") h1.typeIs PySem.F.slot_tuple_iterator_next (wpAny_call_entry PySem.F.slot_tuple_iterator_next h1.typeIs PySem.F.entry_tuple_iterator_next ?_ (PySem.F.args_tuple_iterator_next_1 _)));show wpAny _ _ (field (.ref it) 0>>=_) _ E s;refine wpAny_bind (wpAny_field e d (x:=.ref t) rfl ?_);show wpAny _ _ (if (Value.ref t==Value.none)=true then _ else _) _ E s
 rw[if_neg (c:=(Value.ref t==Value.none)=true) fun z=>Bool.false_ne_true z];show wpAny _ _ (field (.ref it) 1>>=_) _ E s;refine wpAny_bind (wpAny_field e d (x:=.int k 0) rfl ?_);show wpAny _ _ (seqItems? (.ref t)>>=_) _ E s;refine wpAny_bind (wpAny_seqItems et dt ?_);simp only[hx,Int.toNat_natCast];refine wpAny_bind (wpAny_rule (wpAny_bind (wpAny_setField e d (by simp) ?_)));show wpAny _ _ (newExc (.type "StopIteration") []>>=_) _ E _;refine wpAny_bind ?_;simp only[newTuple,newExc];refine wpAny_bind (wpAny_newObj_type (wpAny_bind (m:=firstArgMember _ _) (wpAny_of_eq (a:=Value.none) (by first | rfl | (simp only[firstArgMember]; rfl)) (wpAny_newObj_type ?_ (by size_fits)))) (by size_fits));simp only[raiseNew];refine wpAny_bind (wpAny_handled ?_)
 first | rw[show A.in1.handled=none from hh] | rw[hh]
 exact wpAny_bind (wpAny_pure (wpAny_throw (q _ _ (((Heap.SameBut.update ..).extBut.push _).push _) ⟨_,Heap.get?_push_size _ rfl,rfl⟩)))
theorem aGs (it t:Addr):Src P w it t (fun k h=>h.IsTupleIter it t k) (fun us h=>h.IsTuple t us):=
 ⟨fun h1 h2 hx q=>aGk h1 h2 hx q,fun hh h1 h2 hx q=>aGj hh h1 h2 hx q,fun h k=>h.at k,fun ⟨o,e,r⟩ k=>⟨o,k o e,r⟩,fun ⟨o,e,_,d⟩=>⟨o,_,e,d⟩⟩
variable {z ti to i1 i2 l1 l2:Addr}{st1 st2:Nat->Heap->Prop}{bk1 bk2:Array Value->Heap->Prop}{k:Nat}{us vs:Array Value}{a b x y:Value}
theorem aGi {Q:Value->Shared->Prop}(S1:Src P w i1 l1 st1 bk1) (S2:Src P w i2 l2 st2 bk2) (D:ZipApart z ti to i1 i2 l1 l2) (hz:IsZip s.heap z ti to .none) (hti:IsPair s.heap ti (.ref i1) (.ref i2)) (hto:IsPair s.heap to a b)
  (h1:st1 k s.heap) (h2:st2 k s.heap) (b1:bk1 us s.heap) (b2:bk2 vs s.heap) (hx:us[k]?=some x) (hy:vs[k]?=some y)
  (hQ:∀ h',IsZip h' z ti to (rawInt s.heap.objs.size)->IsPair h' to x y->st1 (k+1) h'->st2 (k+1) h'->IsPair h' s.heap.objs.size x y->h'.objs.size=s.heap.objs.size+1 ->
   (∀ c o,c≠z->c≠to->c≠i1->c≠i2->s.heap.get? c=some o->h'.get? c=some o)->Q (.ref s.heap.objs.size) { s with heap:=h' }) :
  wpAny (model P w) A (Builtin.«zip.__next__» ⟨[.ref z],[]⟩) (fun fin s'=>∃ v,fin=.done (.ret v)∧Q v s') E s:=by
 show wpAny _ _ (field (.ref z) 2>>=_) _ E s;refine wpAny_bind (wpAny_field hz rfl (x:=.bool false) rfl (show wpAny _ _ (field (.ref z) 3>>=_) _ E s from wpAny_bind (wpAny_field hz rfl (x:=.ref ti) rfl (wpAny_bind (wpAny_seqItems hti rfl ?_)))))
 show wpAny _ _ (Builtin.SmallTypes.ownedTupleIsFree (.ref z)>>=_) _ E s;refine wpAny_bind ?_;unfold Builtin.SmallTypes.ownedTupleIsFree;refine wpAny_bind (wpAny_field hz rfl (x:=.none) rfl (wpAny_pure ?_));simp only[if_true];refine wpAny_bind (wpAny_rule (wpAny_bind (wpAny_field hz rfl (x:=.ref to) rfl (wpAny_bind (wpAny_setField_rec hz (by simp) fun g1 z1 c1=>?_)))));replace z1:IsZip g1 z ti to .ellipsis:=z1;refine wpAny_bind ?_;simp only[List.forIn_cons,List.forIn_nil,List.zipIdx_nil,List.zipIdx_cons];refine wpAny_bind (wpAny_bind (wpAny_onRaise (show wpAny _ _ (Builtin.SmallTypes.nextOf (.ref i1)>>=_) _ _ _ from wpAny_bind (S1.one (S1.kp h1 fun o e=>c1.extBut _ _ D.i1z e) (S1.bp b1 fun o e=>c1.extBut _ _ D.l1z e) hx fun g2 h12 c2=>wpAny_pure ?_))))
 have t2:IsPair g2 to a b:=c2.extBut _ _ D.TOi1 (c1.extBut _ _ D.TOz hto);refine wpAny_bind (wpAny_seqItems t2 rfl (wpAny_bind (wpAny_updateSeq_pair t2 fun g3 t3 c3=>wpAny_bind (wpAny_letGo (wpAny_pure ?_)))));replace t3:IsPair g3 to x b:=t3
 refine wpAny_bind (wpAny_bind (wpAny_onRaise (show wpAny _ _ (Builtin.SmallTypes.nextOf (.ref i2)>>=_) _ _ _ from wpAny_bind (S2.one (S2.kp h2 fun o e=>c3.extBut _ _ D.TOi2.symm (c2.extBut _ _ D.i12.symm (c1.extBut _ _ D.i2z e)))
  (S2.bp b2 fun o e=>c3.extBut _ _ D.l2TO (c2.extBut _ _ D.l2i1 (c1.extBut _ _ D.l2z e))) hy fun g4 h24 c4=>wpAny_pure ?_))))
 have t4:IsPair g4 to x b:=c4.extBut _ _ D.TOi2 t3;refine wpAny_bind (wpAny_seqItems t4 rfl (wpAny_bind (wpAny_updateSeq_pair t4 fun g5 t5 c5=>wpAny_bind (wpAny_letGo (wpAny_pure (wpAny_pure ?_))))));replace t5:IsPair g5 to x y:=t5;refine wpAny_bind (wpAny_seqItems t5 rfl (wpAny_bind (wpAny_newTuple ?_)));have sz:g5.objs.size=s.heap.objs.size:=by rw[c5.1,c4.1,c3.1,c2.1,c1.1]
 have z5:IsZip g5 z ti to .ellipsis:=c5.extBut _ _ D.TOz.symm (c4.extBut _ _ D.i2z.symm (c3.extBut _ _ D.TOz.symm (c2.extBut _ _ D.i1z.symm z1)));have k5:∀ c o,c≠z->c≠to->c≠i1->c≠i2->s.heap.get? c=some o->g5.get? c=some o:=fun c o n1 n2 n3 n4 e=>c5.extBut _ _ n2 (c4.extBut _ _ n4 (c3.extBut _ _ n2 (c2.extBut _ _ n3 (c1.extBut _ _ n1 e))));have h15:st1 (k+1) g5:=S1.kp h12 fun o e=>c5.extBut _ _ D.TOi1.symm (c4.extBut _ _ D.i12 (c3.extBut _ _ D.TOi1.symm e));have h25:st2 (k+1) g5:=S2.kp h24 fun o e=>c5.extBut _ _ D.TOi2.symm e;show wpAny _ _ (Builtin.SmallTypes.ownedTupleHandOut (.ref z) (.ref g5.objs.size)>>=_) _ E _;refine wpAny_bind ?_;unfold Builtin.SmallTypes.ownedTupleHandOut;have z6:IsZip (g5.push { cls:=.type "tuple",data:=.seq #[x,y] }) z ti to .ellipsis:=Heap.get?_push_of_some _ z5;refine wpAny_bind (wpAny_setField_rec z6 (by simp) fun g7 z7 c7=>wpAny_setField_rec (show IsZip g7 z ti to (rawInt g5.objs.size) from z7) (by simp) fun g8 z8 c8=>?_)
 replace z8:IsZip g8 z ti to (rawInt g5.objs.size):=z8;have up:∀ c o,c≠z->g5.get? c=some o->g8.get? c=some o:=fun c o n e=>c8.extBut _ _ n (c7.extBut _ _ n (Heap.get?_push_of_some _ e));have lz:=Heap.lt_size z5;have t8:IsPair g8 g5.objs.size x y:=c8.extBut _ _ (Nat.ne_of_gt lz) (c7.extBut _ _ (Nat.ne_of_gt lz) (Heap.get?_push_size _ rfl));have s8:g8.objs.size=g5.objs.size+1:=by rw[c8.1,c7.1,Heap.size_push]
 rw[sz] at z8 t8 s8;refine wpAny_pure ⟨_,rfl,?_⟩;show Q (.ref g5.objs.size) _;rw[sz];exact hQ g8 z8 (up _ _ D.TOz t5) (S1.kp h15 fun o e=>up _ o D.i1z e) (S2.kp h25 fun o e=>up _ o D.i2z e) t8 s8 fun c o n1 n2 n3 n4 e=>up c o n1 (k5 c o n1 n2 n3 n4 e)
theorem aGh {Q:Fin->Shared->Prop}(hh:A.handled=none) (S1:Src P w i1 l1 st1 bk1) (S2:Src P w i2 l2 st2 bk2) (D:ZipApart z ti to i1 i2 l1 l2) (hz:IsZip s.heap z ti to .none) (hti:IsPair s.heap ti (.ref i1) (.ref i2)) (hto:IsPair s.heap to a b)
  (h1:st1 k s.heap) (h2:st2 k s.heap) (b1:bk1 us s.heap) (b2:bk2 vs s.heap) (he:us[k]?=none∨vs[k]?=none)
  (hE:∀ h' e,(∀ c o,c≠z->c≠to->c≠i1->c≠i2->s.heap.get? c=some o->h'.get? c=some o)->(∃ o,h'.get? e=some o∧o.cls=.type "StopIteration")->E (.ref e) { s with heap:=h' }) :
  wpAny (model P w) A (Builtin.«zip.__next__» ⟨[.ref z],[]⟩) Q E s:=by
 show wpAny _ _ (field (.ref z) 2>>=_) _ E s;refine wpAny_bind (wpAny_field hz rfl (x:=.bool false) rfl (show wpAny _ _ (field (.ref z) 3>>=_) _ E s from wpAny_bind (wpAny_field hz rfl (x:=.ref ti) rfl (wpAny_bind (wpAny_seqItems hti rfl ?_)))))
 show wpAny _ _ (Builtin.SmallTypes.ownedTupleIsFree (.ref z)>>=_) _ E s;refine wpAny_bind ?_;unfold Builtin.SmallTypes.ownedTupleIsFree;refine wpAny_bind (wpAny_field hz rfl (x:=.none) rfl (wpAny_pure ?_));simp only[if_true];refine wpAny_bind (wpAny_rule (wpAny_bind (wpAny_field hz rfl (x:=.ref to) rfl (wpAny_bind (wpAny_setField_rec hz (by simp) fun g1 z1 c1=>?_)))));replace z1:IsZip g1 z ti to .ellipsis:=z1;refine wpAny_bind ?_;simp only[List.forIn_cons,List.forIn_nil,List.zipIdx_nil,List.zipIdx_cons];refine wpAny_bind (wpAny_bind (wpAny_onRaise ?_));show wpAny _ _ (Builtin.SmallTypes.nextOf (.ref i1)>>=_) _ _ _;have h1':=S1.kp h1 fun o e=>c1.extBut _ _ D.i1z e;have b1':=S1.bp b1 fun o e=>c1.extBut _ _ D.l1z e;cases hx:us[k]? with
 | none=>
  refine wpAny_bind (S1.out hh h1' b1' hx fun g2 e c2 ⟨oe,ho,hc⟩=>?_);have z2:IsZip g2 z ti to .ellipsis:=c2 _ _ D.i1z.symm z1;have nz:e≠z:=fun q=>by rw[q,z2] at ho; cases ho; simp at hc
  exact wpAny_setField_rec z2 (by simp) fun g3 _ c3=>hE g3 e (fun c o n1 _ n3 _ q=>c3.extBut _ _ n1 (c2 _ _ n3 (c1.extBut _ _ n1 q))) ⟨oe,c3.extBut _ _ nz ho,hc⟩
 | some x=>
  have hy:vs[k]?=none:=he.resolve_left fun q=>by rw[hx] at q; cases q
  refine wpAny_bind (S1.one h1' b1' hx fun g2 h12 c2=>wpAny_pure ?_);have t2:IsPair g2 to a b:=c2.extBut _ _ D.TOi1 (c1.extBut _ _ D.TOz hto);refine wpAny_bind (wpAny_seqItems t2 rfl (wpAny_bind (wpAny_updateSeq_pair t2 fun g3 t3 c3=>wpAny_bind (wpAny_letGo (wpAny_pure (wpAny_bind (wpAny_bind (wpAny_onRaise ?_))))))));show wpAny _ _ (Builtin.SmallTypes.nextOf (.ref i2)>>=_) _ _ _;refine wpAny_bind (S2.out hh (S2.kp h2 fun o e=>c3.extBut _ _ D.TOi2.symm (c2.extBut _ _ D.i12.symm (c1.extBut _ _ D.i2z e))) (S2.bp b2 fun o e=>c3.extBut _ _ D.l2TO (c2.extBut _ _ D.l2i1 (c1.extBut _ _ D.l2z e))) hy fun g4 e c4 ⟨oe,ho,hc⟩=>?_);have z4:IsZip g4 z ti to .ellipsis:=c4 _ _ D.i2z.symm (c3.extBut _ _ D.TOz.symm (c2.extBut _ _ D.i1z.symm z1));have nz:e≠z:=fun q=>by rw[q,z4] at ho; cases ho; simp at hc
  exact wpAny_setField_rec z4 (by simp) fun g5 _ c5=>hE g5 e (fun c o n1 n2 n3 n4 q=>c5.extBut _ _ n1 (c4 _ _ n4 (c3.extBut _ _ n2 (c2.extBut _ _ n3 (c1.extBut _ _ n1 q))))) ⟨oe,c5.extBut _ _ nz ho,hc⟩
theorem aFf {Q:Option Value->Shared->Prop}(S1:Src P w i1 l1 st1 bk1) (S2:Src P w i2 l2 st2 bk2) (D:ZipApart z ti to i1 i2 l1 l2) (hz:IsZip s.heap z ti to .none) (hti:IsPair s.heap ti (.ref i1) (.ref i2)) (hto:IsPair s.heap to a b)
  (h1:st1 k s.heap) (h2:st2 k s.heap) (b1:bk1 us s.heap) (b2:bk2 vs s.heap) (hx:us[k]?=some x) (hy:vs[k]?=some y)
  (hQ:∀ h',IsZip h' z ti to (rawInt s.heap.objs.size)->IsPair h' to x y->st1 (k+1) h'->st2 (k+1) h'->IsPair h' s.heap.objs.size x y->h'.objs.size=s.heap.objs.size+1 ->
   (∀ c o,c≠z->c≠to->c≠i1->c≠i2->s.heap.get? c=some o->h'.get? c=some o)->Q (some (.ref s.heap.objs.size)) { s with heap:=h' }):wpAny (model P w) A (pyNext (.ref z)) Q E s:=by
 have hT:s.TypeIs (.ref z) "zip":=⟨_,hz,rfl⟩;unfold pyNext;exact wpAny_bind (wpAny_attempt (wpAny_callSpecial?_slot (name:=Str.ofString "__next__") hT PySem.F.slot_zip_next (wpAny_call_entry PySem.F.slot_zip_next hT PySem.F.entry_zip_next (aGi S1 S2 D hz hti hto h1 h2 b1 b2 hx hy fun h' a1 a2 a3 a4 a5 a6 a7=>wpAny_pure (hQ h' a1 a2 a3 a4 a5 a6 a7)) (PySem.F.args_zip_next_1 _))))
theorem aEo {Q:Option Value->Shared->Prop}(hh:A.handled=none) (S1:Src P w i1 l1 st1 bk1) (S2:Src P w i2 l2 st2 bk2) (D:ZipApart z ti to i1 i2 l1 l2) (hz:IsZip s.heap z ti to .none) (hti:IsPair s.heap ti (.ref i1) (.ref i2)) (hto:IsPair s.heap to a b)
  (h1:st1 k s.heap) (h2:st2 k s.heap) (b1:bk1 us s.heap) (b2:bk2 vs s.heap) (he:us[k]?=none∨vs[k]?=none)
  (hQ:∀ h',(∀ c o,c≠z->c≠to->c≠i1->c≠i2->s.heap.get? c=some o->h'.get? c=some o)->Q none { s with heap:=h' }):wpAny (model P w) A (pyNext (.ref z)) Q E s:=by
 have hT:s.TypeIs (.ref z) "zip":=⟨_,hz,rfl⟩;unfold pyNext;refine wpAny_bind (wpAny_attempt (wpAny_callSpecial?_slot (name:=Str.ofString "__next__") hT PySem.F.slot_zip_next (wpAny_call_entry PySem.F.slot_zip_next hT PySem.F.entry_zip_next (aGh hh S1 S2 D hz hti hto h1 h2 b1 b2 he fun h' e hk ⟨o,ho,hc⟩=>?_) (PySem.F.args_zip_next_1 _))));exact wpAny_bind (wpAny_isInstance (T:="StopIteration") (b:=true) ⟨o,ho,hc⟩ isSubtype_stop (wpAny_pure (hQ _ hk)))
end
end
end L2
namespace L2
open PySem PySem.Spec PySem.Calls PyProof.Rows PySem.W
abbrev uQ (n:String) (l:Addr):Obj:={ cls:=.type n,data:=.fields #[.ref l,.int 0 0] }
abbrev zg2 (h:Heap) (o1 o2:Obj):Heap:=(h.push o1).push o2
abbrev zg3 (h:Heap) (o1 o2:Obj):Heap:=(zg2 h o1 o2).push { cls:=.type "tuple",data:=.seq #[.ref h.objs.size,.ref (h.push o1).objs.size] }
abbrev zg4 (h:Heap) (o1 o2:Obj):Heap:=(zg3 h o1 o2).push { cls:=.type "tuple",data:=.seq #[.none,.none] }
abbrev zg5 (h:Heap) (o1 o2:Obj):Heap:=(zg4 h o1 o2).push { cls:=.type "zip",data:=.fields #[.none,.bool false,.bool false,.ref (zg2 h o1 o2).objs.size,.ref (zg3 h o1 o2).objs.size] }
theorem xG (l t:Addr) (xs ys:Array Value):Meets (Builtin.«zip.__new__» ⟨[.type "zip",.ref l,.ref t],[]⟩) (fun _ R s=>s.heap.IsList l xs∧s.heap.IsTuple t ys ∧
  R (.ok (.ret (.ref (zg4 s.heap (uQ "list_iterator" l) (uQ "tuple_iterator" t)).objs.size))) { s with heap:=zg5 s.heap (uQ "list_iterator" l) (uQ "tuple_iterator" t) }):=
 .of_wp fun prog w A R s h=>by
  obtain⟨hp,g,d,tk,os⟩:=s;obtain⟨h1,h2,h⟩:=h;have hsub:=sub_zip;have j1:Heap.IsList (Shared.heap ⟨hp,g,d,tk,os⟩) l xs:=h1;have j2:Heap.IsTuple (Shared.heap ⟨hp.push { cls:=.type "list_iterator",data:=.fields #[.ref l,.int 0 0] },g,d,tk,os⟩) t ys:=Heap.IsTuple.push h2 _
  wp_walk using wpAny_pyIter_list j1,wpAny_pyIter_tuple j2
  exact⟨_,rfl,h⟩
section
variable {P:Program}{w:World}{A:Around}{E:Value->Shared->Prop}{s:Shared}
theorem xX {l1 l2:Addr}{o1 o2:Obj}{Pre:Shared->Prop}{Q:Value->Shared->Prop}(c1:o1.isFreed=false) (c2:o2.isFreed=false)
  (M:Meets (Builtin.«zip.__new__» ⟨[.type "zip",.ref l1,.ref l2],[]⟩) (fun _ R s=>Pre s∧R (.ok (.ret (.ref (zg4 s.heap o1 o2).objs.size))) { s with heap:=zg5 s.heap o1 o2 })) (hp:Pre s)
  (q:∀ h',IsZip h' (s.heap.objs.size+4) (s.heap.objs.size+2) (s.heap.objs.size+3) .none->IsPair h' (s.heap.objs.size+2) (.ref s.heap.objs.size) (.ref (s.heap.objs.size+1))->IsPair h' (s.heap.objs.size+3) .none .none ->
   h'.get? s.heap.objs.size=some o1->h'.get? (s.heap.objs.size+1)=some o2->(∀ c o,s.heap.get? c=some o->h'.get? c=some o)->Q (.ref (s.heap.objs.size+4)) { s with heap:=h' }) :
  wpAny (model P w) A (call (.type "zip") [.ref l1,.ref l2]) Q E s:=by
 refine callType_new PySem.F.called_zip (by decide) (PySem.F.typeCall_zip_2 _ _) (PySem.F.newCall_zip_2 _ _) (fun obj=>PySem.F.args_object_init_3 obj _ _) PySem.F.entry_zip_new M ⟨hp,?_⟩;have z1:(s.heap.push o1).objs.size=s.heap.objs.size+1:=Heap.size_push ..;have z2:(zg2 s.heap o1 o2).objs.size=s.heap.objs.size+2:=by rw[Heap.size_push,z1]
 have z3:(zg3 s.heap o1 o2).objs.size=s.heap.objs.size+3:=by rw[Heap.size_push,z2]
 have z4:(zg4 s.heap o1 o2).objs.size=s.heap.objs.size+4:=by rw[Heap.size_push,z3]
 have g5:(zg5 s.heap o1 o2).get? (zg4 s.heap o1 o2).objs.size=some _:=Heap.get?_push_size _ rfl;have up4:∀ {c o},(zg4 s.heap o1 o2).get? c=some o->(zg5 s.heap o1 o2).get? c=some o:=fun e=>Heap.get?_push_of_some _ e;have g4:(zg4 s.heap o1 o2).get? (zg3 s.heap o1 o2).objs.size=some _:=Heap.get?_push_size _ rfl;have up3:∀ {c o},(zg3 s.heap o1 o2).get? c=some o->(zg5 s.heap o1 o2).get? c=some o:=fun e=>up4 (Heap.get?_push_of_some _ e);have g3:(zg3 s.heap o1 o2).get? (zg2 s.heap o1 o2).objs.size=some _:=Heap.get?_push_size _ rfl;have up2:∀ {c o},(zg2 s.heap o1 o2).get? c=some o->(zg5 s.heap o1 o2).get? c=some o:=fun e=>up3 (Heap.get?_push_of_some _ e);have g2:(zg2 s.heap o1 o2).get? (s.heap.push o1).objs.size=some o2:=Heap.get?_push_size _ c2;have g1:(s.heap.push o1).get? s.heap.objs.size=some o1:=Heap.get?_push_size _ c1;have a5:=g5;have a4:=up4 g4;have a3:=up3 g3;have a2:=up2 g2;have a1:=up2 (Heap.get?_push_of_some o2 g1);show _∧_;rw[z2,z3,z4] at a5;rw[z3] at a4;rw[z1,z2] at a3;rw[z1] at a2;rw[z4];exact⟨⟨_,a5,rfl⟩,q _ a5 a3 a4 a1 a2 fun c o e=>up2 (Heap.get?_push_of_some _ (Heap.get?_push_of_some _ e))⟩
end
def Itz (R1 R2:Hp->List V->Prop):It:=
 ⟨fun i H=>∃ xs ys x y,R1 H xs∧R2 H ys∧xs[i]?=some x∧ys[i]?=some y,
   fun i H v H'=>∃ (t:Addr) (x y:V),H t=none∧v=.ref t∧H'=upd H t (.tup [x,y])∧(∀ xs,R1 H xs->xs[i]?=some x)∧∀ ys,R2 H ys->ys[i]?=some y,
   fun i H=>∃ xs ys,R1 H xs∧R2 H ys∧(xs.length<=i∨ys.length<=i)⟩
structure Rdz (P:Program) (w:World) (K:Frag) (R:Hp->List V->Prop) (bk:Array Value->Heap->Prop):Prop where
 rd:∀ {X:Cx}{pins:List (Addr×Obj)}{s:Shared}{σ:St}{H:Hp}{xs:List V},X.prog=P->X.w=w->X.K=K->Inv X pins σ H s->R H xs->(∃ its:List Value,cA xs its∧bk its.toArray s.heap)∧∀ ys,R H ys->ys=xs
theorem aGv {P:Program}{w:World}{K:Frag}(a:Addr):Rdz P w K (fun H xs=>SqL K H a xs) (fun us h=>h.IsList a us):=⟨fun hP hw hK I h=>by
 subst hP hw hK;obtain⟨its,r,p,_⟩:=I.list h;exact⟨⟨its,r,p.isList⟩,fun ys hy=>I.list_inj hy h⟩⟩
theorem aJv {P:Program}{w:World}{K:Frag}(a:Addr):Rdz P w K (fun H xs=>SqT K H a xs) (fun us h=>h.IsTuple a us):=⟨fun hP hw hK I h=>by
 subst hP hw hK;obtain⟨its,r,p,_⟩:=I.tuple h;exact⟨⟨its,r,p⟩,fun ys hy=>I.tuple_inj hy h⟩⟩
theorem aDh {P:Program}{w:World}{K:Frag}{elts:List Expr}{x1:Nat}{tpos:Pos}{z ti to i1 i2 l1 l2:Addr}{st1 st2:Nat->Heap->Prop}{bk1 bk2:Array Value->Heap->Prop}{R1 R2:Hp->List V->Prop}
  (S1:Src P w i1 l1 st1 bk1) (S2:Src P w i2 l2 st2 bk2) (D1:Rdz P w K R1 bk1) (D2:Rdz P w K R2 bk2) (D:ZipApart z ti to i1 i2 l1 l2) :
  xU P w K (.Tuple elts x1 tpos) (Itz R1 R2) [z,ti,to,i1,i2] z (fun i h=>IsZip h z ti to .none∧IsPair h ti (.ref i1) (.ref i2)∧(∃ a b,IsPair h to a b)∧st1 i h∧st2 i h) where
 mem:=by simp
 obj:=fun i h st b hb=>by
  obtain⟨h1,h2,⟨a,b',h3⟩,h4,h5⟩:=st;obtain⟨o4,v4,e4,d4⟩:=S1.ob h4;obtain⟨o5,v5,e5,d5⟩:=S2.ob h5;simp only[List.mem_cons,List.not_mem_nil,or_false] at hb;rcases hb with rfl | rfl | rfl | rfl | rfl
  ·exact⟨_,h1,fun v q=>nomatch q⟩
  ·exact⟨_,h2,fun v q=>nomatch q⟩
  ·exact⟨_,h3,fun v q=>nomatch q⟩
  ·exact⟨_,e4,fun v q=>by rw[d4] at q; cases q⟩
  ·exact⟨_,e5,fun v q=>by rw[d5] at q; cases q⟩
 keep:=fun i h h' st k=>by
  obtain⟨h1,h2,⟨a,b',h3⟩,h4,h5⟩:=st;exact⟨k z (by simp) _ h1,k ti (by simp) _ h2,⟨a,b',k to (by simp) _ h3⟩,S1.kp h4 (k i1 (by simp)),S2.kp h5 (k i2 (by simp))⟩
 item:=by
  intro X hP hw hK hc i pins s σ H E I hf st hg;obtain⟨xs,ys,x,y,r1,r2,hx,hy⟩:=hg;obtain⟨⟨its,rv,b1⟩,u1⟩:=D1.rd hP hw hK I r1;obtain⟨⟨jts,rw',b2⟩,u2⟩:=D2.rd hP hw hK I r2;subst hP hw hK;obtain⟨ux,hux,rx⟩:=rv.get hx;obtain⟨uy,huy,ry⟩:=rw'.get hy;obtain⟨h1,h2,⟨a,b',h3⟩,h4,h5⟩:=st;have fz:=hf z (by simp);have ft:=hf to (by simp);have f1:=hf i1 (by simp);have f2:=hf i2 (by simp);refine aFf S1 S2 D h1 h2 h3 h4 h5 b1 b2 (x:=ux) (y:=uy) (by simpa using hux) (by simpa using huy) fun g1 z1 t1 w1 w2 tu sz hk=>⟨.ref s.heap.objs.size,rfl,wpAny_letOwnedTupleGo_zip z1 fun g2 z2 sb=>?_⟩;have hn:H s.heap.objs.size=none:=I.hok.fresh (Nat.le_refl _);have lt:∀ {c o},s.heap.get? c=some o->c≠s.heap.objs.size:=fun e=>Nat.ne_of_lt (Heap.lt_size e);obtain⟨o4,v4,e4,d4⟩:=S1.ob h4;obtain⟨o5,v5,e5,d5⟩:=S2.ob h5
  have kp:∀ b o,b∉[z,to,i1,i2]->s.heap.get? b=some o->g2.get? b=some o:=fun b o n e=>by
   simp only[List.mem_cons,List.not_mem_nil,or_false,not_or] at n;exact (sb.2 b n.1).trans (hk b o n.1 n.2.1 n.2.2.1 n.2.2.2 e)
  have fch:∀ b∈[z,to,i1,i2],kY X pins H b:=fun b hb=>hf b (by
   simp only[List.mem_cons,List.not_mem_nil,or_false] at hb ⊢;rcases hb with h | h | h | h
   ·exact .inl h
   ·exact .inr (.inr (.inl h))
   ·exact .inr (.inr (.inr (.inl h)))
   ·exact .inr (.inr (.inr (.inr h))))
  have nH:∀ b v,H b=some v->b∉[z,to,i1,i2]:=fun b v q hb=>by rw[(fch b hb).1] at q; cases q
  have nS:∀ b v,H b=some v->b≠s.heap.objs.size:=fun b v q=>aI q hn
  have I2:Inv X pins σ (upd H s.heap.objs.size (.tup [x,y])) { s with heap:=g2 }:=by
   refine I.step (t':=s.toks) (g':=s.gens) (d':=s.drawn) (ch:=[z,to,i1,i2]) (fun b hb=>⟨(fch b hb).2.2.2.1,(fch b hb).2.1,(fch b hb).2.2.2.2.1,(fch b hb).2.2.2.2.2⟩) (fun b o _ _ hc e _=>kp b o hc e) (fun b o _ _ hc e _=>⟨o.slots,kp b o hc e⟩)
    (fun b o _ e n=>by rw[aH (lt e)]; exact n) (fun b o hc e=>⟨o,kp b o hc e⟩) (fun b ys e=>by rw[aH (nS b _ e)]; exact e) (fun b o v e=>by rw[aH (nS b _ e)]; exact e)
    (fun b ps e=>⟨#[],by rw[aH (nS b _ e),e]; simp⟩) (fun m hm=>?_) (fun b v q=>?_) I.bare
   ·obtain⟨o,es,ep,ho,r⟩:=hm;exact⟨o,es,ep,kp _ o (fun hb=>(fch _ hb).2.1 rfl) ho,r⟩
   ·by_cases hb:b=s.heap.objs.size
    ·subst hb;rw[aE] at q;cases q;exact⟨by show 2<=sizeLine; decide,[ux,uy],.cons rx (.cons ry .nil),⟨_,(sb.2 _ (Ne.symm (lt h1))).trans tu,rfl,_,rfl⟩⟩
    ·rw[aH hb] at q;refine (I.hok b v q).stay (fun c y hc e=>kp c y ?_ e) (fun c e=>by rw[aH (nS c _ e)]; exact e) fun c ys e=>by rw[aH (nS c _ e)]; exact e
     rcases hc with rfl | hc
     ·exact nH c v q
     ·exact nH c _ hc
  refine⟨.ref s.heap.objs.size,_,I2,rfl,⟨s.heap.objs.size,x,y,hn,rfl,rfl,fun xs' h'=>by rw[u1 xs' h']; exact hx,fun ys' h'=>by rw[u2 ys' h']; exact hy⟩,⟨z2,?_,⟨_,_,(sb.2 to D.TOz).trans t1⟩,S1.kp w1 fun o e=>(sb.2 i1 D.i1z).trans e,S2.kp w2 fun o e=>(sb.2 i2 D.i2z).trans e⟩,fun b hb=>?_⟩
  ·exact kp ti _ (by simp only[List.mem_cons,List.not_mem_nil,or_false,not_or]; exact⟨D.TIz,D.TITO,D.TIi1,D.TIi2⟩) h2
  ·have nb:b≠s.heap.objs.size:=by
    simp only[List.mem_cons,List.not_mem_nil,or_false] at hb;rcases hb with rfl | rfl | rfl | rfl | rfl
    ·exact lt h1
    ·exact lt h2
    ·exact lt h3
    ·exact lt e4
    ·exact lt e5
   rw[aH nb];exact (hf b hb).1
 done:=by
  intro X hP hw hK hc i pins s σ H E I hf st hg;obtain⟨xs,ys,r1,r2,hl⟩:=hg;obtain⟨⟨its,rv,b1⟩,_⟩:=D1.rd hP hw hK I r1;obtain⟨⟨jts,rw',b2⟩,_⟩:=D2.rd hP hw hK I r2;subst hP hw hK;obtain⟨h1,h2,⟨a,b',h3⟩,h4,h5⟩:=st;have e1:=rv.length;have e2:=rw'.length
  have he:its.toArray[i]?=none∨jts.toArray[i]?=none:=by
   rcases hl with h | h
   ·exact .inl (by rw[List.getElem?_toArray]; exact List.getElem?_eq_none_iff.mpr (by omega))
   ·exact .inr (by rw[List.getElem?_toArray]; exact List.getElem?_eq_none_iff.mpr (by omega))
  refine aEo (I.ok.hd hc) S1 S2 D h1 h2 h3 h4 h5 b1 b2 he fun g hk=>⟨rfl,?_⟩
  have fch:∀ b∈[z,to,i1,i2],kY X pins H b:=fun b hb=>hf b (by
   simp only[List.mem_cons,List.not_mem_nil,or_false] at hb ⊢;rcases hb with h | h | h | h
   ·exact .inl h
   ·exact .inr (.inr (.inl h))
   ·exact .inr (.inr (.inr (.inl h)))
   ·exact .inr (.inr (.inr (.inr h))))
  have kp:∀ b o,b∉[z,to,i1,i2]->s.heap.get? b=some o->g.get? b=some o:=fun b o n e=>by
   simp only[List.mem_cons,List.not_mem_nil,or_false,not_or] at n;exact hk b o n.1 n.2.1 n.2.2.1 n.2.2.2 e
  have nH:∀ b v,H b=some v->b∉[z,to,i1,i2]:=fun b v q hb=>by rw[(fch b hb).1] at q; cases q
  refine I.step (t':=s.toks) (g':=s.gens) (d':=s.drawn) (ch:=[z,to,i1,i2]) (fun b hb=>⟨(fch b hb).2.2.2.1,(fch b hb).2.1,(fch b hb).2.2.2.2.1,(fch b hb).2.2.2.2.2⟩) (fun b o _ _ hc e _=>kp b o hc e) (fun b o _ _ hc e _=>⟨o.slots,kp b o hc e⟩)
   (fun b o _ e n=>n) (fun b o hc e=>⟨o,kp b o hc e⟩) (fun b ys e=>e) (fun b o v e=>e) (fun b ps e=>⟨#[],by rw[e]; simp⟩) (fun m hm=>?_) (fun b v q=>?_) I.bare
  ·obtain⟨o,es,ep,ho,r⟩:=hm;exact⟨o,es,ep,kp _ o (fun hb=>(fch _ hb).2.1 rfl) ho,r⟩
  ·refine (I.hok b v q).stay (fun c y hc e=>kp c y ?_ e) (fun c e=>e) fun c ys e=>e;rcases hc with rfl | hc
   ·exact nH c v q
   ·exact nH c _ hc
 self:=fun _ i s _ _ ⟨h1,_⟩ h=>wpAny_pyIter_zip h1 h
end L2
namespace L2
open PySem PySem.Spec PySem.Calls PyProof.Rows PySem.W
theorem Bo.zip:bootBuiltins "zip" = some (.type "zip"):=by decide +kernel
section
variable {X:Cx}{elts:List Expr}{x1:Nat}{tpos:Pos}
inductive aNa (K:Frag) (vs:List V) (H1:Hp) (R:It->Hp->Prop):Prop
 | mk (a b:Addr) (h1:vs=[.ref a,.ref b]) (h2:∃ xs,SqL K H1 a xs) (h3:∃ ys,SqT K H1 b ys) (r:R (Itz (fun H xs=>SqL K H a xs) (fun H ys=>SqT K H b ys)) H1)
def aKw (K:Frag) (ta:TA):TI:=fun σ H R=>ta σ H fun vs H1=>aNa K vs H1 R
theorem aMi {s:Shared}{b:Addr}(hb:b∈[s.heap.objs.size+4,s.heap.objs.size+2,s.heap.objs.size+3,s.heap.objs.size,s.heap.objs.size+1]):s.heap.objs.size<=b:=by
 simp only[List.mem_cons,List.not_mem_nil,or_false] at hb;rcases hb with rfl | rfl | rfl | rfl | rfl
 ·exact Nat.le_add_right ..
 ·exact Nat.le_add_right ..
 ·exact Nat.le_add_right ..
 ·exact Nat.le_refl _
 ·exact Nat.le_add_right ..
theorem wR {l m:Expr}{ta:TA}{p pos:Pos}(hg:Gl X "zip") (hm:X.mg "zip" = none) (ha:PA X [l,m] ta) (hs:starEach [l,m] X.env=(false,eval l X.env)::starEach [m] X.env:=by rfl) (hpl:(backTo pos (starEach [m] X.env)).any (·.1)=false:=by rfl) :
  PI X (.Tuple elts x1 tpos) (.Call (.Name "zip" p) [l,m] [] pos) (aKw X.K ta):=by
 intro pins s σ H R I h;refine wpAny_Call_Name_kw (mI I hg hm Bo.zip ?_ (by decide) (by decide));refine PyProof.Rows.callWith_type1 (thn (ha pos pins s σ H _ I h) fun us s1 ⟨vs,H1,I1,r1,a,b,e1,⟨xs,hx⟩,⟨ys,hy⟩,q⟩=>?_) hs hpl;subst e1;obtain⟨u,w',rfl,rx,ry⟩:=aIm r1;cases rx;cases ry;obtain⟨its,rv,pl,_⟩:=I1.list hx;obtain⟨jts,rw',pt,_⟩:=I1.tuple hy;have a1:a<s1.heap.objs.size:=let ⟨_,e,_⟩:=pl.isList; Heap.lt_size e;have a2:b<s1.heap.objs.size:=let ⟨_,e,_⟩:=pt; Heap.lt_size e;refine xX (Pre:=fun s=>s.heap.IsList a its.toArray∧s.heap.IsTuple b jts.toArray) rfl rfl (by simpa only[and_assoc] using xG a b its.toArray jts.toArray) ⟨pl.isList,pt⟩ fun h' z1 t1 t2 o1 o2 k=>?_;have I2:Inv X pins σ H1 { s1 with heap:=h' }:=I1.kept (t':=s1.toks) k
 exact wpAny_pyIter_zip z1 ⟨s1.heap.objs.size+4,[s1.heap.objs.size+4,s1.heap.objs.size+2,s1.heap.objs.size+3,s1.heap.objs.size,s1.heap.objs.size+1],_,_,H1,rfl,I2,
  aDh (aDm s1.heap.objs.size a) (aGs (s1.heap.objs.size+1) b) (aGv a) (aJv b) (zipApart_new a1 a2),⟨z1,t1,⟨_,_,t2⟩,⟨_,o1,rfl,rfl⟩,⟨_,o2,rfl,rfl⟩⟩,fun c hc=>I1.fpOk (aMi hc) (I1.hok.fresh (aMi hc)),q⟩
theorem aAy {R1 R2:Hp->List V->Prop}{D:Addr}{xs ys:List V}{g:TG}{tc:TT}{te:TE}{R:Hp->Prop}{σ:St}{H:Hp}(Pv:Nat->St->Hp->Prop) (h0:Pv 0 σ H) (hxy:xs.length=ys.length)
  (hl:∀ i σ H,i<=xs.length->Pv i σ H->R1 H xs∧R2 H ys)
  (hs:∀ i x y σ H t,xs[i]?=some x->ys[i]?=some y->Pv i σ H->H t=none->g (.ref t) σ (upd H t (.tup [x,y])) fun σ2 H2=>tc σ2 H2 fun b H3=>if b=true then te σ2 H3 fun y H4=>∃ ys,H4 D=some (.lst ys)∧ys.length<sizeLine∧Pv (i+1) σ2 (upd H4 D (.lst (ys++[y]))) else Pv (i+1) σ2 H3)
  (hd:∀ σ H,Pv xs.length σ H->R H):vX (Itz R1 R2) D g tc te R σ H:=by
 refine⟨fun i m σ H=>m=xs.length-i∧i<=xs.length∧Pv i σ H,⟨xs.length,by simp,Nat.zero_le _,h0⟩,?_⟩;rintro i m σ H ⟨rfl,hi,p⟩;obtain⟨q1,q2⟩:=hl i σ H hi p
 by_cases hlt:i<xs.length
 ·refine .inr ⟨⟨xs,ys,xs[i],ys[i]'(by omega),q1,q2,by simp[hlt],by simp⟩,Pv (i+1),fun σ' H' p'=>⟨xs.length-(i+1),by omega,rfl,hlt,p'⟩,fun v H' z=>?_⟩;obtain⟨t,x,y,ht,rfl,rfl,hx,hy⟩:=z;exact hs i x y σ H t (hx xs q1) (hy ys q2) p ht
 ·have e:i=xs.length:=by omega
  subst e;exact .inl ⟨⟨xs,ys,q1,q2,.inl (Nat.le_refl _)⟩,hd σ H p⟩
end
end L2
namespace L2
open PySem PySem.Spec PySem.Calls PyProof.Rows PySem.W
section
variable {X:Cx}
inductive aDz (K:Frag) (r:Bool) (x y:V) (H:Hp) (Q:VK):Prop
 | nn (h0_:x=.non) (h1_:y=.non) (h2_:Q (.bl r) H)
 | tt (a b:Addr) (ss:List Str) (h0_:x=.ref a) (h1_:y=.ref b) (h2_:SqT K H a (ss.map V.str)) (h3_:SqT K H b (ss.map V.str)) (h4_:Q (.bl r) H)
theorem aDv {ss:List Str}{n:Nat}:(List.range n).all (fun j=>decide (ss[j]?=ss[j]?))=true:=List.all_eq_true.mpr fun _ _=>decide_eq_true rfl
theorem aKe (hu:X.A.units<cLine):OpR X (compareOp .NotEq) (aDz X.K false):=by
 intro pins s σ H x y v u Q I rx ry h;rcases h with⟨rfl,rfl,q⟩ | ⟨a,b,ss,rfl,rfl,ha,hb,q⟩
 ·cases rx;cases ry;exact SeqAt.RcNeAt.none_none X.prog X.w X.xe _ ⟨.bl false,H,I,rfl,q⟩
 ·cases rx;cases ry;obtain⟨us,r1,p1,_⟩:=I.tuple ha;obtain⟨ws,r2,p2,_⟩:=I.tuple hb;have l1:=r1.length;have l2:=r2.length;refine SeqAt.RcNeAt.tuples p1 p2 hu (tD r1 r2 rfl) X.prog X.w X.xe _ ⟨.bl false,H,I,?_,q⟩;rw[aDv,List.size_toArray,List.size_toArray,← l1,← l2]
  simp
  rfl
inductive aOu (K:Frag) (x y:V) (H:Hp) (Q:VK):Prop
 | mk (a:Addr) (os:List (Option Str)) (h0_:x=.non) (h1_:y=.ref a) (h2_:SqL K H a (os.map fun o=>(o.map V.str).getD .non)) (h3_:Q (.bl (os.any fun o=>o.isNone)) H)
theorem qU {us:List Value}:∀ {os:List (Option Str)},cA (os.map fun o=>(o.map V.str).getD .non) us->us.any (fun v=>v==.none)=os.any fun o=>o.isNone
 | [],r=>by cases r; rfl
 | o::os,r=>by
  cases r with
  | cons r1 r2=>
   rw[List.any_cons,List.any_cons,qU r2];cases o with
   | none=>cases r1; rfl
   | some z=>obtain⟨t,rfl⟩:=r1; rfl
theorem aKf:OpR X (compareOp .In) (aOu X.K):=by
 intro pins s σ H x y v u Q I rx ry h;obtain⟨a,os,rfl,rfl,ha,q⟩:=h;cases rx;cases ry;obtain⟨us,r1,p1,_⟩:=I.list ha;refine SeqAt.in_listAt (fun y=>y==.none) p1.isList (fun y hy=>?_) ⟨.bl (os.any fun o=>o.isNone),H,I,?_,q⟩
 ·obtain⟨i,hi⟩:=List.getElem?_of_mem (show y∈us by simpa using hy);have l1:=r1.length;have li:i<us.length:=(List.getElem?_eq_some_iff.mp hi).1;rw[List.length_map] at l1;have hoi:os[i]?=some os[i]:=List.getElem?_eq_getElem (by omega);obtain⟨u',e',ru⟩:=r1.get (i:=i) (x:=(os[i].map V.str).getD .non) (by rw[List.getElem?_map,hoi]; rfl);rw[hi] at e';cases e';cases ho:os[i] with
  | none=>rw[ho] at ru; cases ru; exact SeqAt.EqAt.same _
  | some z=>
   rw[ho] at ru;obtain⟨t,rfl⟩:=ru;exact SeqAt.EqAt.str_none z t
 ·show Value.bool _=Value.bool _;rw[← qU r1]
  simp
section
variable {prog:Program}{w:World}{A:Around}{E:Value->Shared->Prop}{s:Shared}
end
end
end L2
namespace L2
open PySem PySem.Spec PySem.Calls PyProof.Rows PySem.W
section
variable {P:Program}{w:World}{A:Around}{R:Result->Shared->Prop}
end
section
variable {X:Cx}
end
end L2
namespace L2
open PySem PySem.Spec PySem.Calls PyProof.Rows PySem.W
section
variable {X:Cx}
end
end L2
namespace L2
open PySem PySem.Spec PySem.Calls PyProof.Rows PySem.W
def Kp (fr fr':List Addr) (H H':Hp) (h h':Heap):Prop:=∀ b o,h.get? b=some o->H b=none->b∉fr->h'.get? b=some o∧H' b=none∧b∉fr'
theorem Kp.trans {f1 f2 f3:List Addr}{H1 H2 H3:Hp}{h1 h2 h3:Heap}(a:Kp f1 f2 H1 H2 h1 h2) (b:Kp f2 f3 H2 H3 h2 h3):Kp f1 f3 H1 H3 h1 h3:=fun c o e n f=>let ⟨x,y,z⟩:=a c o e n f; b c o x y z
structure mX (P:Program) (w:World) (K:Frag) (mg:Str->Option Value) (base:Heap) (k:Nat) (f:Addr) (sp:Sp) (outer:List Env) (s:Shared) (H:Hp):Prop where
 run:∀ (A:Around) (outer':List Env) (s':Shared) (H':Hp) (us:List Value) (vs:List V) (Q:VK) (E:XK),cO k A->sN P w K mg base A outer' s' H'->Kp (frs outer) (frs outer') H H' s.heap s'.heap->cA vs us->sp vs H' Q E ->
  codeAny (model P w) A (.call (.ref f) ⟨us,[]⟩) (CR (CXE P w) outer' P w H' s' Q E) s'
 fn:∀ (outer':List Env) (s':Shared) (H':Hp),Kp (frs outer) (frs outer') H H' s.heap s'.heap->FnAt f s'.heap
theorem mX.later {P:Program}{w:World}{K:Frag}{mg:Str->Option Value}{base:Heap}{k:Nat}{f:Addr}{sp:Sp}{outer outer':List Env}{s s':Shared}{H H':Hp}(h:mX P w K mg base k f sp outer s H)
  (kp:Kp (frs outer) (frs outer') H H' s.heap s'.heap):mX P w K mg base k f sp outer' s' H':=
 ⟨fun A o2 s2 H2 us vs Q E hr e0 k2=>h.run A o2 s2 H2 us vs Q E hr e0 (kp.trans k2),fun o2 s2 H2 k2=>h.fn o2 s2 H2 (kp.trans k2)⟩
section
variable {P:Program}{w:World}{K:Frag}{mg:Str->Option Value}{base:Heap}
theorem aIy {CX:CXT}{N:List Str}{qual:Str}{scope:Scope}{f:Addr}{cd:Value}{A:Around}{outer:List Env}{s s':Shared}{H H':Hp}{E:XK}{pins:List (Addr×Obj)}{σ:St}(I:Inv (iB CX P w K mg base N qual scope f cd A outer s H E) pins σ H' s') :
  Kp (frs outer) (frs (iB CX P w K mg base N qual scope f cd A outer s H E).stack) H H' s.heap s'.heap:=fun b o e n hb=>
 ⟨I.base.keep b o e n hb (by show b∉([]:List Addr); simp),I.base.free b o e n (by show b∉([]:List Addr); simp),fun z=>by
  rcases List.mem_cons.mp (show b∈s.heap.objs.size::frs outer from z) with z | z
  ·exact absurd (Heap.lt_size e) (by rw[z]; exact Nat.lt_irrefl _)
  ·exact hb z⟩
abbrev SpS:=List Env->Shared->List V->Hp->VK->XK->Prop
structure sL (P:Program) (w:World) (K:Frag) (mg:Str->Option Value) (base:Heap) (k:Nat) (f:Addr) (fd:FuncData) (ps:List Str) (sp:SpS):Prop where
 len:∀ o s vs H Q E,sp o s vs H Q E->vs.length=ps.length
 run:∀ (A:Around) (outer:List Env) (s:Shared) (H:Hp) (args:Args) (us:List Value) (vs:List V) (Q:VK) (E:XK),cO k A->sN P w K mg base A outer s H->BindsTo s fd args (ps.zip us)->cA vs us->sp outer s vs H Q E ->
  codeAny (model P w) A (.call (.ref f) args) (CR (CXE P w) outer P w H s Q E) s
theorem okS {x qual:Str}{st:Stmt}{f:Addr}{fd:FuncData}{N ps:List Str}{k:Nat}{sp:SpS}(F:Fun K x qual st f fd) (S:aR N ps (aB st)) (len:∀ o s vs H Q E,sp o s vs H Q E->vs.length=ps.length)
  (hbody:∀ (cdv:Value) (A:Around) (outer:List Env) (s:Shared) (H:Hp) (vs:List V) (Q:VK) (E:XK),cO k (A.deeper (envOfC qual (aB st) s.heap.objs.size f cdv))->sp outer s vs H Q E ->
   (iB (CXE P w) P w K mg base N qual (aB st) f cdv A outer s H E).Body E ->
   ∃ t,PSs (iB (CXE P w) P w K mg base N qual (aB st) f cdv A outer s H E) (aF st) t∧t { nx:=fun _ H'=>Q .non H',rt:=Q } (iD N vs) H):sL P w K mg base (k+1) f fd ps sp:=
 ⟨len,fun A outer s H args us vs Q E hr e0 hb hv hs=>aKz F S hr e0 hb (len _ _ _ _ _ _ hs) hv fun cdv hr2=>hbody cdv A outer s H vs Q E hr2 hs qL⟩
end
section
variable {X:Cx}
theorem sG {pins:List (Addr×Obj)}{σ:St}{H:Hp}{s:Shared}{Q:VK}{E:XK}{f:Addr}{us:List Value}(I:Inv X pins σ H s) (hx:eZ (CXE X.prog X.w) X E)
  (hc:codeAny (model X.prog X.w) X.A (.call (.ref f) ⟨us,[]⟩) (CR (CXE X.prog X.w) X.stack X.prog X.w H s Q E) s):wpAny (model X.prog X.w) X.A (call (.ref f) us) (EP X pins σ Q) X.xe s:=by
 refine wpAny_call (codeAny_mono hc fun r s' hq'=>?_);cases r with
 | error e=>exact hx pins σ H s e s' I hq'
 | ok fl=>
  cases fl with
  | ret u=>exact I.after hq'
  | next=>exact False.elim hq'
  | brk=>exact False.elim hq'
  | cont=>exact False.elim hq'
inductive aGn (i:Nat) (f:Addr) (sp:Sp) (E:XK) (te:TE) (σ:St) (H:Hp) (Q:VK):Prop
 | mk (h0_:σ[i]?=some (some (.ref f))) (h1_:te σ H fun v H1=>sp [v] H1 Q E)
theorem aBp {x:Str}{p pos:Pos}{i k:Nat}{f:Addr}{sp:Sp}{E:XK}{e:Expr}{te:TE}(hN:X.N[i]?=some x) (hv:X.env.scope.names.lookup x=some .local) (hx:eZ (CXE X.prog X.w) X E) (hr:cO k X.A)
  (hd:∀ pins σ H s,Inv X pins σ H s->mX X.prog X.w X.K X.mg X.base k f sp X.stack s H) (he:PE X e te) (hp:pN e=false:=by rfl) (h1:(x==("__debug__" : Str))=false:=by decide) (h2:(x==("__classdict__" : Str))=false:=by decide) :
  PE X (.Call (.Name x p) [e] [] pos) (aGn i f sp E te):=by
 intro pins s σ H Q I h;obtain⟨h0,h3⟩:=h;refine wpAny_Call_Name_kw (thn (aEf hN (.inl hv) h1 h2 pins s σ H (fun v H'=>v=.ref f∧H'=H) I ⟨_,h0,rfl,rfl⟩) fun u s1 h4=>?_);obtain⟨v,H',I1,r1,rfl,rfl⟩:=h4;cases r1;have kr:∀ {s2:Shared}{H2:Hp},Kp (frs X.stack) (frs X.stack) H2 H2 s2.heap s2.heap:=fun b o e n hb=>⟨e,n,hb⟩;refine callWith_F ((hd _ _ _ _ I1).fn _ s1 H' kr) (thn ((pac he aJ hp:PA X [e] _) pos pins s1 σ H' (fun vs H1=>sp vs H1 Q E) I1 h3) fun us s2 ⟨vs,H2,I2,r,q⟩=>⟨(hd _ _ _ _ I2).fn _ s2 H2 kr,?_⟩) (cW hp) rfl;exact sG I2 hx ((hd _ _ _ _ I2).run X.A X.stack s2 H2 us vs Q E hr I2.env0 kr r q)
end
structure aGd (scope:Scope) (x:Str) (NL:List Str):Prop where
 kind:scope.kind=.function
 co:scope.isCoroutine=false
 gen:scope.isGenerator=false
 cell:∀ x∈scope.names,x.2≠.cell
 loc:scope.names.lookup x=some .local
 nl:∀ x∈NL,scope.names.lookup x=some .free
def aHy (P:Program) (w:World) (K:Frag) (mg:Str->Option Value) (base:Heap) (A:Around) (outer:List Env) (q:Str) (scope:Scope) (f c':Addr) (cl:List (Str×Addr)) (s:Shared) (H:Hp) (N:List Str) (E:XK):Cx where
 prog:=P
 w:=w
 K:=K
 mg:=mg
 base:=base
 A:=A.deeper (envX q scope s.heap.objs.size f (.ref c') cl)
 N:=N
 s₀:=s
 H₀:=H
 env:=envX q scope s.heap.objs.size f (.ref c') cl
 outer:=outer
 stack:=envX q scope s.heap.objs.size f (.ref c') cl::outer
 ex:=[]
 fn:=fun _=>false
 calm:=true
 pn:=[]
 xe:=fun e s'=>wpAny (model P w) (A.deeper (envX q scope s.heap.objs.size f (.ref c') cl)) (leaving (envX q scope s.heap.objs.size f (.ref c') cl) e) (fun _ s''=>CXE P w outer H s E e s'') (fun e' s''=>CXE P w outer H s E e' s'') s'
section
variable {P:Program}{w:World}{K:Frag}{mg:Str->Option Value}{base:Heap}{A:Around}{outer:List Env}{q:Str}{scope:Scope}{f c':Addr}{cl:List (Str×Addr)}{H:Hp}{s:Shared}{NL:List Str}{E:XK}
theorem aFl {σL:St}{k:Nat}{params:Arguments}{body:Expr}{te:TE}{Q:VK}{x:Str}{v:V}{u:Value}(e0:sN P w K mg base A outer s H) (L:xV s.heap H (frs outer) f c' q params body scope cl NL σL) (S:aGd scope x NL) (hc:∀ x,scope.names.lookup x=some .free->∃ a,cl.lookup x=some a) (hr:cO (k+1) A)
  (hba:∀ pm ctv,bindArgs (kla_fn "<lambda>" q params body scope cl pm (.ref c') ctv) ⟨[u],[]⟩=pure [(x,u)]) (rv:cG v u) (hb:PE (aHy P w K mg base A outer q scope f c' cl s H (x::NL) E) body te) (hq:te (some v::σL) H Q) :
  codeAny (model P w) A (.call (.ref f) ⟨[u],[]⟩) (CR (CXE P w) outer P w H s Q E) s:=by
 obtain⟨pm,ctv,ho⟩:=L.fn;obtain⟨⟨oc,vs,t,e1,e2,e3⟩,_,_⟩:=(show dA P w H s.heap c' (.ext (fO c' q)) from e0.hok c' _ L.code)
 refine kla_callFunE hr.depth ho rfl S.co S.gen rfl ⟨c',oc,vs,t,rfl,e1,e2,e3⟩ ?_;rw[hba];refine wpAny_pure (wpAny_newFunctionEnv S.cell (by intro y hy; rw[List.mem_singleton.mp hy]; exact S.loc) (fun h₁ hns hsb=>?_) S.kind);have hk:∀ b o,s.heap.get? b=some o->h₁.get? b=some o:=fun b o e=>hsb.extBut b o (Nat.ne_of_lt (Heap.lt_size e)) (Heap.get?_push_of_some _ e);have lim:s.heap.NoLimit:=e0.mod.nolimit.keeps fun b o e=>(e0.bs b o e).1;refine⟨lim.keeps hk,?_⟩;have kc:∀ a v,s.heap.IsCell a v->h₁.IsCell a v:=fun a v ⟨o,h1,h2⟩=>⟨o,hk a o h1,h2⟩
 have J:Inv (aHy P w K mg base A outer q scope f c' cl s H (x::NL) E) [] (some v::σL) H { s with heap:=h₁,toks:=s.toks+([(x,u)]:List (Str×Value)).length }:=by
  refine⟨⟨e0.mod,S.kind,rfl,rfl,Nat.le_refl _,L.inj,fun x hx=>?_,fun x c z _=>absurd z (by show ¬ false=true; decide),fun _=>hr.hd,Around.frames_deeper e0.frames,.inr ⟨rfl,rfl⟩,fun b z=>absurd (show b∈([]:List Addr) from z) (by simp),e0.bs,e0.bsz,
   fun b _ _ z=>absurd (show b∈([]:List Addr) from z) (by simp),fun b z=>absurd (show b∈([]:List Addr) from z) (by simp),e0.funs,e0.frf⟩,
   rfl,e0.bare,Un.kept hk,⟨_,hns,fun i y v' h1 h2 h3=>?_⟩,fun x c e=>?_,e0.hok.fresh (Nat.le_refl _),fun x c e=>(L.cell x c e).2.1,fun p hp=>absurd (show p∈([]:List (Addr×Obj)) from hp) (by simp),e0.hok.kept hk,by show (some v::σL).length=(x::NL).length; rw[List.length_cons,List.length_cons,L.len]⟩
  ·have hx:scope.names.lookup x=some .cell∨scope.names.lookup x=some .free:=hx;rcases hx with hx | hx
   ·exact absurd rfl (S.cell _ (PySem.mem_of_lookup hx))
   ·exact hc x hx
  ·cases i with
   | zero=>
    have h1:(x::NL)[0]?=some y:=h1;cases h1;cases h2;exact⟨u,rv,.inl ⟨S.loc,by simp⟩⟩
   | succ i=>
    have h1:NL[i]?=some y:=by simpa using (show (x::NL)[i+1]?=some y from h1)
    obtain⟨a,u',hx,r,hc'⟩:=L.val i y v' h1 (by simpa using h2);exact⟨u',r,.inr ⟨.inr (S.nl y (List.mem_of_getElem? h1)),a,hx,kc a _ hc'⟩⟩
  ·obtain⟨⟨v,hv⟩,_⟩:=L.cell x c e;exact⟨v,kc c v hv⟩
 show codeAny _ _ (.expr body (envX q scope s.heap.objs.size f (.ref c') cl)) _ _;refine kla_codeExpr (wpAny_mono (hb [] _ _ H Q J hq) (fun v s' ⟨x,H',J',r,q'⟩=>?_) fun e s' h=>h);exact⟨x,H',J'.os,J'.bare,J'.base,J'.hok,r,q'⟩
end
end L2
namespace L2
open PySem PySem.Spec PySem.Calls PyProof.Rows PySem.W
theorem xV.kp {h h':Heap}{H H':Hp}{fr fr':List Addr}{f c':Addr}{q:Str}{params:Arguments}{body:Expr}{scope:Scope}{cl:List (Str×Addr)}{NL:List Str}{σL:St}(L:xV h H fr f c' q params body scope cl NL σL)
  (k:Kp fr fr' H H' h h') (hc:H' c'=some (.ext (fO c' q))):xV h' H' fr' f c' q params body scope cl NL σL:=by
 obtain⟨pm,ctv,e⟩:=L.fn;obtain⟨k1,k2,k3⟩:=k _ _ e L.fH L.ff;have kc:∀ x a,cl.lookup x=some a->∀ v,h.IsCell a v->h'.IsCell a v:=fun x a hx v ⟨o,ho,hd⟩=>⟨o,(k a o ho (L.cell x a hx).2.1 (L.cell x a hx).2.2).1,hd⟩;refine⟨⟨pm,ctv,k1⟩,k2,k3,hc,L.inj,fun x a hx=>?_,fun i x v h1 h2=>?_,L.len⟩
 ·obtain⟨⟨v,hv⟩,h1,h2⟩:=L.cell x a hx;obtain⟨o,ho,_⟩:=id hv;exact⟨⟨v,kc x a hx v hv⟩,(k a o ho h1 h2).2.1,(k a o ho h1 h2).2.2⟩
 ·obtain⟨a,u,hx,r,hc⟩:=L.val i x v h1 h2;exact⟨a,u,hx,r,kc x a hx _ hc⟩
inductive aDr (c':Addr) (q:Str) (te:XK->TE) (σL:St) (vs:List V) (H:Hp) (Q:VK) (E:XK):Prop
 | mk (v:V) (h0_:vs=[v]) (h1_:H c'=some (.ext (fO c' q))) (h2_:te E (some v::σL) H Q)
inductive SpH (P:Program) (w:World) (K:Frag) (mg:Str->Option Value) (base:Heap) (kd:Nat) (spC:Addr->Sp->Sp) (outer:List Env) (s:Shared) (vs:List V) (H:Hp) (Q:VK) (E:XK):Prop
 | mk (df:Addr) (spD:Sp) (h0_:mX P w K mg base kd df spD outer s H) (h1_:spC df spD vs H Q E)
inductive aGe (P:Addr) (pos:Pos) (q:Str) (R:Addr->Hp->Prop) (H:Hp):Prop
 | made (ps:_) (h0_:H P=some (.tbl ps)) (h1_:TriplesOk ps.toList) (h2_:codeAmong pos ps.toList=none) (h3_:∀ c' H1,H c'=none->c'≠P->H1=upd (upd H P (.tbl (ps++#[rawInt pos.line,rawInt pos.col,.ref c']))) c' (.ext (fO c' q))->R c' H1)
 | hit (ps:_) (c':Addr) (h0_:H P=some (.tbl ps)) (h1_:TriplesOk ps.toList) (h2_:codeAmong pos ps.toList=some (.ref c')) (h3_:H c'=some (.ext (fO c' q))) (h4_:R c' H)
def aLp (P:Addr) (pos:Pos) (q:Str) (spC:Addr->Sp->Sp) (js:List Nat) (te:XK->TE) (t1:TE) (v3:V) (E:XK):TE:=fun σ H Q=>t1 σ H fun v1 H1=>aGe P pos q (fun c' H2=>∀ f,spC f (aDr c' q te (dO 0 js σ)) [v1,.ref f,v3] H2 Q E) H1
section
variable {X:Cx}
theorem aHb {f c P:Addr}{fd:FuncData}{ps:List Str}{g y x:Str}{params:Arguments}{body e1:Expr}{scope:Scope}{lpos p p3 pos:Pos}{NL:List Str}{js:List Nat}{te:XK->TE}{t1:TE}{v3:V}{u3:Value}{k kd:Nat}{spC:Addr->Sp->Sp}{E:XK}
  (F:sL X.prog X.w X.K X.mg X.base k f fd ps (SpH X.prog X.w X.K X.mg X.base (kd+1) spC)) (hr:cO k X.A) (hg:Gl X g) (hm:X.mg g=some (.ref f)) (hk:keepIn X.K (.ref f)=true) (hbi:aU X.K fd ps []) (hx:eZ (CXE X.prog X.w) X E)
  (hfn:∀ x,X.fn x=true) (hcode:X.env.code=.ref c) (hcd:codeHdIn X.K c P=true) (bm:oG X.mg X.base)
  (S:aGd scope x NL) (B:iW X scope NL 0 js) (hdef:defaultsOf params X.env=([],[])) (hba:∀ cl pm c' ctv u,bindArgs (kla_fn "<lambda>" (X.env.qual++"<lambda>") params body scope cl pm (.ref c') ctv) ⟨[u],[]⟩=pure [(x,u)])
  (hb:∀ (Ew:XK) A outer f c' cl s' H',cO kd (aHy X.prog X.w X.K X.mg X.base A outer (X.env.qual++"<lambda>") scope f c' cl s' H' (x::NL) Ew).A ->
   PE (aHy X.prog X.w X.K X.mg X.base A outer (X.env.qual++"<lambda>") scope f c' cl s' H' (x::NL) Ew) body (te Ew))
  (h1:PE X e1 t1) (hg3:Gl X y) (hm3:X.mg y=some u3) (r3:cG v3 u3) (hs1:pN e1=false:=by rfl) (hdb:(g==("__debug__" : Str))=false:=by decide) (hdb3:(y==("__debug__" : Str))=false:=by decide) :
  PE X (.Call (.Name g p) [e1,.Lambda params body scope lpos,.Name y p3] [] pos) (aLp P lpos (X.env.qual++"<lambda>") spC js te t1 v3 E):=by
 intro pins s0 σ H0 Q I0 h;refine wpAny_Call_Name_kw (iJ I0 hg hm ?_ hdb);refine callWith_K (h₀:=X.base) I0.ok.mod.kin hk ?_ (cW hs1) rfl;rw[cW hs1,cW rfl,cW rfl];show wpAny _ _ (spliced ((false,eval e1 X.env)::(false,eval (.Lambda params body scope lpos) X.env)::(false,eval (.Name y p3) X.env)::backTo pos (starEach [] X.env))) _ _ s0;refine Calls.spliced_cons (thn (h1 pins s0 σ H0 _ I0 h) fun u1 s ⟨v1,H,I,r1,hq⟩=>?_)
 have fin:∀ (fl c':Addr) (H1:Hp) (s1:Shared) (pm ctv:Value),Inv X pins σ H1 s1->(∀ f,spC f (aDr c' (X.env.qual++"<lambda>") te (dO 0 js σ)) [v1,.ref f,v3] H1 Q E)->s.heap.objs.size<=fl->H1 fl=none->H1 c'=some (.ext (fO c' (X.env.qual++"<lambda>"))) ->
   (∀ b o,s.heap.get? b=some o->H b=none->s1.heap.get? b=some o∧H1 b=none)->s1.heap.get? fl=some (kla_obj "<lambda>" (X.env.qual++"<lambda>") params body scope (eY scope X.env) pm c' ctv) ->
   wpAny (model X.prog X.w) X.A (spliced ((false,eval (.Name y p3) X.env)::backTo pos (starEach [] X.env))) (fun vs s₁=>X.K.In s₁.heap∧wpAny (model X.prog X.w) X.A (call (.ref f) ([]++([u1]++([Value.ref fl]++vs)))) (EP X pins σ Q) X.xe s₁) X.xe s1:=by
  intro fl c' H1 s1 pm ctv I1 hsp hsf hfH hcx hold hfo;refine Calls.spliced_cons (iJ I1 hg3 hm3 ?_ hdb3);refine Calls.spliced_nil ⟨I1.kIn,?_⟩;have hcl:∀ n∈dZ scope,∃ a,X.env.cells.lookup n=some a:=fun n hn=>I.ok.has n (B.cel n hn);have cl1:∀ x a,(eY scope X.env).lookup x=some a->X.env.cells.lookup x=some a:=kS (dZ scope) [] hcl fun x a e=>by simp at e
  have hfree:∀ x,scope.names.lookup x=some .free->x∈dZ scope:=fun x e=>List.mem_map.mpr ⟨(x,.free),List.mem_filter.mpr ⟨PySem.mem_of_lookup e,by simp⟩,rfl⟩
  have stkLt:∀ b∈frs X.stack,b<s.heap.objs.size:=fun b hb=>by
   obtain⟨_,o,ho,_⟩:=I.stack.mem hb;exact Heap.lt_size ho
  have hcell:∀ x a,X.env.cells.lookup x=some a->a∉frs X.stack:=fun x a e z=>by
   rcases List.mem_cons.mp (I.stkSub a z) with z | z
   ·exact I.cne x a e z
   ·obtain⟨_,o,ho,_⟩:=I.ok.funs.mem z;exact absurd (Nat.lt_of_lt_of_le (Heap.lt_size ho) (I.ok.cab x a (hfn x) e)) (Nat.lt_irrefl _)
  have L1:xV s1.heap H1 (frs X.stack) fl c' (X.env.qual++"<lambda>") params body scope (eY scope X.env) NL (dO 0 js σ):=by
   refine⟨⟨pm,ctv,hfo⟩,hfH,fun z=>absurd (Nat.lt_of_lt_of_le (stkLt fl z) hsf) (Nat.lt_irrefl _),hcx,fun x y a e1 e2=>I.ok.inj x y a (cl1 x a e1) (cl1 y a e2),fun x a e=>?_,fun i x v e1 e2=>?_,?_⟩
   ·have e':=cl1 x a e;obtain⟨v,o,ho,hd⟩:=I.cell x a e';obtain⟨k1,k2⟩:=hold a o ho (I.freeC x a e');exact⟨⟨v,o,k1,hd⟩,k2,hcell x a e'⟩
   ·unfold dO at e2;rw[List.replicate_zero,List.nil_append,List.getElem?_map] at e2;cases hj:js[i]? with
    | none=>rw[hj] at e2; cases e2
    | some j=>
     rw[hj] at e2;have e2:some ((σ[j]?).join)=some (some v):=e2
     have e3:σ[j]?=some (some v):=by
      cases z:σ[j]? with
      | none=>rw[z] at e2; cases e2
      | some y=>rw[z] at e2; cases y with
       | none=>cases e2
       | some y=>cases e2; rfl
     have e4:X.N[j]?=some x:=by rw[B.at' i j hj,Nat.zero_add]; exact e1
     obtain⟨hfr,_⟩:=B.fre i x (Nat.zero_le _) e1;have kx:=B.cel x hfr;obtain⟨m,hm,hl⟩:=I.loc;obtain⟨u,r,l⟩:=hl j x v e4 e3 (by rcases kx with z | z; exact .inr (.inl z); exact .inr (.inr z));rcases l with⟨kk,_⟩ | ⟨kk,a,ea,o,ho,hd⟩
     ·rcases kx with k' | k' <;> rw[kk] at k' <;> cases k'
     ·obtain⟨a',ha'⟩:=kT (env:=X.env) (dZ scope) [] x (.inl hfr)
      have:=cl1 x a' ha'
      rw[ea] at this;cases this;exact⟨a,u,ha',r,o,(hold a o ho (I.freeC x a ea)).1,hd⟩
   ·unfold dO;rw[List.replicate_zero,List.nil_append,List.length_map,B.len,Nat.zero_add]
  have hc:∀ x,scope.names.lookup x=some .free->∃ a,(eY scope X.env).lookup x=some a:=fun x e=>kT (env:=X.env) (dZ scope) [] x (.inl (hfree x e))
  have hd:mX X.prog X.w X.K X.mg X.base (kd+1) fl (aDr c' (X.env.qual++"<lambda>") te (dO 0 js σ)) X.stack s1 H1:=by
   refine⟨fun A outer' s' H' us vs Q' E' hr' e0 kp hv hsl=>?_,fun outer' s' H' kp=>?_⟩
   ·obtain⟨v,rfl,hc',hte⟩:=hsl;obtain⟨u,rfl,rv⟩:=jR hv;exact aFl (k:=kd) (E:=E') e0 (L1.kp kp hc') S hc hr' (fun pm ctv=>hba _ pm c' ctv u) rv (hb E' A outer' fl c' _ s' H' (hr'.deeper _)) hte
   ·exact⟨_,_,_,_,(kp _ _ hfo L1.fH L1.ff).1⟩
  have sp1:SpH X.prog X.w X.K X.mg X.base (kd+1) spC X.stack s1 [v1,.ref fl,v3] H1 Q E:=⟨fl,_,hd,hsp fl⟩;have hl:[u1,.ref fl,u3].length=ps.length:=F.len _ _ _ _ _ _ sp1
  have bt:BindsTo s1 fd ⟨[u1,.ref fl,u3],[]⟩ (ps.zip [u1,.ref fl,u3]):=by
   have:=hbi s1 [u1,.ref fl,u3] I1.kIn (by rw[List.append_nil]; exact hl)
   rw[List.append_nil] at this;exact this
  exact sG I1 hx (F.run X.A X.stack s1 H1 _ _ _ Q E hr I1.env0 bt (.cons r1 (.cons (show cG (.ref fl) (.ref fl) from rfl) (.cons r3 .nil))) sp1)
 cases hq with
 | made ps hP ht hnf hte=>
  refine Calls.spliced_cons (aFm I hcode hcd bm hP ht hnf hdef B.cel fun fl c' pm ctv s1 I1 hc0 hcP hcf hcs hold hfo=>?_);have hPs:P<s.heap.objs.size:=I.hok.lt hP;have hsf:s.heap.objs.size<=fl:=Nat.le_trans hcs (Nat.le_of_lt hcf);refine fin fl c' _ s1 pm ctv I1 (hte c' _ hc0 hcP rfl) hsf ?_ aE (fun b o e n=>?_) hfo
  ·rw[aH (Nat.ne_of_gt hcf),aH (Nat.ne_of_gt (Nat.lt_of_lt_of_le hPs hsf))];exact I.hok.fresh hsf
  ·have nP:b≠P:=fun z=>by rw[z,hP] at n; cases n
   exact⟨hold b o nP e,by rw[aH (Nat.ne_of_lt (Nat.lt_of_lt_of_le (Heap.lt_size e) hcs)),aH nP]; exact n⟩
 | hit ps c' hP ht hf hcx hR=>
  refine Calls.spliced_cons (aHl I hcode hcd bm hP ht hf hdef B.cel fun fl pm ctv s1 I1 hsf hold hfo=>?_);exact fin fl c' H s1 pm ctv I1 hR hsf (I.hok.fresh hsf) hcx (fun b o e n=>⟨hold b o e,n⟩) hfo
end
end L2
namespace L2
open PySem PySem.Spec PySem.Calls PyProof.Rows PySem.W
def lU (d:Addr) (es:Array DictEntry) (ep:Nat) (h:Heap):Prop:=∃ o,h.get? d=some o∧o.ExactDict∧o.data=.dict es ep
section
variable {prog:Program}{w:World}{A:Around}{E:Value->Shared->Prop}{s:Shared}{d:Addr}{es:Array DictEntry}{ep:Nat}
theorem lU.ty (x:lU d es ep s.heap):s.TypeIs (.ref d) "dict":=let ⟨o,a,b,_⟩:=x; ⟨o,a,b.1⟩
theorem lU.to {h h':Heap}(x:lU d es ep h) (k:∀ o,h.get? d=some o->h'.get? d=some o):lU d es ep h':=let ⟨o,a,b⟩:=x; ⟨o,k o a,b⟩
theorem xK {Q:Value->Shared->Prop}(lo:(d==sysModules)=false) (x:lU d es ep s.heap)
  (q:Q (.ref s.heap.objs.size) { s with heap:=s.heap.push { cls:=.type "dict_keyiterator",data:=.fields #[.ref d,.int 0 0,.int es.size 0,.int ep 0] } }):wpAny (model prog w) A (pyIter (.ref d)) Q E s:=by
 obtain⟨od,e1,e2,e3⟩:=id x;refine wpAny_pyIter_slot x.ty F.slot_dict_iter (wpAny_call_entry F.slot_dict_iter x.ty F.entry_dict_iter ?_ (F.args_dict_iter_1 _)); unfold Builtin.«dict.__iter__»; refine wpAny_bind ?_;unfold Builtin.Dict.dictSlotNone; refine wpAny_bind (wpAny_notOrdered_dict x.ty ?_); show wpAny _ _ (pure (Value.ref d)) _ _ s;refine wpAny_pure ?_; show wpAny _ _ (Builtin.Dict.showsAll d>>=_) _ _ s;unfold Builtin.Dict.showsAll; rw[if_neg (by rw[lo]; exact Bool.false_ne_true)];refine wpAny_bind (wpAny_pure ?_); refine wpAny_bind (wpAny_dictEntries e1 e3 ?_); refine wpAny_bind (wpAny_dictEpoch e1 e3 ?_);refine wpAny_bind (wpAny_newObj_type (wpAny_pure ⟨_,rfl,"dict_keyiterator",_,⟨_,Heap.get?_push_size _ rfl,rfl⟩,F.slot_dict_keyiterator_next.lookup,?_⟩)); simpa [rawInt] using q
theorem nW {it:Addr}{i:Nat}{Q:Option Value->Shared->Prop}(hh:A.handled=none) (ht:s.heap.IsKeyIter it d i es.size ep) (x:lU d es ep s.heap)
  (q1:∀ e h',es[i]?=some e->h'.IsKeyIter it d (i+1) es.size ep->Heap.SameBut it s.heap h'->Q (some e.key) { s with heap:=h' })
  (q2:∀ h',es[i]?=none->Heap.ExtBut it s.heap h'->Q none { s with heap:=h' }):wpAny (model prog w) A (pyNext (.ref it)) Q E s:=by
 obtain⟨oi,i1,i2,i3⟩:=id ht;obtain⟨od,e1,e2,e3⟩:=id x;have tyI:=ht.typeIs;unfold pyNext; refine wpAny_bind (wpAny_attempt (wpAny_callSpecial?_slot (name:=Str.ofString "__next__") tyI F.slot_dict_keyiterator_next (wpAny_call_entry F.slot_dict_keyiterator_next tyI F.entry_dict_keyiterator_next ?_ (F.args_dict_keyiterator_next_1 _))));refine wpAny_bind (wpAny_pure ?_); refine wpAny_bind ?_; refine wpAny_bind ?_
 first | refine wpAny_bind (wpAny_typeNameOfWhole_keyiter tyI (wpAny_pure ?_)) | refine wpAny_bind (wpAny_typeNameOf_keyiter tyI (wpAny_pure ?_))
 refine wpAny_bind (wpAny_fieldsOf i1 i3 ?_); have ow:Builtin.Dict_items.ownsTuple "dict_keyiterator"=false:=by decide
 simp only[ow,Bool.false_eq_true,if_false]; show wpAny _ _ (if (Value.ref d==Value.none)=true then _ else _) _ _ s
 rw[if_neg (show ¬ ((Value.ref d==Value.none)=true) from Bool.false_ne_true)]; refine wpAny_bind (wpAny_pure ?_); refine wpAny_bind (wpAny_dictEntries e1 e3 ?_)
 rw[if_neg (by simp)]; refine wpAny_bind (wpAny_pure ?_); refine wpAny_bind (wpAny_dictEpoch e1 e3 ?_); rw[if_neg (by simp)]; refine wpAny_pure ?_
 by_cases hl:i<es.size
 ·simp only[show ¬ ((i:Int)<0) from by omega,if_false,Int.toNat_natCast,Array.getElem?_eq_getElem hl]; refine wpAny_bind ?_
  first | refine wpAny_bind (wpAny_typeNameOfWhole_keyiter tyI (wpAny_pure ?_)) | refine wpAny_bind (wpAny_typeNameOf_keyiter tyI (wpAny_pure ?_))
  refine wpAny_bind (wpAny_isOneOf_keyiter tyI ?_); show wpAny _ _ (setField (.ref it) 1 (rawInt ((i:Int)+1))>>=_) _ _ s
  refine wpAny_bind (wpAny_setField i1 i3 (by simp) ?_); have nx:(s.heap.update it (Obj.mapFields (·.setIfInBounds 1 (rawInt ((i:Int)+1))))).IsKeyIter it d (i+1) es.size ep:=
   ⟨_,Heap.get?_update_self _ i1 (Obj.isFreed_of_fields (Obj.data_mapFields i3 _)),(Obj.cls_mapFields ..).trans i2,by rw[Obj.data_mapFields i3]; simp[rawInt]⟩
  refine wpAny_bind (wpAny_holding ?_); refine wpAny_bind (wpAny_isOneOf_keyiter (s:={ s with heap:=s.heap.update it (Obj.mapFields (·.setIfInBounds 1 (rawInt ((i:Int)+1)))) }) nx.typeIs ?_);show wpAny _ _ (pure es[i].key) _ _ _; exact wpAny_pure (wpAny_pure ⟨_,rfl,wpAny_pure (q1 _ _ (Array.getElem?_eq_getElem hl) nx (Heap.SameBut.update ..))⟩)
 ·have hn:es[i]?=none:=Array.getElem?_eq_none (by omega);simp only[show ¬ ((i:Int)<0) from by omega,if_false,Int.toNat_natCast,hn]; refine wpAny_bind ?_
  first | refine wpAny_bind (wpAny_typeNameOfWhole_keyiter tyI (wpAny_pure ?_)) | refine wpAny_bind (wpAny_typeNameOf_keyiter tyI (wpAny_pure ?_))
  show wpAny _ _ (setField (.ref it) 0 .none>>=_) _ _ s; refine wpAny_bind (wpAny_setField i1 i3 (by simp) ?_);show wpAny _ _ (newExc (.type "StopIteration") []>>=_) _ _ _; refine wpAny_bind ?_; simp only[newExc,newTuple]; refine wpAny_bind (wpAny_newObj_type ?_ (by size_fits));refine wpAny_bind (m:=firstArgMember _ _) (wpAny_of_eq (a:=Value.none) (by first | rfl | (simp only[firstArgMember]; rfl)) ?_); refine wpAny_newObj_type ?_ (by size_fits); simp only[raiseNew];refine wpAny_bind (wpAny_handled ?_); rw[show A.in1.handled=none from hh]; refine wpAny_bind (wpAny_pure (wpAny_throw ?_))
  refine wpAny_bind (wpAny_isInstance (T:="StopIteration") (b:=true) ⟨_,Heap.get?_push_size _ rfl,rfl⟩ isSubtype_stop ?_); exact wpAny_pure (q2 _ hn (((Heap.SameBut.update ..).extBut.push _).push _))
theorem aCu (hh:A.handled=none) (I:Addr) (hne:d≠I):Walks prog w A I [I,d] [I] es.size (fun i v=>∃ e,es[i]?=some e∧v=e.key) (fun i h=>h.IsKeyIter I d i es.size ep∧lU d es ep h) where
 sub:=fun b hb=>by simp at hb; simp[hb]
 frame:=fun _ _ _ st hk=>⟨st.1.at fun o e=>hk I (by simp) o e,st.2.to fun o e=>hk d (by simp) o e⟩
 item:=fun i s Q E hi st hQ=>nW hh st.1 st.2
  (fun e h' he hi' hs=>hQ _ h' s.toks ⟨e,he,rfl⟩ ⟨hi',st.2.to fun o e'=>hs.extBut d o hne e'⟩ fun b o hb e'=>hs.extBut b o (fun z=>hb (by simp[z])) e')
  (fun h' he _=>absurd he (by simp[hi]))
 done:=fun s Q E st hQ=>nW hh st.1 st.2 (fun e h' he _ _=>absurd he (by simp)) fun h' _ hx=>hQ h' s.toks fun b o hb e'=>hx b o (fun z=>hb (by simp[z])) e'
 self:=fun _ _ _ _ st hQ=>wpAny_pyIter_keyiter st.1 hQ
theorem aHn (lo:(d==sysModules)=false):KdlSrc prog w "dict" d d es.size (fun i v=>∃ e,es[i]?=some e∧v=e.key) (lU d es ep) where
 type:=fun _ hm=>hm.ty
 there:=fun _ hm=>let ⟨_,e,_⟩:=hm; ⟨Heap.lt_size e,Heap.lt_size e⟩
 keep:=fun _ _ hm hk=>hm.to fun o e=>hk d (.inl rfl) o e
 notList:=by decide
 notTuple:=by decide
 hint:=fun _ _ _ _ hm hq=>kdl_hint_dict hm.ty hq
 iter:=fun _ _ hh hm=>⟨_,_,(fun _ _ hq=>xK lo hm hq),aCu hh _ (let ⟨_,e,_⟩:=hm; Nat.ne_of_lt (Heap.lt_size e)),⟨⟨_,Heap.get?_push_size _ rfl,rfl,rfl⟩,hm.to fun _ e=>Heap.get?_push_of_some _ e⟩⟩
end
abbrev lJ (H:Hp) (bs:List Addr) (rs:List (List Str)):Prop:=Paired (fun b (r:List Str)=>H b=some (.tup (r.map V.str))) bs rs
section
variable {X:Cx}
theorem aAq {H:Hp}:∀ {kvs:List (List Key×V)}{xs:List (List Key×Addr×Value)}{rs:List (List Str)},KT H kvs xs->kvs.map (·.1)=rs.map (fun r=>r.map Sum.inr)->lJ H (xs.map (·.2.1)) rs
 | _,_,[],.nil,_=>.nil
 | _,_,_::_,.nil,e=>by cases e
 | _,_,[],.cons _ _,e=>by cases e
 | _,_,r::rs,.cons a b,e=>by
  have e1:=List.cons.inj e;refine .cons ?_ (aAq b e1.2);refine a.2.1.trans ((congrArg (fun l=>some (HO.tup (l.map kV))) e1.1).trans ?_);show some (HO.tup ((r.map Sum.inr).map kV))=_;rw[List.map_map];rfl
theorem tV:∀ (bs:List Addr),cA (bs.map V.ref) (bs.map Value.ref)
 | []=>.nil
 | _::bs=>.cons rfl (tV bs)
inductive aMx (xs:List V) (H:Hp) (Q:VK):Prop
 | mk (d:Addr) (kvs:List (List Key×V)) (rs:List (List Str)) (h0_:xs=[.ref d]) (h1_:H d=some (.dT kvs)) (h2_:kvs.map (·.1)=rs.map (fun r=>r.map Sum.inr)) (h3_:∀ (p:Addr) (bs:List Addr),H p=none->lJ H bs rs->Q (.ref p) (upd H p (.lst (bs.map V.ref))))
theorem zL (hc:X.calm=true):CallR X (.type "list") aMx:=by
 intro pins s σ H xs us Q I r h;obtain⟨d,kvs,rs,rfl,hd,hk,q⟩:=h;obtain⟨u,rfl,rx⟩:=jR r;cases rx;obtain⟨z,lo,ys,rel,o,es,ep,h1,h2,h3,h4,h5⟩:=(show dA X.prog X.w H s.heap d (.dT kvs) from I.hok d _ hd)
 have hl:kvs.length=ys.length:=Paired.length rel;have hsz:es.size=ys.length:=by rw[← Array.length_toList,h4,List.length_map]
 refine kdl_call (aHn (es:=es) (ep:=ep) lo) (I.ok.hd hc) ⟨o,h1,h2,h3⟩ (by omega) fun h' tk acc c' hkp hD hacc=>?_
 have ea:acc.toList=(ys.map (·.2.1)).map Value.ref:=by
  refine List.ext_getElem? fun j=>?_;cases hj:acc.toList[j]? with
  | none=>
   have l1:acc.toList.length<=j:=List.getElem?_eq_none_iff.mp hj
   have:=hacc.1
   rw[Array.length_toList] at l1;exact (List.getElem?_eq_none_iff.mpr (by rw[List.length_map,List.length_map]; omega)).symm
  | some v=>
   obtain⟨e,he,rfl⟩:=hacc.2 j v (by rw[← Array.getElem?_toList]; exact hj);rw[← Array.getElem?_toList,h4,List.getElem?_map] at he;cases hy:ys[j]? with
   | none=>rw[hy] at he; cases he
   | some y=>
    rw[hy] at he;cases he;rw[List.map_map,List.getElem?_map,hy];rfl
 refine⟨.ref s.heap.objs.size,_,I.laid (t':=tk) hkp (Nat.le_refl _) ?_,rfl,q _ (ys.map (·.2.1)) (I.hok.fresh (Nat.le_refl _)) (aAq rel hk)⟩;refine⟨by rw[List.length_map,List.length_map]; omega,acc.toList,c',by rw[ea]; exact tV _,by simpa using hD⟩
def aJk (tk tv:TE):TE:=fun σ H Q=>∀ p,H p=none->tk σ (upd H p (.dT [])) fun x H1=>tv σ H1 fun y H2=>H2 p=some (.dT [])∧∃ (b:Addr) (ks:List Key),x=.ref b∧H2 b=some (.tup (ks.map kV))∧Q (.ref p) (upd H2 p (.dT [(ks,y)]))
theorem aEj {pos:Pos}{k v:Expr}{tk tv:TE}(hu:X.A.units<cLine) (hk:PE X k tk) (hv:PE X v tv):PE X (.Dict [some k] [v] pos) (aJk tk tv):=by
 intro pins s σ H Q I q;have hn:=I.hok.fresh (Nat.le_refl s.heap.objs.size);have I1:=I.laid (a:=s.heap.objs.size) (o:=.dT []) (h':=s.heap.push { cls:=.type "dict",data:=.dict #[] }) (t':=s.toks) (fun _ _ q=>Heap.get?_push_of_some _ q) (Nat.le_refl _) (xL s.heap I.big);refine wpAny_Dict_any rfl rfl (fun z=>nomatch z) (Nat.succ_le_succ (Nat.zero_le _)) (pairTrees_cons_walk (thn (hk pins _ σ _ _ I1 (q _ hn)) fun u s1 ⟨x,H1,I1,rx,q1⟩=>thn (hv pins s1 σ H1 _ I1 q1) fun w2 s2 ⟨y,H2,I2,ry,q2⟩=>pairTrees_nil_walk ?_));obtain⟨e,b,ks,rfl,eb,q3⟩:=q2;cases rx;obtain⟨z,lo,xs,rel,dd⟩:=aJa I2.hok e;cases rel;unfold storeAll;rw[List.forIn_cons];refine wpAny_bind (wpAny_bind (wpAny_dictSet_heap (knd:=tupleKind (dE X.prog X.w)) (hsz:=Nat.zero_le _) hu (mJ I2.hok eb) dd fun h' dd' hs=>wpAny_pure ?_));show wpAny _ _ (forIn [] PUnit.unit _) _ _ _;rw[List.forIn_nil];refine wpAny_pure ⟨.ref s.heap.objs.size,_,?_,rfl,q3⟩;obtain⟨q',es,ep,hq,h2,h3,h4,_,h5⟩:=dd';refine vP I2 (by rw[e]; exact True.intro) hs ⟨q',hq⟩ ⟨Nat.le_trans (by decide:1<=16) (by decide),lo,_,(KT.put (.nil:KT H2 [] []) ks eb ry).keeps fun c ys ec=>?_,q',es,ep,hq,h2,h3,h4,h5⟩;rw[aH (eP ec e (fun z=>nomatch z))];exact ec
end
end L2
namespace L2
open PySem PySem.Spec PySem.Calls PyProof.Rows PySem.W
theorem lJ.get {H:Hp}:∀ {bs:List Addr}{rs:List (List Str)}{i:Nat}{b:Addr},lJ H bs rs->bs[i]?=some b->∃ r,rs[i]?=some r∧H b=some (.tup (r.map V.str))
 | _,_,_,_,.nil,e=>by simp at e
 | _,_,0,_,.cons r _,e=>by simp at e; subst e; exact⟨_,rfl,r⟩
 | _,_,i+1,b,.cons _ t,e=>by
  obtain⟨u,h1,h2⟩:=lJ.get (i:=i) (b:=b) t (by simpa using e);exact⟨u,by simpa using h1,h2⟩
theorem lJ.same {H H':Hp}{bs:List Addr}{rs:List (List Str)}(t:lJ H bs rs) (s:∀ b xs,H b=some (.tup xs)->H' b=some (.tup xs)):lJ H' bs rs:=Paired.mapP t fun _ _ e=>s _ _ e
theorem lJ.snoc {H:Hp}:∀ {bs:List Addr}{rs:List (List Str)}{b:Addr}{r:List Str},lJ H bs rs->H b=some (.tup (r.map V.str))->lJ H (bs++[b]) (rs++[r])
 | _,_,_,_,.nil,e=>.cons e .nil
 | _,_,_,_,.cons a t,e=>.cons a (lJ.snoc t e)
section
variable {X:Cx}{pins:List (Addr×Obj)}{σ:St}{H:Hp}{s:Shared}{A:Around}
def aOs:V->Hp->VK->Prop:=fun x H Q=>∃ i:Int,x=.int i∧i.natAbs.log2<1920∧Q (.str (Str.ofString (toString i))) H
theorem aAk {e:Expr}{te:TE}{pos:Pos}(he:PE X e te):PE X (.FormattedValue e (-1) none pos) (tUn aOs te):=by
 intro pins s σ H Q I h;refine FormattedValue_plain (thn (he pins s σ H _ I h) fun v s1 ⟨x,H1,I1,r1,i,e1,hi,q⟩=>?_);subst e1;obtain⟨t,rfl⟩:=r1;exact wpAny_formatField_int hi ⟨.str _,H1,I1.tok _,⟨_,rfl⟩,q⟩
end
end L2
namespace L2
open PySem PySem.Spec PySem.Calls PyProof.Rows PySem.W
section
variable {X:Cx}
def aJo (spC:Addr->Sp->Sp) (df:Addr) (spD:Sp) (E:XK) (t:TA):TE:=fun σ H Q=>t σ H fun vs H1=>spC df spD vs H1 Q E
theorem aEm {f:Addr}{fd:FuncData}{ps:List Str}{g:Str}{e:Expr}{es:List Expr}{p pos:Pos}{t:TA}{k kd:Nat}{spC:Addr->Sp->Sp}{df:Addr}{spD:Sp}{E:XK}
  (F:sL X.prog X.w X.K X.mg X.base k f fd ps (SpH X.prog X.w X.K X.mg X.base kd spC)) (hr:cO k X.A) (hg:Gl X g) (hm:X.mg g=some (.ref f)) (hk:keepIn X.K (.ref f)=true) (hb:aU X.K fd ps []) (hx:eZ (CXE X.prog X.w) X E)
  (hd:∀ pins σ H s,Inv X pins σ H s->mX X.prog X.w X.K X.mg X.base kd df spD X.stack s H)
  (ha:PA X (e::es) t) (hdb:(g==("__debug__" : Str))=false:=by decide) (he:starEach (e::es) X.env=(false,eval e X.env)::starEach es X.env:=by rfl) (hpl:(backTo pos (starEach es X.env)).any (·.1)=false:=by rfl) :
  PE X (.Call (.Name g p) (e::es) [] pos) (aJo spC df spD E t):=by
 intro pins s σ H Q I h;refine wpAny_Call_Name_kw (iJ I hg hm ?_ hdb);refine PySem.W.callWith_K (h₀:=X.base) I.ok.mod.kin hk (thn (ha pos pins s σ H _ I h) fun us s1 ⟨vs,H1,I1,r,q⟩=>⟨I1.kIn,?_⟩) he hpl;have sp1:SpH X.prog X.w X.K X.mg X.base kd spC X.stack s1 vs H1 Q E:=⟨df,spD,hd _ _ _ _ I1,q⟩;have hl:us.length=ps.length:=by rw[← r.length]; exact F.len _ _ _ _ _ _ sp1
 have bt:BindsTo s1 fd ⟨us,[]⟩ (ps.zip us):=by
  have:=hb s1 us I1.kIn (by rw[List.append_nil]; exact hl)
  rw[List.append_nil] at this;exact this
 exact sG I1 hx (F.run X.A X.stack s1 H1 _ us vs Q E hr I1.env0 bt r sp1)
end
end L2
namespace L2
open PySem PySem.Spec PySem.Calls PyProof.Rows PySem.W
section
variable {X:Cx}{pins:List (Addr×Obj)}{σ:St}{H:Hp}{s:Shared}{d:Addr}{kvs:List (List Key×V)}
theorem Inv.freezeT (I:Inv X pins σ H s) (e:H d=some (.dT kvs)):∃ o,Inv X pins σ (upd H d (.frz o (.dT kvs))) s:=by
 have hO:=I.hok d _ e;obtain⟨o,ho⟩:=hO.ex
 have ne:∀ b u,H b=some u->(∀ k,u≠.dT k)->(upd H d (.frz o (.dT kvs))) b=some u:=fun b u z n=>by
  rw[aH (fun y=>by rw[y,e] at z; cases z; exact n kvs rfl)];exact z
 refine⟨o,I.step (h':=s.heap) (g':=s.gens) (d':=s.drawn) (t':=s.toks) (ch:=[]) (fun b hb=>nomatch hb) (fun b u _ _ _ z _=>z) (fun b u _ _ _ z _=>⟨u.slots,z⟩)
  (fun b u _ _ n=>by rw[aH (fun y=>by rw[y,e] at n; cases n)]; exact n) (fun b u _ z=>⟨u,z⟩) (fun b xs z=>ne b _ z fun k y=>by cases y) (fun b u v z=>ne b _ z fun k y=>by cases y)
  (fun b ps z=>⟨#[],by rw[ne b _ z fun k y=>by cases y]; simp⟩) (fun m hm=>hm) (fun b u z=>?_) I.bare⟩
 by_cases hb:b=d
 ·subst hb;rw[aE] at z;cases z;exact⟨ho,hO.stay (fun c y _ q=>q) (fun c q=>ne c _ q fun k y=>by cases y) fun c ys q=>ne c _ q fun k y=>by cases y⟩
 ·rw[aH hb] at z;exact (I.hok b u z).stay (fun c y _ q=>q) (fun c q=>ne c _ q fun k y=>by cases y) fun c ys q=>ne c _ q fun k y=>by cases y
inductive aNf (v:V) (H':Hp) (Q:VK):Prop
 | mk (d:Addr) (kvs:List (List Key×V)) (h1:v=.ref d) (h2:H' d=some (.dT kvs)) (q:∀ o,Q v (upd H' d (.frz o (.dT kvs))))
 | no (o:Obj) (d:Addr) (kvs:List (List Key×V)) (h1:v=.ref d) (h2:H' d=some (.frz o (.dT kvs))) (q:Q v H')
def aDj (t:TE):TE:=fun σ H Q=>t σ H fun v H'=>aNf v H' Q
theorem rK {e:Expr}{t:TE}(h:PE X e t):PE X e (aDj t):=by
 intro pins s σ H Q I q;refine thn (h pins s σ H _ I q) fun v s1 ⟨x,H1,I1,r1,q0⟩=>?_;cases q0 with
 | mk d kvs e1 e2 q1=>
  obtain⟨o,I2⟩:=I1.freezeT e2;exact⟨x,_,I2,r1,q1 o⟩
 | no o d kvs e1 e2 q1=>exact⟨x,_,I1,r1,q1⟩
theorem aIx:∀ {kvs:List (List Key×V)}{xs:List (List Key×Addr×Value)}{i:Nat}{kv:List Key×V},KT H kvs xs->kvs[i]?=some kv->∃ x,xs[i]?=some x∧kv.1=x.1∧H x.2.1=some (.tup (kv.1.map kV))
 | _,_,_,_,.nil,h=>by simp at h
 | _,_,0,_,.cons a _,h=>by simp at h; subst h; exact⟨_,rfl,a.1,a.2.1⟩
 | _,_,i+1,kv,.cons _ t,h=>by
  obtain⟨x,h1,h2⟩:=aIx (i:=i) (kv:=kv) t (by simpa using h);exact⟨x,by simpa using h1,h2⟩
theorem vN {o:Obj}{ep:Nat}(I:Inv X pins σ H s) (e:H d=some (.frz o (.dT kvs))) (hep:∃ es,o.data=.dict es ep) :
  (d==sysModules)=false∧∃ es,es.size=kvs.length∧lU d es ep s.heap∧∀ (i:Nat) (kv:List Key×V),kvs[i]?=some kv->∃ (en:DictEntry) (b:Addr),es[i]?=some en∧en.key=.ref b∧H b=some (.tup (kv.1.map kV)):=by
 obtain⟨ho,z,lo,ys,rel,o',es,ep',h1,h2,h3,h4,h5⟩:=(show dA X.prog X.w H s.heap d (.frz o (.dT kvs)) from I.hok d _ e)
 rw[ho] at h1;cases h1;obtain⟨es',he⟩:=hep;rw[he] at h3;cases h3;have hl:kvs.length=ys.length:=Paired.length rel;have hsz:es.size=ys.length:=by rw[← Array.length_toList,h4,List.length_map]
 refine⟨lo,es,by omega,⟨o,ho,h2,he⟩,fun i kv hk=>?_⟩;obtain⟨y,hy,e1,e2⟩:=aIx rel hk;refine⟨entryOfKey (tupleKind (dE X.prog X.w)) y,y.2.1,?_,rfl,?_⟩
 ·rw[← Array.getElem?_toList,h4,List.getElem?_map,hy];rfl
 ·exact e2
end
def ItK (d:Addr) (o:Obj) (kvs:List (List Key×V)):It:=
 ⟨fun i H=>H d=some (.frz o (.dT kvs))∧i<kvs.length,fun i H x H'=>H'=H∧∃ (kv:List Key×V) (b:Addr),kvs[i]?=some kv∧x=.ref b∧H b=some (.tup (kv.1.map kV)),fun i H=>H d=some (.frz o (.dT kvs))∧kvs.length<=i⟩
theorem xZ {P:Program}{w:World}{K:Frag}{tg:Expr}(d it:Addr) (o:Obj) (kvs:List (List Key×V)) (ep:Nat) (hep:∃ es,o.data=.dict es ep):xU P w K tg (ItK d o kvs) [it] it (fun i h=>h.IsKeyIter it d i kvs.length ep) where
 mem:=by simp
 obj:=fun i h st b hb=>by
  have e:b=it:=by simpa using hb
  subst e;obtain⟨o,e,c,d⟩:=st;exact⟨o,e,fun v z=>by rw[d] at z; cases z⟩
 keep:=fun i h h' st k=>by
  obtain⟨o,e,r⟩:=st;exact⟨o,k it (by simp) o e,r⟩
 item:=by
  intro X hP hw hK hc i pins s σ H E I hf st hg;subst hP hw hK;obtain⟨hd,hi⟩:=hg;obtain⟨lo,es,hsz,hat,hget⟩:=vN I hd hep;obtain⟨f0,f1,f2,f3,f4,f5⟩:=hf it (by simp);obtain⟨en,b,h1,h2,h3⟩:=hget i kvs[i] (by simp[hi]);rw[← hsz] at st;refine nW (I.ok.hd hc) st hat (fun e h' he st' sb=>?_) (fun h' he _=>absurd he (by rw[h1]; simp));rw[h1] at he;cases he;have I1:Inv X pins σ H { s with heap:=h' }:=I.turned (t':=s.toks) (fun b o hb e=>(sb.2 b hb).trans e) f0 f1 f3 f4 f5;obtain⟨o',e,c,dd⟩:=id st';exact⟨en.key,rfl,aAs (s:={ s with heap:=h' }) e c dd (by decide) ⟨.ref b,H,I1,h2,⟨rfl,kvs[i],b,by simp[hi],rfl,h3⟩,by rw[← hsz]; exact st',fun b hb=>(hf b hb).1⟩⟩
 done:=by
  intro X hP hw hK hc i pins s σ H E I hf st hg;subst hP hw hK;obtain⟨hd,hi⟩:=hg;obtain⟨lo,es,hsz,hat,hget⟩:=vN I hd hep;obtain⟨f0,f1,f2,f3,f4,f5⟩:=hf it (by simp);rw[← hsz] at st hi;exact nW (I.ok.hd hc) st hat (fun e h' he _ _=>absurd he (by rw[Array.getElem?_eq_none hi]; simp)) fun h' _ eb=>⟨rfl,I.turned (t':=s.toks) (fun b o hb e=>eb b o hb e) f0 f1 f3 f4 f5⟩
 self:=fun _ _ _ _ _ st h=>wpAny_pyIter_keyiter st h
section
variable {X:Cx}{tg:Expr}
inductive aNc (x:V) (H1:Hp) (R:It->Hp->Prop):Prop
 | mk (d:Addr) (o:Obj) (kvs:List (List Key×V)) (h1:x=.ref d) (h2:H1 d=some (.frz o (.dT kvs))) (r:R (ItK d o kvs) H1)
def aKx (tl:TE):TI:=fun σ H R=>tl σ H fun x H1=>aNc x H1 R
theorem wS {l:Expr}{tl:TE}(hl:PE X l tl):PI X tg l (aKx tl):=by
 intro pins s σ H R I h;refine thn (hl pins s σ H _ I h) fun v s1 ⟨x,H1,I1,r1,q1⟩=>?_;obtain⟨d,o,kvs,e,hd,q⟩:=q1;subst e;cases r1
 have hep:∃ ep es,o.data=.dict es ep:=by
  obtain⟨ho,z,lo,ys,rel,o',es,ep',h1,h2,h3,h4,h5⟩:=(show dA X.prog X.w H1 s1.heap d (.frz o (.dT kvs)) from I1.hok d _ hd)
  rw[ho] at h1;cases h1;exact⟨ep',es,h3⟩
 obtain⟨ep,hep⟩:=hep;obtain⟨lo,es,hsz,hat,hget⟩:=vN I1 hd hep;refine xK lo hat ?_;refine⟨s1.heap.objs.size,[s1.heap.objs.size],_,_,H1,rfl,I1.kept (t':=s1.toks) fun b o e=>Heap.get?_push_of_some _ e,xZ d _ o kvs ep hep,⟨_,Heap.get?_push_size _ rfl,rfl,by rw[hsz]; rfl⟩,fun b hb=>?_,q⟩;have e:b=s1.heap.objs.size:=by simpa using hb
 subst e;exact I1.fpOk (Nat.le_refl _) (I1.hok.fresh (Nat.le_refl _))
theorem aDb {d D:Addr}{o:Obj}{kvs:List (List Key×V)}{g:TG}{tc:TT}{te:TE}{R:Hp->Prop}{σ:St}{H:Hp}(Pv:Nat->St->Hp->Prop) (h0:Pv 0 σ H)
  (hl:∀ i σ H,i<=kvs.length->Pv i σ H->H d=some (.frz o (.dT kvs)))
  (hs:∀ i kv b σ H,kvs[i]?=some kv->H b=some (.tup (kv.1.map kV))->Pv i σ H->g (.ref b) σ H fun σ2 H2=>tc σ2 H2 fun b H3=>if b=true then te σ2 H3 fun y H4=>∃ ys,H4 D=some (.lst ys)∧ys.length<sizeLine∧Pv (i+1) σ2 (upd H4 D (.lst (ys++[y]))) else Pv (i+1) σ2 H3)
  (hd:∀ σ H,Pv kvs.length σ H->R H):vX (ItK d o kvs) D g tc te R σ H:=by
 refine⟨fun i m σ H=>m=kvs.length-i∧i<=kvs.length∧Pv i σ H,⟨kvs.length,by simp,Nat.zero_le _,h0⟩,?_⟩;rintro i m σ H ⟨rfl,hi,p⟩;have q:=hl i σ H hi p
 by_cases hlt:i<kvs.length
 ·refine .inr ⟨⟨q,hlt⟩,Pv (i+1),fun σ' H' p'=>⟨kvs.length-(i+1),by omega,rfl,hlt,p'⟩,fun x H' y=>?_⟩;obtain⟨rfl,kv,b,e,rfl,hb⟩:=y;exact hs i kv b σ H' e hb p
 ·have e:i=kvs.length:=by omega
  subst e;exact .inl ⟨⟨q,Nat.le_refl _⟩,hd σ H p⟩
theorem aCr {d:Addr}{o:Obj}{kvs:List (List Key×V)}{g:TG}{tb:TS}{D:mY}{σ:St}{H:Hp}(Pv:Nat->St->Hp->Prop) (h0:Pv 0 σ H) (hl:∀ i σ H,i<=kvs.length->Pv i σ H->H d=some (.frz o (.dT kvs)))
  (hs:∀ i kv b σ H,kvs[i]?=some kv->H b=some (.tup (kv.1.map kV))->Pv i σ H->g (.ref b) σ H fun σ2 H2=>tb { D with nx:=Pv (i+1),ct:=Pv (i+1),bk:=D.nx } σ2 H2) (hd:∀ σ H,Pv kvs.length σ H->D.nx σ H) :
  ∃ W:Nat->Nat->St->Hp->Prop,(∃ m,W 0 m σ H)∧∀ i m σ H,W i m σ H ->
   ((ItK d o kvs).stop i H∧D.nx σ H)∨((ItK d o kvs).go i H∧∃ N:St->Hp->Prop,(∀ σ' H',N σ' H'->∃ m',m'<m∧W (i+1) m' σ' H')∧∀ x H',(ItK d o kvs).yld i H x H'->g x σ H' fun σ2 H2=>tb { D with nx:=N,ct:=N,bk:=D.nx } σ2 H2):=by
 refine⟨fun i m σ H=>m=kvs.length-i∧i<=kvs.length∧Pv i σ H,⟨kvs.length,by simp,Nat.zero_le _,h0⟩,?_⟩;rintro i m σ H ⟨rfl,hi,p⟩;have q:=hl i σ H hi p
 by_cases hlt:i<kvs.length
 ·refine .inr ⟨⟨q,hlt⟩,Pv (i+1),fun σ' H' p'=>⟨kvs.length-(i+1),by omega,rfl,hlt,p'⟩,fun x H' y=>?_⟩;obtain⟨rfl,kv,b,e,rfl,hb⟩:=y;exact hs i kv b σ H' e hb p
 ·have e:i=kvs.length:=by omega
  subst e;exact .inl ⟨⟨q,Nat.le_refl _⟩,hd σ H p⟩
theorem aEh {a b:Expr}{ta tb:TE}{pos:Pos}(ha:PE X a ta) (hb:PE X b tb):PE X (.JoinedStr [a,b] pos) (zS [ta,tb] Str.empty):=
 fun pins s σ H Q I h=>JoinedStr_many ((nK ha (nK hb aEe)) Str.empty pins s σ H Q I h)
end
end L2
namespace L2
open PySem PySem.Spec PySem.Calls PyProof.Rows
section
variable {X:Cx}
def aLk (K:PySem.W.Frag) (Ew:XK) (wv:Value) (tb ts:TS):TS:=fun D σ H=>tb D σ H∧∀ cls H1,Ew cls none H1->∃ C,cls=.ref C∧PySem.W.exmOne K (.ref C) wv=some true ∧
 ∀ (e:Addr) (σ1:St),σ1.length=σ.length->H1 e=none->ts D σ1 (upd H1 e (.ext (sM e C)))
theorem aGz {body:List Stmt}{x:Str}{W:Addr}{np hpos pos:Pos}{b₀:Stmt}{suite:List Stmt}{tb ts:TS}(Ew:XK) (F:X.Frame) (hc:X.calm=true)
  (hg:Gl X x) (hm:X.mg x=some (.ref W)) (hb:∀ pn E,eZ (CXE X.prog X.w) (X.pinned pn E) Ew->PSs (X.pinned pn E) body tb) (hs:∀ e pn,PSs (X.caught e pn) (b₀::suite) ts)
  (hd:(x==("__debug__" : Str))=false:=by decide) :
  PS X (.Try body [.ExceptHandler (some (.Name x np)) none (b₀::suite) hpos] [] [] pos) (aLk X.K Ew (.ref W) tb ts):=by
 intro pins s σ H D I h;obtain⟨h1,h2⟩:=h
 have pass:eZ (CXE X.prog X.w) (X.pinned (X.pn++pins) fun ev s'=>∃ pl σ0 H0 s0,Inv (X.pinned (X.pn++pins) fun _ _=>True) pl σ0 H0 s0∧CXE X.prog X.w X.stack H0 s0 Ew ev s') Ew:=fun pl σ0 H0 s0 ev s' I0 hx=>
  ⟨pl,σ0,H0,s0,⟨⟨I0.ok.mod,I0.ok.kind,I0.ok.glob,I0.ok.blt,I0.ok.above,I0.ok.inj,I0.ok.has,I0.ok.cab,I0.ok.hd,I0.ok.frames,I0.ok.stk,I0.ok.exf,I0.ok.bs,I0.ok.bsz,I0.ok.noex,I0.ok.exfs,I0.ok.funs,I0.ok.frf⟩,
   I0.os,I0.bare,I0.base,I0.loc,I0.cell,I0.free,I0.freeC,I0.pin,I0.hok,I0.len⟩,hx⟩
 refine wpAny_Try_except (wpAny_mono (hb _ _ pass [] s σ H D (I.repin _) h1) (fun f s1 q=>?_) fun ev s1 q=>?_)
 ·cases f with
  | next=>
   obtain⟨σ1,H1,I1,q1⟩:=q;exact wpAny_execs_nil ⟨σ1,H1,I1.unpin,q1⟩
  | brk=>obtain⟨σ1,H1,I1,q1⟩:=q; exact⟨σ1,H1,I1.unpin,q1⟩
  | cont=>obtain⟨σ1,H1,I1,q1⟩:=q; exact⟨σ1,H1,I1.unpin,q1⟩
  | ret u=>obtain⟨v,σ1,H1,I1,r1,q1⟩:=q; exact⟨v,σ1,H1,I1.unpin,r1,q1⟩
 ·obtain⟨pl,σ0,H0,s0,I0',e,t,cls,vs,H1,B,rfl,g2,g3,g4,g5,g6,g7,g8,g9,g10,g12,g11⟩:=q;have I0:Inv X pins σ0 H0 s0:=I0'.unpin;obtain⟨C,rfl,hmatch,hts⟩:=h2 cls H1 g11;have hfr:X.A.frames=some (X.env::X.outer):=by rw[I.ok.frames,F.stk]
  have g6':=g6;rw[F.stk] at g6';refine wpAny_looks_onW hfr F.frm g6' fun h3 held3 up3=>?_;refine wpAny_landsW held3 fun h4 fl4 up4=>?_;have fl4':Heap.FlyingW B X.stack e (.ref C) (.ref t) h4:=by rw[F.stk]; exact fl4
  have st4:=(aFk I0 g2 g3 g4 g5 g6.1 fl4' (up3.trans up4) g9 g10 g12).2;have K4:=st4.mark e;refine wpAny_handleBy_cons (codeAny_handlers_test (iJ (X:=X.caught e (X.pn++pins)) K4 hg hm ?_ hd)) (by intro z; cases z);obtain⟨oe,ws,hoe,hoc,hod,_⟩:=fl4.first;have LT:PySem.W.Looks (model X.prog X.w) h4 (typeOf (.ref e)) (.ref C):=(show sM e C h4 from ⟨oe,ws,hoe,hoc,hod⟩).type
  refine (PySem.W.exm_one (M:=model X.prog X.w) K4.kIn LT hmatch).at ?_;refine codeAny_handlers_suite ?_;refine lands_againW fl4 fun h5 fl5 up5=>?_;have fl5':Heap.FlyingW B X.stack e (.ref C) (.ref t) h5:=by rw[F.stk]; exact fl5
  obtain⟨he,st5⟩:=aFk I0 g2 g3 g4 g5 g6.1 fl5' ((up3.trans up4).trans up5) g9 g10 g12;have K5:=st5.mark e;refine wpAny_mono (hs e (X.pn++pins) [] _ _ _ _ K5 (hts e σ0 (I0.len.trans I.len.symm) he)) (fun f s7 q7=>?_) fun _ _ z=>z.elim;cases f with
  | next=>obtain⟨σ7,H7,I7,q7⟩:=q7; exact⟨σ7,H7,I7.unmark I.ok,q7⟩
  | brk=>obtain⟨σ7,H7,I7,q7⟩:=q7; exact⟨σ7,H7,I7.unmark I.ok,q7⟩
  | cont=>obtain⟨σ7,H7,I7,q7⟩:=q7; exact⟨σ7,H7,I7.unmark I.ok,q7⟩
  | ret u=>obtain⟨v,σ7,H7,I7,r7,q7⟩:=q7; exact⟨v,σ7,H7,I7.unmark I.ok,r7,q7⟩
inductive aGw (K:PySem.W.Frag) (x y:V) (H:Hp) (Q:VK):Prop
 | mk (a:Addr) (os:List (Option Str)) (h0_:x=.non) (h1_:y=.ref a) (h2_:SqL K H a (os.map fun o=>(o.map V.str).getD .non)) (h3_:Q (.bl (!os.any fun o=>o.isNone)) H)
theorem aBr:OpR X (compareOp .NotIn) (aGw X.K):=by
 intro pins s σ H x y v u Q I rx ry h;obtain⟨a,os,rfl,rfl,ha,q⟩:=h;cases rx;cases ry;obtain⟨us,r1,p1,_⟩:=I.list ha;refine SeqAt.notIn_listAt (fun y=>y==.none) p1.isList (fun y hy=>?_) ⟨.bl (!os.any fun o=>o.isNone),H,I,?_,q⟩
 ·obtain⟨i,hi⟩:=List.getElem?_of_mem (show y∈us by simpa using hy);have l1:=r1.length;have li:i<us.length:=(List.getElem?_eq_some_iff.mp hi).1;rw[List.length_map] at l1;have hoi:os[i]?=some os[i]:=List.getElem?_eq_getElem (by omega);obtain⟨u',e',ru⟩:=r1.get (i:=i) (x:=(os[i].map V.str).getD .non) (by rw[List.getElem?_map,hoi]; rfl);rw[hi] at e';cases e';cases ho:os[i] with
  | none=>rw[ho] at ru; cases ru; exact SeqAt.EqAt.same _
  | some z=>
   rw[ho] at ru;obtain⟨t,rfl⟩:=ru;exact SeqAt.EqAt.str_none z t
 ·show Value.bool _=Value.bool _;rw[← qU r1]
  simp
end
end L2
namespace RW
def mixed (c k:Int):Int:=(((c+7919*k)*48271%2147483647)*((c+7919*k)*48271%2147483647+2*k+1))%2147483629
def cellAt (ns:List Int) (k:Nat):Int:=match ns[k]? with | some c=>mixed c k | none=>0
end RW
namespace KM
variable {α:Type} [DecidableEq α]
end KM
namespace Ky
open PySem L2 PySem.Spec PyProof.Rows PySem.W
abbrev iI:Str:="abcdefghijklmnopqrstuvwxyz"
abbrev jJ:Str:="0123456789"
theorem zD:iI.cps.toList=List.range' 97 26:=by decide +kernel
theorem zI:jJ.cps.toList=List.range' 48 10:=by decide +kernel
def kG (c:Nat):Bool:=decide (97<=c∧c<123)
def aFo (c:Nat):Bool:=decide (48<=c∧c<58)
def mO (c:Nat):Bool:=kG c||aFo c
theorem pU (c:Nat):decide (c∈iI.cps.toList)=kG c:=by
 rw[zD];unfold kG;rw[decide_eq_decide,List.mem_range'_1]
theorem xF (c:Nat):decide (c∈jJ.cps.toList)=aFo c:=by
 rw[zI];unfold aFo;rw[decide_eq_decide,List.mem_range'_1]
theorem sE (x y:Str):(x++y).cps.toList=x.cps.toList++y.cps.toList:=by
 show (x.cps++y.cps).toList=_
 simp
theorem gQ (x y:Str):(x++y).length=x.length+y.length:=by
 have ln:∀ z:Str,z.cps.toList.length=z.length:=fun z=>by simp[Str.length]
 rw[← ln,sE,List.length_append,ln,ln]
theorem aCh (c:Nat):decide (c∈(iI++jJ).cps.toList)=mO c:=by
 unfold mO;rw[← pU,← xF,sE,← Bool.decide_or,decide_eq_decide,List.mem_append]
def nU (cs:List Nat):Bool:=decide (1<=cs.length∧cs.length<=8)&&(match cs with | []=>false | c::_=>kG c)&&cs.all mO
def aQ (z:Str):Bool:=nU z.cps.toList
theorem nQ {z:Str}(h:aQ z=true):z.length<=8:=by
 unfold aQ nU at h;rw[Bool.and_eq_true,Bool.and_eq_true] at h
 have:=of_decide_eq_true h.1.1
 have hl:z.cps.toList.length=z.length:=by simp[Str.length]
 omega
inductive Why | noName | noDeed | twice | tooMany
 deriving DecidableEq
def sQ:List Str->List Str->Option Why
 | _,[]=>none
 | seen,n::r=>if aQ n=true then (if n∈seen then some .twice else sQ (seen++[n]) r) else some .noName
def iE (ss:List Str):Option Why:=if 12<ss.length then some .tooMany else sQ [] ss
def kO (ss fs:List Str):Option Why:=match iE ss with
 | some k=>some k
 | none=>if fs.all (fun f=>aQ f&&decide (f∈ss))=true then none else some .noDeed
def wts:List Str->Int->List (Key×V)->List (Key×V)
 | [],_,k=>k
 | s::r,w,k=>wts r (w*2) (eV k (Sum.inr s) (.int w))
def mks:List Str->List (Key×V)->List (Key×V)
 | [],k=>k
 | s::r,k=>mks r (eV k (Sum.inr s) (.bl true))
inductive nG (vs:List V) (H:Hp) (Q:VK) (x3_:XK):Prop
 | mk (c k:Int) (h0_:vs=[.int c,.int k]) (h1_:Q (.int (RW.mixed c k)) H)
inductive aDt (K:PySem.W.Frag) (vs:List V) (H:Hp) (Q:VK) (x3_:XK):Prop
 | mk (a:Addr) (ns:List Int) (k:Nat) (h0_:vs=[.ref a,.int k]) (h1_:SqL K H a (ns.map V.int)) (h2_:Q (.int (RW.cellAt ns k)) H)
inductive rA (K:PySem.W.Frag) (vs:List V) (H:Hp) (Q:VK) (x3_:XK):Prop
 | mk (x:_) (h0_:vs=[x]) (h1_:((∃ z,x=.str z∧z.length<=sizeLine∧∀ H',aO H H'->Q (.bl (aQ z)) H')∨∃ t,mU K H x t∧PySem.W.kitOne K t (.type "str")=some false∧Q (.bl false) H))
def ways (cl:Why->Addr) (r:Option Why) (q:Prop) (E:XK) (H:Hp):Prop:=match r with
 | none=>q
 | some k=>E (.ref (cl k)) none H
def oC (ss:List Str):Prop:=∀ z∈ss,z.length<=1000
inductive wB (K:PySem.W.Frag) (cl:Why->Addr) (vs:List V) (H:Hp) (Q:VK) (E:XK):Prop
 | mk (a:Addr) (ss:List Str) (h0_:vs=[.ref a]) (h1_:SqL K H a (ss.map V.str)) (h2_:oC ss) (h3_:∀ H',aO H H'->ways cl (iE ss) (Q .non H') E H')
inductive tI (K:PySem.W.Frag) (vs:List V) (H:Hp) (Q:VK) (x3_:XK):Prop
 | mk (a:Addr) (ss:List Str) (h0_:vs=[.ref a]) (h1_:SqL K H a (ss.map V.str)) (h2_:ss.length<64) (h3_:∀ (d:Addr) (ss':List Str) H',aO H H'->H d=none->ss'.Perm ss->sortedS ss'=true->H' d=some (.dK (wts ss' 1 []))->Q (.ref d) H')
inductive qD (K:PySem.W.Frag) (vs:List V) (H:Hp) (Q:VK) (x3_:XK):Prop
 | mk (a:Addr) (ss:List Str) (h0_:vs=[.ref a]) (h1_:SqL K H a (ss.map V.str)) (h2_:ss.length<=1000) (h3_:∀ (d:Addr) H',aO H H'->H d=none->H' d=some (.dK (mks ss []))->Q (.ref d) H')
abbrev aFh:List Str:=["has","require","names","free","is_free","bits","names_of"]
inductive WAt (C:Addr) (H:Hp) (p:Addr) (kvs:List (Key×V)):Prop
 | mk (dx:_) (fs:_) (dw:_) (o:_) (h0_:H p=some (.ins C dx fs)) (h1_:(∀ m∈aFh,fs.lookup m=none)) (h2_:fs.lookup ("weights" : Str)=some (.ref dw)) (h3_:H dw=some (.frz o (.dK kvs)))
def aBb (x:V):Prop:=(∃ z:Str,x=.str z∧z.length<=1000)∨x=.non∨x=.int 5
def cZ (kvs:List (Key×V)):V->Bool
 | .str z=>aQ z&&(dB kvs (Sum.inr z)).isSome
 | _=>false
inductive aIp (K:PySem.W.Frag) (C:Addr) (vs:List V) (H:Hp) (Q:VK) (x3_:XK):Prop
 | mk (p:Addr) (x:V) (kvs:List (Key×V)) (h0_:vs=[.ref p,x]) (h1_:aBb x) (h2_:WAt C H p kvs) (h3_:∀ H',aO H H'->Q (.bl (cZ kvs x)) H')
inductive iN (K:PySem.W.Frag) (C:Addr) (cl:Why->Addr) (vs:List V) (H:Hp) (Q:VK) (E:XK):Prop
 | mk (p b:Addr) (xs:List V) (kvs:List (Key×V)) (h0_:vs=[.ref p,.ref b]) (h1_:SqL K H b xs) (h2_:(∀ x∈xs,aBb x)) (h3_:WAt C H p kvs) (h4_:∀ H',aO H H'->ways cl (if xs.all (cZ kvs)=true then none else some .noDeed) (Q .non H') E H')
def SameBut (x:Addr) (H H':Hp):Prop:=∀ b o,b≠x->H b=some o->H' b=some o
inductive aDs (K:PySem.W.Frag) (C:Addr) (cl:Why->Addr) (vs:List V) (H:Hp) (Q:VK) (E:XK):Prop
 | mk (x a:Addr) (y:V) (dx:Addr) (ss fs:List Str) (h0_:vs=[.ref x,.ref a,y]) (h1_:H x=some (.ins C dx [])) (h2_:SqL K H a (ss.map V.str)) (h3_:((y=.non∧fs=[])∨∃ b,y=.ref b∧SqL K H b (fs.map V.str))) (h4_:oC ss) (h5_:oC fs) (h6_:fs.length<=1000) (h7_:∀ H',SameBut x H H'->ways cl (kO ss fs) (∀ (dw df:Addr) (o:Obj) (ss':List Str),H' x=some (.ins C dx [("weights",.ref dw),("free_marks",.ref df)])->H' dw=some (.frz o (.dK (wts ss' 1 [])))->H' df=some (.dK (mks fs []))->ss'.Perm ss->sortedS ss'=true->Q .non H') E H')
section
variable {P:Program}{w:World}{K:PySem.W.Frag}{mg:Str->Option Value}{base:Heap}
theorem okE {x qual:Str}{st:Stmt}{f:Addr}{fd:FuncData}{N ps:List Str}{k:Nat}{sp:Sp}(F:Fun K x qual st f fd) (S:aR N ps (aB st)) (len:∀ vs H Q E,sp vs H Q E->vs.length=ps.length)
  (hbody:∀ (cdv:Value) (A:Around) (outer:List Env) (s:Shared) (H:Hp) (vs:List V) (Q:VK) (E:XK),cO k (A.deeper (envOfC qual (aB st) s.heap.objs.size f cdv))->sp vs H Q E ->
   (iB (CXE P w) P w K mg base N qual (aB st) f cdv A outer s H E).Body E ->
   ∃ t,PSs (iB (CXE P w) P w K mg base N qual (aB st) f cdv A outer s H E) (aF st) t∧t { nx:=fun _ H'=>Q .non H',rt:=Q } (iD N vs) H):aS P w K mg base (CXE P w) (k+1) f fd ps sp:=by
 obtain⟨oc,od,kV,doc,pm,an,cdv,ct,osl,rfl,lk,hcd⟩:=F.ex;exact aAt lk hcd S len fun A outer s H vs Q E hr hsp=>hbody cdv A outer s H vs Q E hr hsp qL
structure aGf (K:PySem.W.Frag) (x qual:Str) (st:Stmt) (f:Addr) (fd:FuncData):Prop where
 ex:∃ (oc:Value) (od:Option Addr) (dV kV doc pm:Value) (an:Option Addr) (cdv ct:Value) (osl:Array (Option Value)),
  fd=PySem.W.fnOf x qual (aG st) (aF st) (aB st) dV kV doc pm an cdv ct∧K.lookup f=some ⟨oc,od,.func fd,osl⟩∧PySem.W.codeIn K cdv qual=true
 kp:PySem.W.keepIn K (.ref f)=true
theorem aMg {x qual:Str}{st:Stmt}{f:Addr}{fd:FuncData}{N ps:List Str}{k:Nat}{sp:Sp}(F:aGf K x qual st f fd) (S:aR N ps (aB st)) (len:∀ vs H Q E,sp vs H Q E->vs.length=ps.length)
  (hbody:∀ (cdv:Value) (A:Around) (outer:List Env) (s:Shared) (H:Hp) (vs:List V) (Q:VK) (E:XK),cO k (A.deeper (envOfC qual (aB st) s.heap.objs.size f cdv))->sp vs H Q E ->
   (iB (CXE P w) P w K mg base N qual (aB st) f cdv A outer s H E).Body E ->
   ∃ t,PSs (iB (CXE P w) P w K mg base N qual (aB st) f cdv A outer s H E) (aF st) t∧t { nx:=fun _ H'=>Q .non H',rt:=Q } (iD N vs) H):aS P w K mg base (CXE P w) (k+1) f fd ps sp:=by
 obtain⟨oc,od,dV,kV,doc,pm,an,cdv,ct,osl,rfl,lk,hcd⟩:=F.ex;exact aAt lk hcd S len fun A outer s H vs Q E hr hsp=>hbody cdv A outer s H vs Q E hr hsp qL
end
end Ky
namespace Ky
open PySem L2 PySem.Spec PyProof.Rows PySem.W
abbrev Dr:=Str×Str×Str
structure cL (H:Hp) (d:Addr) (ds:List Dr):Prop where
 ex:∃ ts:List Addr,H d=some (.lst (ts.map V.ref))∧ts.length=ds.length∧∀ (i:Nat) (t:Addr) (x:Dr),ts[i]?=some t->ds[i]?=some x->H t=some (.tup [.str x.1,.str x.2.1,.str x.2.2])
theorem cL.same {H H':Hp}{d:Addr}{ds:List Dr}(D:cL H d ds) (sm:aO H H'):cL H' d ds:=by
 obtain⟨ts,h1,h2,h3⟩:=D.ex;exact⟨ts,sm _ _ h1,h2,fun i t x a b=>sm _ _ (h3 i t x a b)⟩
theorem smu {H:Hp}{p:Addr}{o:HO}(h:H p=none):aO H (upd H p o):=fun b u e=>by
 rw[aH (aI e h)];exact e
theorem oS {n:Nat}(h:n<=16000000):n<=sizeLine:=Nat.le_trans h (by decide)
def eO (ds:List Dr):List Str:=ds.flatMap fun x=>[x.1,x.2.2]
def bZ (b:Str) (es:List Str) (ds:List Dr):List Str:=b::es++eO ds
theorem sB {ds:List Dr}{i:Nat}{x:Dr}(h:ds[i]?=some x):eO (ds.take (i+1))=eO (ds.take i)++[x.1]++[x.2.2]:=by
 unfold eO;rw[List.take_succ,h]
 simp
theorem lS (ds:List Dr):(eO ds).length=2*ds.length:=by
 induction ds with
 | nil=>rfl
 | cons x r ih => 
  have e:eO (x::r)=[x.1,x.2.2]++eO r:=rfl;have h2:([x.1,x.2.2]:List Str).length=2:=rfl;rw[e,List.length_append,ih,h2,List.length_cons];omega
inductive zV (vs:List V) (H:Hp) (Q:VK) (E:XK):Prop
 | mk (b:Str) (e d:Addr) (es:List Str) (ds:List Dr) (h0_:vs=[.str b,.ref e,.ref d]) (h1_:H e=some (.lst (es.map V.str))) (h2_:cL H d ds) (h3_:es.length<=1000) (h4_:ds.length<=1000)
  (h5_:∀ (p:Addr) H',aO H H'->H p=none->H' p=some (.lst ((bZ b es ds).map V.str))->Q (.ref p) H')
def iA (ss:List Str):Option Why:=if ss.all aQ=true then none else some .noName
inductive qZ (K:PySem.W.Frag) (cl:Why->Addr) (vs:List V) (H:Hp) (Q:VK) (E:XK):Prop
 | mk (a:Addr) (ss:List Str) (h0_:vs=[.ref a]) (h1_:SqL K H a (ss.map V.str)) (h2_:oC ss) (h3_:∀ H',aO H H'->ways cl (iA ss) (Q .non H') E H')
theorem sU {ss:List Str}{i:Nat}(h:(ss.take i).all aQ=true):iA ss=iA (ss.drop i):=by
 unfold iA
 have e:ss.all aQ=(ss.drop i).all aQ:=by
  conv=>lhs; rw[← List.take_append_drop i ss]
  rw[List.all_append,h,Bool.true_and]
 rw[e]
def inn (ds:List Dr) (z:Str):List (Key×V):=ds.filterMap fun x=>if x.1=z then some (Sum.inr x.2.1,V.str x.2.2) else none
theorem aHs (ds:List Dr) (z:Str):(inn ds z).length<=ds.length:=List.length_filterMap_le ..
theorem xI {ds:List Dr}{i:Nat}{x:Dr}(h:ds[i]?=some x) (z:Str):inn (ds.take (i+1)) z=inn (ds.take i) z++(if x.1=z then [(Sum.inr x.2.1,V.str x.2.2)] else []):=by
 unfold inn;rw[List.take_succ,h,List.filterMap_append]
 by_cases e:x.1=z
 ·simp[e]
 ·simp[e]
theorem aBd {kvs:List (Key×V)}{k:Key}(h:∀ p∈kvs,p.1≠k):dB kvs k=none:=by
 unfold dB;rw[List.find?_eq_none.mpr (fun p hp=>by simpa using h p hp)];rfl
theorem xJ {ds:List Dr}{z y:Str}(h:∀ x∈ds,x.1=z->x.2.1≠y):dB (inn ds z) (Sum.inr y)=none:=by
 refine aBd fun p hp=>?_;obtain⟨x,hx,e⟩:=List.mem_filterMap.mp hp
 by_cases ez:x.1=z
 ·rw[if_pos ez] at e;cases e;exact fun q=>h x hx ez (Sum.inr.inj q)
 ·rw[if_neg ez] at e;cases e
def Apart (ds:List Dr):Prop:=(ds.map fun x=>(x.1,x.2.1)).Nodup
theorem Apart.at {ds:List Dr}(h:Apart ds){i:Nat}{x:Dr}(hx:ds[i]?=some x):∀ y∈ds.take i,y.1=x.1->y.2.1≠x.2.1:=by
 intro y hy e1 e2;obtain⟨j,hj,ej⟩:=List.mem_iff_getElem.mp hy;rw[List.length_take] at hj;have hi:i<ds.length:=(List.getElem?_eq_some_iff.mp hx).1;have hji:j<i:=by omega
 have ey:ds[j]?=some y:=by
  rw[List.getElem_take] at ej;rw[List.getElem?_eq_getElem (by omega),ej]
 have:=(List.getElem?_inj (i:=j) (j:=i) (by rw[List.length_map]; omega) h).mp (by rw[List.getElem?_map,List.getElem?_map,ey,hx]; show some (y.1,y.2.1)=some (x.1,x.2.1); rw[e1,e2])
 omega
theorem kU (kvs:List (Key×V)) (k:Key):(kvs.any fun kv=>decide (kv.1=k))=(kvs.map (·.1)).any fun j=>decide (j=k):=by
 rw[List.any_map];rfl
theorem aBm {kvs kvs':List (Key×V)}(k:Key) (v v':V) (h:kvs.map (·.1)=kvs'.map (·.1)):(eV kvs k v).map (·.1)=(eV kvs' k v').map (·.1):=by
 have m:∀ (l:List (Key×V)) (u:V),(l.map fun kv=>if kv.1=k then (kv.1,u) else kv).map (·.1)=l.map (·.1):=fun l u=>by
  rw[List.map_map];refine List.map_congr_left fun p _=>?_;show (if p.1=k then (p.1,u) else p).1=p.1
  split <;> rfl
 unfold eV;rw[kU,kU,h]
 by_cases q:((kvs'.map (·.1)).any fun j=>decide (j=k))=true
 ·rw[if_pos q,if_pos q,m,m,h]
 ·rw[if_neg q,if_neg q,List.map_append,List.map_append,h];rfl
theorem xC:∀ (a:List Str) (z:Str) (k:List (Key×V)),mks (a++[z]) k=eV (mks a k) (Sum.inr z) (.bl true)
 | [],z,k=>rfl
 | s::r,z,k=>xC r z _
structure eA (H:Hp) (l:Addr) (rs:List Str) (ds:List Dr) (kvs:List (Key×V)) (g:Str->Addr):Prop where
 dk:H l=some (.dK kvs)
 keys:kvs.map (·.1)=(mks rs []).map (·.1)
 val:∀ z∈rs,dB kvs (Sum.inr z)=some (.ref (g z))
 dd:∀ z∈rs,H (g z)=some (.dK (inn ds z))
 inj:∀ z∈rs,∀ y∈rs,g z=g y->z=y
 ne:∀ z∈rs,g z≠l
theorem eA.same {H H':Hp}{l:Addr}{rs:List Str}{ds:List Dr}{kvs:List (Key×V)}{g:Str->Addr}(L:eA H l rs ds kvs g) (sm:aO H H'):eA H' l rs ds kvs g:=
 ⟨sm _ _ L.dk,L.keys,L.val,fun z hz=>sm _ _ (L.dd z hz),L.inj,L.ne⟩
theorem eA.more {H:Hp}{l d:Addr}{rs:List Str}{kvs:List (Key×V)}{g:Str->Addr}(L:eA H l rs [] kvs g) (hd:H d=none) (z:Str) :
  eA (upd (upd H d (.dK [])) l (.dK (eV kvs (Sum.inr z) (.ref d)))) l (rs++[z]) [] (eV kvs (Sum.inr z) (.ref d)) (fun y=>if y=z then d else g y):=by
 have dl:d≠l:=fun e=>by rw[e,L.dk] at hd; cases hd
 have gd:∀ y∈rs,g y≠d:=fun y hy e=>by have:=L.dd y hy; rw[e,hd] at this; cases this
 have mem:∀ y∈rs++[z],y≠z->y∈rs:=fun y hy n=>(List.mem_append.mp hy).resolve_right fun q=>n (List.mem_singleton.mp q);refine⟨aE,?_,fun y hy=>?_,fun y hy=>?_,fun y hy x hx e=>?_,fun y hy=>?_⟩
 ·rw[xC]; exact aBm _ _ _ L.keys
 ·rw[nA]
  by_cases e:y=z
  ·subst e;rw[if_pos rfl,if_pos rfl]
  ·rw[if_neg (fun q=>e (Sum.inr.inj q)),if_neg e];exact L.val y (mem y hy e)
 ·by_cases e:y=z
  ·subst e;rw[if_pos rfl,aH dl,aE];rfl
  ·rw[if_neg e,aH (L.ne y (mem y hy e)),aH (gd y (mem y hy e))];exact L.dd y (mem y hy e)
 ·by_cases e1:y=z
  ·by_cases e2:x=z
   ·rw[e1,e2]
   ·rw[if_pos e1,if_neg e2] at e;exact absurd e.symm (gd x (mem x hx e2))
  ·by_cases e2:x=z
   ·rw[if_neg e1,if_pos e2] at e;exact absurd e (gd y (mem y hy e1))
   ·rw[if_neg e1,if_neg e2] at e;exact L.inj y (mem y hy e1) x (mem x hx e2) e
 ·by_cases e:y=z
  ·rw[if_pos e]; exact dl
  ·rw[if_neg e]; exact L.ne y (mem y hy e)
theorem eA.door {H:Hp}{l:Addr}{rs:List Str}{ds:List Dr}{kvs:List (Key×V)}{g:Str->Addr}{i:Nat}{x:Dr}(L:eA H l rs (ds.take i) kvs g) (hx:ds[i]?=some x) (hr:x.1∈rs) (ha:Apart ds) :
  eA (upd H (g x.1) (.dK (eV (inn (ds.take i) x.1) (Sum.inr x.2.1) (.str x.2.2)))) l rs (ds.take (i+1)) kvs g:=by
 refine⟨?_,L.keys,L.val,fun z hz=>?_,L.inj,L.ne⟩
 ·rw[aH (Ne.symm (L.ne _ hr))]; exact L.dk
 ·by_cases e:z=x.1
  ·subst e;rw[aE,xI hx,if_pos rfl,aEc _ (xJ (ha.at hx))]
  ·rw[aH (fun q=>e (L.inj z hz _ hr q)),xI hx,if_neg (fun q=>e q.symm),List.append_nil];exact L.dd z hz
inductive zY (K:PySem.W.Frag) (vs:List V) (H:Hp) (Q:VK) (E:XK):Prop
 | mk (a d:Addr) (rs:List Str) (ds:List Dr) (h0_:vs=[.ref a,.ref d]) (h1_:SqL K H a (rs.map V.str)) (h2_:cL H d ds) (h3_:rs.length<=4000) (h4_:ds.length<=1000) (h5_:∀ x∈ds,x.1∈rs) (h6_:Apart ds)
  (h7_:∀ (l:Addr) (kvs:List (Key×V)) (g:Str->Addr) H',aO H H'->H l=none->(∀ z∈rs,H (g z)=none)->eA H' l rs ds kvs g->Q (.ref l) H')
theorem aAg {X:Cx}{st:Stmt}:PS X st (fun _ _ _=>False):=fun _ _ _ _ _ _ h=>h.elim
def eG (ds:List Dr) (ms:List Str):List Str:=ds.map (·.2.1)++ms
abbrev aIu:List Str:=["deeds","begin","rooms","ends","knows","require_room","at","to","is_end","goes","behind"]
abbrev aIv (l dd e k:Addr) (b:Str):List (Str×V):=[("leads",.ref l),("deeds_made_of",.ref dd),("first_room",.str b),("end_marks",.ref e),("known_marks",.ref k)]
theorem eC (l dd e k:Addr) (b:Str):∀ m∈aIu,(aIv l dd e k b).lookup m=none:=by
 have h:∀ m∈aIu,(m==("leads" : Str))=false∧(m==("deeds_made_of" : Str))=false∧(m==("first_room" : Str))=false∧(m==("end_marks" : Str))=false∧(m==("known_marks" : Str))=false:=by decide +kernel
 intro m hm;obtain⟨h1,h2,h3,h4,h5⟩:=h m hm;simp only[List.lookup,h1,h2,h3,h4,h5]
structure MAt (CM:Addr) (H:Hp) (x dx l dd e k:Addr) (b:Str) (es kn:List Str) (ds:List Dr) (kvs:List (Key×V)) (g:Str->Addr):Prop where
 ins:H x=some (.ins CM dx (aIv l dd e k b))
 lead:eA H l (bZ b es ds) ds kvs g
 ends:H e=some (.dK (mks es []))
 know:H k=some (.dK (mks kn []))
theorem MAt.same {CM:Addr}{H H':Hp}{x dx l dd e k:Addr}{b:Str}{es kn:List Str}{ds:List Dr}{kvs:List (Key×V)}{g:Str->Addr}(M:MAt CM H x dx l dd e k b es kn ds kvs g) (sm:aO H H'):MAt CM H' x dx l dd e k b es kn ds kvs g:=
 ⟨sm _ _ M.ins,M.lead.same sm,sm _ _ M.ends,sm _ _ M.know⟩
structure mV (K:PySem.W.Frag) (CM:Addr):Prop where
 cl:Cls K CM
 nl:fJ K CM "leads"
 nd:fJ K CM "deeds_made_of"
 nf:fJ K CM "first_room"
 ne:fJ K CM "end_marks"
 nk:fJ K CM "known_marks"
inductive uS (K:PySem.W.Frag) (C CM:Addr) (vs:List V) (H:Hp) (Q:VK) (E:XK):Prop
 | mk (x dd e d dx:Addr) (b:Str) (y:V) (es ms:List Str) (ds:List Dr) (wk:List (Key×V)) (h0_:vs=[.ref x,.ref dd,.str b,.ref e,.ref d,y]) (h1_:H x=some (.ins CM dx [])) (h2_:WAt C H dd wk)
  (h3_:H e=some (.lst (es.map V.str))) (h4_:cL H d ds) (h5_:(y=.non∧ms=[])∨∃ m,y=.ref m∧H m=some (.lst (ms.map V.str)))
  (h6_:es.length<=200∧ds.length<=800∧ms.length<=200) (h7_:(bZ b es ds).all aQ=true) (h8_:((eG ds ms).map V.str).all (cZ wk)=true) (h9_:oC (eG ds ms)) (h10_:Apart ds) (h11_:(mks (bZ b es ds) []).length<=60)
  (h12_:∀ (l e' k:Addr) (kvs:List (Key×V)) (g:Str->Addr) H',SameBut x H H'->MAt CM H' x dx l dd e' k b es (eG ds ms) ds kvs g->Q .non H')
theorem rC {ss:List Str}(h:ss.all aQ=true):oC ss:=fun z hz=>Nat.le_trans (nQ (List.all_eq_true.mp h z hz)) (by decide)
theorem aFs {b:Str}{es:List Str}{ds:List Dr}:∀ x∈ds,x.1∈bZ b es ds:=fun x hx=>List.mem_append_right _ (List.mem_flatMap.mpr ⟨x,hx,by simp⟩)
theorem wJ (b:Str) (es:List Str) (ds:List Dr):(bZ b es ds).length=1+es.length+2*ds.length:=by
 unfold bZ;rw[List.length_append,lS,List.length_cons];omega
inductive MM (CM:Addr) (H:Hp) (x dd:Addr) (b:Str) (es kn:List Str) (ds:List Dr):Prop
 | mk (dx l e k:Addr) (kvs:List (Key×V)) (g:Str->Addr) (m:MAt CM H x dx l dd e k b es kn ds kvs g)
theorem MM.same {CM:Addr}{H H':Hp}{x dd:Addr}{b:Str}{es kn:List Str}{ds:List Dr}(M:MM CM H x dd b es kn ds) (sm:aO H H'):MM CM H' x dd b es kn ds:=by
 obtain⟨dx,l,e,k,kvs,g,m⟩:=M;exact⟨dx,l,e,k,kvs,g,m.same sm⟩
def kJ (ds:List Dr) (z y:Str):Option Str:=(ds.find? fun x=>decide (x.1=z)&&decide (x.2.1=y)).map (·.2.2)
theorem aHq {x:Dr}{r:List Dr}{z:Str}(e:x.1=z):inn (x::r) z=(Sum.inr x.2.1,V.str x.2.2)::inn r z:=by simp[inn,e]
theorem aHr {x:Dr}{r:List Dr}{z:Str}(e:¬ x.1=z):inn (x::r) z=inn r z:=by simp[inn,e]
theorem aHp (ds:List Dr) (z y:Str):dB (inn ds z) (Sum.inr y)=(kJ ds z y).map V.str:=by
 induction ds with
 | nil=>rfl
 | cons x r ih=>
  unfold kJ at ih ⊢;rw[List.find?_cons]
  by_cases e:x.1=z
  ·rw[aHq e]
   by_cases e2:x.2.1=y
   ·rw[eB (by show Sum.inr x.2.1=_; rw[e2]),decide_eq_true e,decide_eq_true e2];rfl
   ·have:dB ((Sum.inr x.2.1,V.str x.2.2)::inn r z) (Sum.inr y)=dB (inn r z) (Sum.inr y):=by
     unfold dB;rw[List.find?_cons,decide_eq_false (fun q=>e2 (Sum.inr.inj q))]
    rw[this,ih,decide_eq_true e,decide_eq_false e2];rfl
  ·rw[aHr e,decide_eq_false e,Bool.false_and,ih]
inductive wD (CM:Addr) (vs:List V) (H:Hp) (Q:VK) (E:XK):Prop
 | mk (x dd:Addr) (b:Str) (es kn:List Str) (ds:List Dr) (h0_:vs=[.ref x]) (h1_:MM CM H x dd b es kn ds) (h2_:Q (.str b) H)
def oV (o:Option Str):V:=(o.map V.str).getD .non
def iT (ds:List Dr) (kn:List Str) (z y:Str):Option Str:=if y∈kn then kJ ds z y else some z
inductive uT (CM:Addr) (vs:List V) (H:Hp) (Q:VK) (E:XK):Prop
 | mk (x dd:Addr) (b z y:Str) (es kn:List Str) (ds:List Dr) (h0_:vs=[.ref x,.str z,.str y]) (h1_:MM CM H x dd b es kn ds) (h2_:z∈bZ b es ds) (h3_:Q (oV (iT ds kn z y)) H)
def walk (ds:List Dr) (kn:List Str) (z:Str):List Str->Option Str
 | []=>some z
 | y::r=>match iT ds kn z y with
  | none=>none
  | some z'=>walk ds kn z' r
inductive tN (K:PySem.W.Frag) (C CM:Addr) (cl:Why->Addr) (vs:List V) (H:Hp) (Q:VK) (E:XK):Prop
 | mk (x dd a:Addr) (b:Str) (es kn rw:List Str) (ds:List Dr) (wk:List (Key×V)) (h0_:vs=[.ref x,.ref a]) (h1_:MM CM H x dd b es kn ds) (h2_:WAt C H dd wk) (h3_:SqL K H a (rw.map V.str)) (h4_:oC rw) (h5_:(bZ b es ds).all aQ=true)
  (h6_:∀ H',aO H H'->ways cl (if (rw.map V.str).all (cZ wk)=true then none else some .noDeed) (Q (oV (walk ds kn b rw)) H') E H')
theorem zJ {ds:List Dr}{b:Str}{es:List Str}{z y u:Str}(h:kJ ds z y=some u):u∈bZ b es ds:=by
 unfold kJ at h;obtain⟨x,hx,rfl⟩:=Option.map_eq_some_iff.mp h;exact List.mem_append_right _ (List.mem_flatMap.mpr ⟨x,List.mem_of_find?_eq_some hx,by simp⟩)
theorem rV {ds:List Dr}{kn:List Str}{b:Str}{es:List Str}{z y u:Str}(hz:z∈bZ b es ds) (h:iT ds kn z y=some u):u∈bZ b es ds:=by
 unfold iT at h
 by_cases q:y∈kn
 ·rw[if_pos q] at h; exact zJ h
 ·rw[if_neg q] at h; cases h; exact hz
theorem cL.push {H:Hp}{d t:Addr}{ds:List Dr}(D:cL H d ds) (ht:H t=none) (x:Dr):∃ xs,H d=some (.lst xs)∧xs.length=ds.length∧cL (upd (upd H t (.tup [.str x.1,.str x.2.1,.str x.2.2])) d (.lst (xs++[.ref t]))) d (ds++[x]):=by
 obtain⟨ts,h1,h2,h3⟩:=D.ex;refine⟨_,h1,by rw[List.length_map,h2],⟨ts++[t],?_,?_,fun i u y hu hy=>?_⟩⟩
 ·rw[aE,List.map_append]; rfl
 ·rw[List.length_append,List.length_append,h2]; rfl
 ·by_cases hi:i<ts.length
  ·rw[List.getElem?_append_left hi] at hu;rw[List.getElem?_append_left (by rw[← h2]; exact hi)] at hy;have e:=h3 i u y hu hy;rw[aH (fun z=>by rw[z,h1] at e; cases e),aH (aI e ht)];exact e
  ·have hl:i=ts.length:=by
    have:=(List.getElem?_eq_some_iff.mp hu).1
    rw[List.length_append] at this;simp only[List.length_cons,List.length_nil] at this;omega
   subst hl;rw[List.getElem?_append_right (Nat.le_refl _),Nat.sub_self] at hu;rw[h2,List.getElem?_append_right (Nat.le_refl _),Nat.sub_self] at hy;cases hu;cases hy;rw[aH (fun z=>by rw[z,h1] at ht; cases ht),aE]
theorem cL.rev {H:Hp}{d:Addr}{ds:List Dr}(D:cL H d ds):∃ xs,H d=some (.lst xs)∧xs.length=ds.length∧cL (upd H d (.lst xs.reverse)) d ds.reverse:=by
 obtain⟨ts,h1,h2,h3⟩:=D.ex;refine⟨_,h1,by rw[List.length_map,h2],⟨ts.reverse,?_,?_,fun i u y hu hy=>?_⟩⟩
 ·rw[aE,List.map_reverse]
 ·rw[List.length_reverse,List.length_reverse,h2]
 ·have hi:i<ts.length:=by have:=(List.getElem?_eq_some_iff.mp hu).1; rw[List.length_reverse] at this; exact this
  rw[List.getElem?_reverse hi] at hu;rw[List.getElem?_reverse (by rw[← h2]; exact hi),← h2] at hy;have e:=h3 _ u y hu hy;rw[aH (fun z=>by rw[z,h1] at e; cases e)];exact e
def rH (p:Nat->Bool) (ss:List Str) (i:Nat):List Str:=(List.range i).filterMap fun k=>if p k=true then ss[k]? else none
theorem gS {p:Nat->Bool}{ss:List Str}{i:Nat}{z:Str}(h:ss[i]?=some z):rH p ss (i+1)=rH p ss i++(if p i=true then [z] else []):=by
 unfold rH;rw[List.range_succ,List.filterMap_append]
 by_cases e:p i=true
 ·simp[e,h]
 ·simp[e]
theorem jX (p:Nat->Bool) (ss:List Str) (i:Nat):(rH p ss i).length<=i:=by
 refine Nat.le_trans (List.length_filterMap_le ..) ?_;rw[List.length_range];exact Nat.le_refl _
theorem wQ {p:Nat->Bool}{ss:List Str}{i:Nat}:∀ z∈rH p ss i,z∈ss:=fun z hz=>by
 obtain⟨k,_,e⟩:=List.mem_filterMap.mp hz
 by_cases q:p k=true
 ·rw[if_pos q] at e; exact List.mem_of_getElem? e
 ·rw[if_neg q] at e; cases e
end Ky
namespace K24
open PySem L2 Ky
seal L2.PE L2.PS L2.PSs L2.PA L2.PT L2.PW L2.PG L2.PI L2.PTs L2.PO L2.OpR L2.IxR L2.CallR L2.MtM L2.MtR
def top (i:Nat):Stmt:=PySem.Challenge.pw_roomward_k24_whole_woven_rows.main.body.getD i (.Pass ⟨0,0,0,0⟩)
abbrev kZ:Stmt:=top 9
abbrev lB:Stmt:=top 10
abbrev jM:Stmt:=top 16
abbrev lA:Stmt:=top 17
abbrev iO:Stmt:=top 18
abbrev oU:Stmt:=top 19
abbrev yF:Stmt:=top 20
abbrev oT:Stmt:=top 23
abbrev gR:Stmt:=top 24
abbrev oW:Stmt:=top 25
abbrev gM:Stmt:=top 26
abbrev hG:Stmt:=top 29
abbrev lX:Stmt:=top 30
abbrev hJ:Stmt:=top 31
abbrev iQ:Stmt:=top 32
abbrev iZ:Stmt:=top 33
abbrev gY:Stmt:=top 34
abbrev jW:Stmt:=top 36
abbrev tT:Stmt:=top 37
abbrev gL:Stmt:=top 38
abbrev gZ:Stmt:=top 39
abbrev gW:Stmt:=top 40
abbrev dR:Stmt:=top 41
abbrev gX:Stmt:=top 42
abbrev tS:Stmt:=top 43
abbrev gF:Stmt:=top 44
abbrev jV:Stmt:=top 45
abbrev aBj:Stmt:=top 46
abbrev lH:Stmt:=top 47
abbrev nJ:Stmt:=aD yF 0
abbrev yE:Stmt:=aD yF 3
abbrev iP:Stmt:=aD yF 4
abbrev lO:Stmt:=aD gM 0
abbrev pH:Stmt:=aD gM 1
abbrev pI:Stmt:=aD gM 2
abbrev pF:Stmt:=aD gM 5
abbrev iR:Stmt:=aD gM 6
abbrev pG:Stmt:=aD gM 9
abbrev uB:Stmt:=aD gM 10
abbrev lF:Stmt:=aD gM 11
abbrev sX:Stmt:=aD iZ 0
abbrev oJ:Stmt:=aD iZ 1
abbrev oK:Stmt:=aD iZ 2
abbrev oH:Stmt:=aD iZ 3
abbrev wAt:Stmt:=aD iZ 4
abbrev wTo:Stmt:=aD iZ 5
abbrev oI:Stmt:=aD iZ 6
abbrev qS:Stmt:=aD iZ 7
abbrev gD:Stmt:=aD iZ 8
structure Txt (K:PySem.W.Frag) (mg:Str->Option Value):Prop where
 lett:∃ t,mg "LETTERS"=some (.str iI t)
 figu:∃ t,mg "FIGURES"=some (.str jJ t)
 most:∃ t,mg "MOST_SIGNS"=some (.int 8 t)
 deeds:∃ t,mg "MOST_DEEDS"=some (.int 12 t)
 isi:mg "isinstance"=none
 str:mg "str"=none
 bool:mg "bool"=none
 int:mg "int"=none
 len:mg "len"=none
 all:mg "all"=none
 range:mg "range"=none
 sorted:mg "sorted"=none
 list:mg "list"=none
 enum:mg "enumerate"=none
section
variable {P:Program}{w:World}{K:PySem.W.Frag}{mg:Str->Option Value}{base:Heap}
theorem scM:aR ["_law_cell","_law_k","_law_one_here"] ["_law_cell","_law_k"] (aB jW):=⟨rfl,rfl,rfl,by decide +kernel,rfl,by decide +kernel,by decide +kernel⟩
theorem nL {f:Addr}{fd:FuncData}(F:Fun K "_law_mixed" "_law_mixed" jW f fd):aS P w K mg base CX0 1 f fd ["_law_cell","_law_k"] nG:=by
 refine F.ok scM (fun vs H Q E h=>?_) (fun cdv A outer s H vs Q E hr h=>?_)
 ·obtain⟨c,k,rfl,_⟩:=h;rfl
 ·obtain⟨c,k,rfl,q⟩:=h
  refine⟨_,aK (bO (i:=2) scM.nd rfl (Or.inl rfl) (aY cQ (aY lZ (aY dU (pv 0) (aY lZ aN (pv 1))) aN) aN))
   (aL (bS (aY cQ (aY lZ (pv 2) (aY dU (aY dU (pv 2) (aY lZ aN (pv 1))) aN)) aN))),?_⟩
  refine⟨_,rfl,_,rfl,_,_,rfl,rfl,.inl ⟨by decide,by decide⟩,_,_,rfl,rfl,_,_,rfl,rfl,.inr ⟨by decide,by decide⟩,_,_,rfl,rfl,(by show (0:Int)<2147483647; decide),?_⟩;have h0:0<=(c+7919*k)*48271%2147483647:=Int.emod_nonneg _ (by decide);have h1:(c+7919*k)*48271%2147483647<2147483647:=Int.emod_lt_of_pos _ (by decide);refine⟨_,rfl,_,rfl,_,rfl,_,_,rfl,rfl,.inl ⟨by decide,by decide⟩,_,_,rfl,rfl,_,_,rfl,rfl,_,_,rfl,rfl,.inl ⟨?_,?_⟩,_,_,rfl,rfl,(by show (0:Int)<2147483629; decide),q⟩
  ·exact Int.lt_of_lt_of_le (by decide) h0
  ·exact Int.lt_of_lt_of_le h1 (by decide)
theorem scC:aR ["_law_script","_law_k"] ["_law_script","_law_k"] (aB tT):=⟨rfl,rfl,rfl,by decide +kernel,rfl,by decide +kernel,by decide +kernel⟩
theorem aHg {f fM:Addr}{fd fdM:FuncData}(F:Fun K "_law_cell_at" "_law_cell_at" tT f fd) (T:Txt K mg) (FM:Fun K "_law_mixed" "_law_mixed" jW fM fdM) (bM:aU K fdM ["_law_cell","_law_k"] []) (mM:mg "_law_mixed" = some (.ref fM)) :
  aS P w K mg base CX0 2 f fd ["_law_script","_law_k"] (aDt K):=by
 have GM:aS P w K mg base CX0 1 fM fdM ["_law_cell","_law_k"] nG:=nL FM;refine F.ok scC (fun vs H Q E h=>?_) (fun cdv A outer s H vs Q E hr h=>?_)
 ·obtain⟨a,ns,k,rfl,_⟩:=h;rfl
 ·obtain⟨a,ns,k,rfl,hS,q⟩:=h
  refine⟨_,aK (dJ (bY aEp (pv 1) (cX dF (by rfl) T.len PySem.boot_len (iH (pv 0) aJ)) (cH _))
    (aL (bS (bJ GM hr rfl mM FM.kp bM .nil bU (iH (eW cY (pv 0) (pv 1) (fun _ _=>rfl)) (iH (pv 1) aJ))))) cF)
   (aL (bS aN)),?_⟩
  refine⟨_,rfl,_,rfl,a,_,rfl,.inl hS,_,_,rfl,rfl,_,rfl,?_⟩;rw[List.length_map];refine dY (fun hk=>?_) (fun hk=>?_)
  ·have hk':k<ns.length:=by have:=of_decide_eq_true hk; omega
   have ek:ns[k]?=some ns[k]:=by simp[hk']
   refine⟨_,rfl,_,rfl,a,_,_,_,rfl,rfl,hS,jK (v:=V.int ns[k]) (by rw[List.getElem?_map,ek]; rfl),_,rfl,ns[k],k,rfl,?_⟩;have e:RW.cellAt ns k=RW.mixed ns[k] k:=by unfold RW.cellAt; rw[ek]
   rw[← e];exact q
  ·have hk':¬ k<ns.length:=by intro z; exact hk (decide_eq_true (by omega))
   have e:RW.cellAt ns k=0:=by unfold RW.cellAt; rw[List.getElem?_eq_none (by omega)]
   rw[e] at q;exact q
theorem scN:aR ["thing","signs"] ["thing"] (aB jM):=⟨rfl,rfl,rfl,by decide +kernel,rfl,by decide +kernel,by decide +kernel⟩
theorem qJ {f:Addr}{fd:FuncData}(F:Fun K "is_name" "is_name" jM f fd) (T:Txt K mg):aS P w K mg base CX0 1 f fd ["thing"] (rA K):=by
 obtain⟨tl,mL⟩:=T.lett;obtain⟨tf,mF⟩:=T.figu;obtain⟨tm,mM⟩:=T.most;refine F.ok scN (fun vs H Q E h=>?_) (fun cdv A outer s H vs Q E hr h=>?_)
 ·obtain⟨x,rfl,_⟩:=h;rfl
 ·obtain⟨x,rfl,h⟩:=h
  refine⟨_,aK (dJ (wO (lY (oY (cX aFx (by rfl) T.isi Bo.isinstance (iH (pv 0) (iH (aHc (v:=.ty "str") (by rfl) T.str Bo.str rfl) aJ)))))
     (wO (lY (wP (pv 0) (fun _=>rfl)))
     (uZ (bY rM (cX vR (by rfl) T.len Bo.len (iH (pv 0) aJ)) (jE (v:=.int 8) (by rfl) mM ⟨_,rfl⟩) (cH _))))).pt
    (aL (bS tW)) cF)
   (aK (bO (i:=1) scN.nd rfl (Or.inr rfl) (aY yK (jE (v:=.str iI) (by rfl) mL ⟨_,rfl⟩) (jE (v:=.str jJ) (by rfl) mF ⟨_,rfl⟩)))
   (aL (bS (aEn (qH tX (eW aKu (pv 0) aN (fun _ _=>rfl)) (jE (v:=.str iI) (by rfl) mL ⟨_,rfl⟩) (by with_unfolding_all rfl))
    (aEg (cX (uJ rfl) (by rfl) T.all Bo.all (iH (gB (N':=["sign","signs"]) (nown:=1) (js:=[1]) rfl
     ⟨rfl,by decide +kernel,by decide +kernel⟩ (cK (aB jM) ["thing","signs"] rfl rfl (by decide +kernel))
     ⟨fun _ _ _ _=>aP (i:=0) (show List.Nodup (["sign","signs"]:List Str) by decide +kernel) rfl (Or.inl rfl) (.inr rfl),fun _ _ _ _=>eN,fun _ _ _ _=>qH tX (pv 0) (pv 1) (by with_unfolding_all rfl)⟩
     (aJz (pv 0))) aJ))))))),?_⟩
  rcases h with⟨z,rfl,hz,q⟩ | ⟨t,ty,hk,q⟩
  ·refine⟨_,rfl,.str z,.ty "str",.type "str",.type "str",true,rfl,aDy,mU.str z,rfl,_,rfl,gH ?_⟩;refine⟨_,rfl,_,⟨hz,rfl⟩,?_⟩
   by_cases h0:z.length=0
   ·rw[h0];refine jI (jI ?_)
    have e:aQ z=false:=by
     have:z.cps.toList.length=0:=by rw[Array.length_toList]; exact h0
     unfold aQ nU;rw[List.length_eq_zero_iff.mp this];rfl
    have q':=q H (aO.refl H);rw[e] at q';exact q'
   ·have hb:((z.length:Int) != 0)=true:=by simp[h0]
    rw[hb];refine gH ⟨_,rfl,z,rfl,hz,_,_,rfl,rfl,_,rfl,?_⟩;refine dY (fun h8=>?_) (fun h8=>?_)
    ·have h8':8<z.length:=by have:=of_decide_eq_true h8; omega
     have e:aQ z=false:=by
      have hl:z.cps.toList.length=z.length:=by simp[Str.length]
      unfold aQ nU;rw[decide_eq_false (by omega)];rfl
     have q':=q H (aO.refl H);rw[e] at q';exact q'
    ·have h8':z.length<=8:=by
      by_cases z8:z.length<=8
      ·exact z8
      ·exact absurd (decide_eq_true (show (8:Int)<(z.length:Int) by omega)) h8
     have hl:z.cps.toList.length=z.length:=by simp[Str.length]
     obtain⟨c,cs,ec⟩:∃ c cs,z.cps.toList=c::cs:=by
      cases e:z.cps.toList with
      | nil=>rw[e] at hl; exact absurd hl.symm h0
      | cons c cs=>exact⟨c,cs,rfl⟩
     have hat:atI z.cps.toList 0=some c:=by
      rw[ec];exact jK (j:=0) rfl
     have hn:aQ z=(kG c&&z.cps.toList.all mO):=by
      unfold aQ nU;rw[decide_eq_true (show 1<=z.cps.toList.length∧z.cps.toList.length<=8 by omega)];rw[ec];rfl
     refine⟨_,_,rfl,rfl,by decide +kernel,?_⟩;refine⟨_,rfl,z,0,c,rfl,rfl,hz,hat,_,_,rfl,rfl,_,rfl,?_⟩;rw[StrLaws.found_one,pU];refine dY (fun hc=>?_) (fun hc=>?_)
     ·refine⟨_,rfl,z,rfl,fun D hD=>aIb (x:=z) (fun i σ' H'=>∃ v,σ'=[v,some (.str (iI++jJ))]∧H' D=some (.lst (((z.cps.toList.take i).map mO).map V.bl))∧aO H H') ?_ ?_ ?_⟩
      ·exact⟨none,rfl,aE,fun b o e=>by rw[aH (aI e hD)]; exact e⟩
      ·rintro i d σ' H' hd ⟨v,rfl,hl',sm⟩;refine⟨_,rfl,_,rfl,_,_,rfl,rfl,_,hl',?_,some (aAd d),rfl,?_,?_⟩
       ·refine aW ?_;rw[List.length_map,List.length_map,List.length_take];omega
       ·rw[aE,StrLaws.found_one,aCh];have hd':z.cps.toList[i]?=some d:=by rw[Array.getElem?_toList]; exact hd
        rw[List.take_succ,hd']
        simp
       ·intro b o e;have e':=sm b o e;rw[aH (aI e hD)];exact e'
      ·rintro σ' H' ⟨v,rfl,hl',sm⟩;refine⟨D,_,rfl,SqL.of hl',?_⟩;have q':=q H' sm;rw[hn,hc,Bool.true_and] at q'
       have ea:((z.cps.toList.take z.cps.size).map mO).all id=z.cps.toList.all mO:=by
        rw[List.take_of_length_le (by simp),List.all_map];rfl
       rw[ea];exact q'
     ·have q':=q H (aO.refl H);rw[hn,Bool.eq_false_iff.mpr hc,Bool.false_and] at q';exact q'
  ·refine⟨_,rfl,x,.ty "str",.type "str",t,false,rfl,aDy,ty,hk,_,rfl,jI (jI ?_)⟩;exact q
theorem scW:aR ["names","weights","weight","name"] ["names"] (aB iO):=⟨rfl,rfl,rfl,by decide +kernel,rfl,by decide +kernel,by decide +kernel⟩
theorem yL {f:Addr}{fd:FuncData}(F:Fun K "weights_of" "weights_of" iO f fd) (T:Txt K mg):aS P w K mg base CX0 1 f fd ["names"] (tI K):=by
 refine F.ok scW (fun vs H Q E h=>?_) (fun cdv A outer s H vs Q E hr h=>?_)
 ·obtain⟨a,ss,rfl,_⟩:=h;rfl
 ·obtain⟨a,ss,rfl,hS,h64,q⟩:=h;have hu:=iS hr
  refine⟨_,aK (bO (i:=1) scW.nd rfl (Or.inl rfl) jZ)
   (aK (bO (i:=2) scW.nd rfl (Or.inl rfl) aN)
   (aK (dS PassesOwn.never rfl (dC (cX vQ (by rfl) T.sorted Bo.sorted (pac (pv 0) aJ))) (aP (i:=3) scW.nd rfl (Or.inl rfl))
    (aK (jC hu (pv 1) (pv 3) (pv 2) rfl) (aL (bO (i:=2) scW.nd rfl (Or.inl rfl) (aY lZ (pv 2) aN)))))
   (aL (bS (pv 1))))),?_⟩
  intro d hd;have s0:aO H (upd H d (.dK [])):=fun b o e=>by rw[aH (aI e hd)]; exact e
  refine⟨_,rfl,a,ss,rfl,s0.seq hS,h64,fun p ss' hp pm so=>⟨p,rfl,⟨_,SqL.of aE⟩,?_⟩⟩;have hpd:p≠d:=fun z=>by rw[z,aE] at hp; cases hp
  have hpH:H p=none:=by rw[aH hpd] at hp; exact hp
  have hlen:ss'.length=ss.length:=pm.length_eq;refine dN (xs:=ss'.map V.str) (fun i σ H'=>∃ wv kvs nv,σ=[some (.ref a),some (.ref d),some (.int wv),nv]∧H' d=some (.dK kvs)∧H' p=some (.lst (ss'.map V.str))∧aO H H'∧kvs.length<=i∧wts (ss'.drop i) wv kvs=wts ss' 1 []) ?_ ?_ ?_ ?_
  ·exact⟨1,[],none,rfl,by rw[aH (Ne.symm hpd),aE],aE,fun b o e=>by rw[aH (aI e hpH),aH (aI e hd)]; exact e,Nat.le_refl _,rfl⟩
  ·rintro i σ H' _ ⟨wv,kvs,nv,rfl,h1,h2,h3,h4,h5⟩;exact SqL.of h2
  ·rintro i x σ H' hx ⟨wv,kvs,nv,rfl,h1,h2,h3,h4,h5⟩;rw[List.getElem?_map] at hx;cases hz:ss'[i]? with
   | none=>rw[hz] at hx; cases hx
   | some z=>
    rw[hz] at hx;cases hx;have hi:i<ss'.length:=(List.getElem?_eq_some_iff.mp hz).1;refine⟨_,rfl,_,rfl,_,rfl,d,_,rfl,pR.k (k:=Sum.inr z) h1 (aW (by omega)),?_⟩;refine⟨_,rfl,_,_,rfl,rfl,.inr ⟨by decide,by decide⟩,wv*2,eV kvs (Sum.inr z) (.int wv),some (.str z),rfl,aE,by rw[aH hpd]; exact h2,fun b o e=>?_,?_,?_⟩
    ·rw[aH (aI e hd)]; exact h3 b o e
    ·exact Nat.le_trans (fV _ _ _) (by omega)
    ·rw[← h5,List.drop_eq_getElem_cons hi];rw[(List.getElem?_eq_some_iff.mp hz).2];rfl
  ·rintro σ H' ⟨wv,kvs,nv,rfl,h1,h2,h3,h4,h5⟩;rw[List.length_map,List.drop_length] at h5;refine⟨_,rfl,q d ss' H' h3 hd pm so ?_⟩;rw[h1];exact congrArg (fun z=>some (HO.dK z)) h5
theorem scK:aR ["names","marks","name"] ["names"] (aB oU):=⟨rfl,rfl,rfl,by decide +kernel,rfl,by decide +kernel,by decide +kernel⟩
theorem aEu {f:Addr}{fd:FuncData}(F:Fun K "marks_of" "marks_of" oU f fd) (T:Txt K mg):aS P w K mg base CX0 1 f fd ["names"] (qD K):=by
 refine F.ok scK (fun vs H Q E h=>?_) (fun cdv A outer s H vs Q E hr h=>?_)
 ·obtain⟨a,ss,rfl,_⟩:=h;rfl
 ·obtain⟨a,ss,rfl,hS,hlen,q⟩:=h;have hu:=iS hr
  refine⟨_,aK (bO (i:=1) scK.nd rfl (Or.inl rfl) jZ)
   (aK (dS PassesOwn.never rfl (dC (pv 0)) (aP (i:=2) scK.nd rfl (Or.inl rfl)) (aL (jC hu (pv 1) (pv 2) tW rfl)))
   (aL (bS (pv 1)))),?_⟩
  intro d hd;have s0:aO H (upd H d (.dK [])):=fun b o e=>by rw[aH (aI e hd)]; exact e
  refine⟨_,rfl,a,rfl,⟨_,s0.seq hS⟩,?_⟩;refine dN (xs:=ss.map V.str) (fun i σ H'=>∃ kvs nv,σ=[some (.ref a),some (.ref d),nv]∧H' d=some (.dK kvs)∧aO H H'∧kvs.length<=i∧mks (ss.drop i) kvs=mks ss []) ?_ ?_ ?_ ?_
  ·exact⟨[],none,rfl,aE,s0,Nat.le_refl _,rfl⟩
  ·rintro i σ H' _ ⟨kvs,nv,rfl,h1,h3,h4,h5⟩;exact h3.seq hS
  ·rintro i x σ H' hx ⟨kvs,nv,rfl,h1,h3,h4,h5⟩;rw[List.getElem?_map] at hx;cases hz:ss[i]? with
   | none=>rw[hz] at hx; cases hx
   | some z=>
    rw[hz] at hx;cases hx;have hi:i<ss.length:=(List.getElem?_eq_some_iff.mp hz).1;refine⟨_,rfl,_,rfl,d,_,rfl,pR.k (k:=Sum.inr z) h1 (aW (by omega)),eV kvs (Sum.inr z) (.bl true),some (.str z),rfl,aE,fun b o e=>?_,?_,?_⟩
    ·rw[aH (aI e hd)]; exact h3 b o e
    ·exact Nat.le_trans (fV _ _ _) (by omega)
    ·rw[← h5,List.drop_eq_getElem_cons hi];rw[(List.getElem?_eq_some_iff.mp hz).2];rfl
  ·rintro σ H' ⟨kvs,nv,rfl,h1,h3,h4,h5⟩;rw[List.length_map,List.drop_length] at h5;refine⟨_,rfl,q d H' h3 hd ?_⟩;rw[h1];exact congrArg (fun z=>some (HO.dK z)) h5
end
end K24
namespace K24
open PySem L2 Ky
seal L2.PE L2.PS L2.PSs L2.PA L2.PT L2.PW L2.PG L2.PI L2.PTs L2.PO L2.OpR L2.IxR L2.CallR L2.MtM L2.MtR
structure Exc (K:PySem.W.Frag) (mg:Str->Option Value) (cl:Why->Addr):Prop where
 nn:mg "NoName"=some (.ref (cl .noName))
 nd:mg "NoDeed"=some (.ref (cl .noDeed))
 tt:mg "TwiceTold"=some (.ref (cl .twice))
 tm:mg "TooMany"=some (.ref (cl .tooMany))
 x:∀ k,xW K (cl k)
section
variable {P:Program}{w:World}{K:PySem.W.Frag}{mg:Str->Option Value}{base:Heap}
theorem scR:aR ["names","ahead","name"] ["names"] (aB lA):=⟨rfl,rfl,rfl,by decide +kernel,rfl,by decide +kernel,by decide +kernel⟩
theorem aBz {f fN:Addr}{fd fdN:FuncData}{cl:Why->Addr}(F:Fun K "refuse_names" "refuse_names" lA f fd) (T:Txt K mg) (Ex:Exc K mg cl)
  (FN:Fun K "is_name" "is_name" jM fN fdN) (bN:aU K fdN ["thing"] []) (mN:mg "is_name" = some (.ref fN)) :
  aS P w K mg base (CXE P w) 2 f fd ["names"] (wB K cl):=by
 have GN:aS P w K mg base CX0 1 fN fdN ["thing"] (rA K):=qJ FN T;obtain⟨tm,mD⟩:=T.deeds;refine okE F scR (fun vs H Q E h=>?_) (fun cdv A outer s H vs Q E hr h D=>?_)
 ·obtain⟨a,ss,rfl,_⟩:=h;rfl
 ·obtain⟨a,ss,rfl,hS,hsh,q⟩:=h;have hu:=iS hr
  refine⟨_,aK (dJ (bY rM (cX dF (by rfl) T.len Bo.len (pac (pv 0) aJ)) (jE (v:=.int 12) (by rfl) mD ⟨_,rfl⟩) (cH _))
    (aL (gN D rfl (by rfl) Ex.tm (Ex.x .tooMany) (pac bX aJ))) cF)
   (aK (bO (i:=1) scR.nd rfl (Or.inl rfl) jZ)
   (aL (dS PassesOwn.leaving rfl (dC (pv 0)) (aP (i:=2) scR.nd rfl (Or.inl rfl))
    (aK (dJ (lY (oY (bJ GN hr rfl mN FN.kp bN .nil bU (pac (pv 2) aJ)))) (aL (gN D rfl (by rfl) Ex.nn (Ex.x .noName) (pac bX aJ))) cF)
    (aK (dJ (oZ (rL hu (pv 2) (pv 1))) (aL (gN D rfl (by rfl) Ex.tt (Ex.x .twice) (pac (wU bX (aKa (pv 2)) bX) aJ))) cF)
    (aL (jC hu (pv 1) (pv 2) tW rfl))))))),?_⟩
  refine⟨_,rfl,a,_,rfl,.inl hS,_,_,rfl,rfl,_,rfl,?_⟩;rw[List.length_map]
  have fin:∀ (k:Why) H',aO H H'->iE ss=some k->E (.ref (cl k)) none H':=fun k H' sm e=>by
   have:=q H' sm
   rw[e] at this;exact this
  refine dY (fun h12=>?_) (fun h12=>?_)
  ·have h12':12<ss.length:=by have:=of_decide_eq_true h12; omega
   exact⟨by show 1<=sizeLine; decide,fin .tooMany H (aO.refl H) (if_pos h12')⟩
  ·have h12':¬ 12<ss.length:=fun z=>h12 (decide_eq_true (by omega));have er:iE ss=sQ [] ss:=if_neg h12';intro d hd;have s0:aO H (upd H d (.dK [])):=fun b o e=>by rw[aH (aI e hd)]; exact e
   refine⟨_,rfl,a,rfl,⟨_,s0.seq hS⟩,?_⟩;refine dN (xs:=ss.map V.str) (fun i σ H'=>∃ kvs nv,σ=[some (.ref a),some (.ref d),nv]∧H' d=some (.dK kvs)∧aO H H'∧kvs.length<=i∧(∀ z,(dB kvs (Sum.inr z)).isSome=decide (z∈ss.take i))∧sQ (ss.take i) (ss.drop i)=sQ [] ss) ?_ ?_ ?_ ?_
   ·exact⟨[],none,rfl,aE,s0,Nat.le_refl _,fun z=>by simp[dB],rfl⟩
   ·rintro i σ H' _ ⟨kvs,nv,rfl,h1,h3,h4,h5,h6⟩;exact h3.seq hS
   ·rintro i x σ H' hx ⟨kvs,nv,rfl,h1,h3,h4,h5,h6⟩;rw[List.getElem?_map] at hx;cases hz:ss[i]? with
    | none=>rw[hz] at hx; cases hx
    | some z=>
     rw[hz] at hx;cases hx;obtain⟨hi,hzi⟩:=List.getElem?_eq_some_iff.mp hz;have hzl:z.length<=1000:=hsh z (List.mem_of_getElem? hz);have ed:ss.drop i=z::ss.drop (i+1):=by rw[List.drop_eq_getElem_cons hi,hzi]
     have et:ss.take (i+1)=ss.take i++[z]:=by rw[List.take_succ,hz]; rfl
     have sl:sizeLine=16777216:=sizeLine_eq;rw[ed] at h6;refine⟨_,rfl,.str z,rfl,.inl ⟨z,rfl,by omega,fun H2 sm2=>⟨_,rfl,?_⟩⟩⟩;have s2:aO H H2:=h3.trans sm2
     by_cases hn:aQ z=true
     ·rw[hn];refine gH ⟨_,rfl,_,rfl,d,_,rfl,eX.k (k:=Sum.inr z) (sm2 d _ h1),_,rfl,?_⟩;rw[h5 z]
      by_cases hm:z∈ss.take i
      ·rw[decide_eq_true hm];refine jI ⟨_,rfl,?_,_,rfl,z,rfl,by omega,_,rfl,?_,_,rfl,?_,?_,by show 1<=sizeLine; decide,fin .twice H2 s2 ?_⟩
       ·rw[gQ]; show 0+9<=sizeLine; decide
       ·rw[gQ,gQ]; show 0+9+z.length<=sizeLine; omega
       ·rw[gQ,gQ,gQ]; show 0+9+z.length+14<=sizeLine; omega
       ·rw[gQ,gQ,gQ]; show 0+9+z.length+14<=sizeLine; omega
       ·rw[er,← h6];show (if aQ z=true then (if z∈ss.take i then some Why.twice else sQ (ss.take i++[z]) (ss.drop (i+1))) else some .noName)=_
        rw[if_pos hn,if_pos hm]
      ·rw[decide_eq_false hm];refine gH ⟨_,rfl,_,rfl,d,_,rfl,pR.k (k:=Sum.inr z) (sm2 d _ h1) (aW (by omega)),eV kvs (Sum.inr z) (.bl true),some (.str z),rfl,aE,fun b o e=>?_,?_,fun y=>?_,?_⟩
       ·rw[aH (aI e hd)]; exact s2 b o e
       ·exact Nat.le_trans (fV _ _ _) (by omega)
       ·rw[nA,et]
        by_cases hy:y=z
        ·subst hy;rw[if_pos rfl]
         simp
        ·rw[if_neg (fun e=>hy (Sum.inr.inj e)),h5 y];simp[hy]
       ·rw[et,← h6];show _=if aQ z=true then (if z∈ss.take i then some .twice else sQ (ss.take i++[z]) (ss.drop (i+1))) else some .noName
        rw[if_pos hn,if_neg hm]
     ·rw[Bool.eq_false_iff.mpr hn];refine jI ⟨by show 1<=sizeLine; decide,fin .noName H2 s2 ?_⟩;rw[er,← h6];exact if_neg hn
   ·rintro σ H' ⟨kvs,nv,rfl,h1,h3,h4,h5,h6⟩;rw[List.length_map,List.drop_length,List.take_length] at h6
    have:=q H' h3
    rw[er,← h6] at this;exact this
structure zP (K:PySem.W.Frag) (C:Addr):Prop where
 cl:Cls K C
 nw:fJ K C "weights"
 nf:fJ K C "free_marks"
theorem scH:aR ["self","thing"] ["self","thing"] (aB yE):=⟨rfl,rfl,rfl,by decide +kernel,rfl,by decide +kernel,by decide +kernel⟩
theorem aOz (K:PySem.W.Frag):PySem.W.kitOne K (.type "NoneType") (.type "str")=some false:=by
 unfold PySem.W.kitOne PySem.W.kitCls;rw[if_neg (by decide)];dsimp only;rw[if_pos (by decide +kernel)];show (PySem.fastBuiltinMro "NoneType").map _=_
 decide +kernel
theorem aPa (K:PySem.W.Frag):PySem.W.kitOne K (.type "int") (.type "str")=some false:=by
 unfold PySem.W.kitOne PySem.W.kitCls;rw[if_neg (by decide)];dsimp only;rw[if_pos (by decide +kernel)];show (PySem.fastBuiltinMro "int").map _=_
 decide +kernel
theorem aKl {f fN C:Addr}{fd fdN:FuncData}(F:Fun K "has" "Deeds.has" yE f fd) (T:Txt K mg) (DC:zP K C)
  (FN:Fun K "is_name" "is_name" jM fN fdN) (bN:aU K fdN ["thing"] []) (mN:mg "is_name" = some (.ref fN)) :
  aS P w K mg base CX0 2 f fd ["self","thing"] (aIp K C):=by
 have GN:aS P w K mg base CX0 1 fN fdN ["thing"] (rA K):=qJ FN T;refine F.ok scH (fun vs H Q E h=>?_) (fun cdv A outer s H vs Q E hr h=>?_)
 ·obtain⟨p,x,kvs,rfl,_⟩:=h;rfl
 ·obtain⟨p,x,kvs,rfl,hz,⟨dx,fs,dw,o,hp,hm,hw,hk⟩,q⟩:=h;have hu:=iS hr;refine⟨_,aL (bS (aEn (bJ GN hr rfl mN FN.kp bN .nil bU (pac (pv 1) aJ)) (aEg (aEl (rL hu (pv 1) (eK (pv 0) rfl)))))),?_⟩;rcases hz with⟨z,rfl,hz⟩ | rfl | rfl
  ·refine⟨_,rfl,.str z,rfl,.inl ⟨z,rfl,by have sl:sizeLine=16777216:=sizeLine_eq; omega,fun H2 s2=>⟨_,rfl,?_⟩⟩⟩;have q2:=q H2 s2;refine dY (fun hn=>?_) (fun hn=>?_)
   ·rw[cZ,hn,Bool.true_and] at q2;exact⟨_,rfl,_,rfl,p,C,dx,fs,_,rfl,s2 p _ hp,DC.cl,DC.nw,hw,dw,_,rfl,.inl ⟨kvs,Sum.inr z,.inr ⟨o,s2 dw _ hk⟩,rfl,rfl⟩,q2⟩
   ·rw[cZ,Bool.eq_false_iff.mpr hn,Bool.false_and] at q2;exact q2
  ·exact⟨_,rfl,.non,rfl,.inr ⟨_,.non,aOz K,_,rfl,gH (q H (aO.refl H))⟩⟩
  ·exact⟨_,rfl,.int 5,rfl,.inr ⟨_,.int 5,aPa K,_,rfl,gH (q H (aO.refl H))⟩⟩
theorem scQ:aR ["self","row","deed"] ["self","row"] (aB iP):=⟨rfl,rfl,rfl,by decide +kernel,rfl,by decide +kernel,by decide +kernel⟩
theorem yN {f fN fH C:Addr}{fd fdN fdH:FuncData}{cl:Why->Addr}(F:Fun K "require" "Deeds.require" iP f fd) (T:Txt K mg) (Ex:Exc K mg cl) (DC:zP K C)
  (FN:Fun K "is_name" "is_name" jM fN fdN) (bN:aU K fdN ["thing"] []) (mN:mg "is_name" = some (.ref fN))
  (FH:Fun K "has" "Deeds.has" yE fH fdH) (bH:aU K fdH ["self","thing"] []) (mH:cU K C "has" fH) :
  aS P w K mg base (CXE P w) 3 f fd ["self","row"] (iN K C cl):=by
 have GH:aS P w K mg base CX0 2 fH fdH ["self","thing"] (aIp K C):=aKl FH T DC FN bN mN;refine okE F scQ (fun vs H Q E h=>?_) (fun cdv A outer s H vs Q E hr h D=>?_)
 ·obtain⟨p,b,fs,kvs,rfl,_⟩:=h;rfl
 ·obtain⟨p,b,fs,kvs,rfl,hS,hsh,⟨dx,fl,dw,o,hp,hm,hw,hk⟩,q⟩:=h
  refine⟨_,aL (dS PassesOwn.leaving rfl (dC (pv 1)) (aP (i:=2) scQ.nd rfl (Or.inl rfl))
    (aL (dJ (lY (oY (cM (pv 0) DC.cl mH GH hr bH .nil bU (pac (pv 2) aJ)))) (aL (gN D rfl (by rfl) Ex.nd (Ex.x .noDeed) (pac bX aJ))) cF))),?_⟩
  refine⟨_,rfl,b,rfl,⟨_,hS⟩,?_⟩;refine dN (xs:=fs) (fun i σ H'=>∃ nv,σ=[some (.ref p),some (.ref b),nv]∧aO H H'∧(fs.take i).all (cZ kvs)=true) ?_ ?_ ?_ ?_
  ·exact⟨none,rfl,aO.refl H,rfl⟩
  ·rintro i σ H' _ ⟨nv,rfl,h3,h4⟩;exact h3.seq hS
  ·rintro i x σ H' hz ⟨nv,rfl,h3,h4⟩;refine⟨_,rfl,p,dx,fl,rfl,h3 p _ hp,hm "has" (by decide),_,rfl,p,x,kvs,rfl,hsh x (List.mem_of_getElem? hz),⟨dx,fl,dw,o,h3 p _ hp,hm,hw,h3 dw _ hk⟩,fun H2 s2=>⟨_,rfl,?_⟩⟩;cases hb:cZ kvs x with
   | true=>
    refine gH ⟨some x,rfl,h3.trans s2,?_⟩;rw[List.take_succ,hz,List.all_append,h4];simp[hb]
   | false=>
    refine jI ⟨by show 1<=sizeLine; decide,?_⟩
    have:=q H2 (h3.trans s2)
    rw[if_neg ?_] at this
    ·exact this
    ·intro z'
     have:=List.all_eq_true.mp z' x (List.mem_of_getElem? hz)
     rw[hb] at this;cases this
  ·rintro σ H' ⟨nv,rfl,h3,h4⟩;rw[List.take_length] at h4
   have:=q H' h3
   rw[if_pos h4] at this;exact this
end
end K24
namespace K24
open PySem L2 Ky
seal L2.PE L2.PS L2.PSs L2.PA L2.PT L2.PW L2.PG L2.PI L2.PTs L2.PO L2.OpR L2.IxR L2.CallR L2.MtM L2.MtR
theorem aJq {K:PySem.W.Frag}{H H':Hp}{a x C dx:Addr}{fs:List (Str×V)}{xs:List V}(e:SameBut x H H') (hx:H x=some (.ins C dx fs)) (h:SqL K H a xs):SqL K H' a xs:=by
 rcases h with (h | ⟨o,h⟩) | h
 ·exact .inl (.inl (e _ _ (fun z=>by rw[z,hx] at h; cases h) h))
 ·exact .inl (.inr ⟨o,e _ _ (fun z=>by rw[z,hx] at h; cases h) h⟩)
 ·exact .inr h
theorem noW (v:V):∀ m∈aFh,List.lookup m [(("weights" : Str),v)]=none:=by
 have h:∀ m∈aFh,(m==("weights" : Str))=false:=by decide +kernel
 intro m hm;simp only[List.lookup,h m hm]
theorem aOw (v u:V):∀ m∈aFh,List.lookup m [(("weights" : Str),v),(("free_marks" : Str),u)]=none:=by
 have h:∀ m∈aFh,(m==("weights" : Str))=false∧(m==("free_marks" : Str))=false:=by decide +kernel
 intro m hm;simp only[List.lookup,(h m hm).1,(h m hm).2]
theorem aFz (kvs:List (Key×V)) (fs:List Str):(fs.map V.str).all (cZ kvs)=fs.all (fun z=>aQ z&&(dB kvs (Sum.inr z)).isSome):=by
 rw[List.all_map];rfl
theorem oP {fs:List Str}(h:oC fs):∀ x∈fs.map V.str,aBb x:=fun x hx=>by
 obtain⟨z,hz,rfl⟩:=List.mem_map.mp hx;exact .inl ⟨z,rfl,h z hz⟩
theorem qV:∀ (ss:List Str) (wv:Int) (kvs:List (Key×V)) (z:Str),(dB (wts ss wv kvs) (Sum.inr z)).isSome=(decide (z∈ss)||(dB kvs (Sum.inr z)).isSome)
 | [],_,kvs,z=>by simp[wts]
 | s::r,wv,kvs,z=>by
  rw[wts,qV r,nA]
  by_cases h:z=s
  ·subst h
   simp
  ·rw[if_neg fun e=>h (Sum.inr.inj e)];simp[h]
section
variable {P:Program}{w:World}{K:PySem.W.Frag}{mg:Str->Option Value}{base:Heap}
theorem scI:aR ["self","names","free","free_names"] ["self","names","free"] (aB nJ):=⟨rfl,rfl,rfl,by decide +kernel,rfl,by decide +kernel,by decide +kernel⟩
theorem aHf {f fR fW fK fQ C:Addr}{fd fdR fdW fdK fdQ:FuncData}{cl:Why->Addr}(F:aGf K "__init__" "Deeds.__init__" nJ f fd) (T:Txt K mg) (DC:zP K C)
  (GR:aS P w K mg base (CXE P w) 2 fR fdR ["names"] (wB K cl)) (kR:PySem.W.keepIn K (.ref fR)=true) (bR:aU K fdR ["names"] []) (mR:mg "refuse_names" = some (.ref fR))
  (GW:aS P w K mg base CX0 1 fW fdW ["names"] (tI K)) (kW:PySem.W.keepIn K (.ref fW)=true) (bW:aU K fdW ["names"] []) (mW:mg "weights_of" = some (.ref fW))
  (GK:aS P w K mg base CX0 1 fK fdK ["names"] (qD K)) (kK:PySem.W.keepIn K (.ref fK)=true) (bK:aU K fdK ["names"] []) (mK:mg "marks_of" = some (.ref fK))
  (GQ:aS P w K mg base (CXE P w) 3 fQ fdQ ["self","row"] (iN K C cl)) (bQ:aU K fdQ ["self","row"] []) (mQ:cU K C "require" fQ) :
  aS P w K mg base (CXE P w) 4 f fd ["self","names","free"] (aDs K C cl):=by
 refine aMg F scI (fun vs H Q E h=>?_) (fun cdv A outer s H vs Q E hr h D=>?_)
 ·obtain⟨x,a,y,dx,ss,fs,rfl,_⟩:=h;rfl
 ·obtain⟨x,a,y,dx,ss,fs,rfl,hx,hA,hB,hsh,hfh,hfl,q⟩:=h;have hr1:cO 1 _:=hr.mono (by decide);have hr2:cO 2 _:=hr.mono (by decide)
  refine⟨_,aK (dI (bJ GR hr2 rfl mR kR bR .nil (D.passes fun _ _ _ z=>z) (pac (pv 1) aJ)))
   (aK (jB (pv 0) (aBq (bJ GW hr1 rfl mW kW bW .nil bU (pac (pv 1) aJ))) rfl)
   (iF (fun σ H'=>∃ b d o ss',σ=[some (.ref x),some (.ref a),some y,some (.ref b)]∧H' x=some (.ins C dx [("weights",.ref d)])∧H' d=some (.frz o (.dK (wts ss' 1 [])))∧SameBut x H H'∧SqL K H' b (fs.map V.str)∧ss'.Perm ss∧PyProof.Rows.sortedS ss'=true)
    (bO (i:=3) scI.nd rfl (Or.inl rfl) (wV (bY vA (pv 2) eD (cH _)) (dD aJ) (pv 2)))
   (aK (dI (cM (pv 0) DC.cl mQ GQ hr bQ .nil (D.passes fun _ _ _ z=>z) (pac (pv 3) aJ)))
   (aL (jB (pv 0) (bJ GK hr1 rfl mK kK bK .nil bU (pac (pv 3) aJ)) rfl))))),?_⟩
  refine⟨_,rfl,a,ss,rfl,hA,hsh,fun H1 s1=>?_⟩;have sb:∀ {H'},aO H H'->SameBut x H H':=fun sm b o _ e=>sm b o e;cases hR:iE ss with
  | some k=>
   have:=q H1 (sb s1)
   unfold kO at this;rw[hR] at this;exact this
  | none=>
   have h12:ss.length<=12:=by
    unfold iE at hR
    by_cases z:12<ss.length
    ·rw[if_pos z] at hR; cases hR
    ·omega
   refine⟨_,rfl,a,ss,rfl,s1.seq hA,by omega,fun d ss' H2 s2 hd pm so hd2=>⟨d,_,rfl,hd2,fun o=>?_⟩⟩;have hx2:=s2 x _ (s1 x _ hx);have ndx:d≠x:=fun z=>by rw[z,hx2] at hd2; cases hd2
   have hx2':(upd H2 d (.frz o (.dK (wts ss' 1 [])))) x=some (.ins C dx []):=by rw[aH (Ne.symm ndx)]; exact hx2
   refine⟨_,rfl,x,C,dx,[],rfl,hx2',DC.cl,DC.nw,by decide,?_⟩;generalize hH3:upd (upd H2 d (.frz o (.dK (wts ss' 1 [])))) x (.ins C dx (gC "weights" (.ref d) []))=H3;have hx3:H3 x=some (.ins C dx [("weights",.ref d)]):=by rw[← hH3,aE]; rfl
   have hd3:H3 d=some (.frz o (.dK (wts ss' 1 []))):=by rw[← hH3,aH ndx,aE]
   have hHd:H d=none:=by
    cases e:H d with
    | none=>rfl
    | some u=>rw[s1 d u e] at hd; cases hd
   have s3:SameBut x H H3:=fun b o n e=>by rw[← hH3,aH n,aH (aI e hHd)]; exact s2 b o (s1 b o e)
   have hB3:(y=.non∧fs=[])∨∃ b,y=.ref b∧SqL K H3 b (fs.map V.str):=hB.imp id fun ⟨b,e,h⟩=>⟨b,e,aJq s3 hx h⟩;refine⟨?_,?_⟩
   ·rcases hB3 with⟨rfl,rfl⟩ | ⟨b,rfl,hB3⟩
    ·refine⟨_,rfl,rfl,_,rfl,dY (fun _=>⟨by show 0<=sizeLine; decide,fun l hl=>⟨l,d,o,ss',rfl,?_,?_,?_,SqL.of aE,pm,so⟩⟩) fun z=>absurd (decide_eq_true rfl) z⟩
     ·rw[aH (aI hx3 hl)]; exact hx3
     ·rw[aH (aI hd3 hl)]; exact hd3
     ·exact fun c u n e=>by rw[aH (aI (s3 c u n e) hl)]; exact s3 c u n e
    ·exact⟨_,rfl,rfl,_,rfl,dY (fun z=>absurd (of_decide_eq_true z) (by intro z; cases z)) fun _=>⟨_,rfl,b,d,o,ss',rfl,hx3,hd3,s3,hB3,pm,so⟩⟩
   clear hB3 hd3 hx3 s3 hH3 H3 hx2' hx2 ndx hd2;rintro σ H3 ⟨b,d,o,ss',rfl,hx3,hd3,s3,hB3,pm,so⟩
   have e4:∀ z,(dB (wts ss' 1 []) (Sum.inr z)).isSome=decide (z∈ss):=fun z=>by
    rw[qV];simp[dB,pm.mem_iff]
   refine⟨_,rfl,x,dx,_,rfl,hx3,by rfl,_,rfl,x,b,fs.map V.str,_,rfl,hB3,oP hfh,⟨dx,_,d,o,hx3,noW _,by rfl,hd3⟩,fun H4 s4=>?_⟩;have s4':SameBut x H H4:=fun b o n e=>s4 b o (s3 b o n e);rw[aFz];simp only[e4];have q4:=q;unfold kO at q4;rw[hR] at q4;have ndx:d≠x:=fun z=>by rw[z,hx3] at hd3; cases hd3
   by_cases hall:fs.all (fun f=>aQ f&&decide (f∈ss))=true
   ·simp only[if_pos hall] at q4 ⊢;refine⟨_,rfl,b,fs,rfl,s4.seq hB3,hfl,fun df H5 s5 hdf hdf5=>?_⟩;have hx5:=s5 x _ (s4 x _ hx3);have ndf:df≠x:=fun z=>by rw[z,hx5] at hdf5; cases hdf5
    refine⟨_,rfl,x,C,dx,_,rfl,hx5,DC.cl,DC.nf,by show 1<1000; decide,?_⟩;refine q4 _ (fun b o n e=>by rw[aH n]; exact s5 b o (s4' b o n e)) d df o ss' (by rw[aE]; rfl) (by rw[aH ndx]; exact s5 d _ (s4 d _ hd3)) (by rw[aH ndf]; exact hdf5) pm so
   ·simp only[if_neg hall] at q4 ⊢;exact q4 H4 s4'
end
end K24
namespace K24
open PySem L2 Ky
seal L2.PE L2.PS L2.PSs L2.PA L2.PT L2.PW L2.PG L2.PI L2.PTs L2.PO L2.OpR L2.IxR L2.CallR L2.MtM L2.MtR
abbrev iY:List Str:=["go","a","b1","stop","r0","r1","open","x","yy","z9","longname","c"]
def gE (c:Int):Int:=([1,5,7,11]:List Int).getD (c/12%4).toNat 1
def pB (c:Int) (k:Nat):Str:=iY.getD ((c+gE c*k)%12).toNat ""
def dW (c:Int) (n:Nat):List Str:=(List.range n).map (pB c)
def gG (c:Int):Nat:=if c/8%16=1 then (c/128%2).toNat else ([2,3,3,4,4,5,6,12]:List Nat).getD (c%8).toNat 0
def pO (c:Int) (ss:List Str):List Str:=(List.range ss.length).filterMap fun (k:Nat)=>if RW.mixed c (k:Nat)%4=1 then ss[k]? else none
theorem gO {α β:Type}(f:α->β) (xs:List α) (d:α){i:Int}(h0:0<=i) (h1:i<xs.length):atI (xs.map f) i=some (f (xs.getD i.toNat d)):=by
 have hl:i.toNat<xs.length:=by omega
 have e:i=(i.toNat:Int):=by omega
 have h:=jK (xs:=xs.map f) (j:=i.toNat) (v:=f (xs.getD i.toNat d)) (by rw[List.getElem?_map,List.getD_eq_getElem?_getD,List.getElem?_eq_getElem hl]; rfl);rw[← e] at h;exact h
theorem cC (c:Int){m:Int}(h:0<m):0<=c%m∧c%m<m:=⟨Int.emod_nonneg _ (by omega),Int.emod_lt_of_pos _ h⟩
theorem aDl:∀ n,n<4->([1,5,7,11]:List Int).getD n 1=1∨([1,5,7,11]:List Int).getD n 1=5∨([1,5,7,11]:List Int).getD n 1=7∨([1,5,7,11]:List Int).getD n 1=11:=by decide +kernel
theorem iX (c:Int):gE c=1∨gE c=5∨gE c=7∨gE c=11:=by
 have h:=cC (c/12) (m:=4) (by decide);exact aDl _ (by omega)
theorem aFi:∀ n,n<8->([2,3,3,4,4,5,6,12]:List Nat).getD n 0<=12∧(([2,3,3,4,4,5,6,12]:List Int).getD n 0)=((([2,3,3,4,4,5,6,12]:List Nat).getD n 0:Nat):Int):=by decide +kernel
theorem uA (c:Int):([2,3,3,4,4,5,6,12]:List Nat).getD (c%8).toNat 0<=12∧(([2,3,3,4,4,5,6,12]:List Int).getD (c%8).toNat 0)=((([2,3,3,4,4,5,6,12]:List Nat).getD (c%8).toNat 0:Nat):Int):=by
 have h:=cC c (m:=8) (by decide);exact aFi _ (by omega)
theorem lD (c:Int):gG c<=12:=by
 unfold gG;split
 ·have h:=cC (c/128) (m:=2) (by decide);omega
 ·exact (uA c).1
def kH (c:Int) (ss:List Str) (i:Nat):List Str:=(List.range i).filterMap fun (k:Nat)=>if RW.mixed c (k:Nat)%4=1 then ss[k]? else none
inductive tM (K:PySem.W.Frag) (vs:List V) (H:Hp) (Q:VK) (x3_:XK):Prop
 | mk (c:Int) (n:Nat) (h0_:vs=[.int c,.int n]) (h1_:n<=1000) (h2_:∀ (l:Addr) H',aO H H'->H l=none->H' l=some (.lst ((dW c n).map V.str))->Q (.ref l) H')
inductive tP (K:PySem.W.Frag) (vs:List V) (H:Hp) (Q:VK) (x3_:XK):Prop
 | mk (c:Int) (h0_:vs=[.int c]) (h1_:∀ (t l m:Addr) H',aO H H'->H' t=some (.tup [.ref l,.ref m])->H' l=some (.lst ((dW (c/256) (gG c)).map V.str))->H' m=some (.lst ((pO c (dW (c/256) (gG c))).map V.str))->Q (.ref t) H')
section
variable {P:Program}{w:World}{K:PySem.W.Frag}{mg:Str->Option Value}{base:Heap}
abbrev NB:List Str:=["_law_cell","_law_many","_law_some","_law_step"]
theorem scB:aR NB ["_law_cell","_law_many"] (aB gL):=⟨rfl,rfl,rfl,by decide +kernel,rfl,by decide +kernel,by decide +kernel⟩
theorem yP {f:Addr}{fd:FuncData}(F:Fun K "_law_names_by" "_law_names_by" gL f fd) (T:Txt K mg):aS P w K mg base CX0 1 f fd ["_law_cell","_law_many"] (tM K):=by
 refine F.ok scB (fun vs H Q E h=>?_) (fun cdv A outer s H vs Q E hr h=>?_)
 ·obtain⟨c,n,rfl,_⟩:=h;rfl
 ·obtain⟨c,n,rfl,hn,q⟩:=h
  refine⟨_,aK (bO (i:=2) scB.nd rfl (Or.inr rfl) (dD (pac bX (pac bX (pac bX (pac bX (pac bX (pac bX (pac bX (pac bX (pac bX (pac bX (pac bX (pac bX aJ))))))))))))))
   (aK (bO (i:=3) scB.nd rfl (Or.inr rfl) (eW cY (dD (pac aN (pac aN (pac aN (pac aN aJ))))) (aY cQ (aY eE (pv 0) aN) aN) (fun _ _=>rfl)))
   (aL (bS (gB (N':=["_law_k","_law_some","_law_cell","_law_step"]) (nown:=1) (js:=[2,0,3]) rfl
     ⟨rfl,by decide +kernel,by decide +kernel⟩ (cK (aB gL) NB rfl rfl (by decide +kernel))
     ⟨fun _ _ _ _=>aP (i:=0) (show List.Nodup (["_law_k","_law_some","_law_cell","_law_step"]:List Str) by decide +kernel) rfl (Or.inl rfl) (.inr rfl),fun _ _ _ _=>eN,
      fun _ _ _ _=>eW (show IxR _ (aBl K) from cY) (pv 1) (aY cQ (aY dU (pv 2) (aY lZ (pv 3) (pv 0))) aN) (fun _ _=>rfl)⟩
     (gT rfl T.range (pac (pv 1) aJ)))))),?_⟩
  have sl:sizeLine=16777216:=sizeLine_eq;have g4:=cC (c/12) (m:=4) (by decide);refine⟨by show 12<=sizeLine; decide,fun p hp=>⟨by show 4<=sizeLine; decide,fun p2 hp2=>⟨_,rfl,_,_,rfl,rfl,⟨by decide,by decide⟩,_,_,rfl,rfl,(by show (0:Int)<4; decide),p2,_,_,V.int (gE c),rfl,rfl,SqL.of aE,gO V.int [1,5,7,11] 1 g4.1 g4.2,?_⟩⟩⟩;have n12:p≠p2:=aI aE hp2;generalize hH2:upd (upd H p _) p2 _=H2;have e2:H2 p=some (.lst (iY.map V.str)):=by rw[← hH2,aH n12,aE]; rfl
  have s2:aO H H2:=fun b o e=>by
   have m1:b≠p:=aI e hp;have m2:b≠p2:=aI (show (upd H p _) b=some o by rw[aH m1]; exact e) hp2;rw[← hH2,aH m2,aH m1];exact e
  refine⟨_,rfl,n,rfl,by omega,by omega,fun D hD=>iU (n:=n) (fun i σ' H'=>∃ v,σ'=[v,some (.ref p),some (.int c),some (.int (gE c))]∧H' D=some (.lst ((dW c i).map V.str))∧aO H2 H') ?_ ?_ ?_⟩
  ·exact⟨none,rfl,aE,fun b o e=>by rw[aH (aI e hD)]; exact e⟩
  ·rintro i σ' H' hi ⟨v,rfl,hl',sm⟩;have g12:=cC (c+gE c*(0+(i:Int))) (m:=12) (by decide);refine⟨_,rfl,_,rfl,_,rfl,_,rfl,_,_,rfl,rfl,.inl ?_,_,_,rfl,rfl,_,_,rfl,rfl,(by show (0:Int)<12; decide),p,_,_,V.str (pB c i),rfl,rfl,SqL.of (sm p _ e2),?_,_,hl',?_,_,rfl,?_,?_⟩
   ·rcases iX c with h | h | h | h <;> (rw[h]; exact⟨by decide,by decide⟩)
   ·have h:=gO V.str iY "" g12.1 g12.2;rw[h,Int.zero_add];rfl
   ·refine aW ?_;rw[List.length_map];unfold dW;rw[List.length_map,List.length_range];omega
   ·rw[aE];unfold dW;rw[List.range_succ,List.map_append,List.map_append];rfl
   ·intro b o e;rw[aH (aI e hD)];exact sm b o e
  ·rintro σ' H' ⟨v,rfl,hl',sm⟩;refine q D H' (s2.trans sm) ?_ hl';exact s2.free hD
abbrev ND:List Str:=["_law_cell","_law_many","_law_names"]
theorem scD:aR ND ["_law_cell"] (aB gZ):=⟨rfl,rfl,rfl,by decide +kernel,rfl,by decide +kernel,by decide +kernel⟩
theorem yT {f fM fB:Addr}{fd fdM fdB:FuncData}(F:Fun K "_law_deeds_by" "_law_deeds_by" gZ f fd) (T:Txt K mg)
  (FM:Fun K "_law_mixed" "_law_mixed" jW fM fdM) (bM:aU K fdM ["_law_cell","_law_k"] []) (mM:mg "_law_mixed" = some (.ref fM))
  (FB:Fun K "_law_names_by" "_law_names_by" gL fB fdB) (bB:aU K fdB ["_law_cell","_law_many"] []) (mB:mg "_law_names_by" = some (.ref fB)):aS P w K mg base CX0 2 f fd ["_law_cell"] (tP K):=by
 have GM:aS P w K mg base CX0 1 fM fdM ["_law_cell","_law_k"] nG:=nL FM;have GB:aS P w K mg base CX0 1 fB fdB ["_law_cell","_law_many"] (tM K):=yP FB T;refine F.ok scD (fun vs H Q E h=>?_) (fun cdv A outer s H vs Q E hr h=>?_)
 ·obtain⟨c,rfl,_⟩:=h;rfl
 ·obtain⟨c,rfl,q⟩:=h
  refine⟨_,aK (bO (i:=1) scD.nd rfl (Or.inl rfl) (eW cY (dD (pac aN (pac aN (pac aN (pac aN (pac aN (pac aN (pac aN (pac aN aJ))))))))) (aY cQ (pv 0) aN) (fun _ _=>rfl)))
   (iF (fun σ H'=>σ=[some (.int c),some (.int (gG c)),none]∧aO H H')
    (dJ (bY rO (aY cQ (aY eE (pv 0) aN) aN) aN (cH _))
     (aL (bO (i:=1) scD.nd rfl (Or.inl rfl) (aY cQ (aY eE (pv 0) aN) aN))) cF)
   (aK (bO (i:=2) scD.nd rfl (Or.inl rfl) (bJ GB hr rfl mB FB.kp bB .nil bU (pac (aY eE (pv 0) aN) (pac (pv 1) aJ))))
   (aL (bS (rJ (pac (pv 2) (pac (gB (N':=["_law_k","_law_name","_law_cell"]) (nown:=2) (js:=[0]) rfl
     ⟨rfl,by decide +kernel,by decide +kernel⟩ (cK (aB gZ) ND rfl rfl (by decide +kernel))
     ⟨fun _ _ _ _=>show PG _ _ (vL K 2 (fY (eQ 0) (fY (eQ 1) vM))) from eU rfl (aX (aP (i:=0) (show List.Nodup (["_law_k","_law_name","_law_cell"]:List Str) by decide +kernel) rfl (Or.inl rfl) (.inr rfl)) (aX (aP (i:=1) (show List.Nodup (["_law_k","_law_name","_law_cell"]:List Str) by decide +kernel) rfl (Or.inl rfl) (.inr rfl)) dL)),
      fun _ _ _ _=>lC (bY rO (aY cQ (bJ GM hr rfl mM FM.kp bM .nil bU (pac (pv 2) (pac (pv 0) aJ))) aN) aN (cH _)),
      fun _ _ _ _=>pv 1⟩
     (jD rfl T.enum (pac (pv 2) aJ))) aJ))))))),?_⟩
  have sl:sizeLine=16777216:=sizeLine_eq;have g8:=cC c (m:=8) (by decide);refine⟨by show 8<=sizeLine; decide,fun p hp=>⟨_,rfl,_,_,rfl,rfl,(by show (0:Int)<8; decide),p,_,_,V.int _,rfl,rfl,SqL.of aE,gO V.int [2,3,3,4,4,5,6,12] 0 g8.1 g8.2,?_,?_⟩⟩
  ·have s1:∀ o,aO H (upd H p o):=fun o b u e=>by rw[aH (aI e hp)]; exact e
   refine⟨_,rfl,_,_,rfl,rfl,⟨by decide,by decide⟩,_,_,rfl,rfl,(by show (0:Int)<16; decide),rfl,_,rfl,dY (fun h1=>?_) (fun h1=>?_)⟩
   ·have e1:c/8%16=1:=by have:=of_decide_eq_true h1; exact V.int.inj this
    have g2:=cC (c/128) (m:=2) (by decide);refine⟨_,rfl,_,_,rfl,rfl,⟨by decide,by decide⟩,_,_,rfl,rfl,(by show (0:Int)<2; decide),?_,s1 _⟩;have e:((gG c:Nat):Int)=c/128%2:=by unfold gG; rw[if_pos e1]; omega
    rw[e];rfl
   ·have e1:¬ c/8%16=1:=fun z=>h1 (decide_eq_true (congrArg V.int z));refine⟨?_,s1 _⟩;have e:((gG c:Nat):Int)=([2,3,3,4,4,5,6,12]:List Int).getD (c%8).toNat 0:=by unfold gG; rw[if_neg e1]; exact (uA c).2.symm
    rw[e];rfl
  ·rintro σ H1 ⟨rfl,s1⟩;refine⟨_,rfl,_,_,rfl,rfl,⟨by decide,by decide⟩,_,rfl,c/256,gG c,rfl,Nat.le_trans (lD c) (by decide),fun l H2 s2 hl hl2=>?_⟩;generalize hss:dW (c/256) (gG c)=ss at *;have hlen:ss.length=gG c:=by rw[← hss]; unfold dW; rw[List.length_map,List.length_range]
   have hle:=lD c;refine⟨_,rfl,_,rfl,l,rfl,⟨_,SqL.of hl2⟩,fun D hD=>oB (xs:=ss.map V.str) (fun i σ' H'=>∃ v0 v1,σ'=[v0,v1,some (.int c)]∧H' D=some (.lst ((kH c ss i).map V.str))∧aO H2 H'∧(kH c ss i).length<=i) ?_ ?_ ?_ ?_⟩
   ·exact⟨none,none,rfl,aE,fun b o e=>by rw[aH (aI e hD)]; exact e,Nat.le_refl _⟩
   ·rintro i σ' H' _ ⟨v0,v1,rfl,h1,h2,h3⟩;exact SqL.of (h2 l _ hl2)
   ·rintro i x σ' H' t hx ⟨v0,v1,rfl,h1,h2,h3⟩ ht;rw[List.getElem?_map] at hx;cases hz:ss[i]? with
    | none=>rw[hz] at hx; cases hx
    | some z=>
     rw[hz] at hx;cases hx;have hi:i<ss.length:=(List.getElem?_eq_some_iff.mp hz).1;have nD:D≠t:=fun e=>by rw[e,ht] at h1; cases h1
     have sT:aO H2 (upd H' t (.tup [.int i,.str z])):=fun b o e=>by rw[aH (aI (h2 b o e) ht)]; exact h2 b o e
     refine⟨t,_,rfl,SqT.of aE,rfl,_,_,rfl,_,_,rfl,rfl,_,rfl,_,rfl,c,i,rfl,_,_,rfl,rfl,(by show (0:Int)<4; decide),rfl,_,rfl,dY (fun h4=>?_) (fun h4=>?_)⟩
     ·have e4:RW.mixed c i%4=1:=by have:=of_decide_eq_true h4; exact V.int.inj this
      have eu:kH c ss (i+1)=kH c ss i++[z]:=by
       unfold kH;rw[List.range_succ,List.filterMap_append];simp[e4,hz]
      refine⟨_,rfl,_,by rw[aH nD]; exact h1,aW (by rw[List.length_map]; omega),some (.int i),some (.str z),rfl,?_,?_,?_⟩
      ·rw[aE,eu,List.map_append];rfl
      ·intro b o e;rw[aH (aI e hD)];exact sT b o e
      ·rw[eu,List.length_append];show _+1<=_;omega
     ·have e4:¬ RW.mixed c i%4=1:=fun z=>h4 (decide_eq_true (congrArg V.int z))
      have eu:kH c ss (i+1)=kH c ss i:=by
       unfold kH;rw[List.range_succ,List.filterMap_append];simp[e4]
      refine⟨some (.int i),some (.str z),rfl,?_,sT,by rw[eu]; omega⟩;rw[aH nD,eu];exact h1
   ·rintro σ' H' ⟨v0,v1,rfl,h1,h2,h3⟩;refine⟨by show 2<=sizeLine; decide,fun t ht=>?_⟩;rw[List.length_map] at h1;have sT:∀ o,aO H' (upd H' t o):=fun o b u e=>by rw[aH (aI e ht)]; exact e
    exact q t l D _ (((s1.trans s2).trans h2).trans (sT _)) aE (sT _ _ _ (h2 l _ hl2)) (sT _ _ _ h1)
end
end K24
namespace K24
open PySem L2 Ky
seal L2.PE L2.PS L2.PSs L2.PA L2.PT L2.PW L2.PG L2.PI L2.PTs L2.PO L2.OpR L2.IxR L2.CallR L2.MtM L2.MtR
theorem aAp:∀ x y:List Nat,PySem.Spec.ltCps x y=false->PySem.Spec.ltCps y x=false->x=y
 | [],[],_,_=>rfl
 | [],_::_,h,_=>by simp[PySem.Spec.ltCps] at h
 | _::_,[],_,h=>by simp[PySem.Spec.ltCps] at h
 | a::r,b::t,h,h'=>by
  simp only[PySem.Spec.ltCps,Bool.or_eq_false_iff,decide_eq_false_iff_not,Bool.and_eq_false_iff,beq_eq_false_iff_ne] at h h';have e:a=b:=by omega
  subst e;have h1:PySem.Spec.ltCps r t=false:=by rcases h.2 with z | z; exact absurd rfl z; exact z
  have h2:PySem.Spec.ltCps t r=false:=by rcases h'.2 with z | z; exact absurd rfl z; exact z
  rw[aAp r t h1 h2]
theorem aIw:∀ x y z:List Nat,PySem.Spec.ltCps y x=false->PySem.Spec.ltCps z y=false->PySem.Spec.ltCps z x=false
 | [],_,[],_,_=>rfl
 | [],_,_::_,_,_=>rfl
 | _::_,[],_,h,_=>by simp[PySem.Spec.ltCps] at h
 | _::_,_::_,[],_,h=>by simp[PySem.Spec.ltCps] at h
 | a::r,b::t,c::u,h,h'=>by
  simp only[PySem.Spec.ltCps,Bool.or_eq_false_iff,decide_eq_false_iff_not,Bool.and_eq_false_iff,beq_eq_false_iff_ne] at h h' ⊢;refine⟨by omega,?_⟩
  by_cases e:c=a
  ·refine .inr ?_;have h1:PySem.Spec.ltCps t r=false:=by rcases h.2 with z | z; exact absurd (by omega) z; exact z
   have h2:PySem.Spec.ltCps u t=false:=by rcases h'.2 with z | z; exact absurd (by omega) z; exact z
   exact aIw r t u h1 h2
  ·exact .inl e
abbrev leS (a b:Str):Prop:=PySem.Spec.ltCps b.cps.toList a.cps.toList=false
theorem rE:∀ (r:List Str) (p:Str),PyProof.Rows.risingS p r=true->(∀ z∈r,leS p z)∧r.Pairwise leS
 | [],_,_=>⟨fun _ h=>absurd h (by simp),List.Pairwise.nil⟩
 | x::r,p,h=>by
  simp only[PyProof.Rows.risingS,Bool.and_eq_true,Bool.not_eq_true'] at h;obtain⟨h1,h2⟩:=rE r x h.2;refine⟨fun z hz=>?_,.cons h1 h2⟩;rcases List.mem_cons.mp hz with rfl | hz
  ·exact h.1
  ·exact aIw _ _ _ h.1 (h1 z hz)
theorem oR {l:List Str}(h:PyProof.Rows.sortedS l=true):l.Pairwise leS:=by
 cases l with
 | nil=>exact .nil
 | cons x r=>
  obtain⟨h1,h2⟩:=rE r x h;exact .cons h1 h2
theorem aAj:∀ (l m:List Str),l.Perm m->l.Pairwise leS->m.Pairwise leS->l=m
 | [],m,p,_,_=>(List.Perm.nil_eq p)
 | a::r,[],p,_,_=>by have:=p.length_eq; simp at this
 | a::r,b::t,p,h,h'=>by
  have e:a=b:=by
   by_cases e:a=b
   ·exact e
   ·have h1:a∈t:=by
     rcases List.mem_cons.mp (p.mem_iff.mp (List.mem_cons_self ..)) with z | z
     ·exact absurd z e
     ·exact z
    have h2:b∈r:=by
     rcases List.mem_cons.mp (p.mem_iff.mpr (List.mem_cons_self ..)) with z | z
     ·exact absurd z.symm e
     ·exact z
    have g1:leS a b:=List.rel_of_pairwise_cons h h2;have g2:leS b a:=List.rel_of_pairwise_cons h' h1;have g:=aAp _ _ g2 g1;obtain⟨⟨x⟩⟩:=a;obtain⟨⟨y⟩⟩:=b;have g':x=y:=g;rw[g']
  subst e;rw[aAj r t p.cons_inv (List.Pairwise.of_cons h) (List.Pairwise.of_cons h')]
theorem yA {l m s:List Str}(p:l.Perm s) (q:m.Perm s) (h:PyProof.Rows.sortedS l=true) (h':PyProof.Rows.sortedS m=true):l=m:=
 aAj l m (p.trans q.symm) (oR h) (oR h')
def aAn (r s k:Nat):Str:=iY.getD ((r+s*k)%12) ""
theorem aHj (c:Int) (m:Nat):((c+(m:Int))%12).toNat=((c%12).toNat+m)%12:=by
 have h:=cC c (m:=12) (by decide);have e:c%12=((c%12).toNat:Int):=(Int.toNat_of_nonneg h.1).symm;generalize (c%12).toNat=r at e;rw[← Int.emod_add_emod,e,← Int.natCast_add];exact congrArg Int.toNat (Int.natCast_emod (r+m) 12).symm
theorem aFg (c:Int) (k:Nat):pB c k=aAn (c%12).toNat (gE c).toNat k:=by
 unfold pB aAn;congr 1;rcases iX c with e | e | e | e
 ·rw[e];exact aHj c (1*k)
 ·rw[e];exact aHj c (5*k)
 ·rw[e];exact aHj c (7*k)
 ·rw[e];exact aHj c (11*k)
theorem kE {α:Type}{p:List α->Prop}(h:∀ a,p [a]):∀ us:List α,us.length=1->p us
 | [a],_=>h a
theorem jO {α:Type}{p:List α->Prop}(h:∀ a b,p [a,b]):∀ us:List α,us.length=2->p us
 | [a,b],_=>h a b
theorem vG {α:Type}{p:List α->Prop}(h:∀ a b c,p [a,b,c]):∀ us:List α,us.length=3->p us
 | [a,b,c],_=>h a b c
theorem aKn:∀ r,r<12->∀ s∈([1,5,7,11]:List Nat),((List.range 12).map (aAn r s)).Nodup:=by decide +kernel
theorem yB:∀ z∈iY,aQ z=true:=by decide +kernel
theorem yZ (c:Int) (k:Nat):pB c k∈iY:=by
 unfold pB;have h:=cC (c+gE c*k) (m:=12) (by decide);have hl:((c+gE c*k)%12).toNat<iY.length:=by show _<12; omega
 rw[List.getD_eq_getElem?_getD,List.getElem?_eq_getElem hl];exact List.getElem_mem hl
theorem xB {c:Int}{n:Nat}{z:Str}(h:z∈dW c n):z∈iY:=by
 obtain⟨k,_,rfl⟩:=List.mem_map.mp h;exact yZ c k
theorem sS (c:Int){n:Nat}(hn:n<=12):(dW c n).Nodup:=by
 have h:=cC c (m:=12) (by decide);have hs:(gE c).toNat∈([1,5,7,11]:List Nat):=by rcases iX c with e | e | e | e <;> rw[e] <;> decide
 have hN:=aKn (c%12).toNat (by omega) _ hs
 have e:dW c n=((List.range 12).map (aAn (c%12).toNat (gE c).toNat)).take n:=by
  unfold dW;rw[← List.map_take,List.take_range,Nat.min_eq_left hn];exact List.map_congr_left fun k _=>aFg c k
 rw[e];exact hN.sublist (List.take_sublist n _)
theorem wF:∀ (pre seen suf:List Str),(∀ z∈pre,aQ z=true)->(seen++pre).Nodup->sQ seen (pre++suf)=sQ (seen++pre) suf
 | [],seen,suf,_,_=>by simp
 | z::r,seen,suf,h,hn=>by
  show (if aQ z=true then (if z∈seen then some Why.twice else sQ (seen++[z]) (r++suf)) else some .noName)=_
  have hz:z∉seen:=fun m=>by
   have:=(List.nodup_append.mp hn).2.2 z m z (List.mem_cons_self ..)
   exact this rfl
  rw[if_pos (h z (List.mem_cons_self ..)),if_neg hz,wF r (seen++[z]) suf (fun y hy=>h y (List.mem_cons_of_mem _ hy)) (by simpa using hn)]
  simp
theorem yI {ss:List Str}(h:ss.length<=12) (hn:∀ z∈ss,aQ z=true) (hd:ss.Nodup):iE ss=none:=by
 unfold iE;rw[if_neg (by omega)]
 have:=wF ss [] [] hn (by simpa using hd)
 rw[List.append_nil] at this;rw[this];rfl
theorem zG {c:Int}{ss:List Str}{z:Str}(h:z∈pO c ss):z∈ss:=by
 unfold pO at h;obtain⟨k,_,e⟩:=List.mem_filterMap.mp h;split at e
 ·exact List.mem_of_getElem? e
 ·cases e
theorem zH (c:Int) (ss:List Str):(pO c ss).length<=ss.length:=by
 unfold pO;exact Nat.le_trans (List.length_filterMap_le ..) (by rw[List.length_range]; exact Nat.le_refl _)
theorem aFu {ss fs:List Str}(h:ss.length<=12) (hn:∀ z∈ss,aQ z=true) (hd:ss.Nodup) (hf:∀ z∈fs,z∈ss):kO ss fs=none:=by
 unfold kO;rw[yI h hn hd];exact if_pos (List.all_eq_true.mpr fun z hz=>by rw[hn z (hf z hz),decide_eq_true (hf z hz)]; rfl)
end K24
namespace K24
open PySem L2 Ky
seal L2.PE L2.PS L2.PSs L2.PA L2.PT L2.PW L2.PG L2.PI L2.PTs L2.PO L2.OpR L2.IxR L2.CallR L2.MtM L2.MtR
unseal L2.MtM L2.MtR
theorem aBg {n:Nat}(h:n<=4000):n<sizeLine:=Nat.lt_of_le_of_lt h (by decide)
section
variable {P:Program}{w:World}{K:PySem.W.Frag}{mg:Str->Option Value}{base:Heap}
theorem aDu:aR ["begin","ends","doors","rooms","room","deed","far"] ["begin","ends","doors"] (aB oT):=⟨rfl,rfl,rfl,by decide +kernel,rfl,by decide +kernel,by decide +kernel⟩
theorem aEt {f:Addr}{fd:FuncData}(F:Fun K "named_rooms" "named_rooms" oT f fd):aS P w K mg base CX0 1 f fd ["begin","ends","doors"] zV:=by
 refine F.ok aDu (fun vs H Q E h=>?_) (fun cdv A outer s H vs Q E hr h=>?_)
 ·obtain⟨b,e,d,es,ds,rfl,_⟩:=h;rfl
 ·obtain⟨b,e,d,es,ds,rfl,hE,hD,hle,hld,q⟩:=h
  refine⟨_,aK (bO (i:=3) aDu.nd rfl (Or.inl rfl) (dD (pac (pv 0) aJ)))
   (aK (dI (lN PySem.F.plainAttrs_list PySem.F.slot_list_extend PySem.F.type_list_extend pC (pv 3) (pac (pv 1) aJ)))
   (aK (dS PassesOwn.never rfl (dC (pv 2)) (eU rfl (aX (aP (i:=4) aDu.nd rfl (Or.inl rfl)) (aX (aP (i:=5) aDu.nd rfl (Or.inl rfl)) (aX (aP (i:=6) aDu.nd rfl (Or.inl rfl)) dL))))
    (aK (dI (lN PySem.F.plainAttrs_list PySem.F.slot_list_append PySem.F.type_list_append fU (pv 3) (pac (pv 4) aJ)))
    (aL (dI (lN PySem.F.plainAttrs_list PySem.F.slot_list_append PySem.F.type_list_append fU (pv 3) (pac (pv 6) aJ))))))
   (aL (bS (pv 3))))),?_⟩
  obtain⟨ts,hd,htl,htt⟩:=hD.ex;refine⟨_,rfl,by show 1<=sizeLine; decide,fun p hp=>⟨_,rfl,.inl ⟨rfl,_,SqL.of aE⟩,_,rfl,p,e,_,_,rfl,rfl,aE,smu hp _ _ hE,oS (by rw[List.length_map]; show 1+_<=_; omega),?_⟩⟩;have s0:aO H _:=smu (o:=.lst [.str b]) hp;have s1:∀ ys,aO H (upd (upd H p (.lst [.str b])) p (.lst ys)):=fun ys c o h=>by rw[aH (aI h hp)]; exact s0 c o h
  refine⟨_,rfl,d,rfl,⟨_,SqL.of (s1 _ _ _ hd)⟩,?_⟩;refine dN (xs:=ts.map V.ref) (fun i σ H'=>∃ x4 x5 x6,σ=[some (.str b),some (.ref e),some (.ref d),some (.ref p),x4,x5,x6]∧H' p=some (.lst ((b::es++eO (ds.take i)).map V.str))∧aO H H') ?_ ?_ ?_ ?_
  ·refine⟨none,none,none,rfl,?_,s1 _⟩;rw[aE];show some (HO.lst ([V.str b]++es.map V.str))=some (HO.lst ((b::es++[]).map V.str));rw[List.append_nil];rfl
  ·rintro i σ H' _ ⟨x4,x5,x6,rfl,h1,h2⟩;exact SqL.of (h2 _ _ hd)
  ·rintro i x σ H' hx ⟨x4,x5,x6,rfl,h1,h2⟩;rw[List.getElem?_map] at hx;cases ht:ts[i]? with
   | none=>rw[ht] at hx; cases hx
   | some t=>
    rw[ht] at hx;cases hx;have hi:i<ds.length:=by rw[← htl]; exact (List.getElem?_eq_some_iff.mp ht).1
    have hz:ds[i]?=some ds[i]:=List.getElem?_eq_getElem hi;generalize ds[i]=z at hz;have e1:=sB hz;have hl:(eO (ds.take i)).length<=2000:=by rw[lS,List.length_take]; omega
    refine⟨t,_,rfl,SqT.of (h2 _ _ (htt i t z ht hz)),rfl,_,_,rfl,_,_,rfl,_,_,rfl,rfl,?_⟩;refine⟨_,rfl,.inl ⟨rfl,_,SqL.of h1⟩,_,rfl,p,_,_,rfl,rfl,h1,?_,?_⟩
    ·rw[List.length_map,List.length_append,List.length_cons];exact Nat.lt_of_le_of_lt (m:=3001) (by omega) (by decide)
    refine⟨_,rfl,.inl ⟨rfl,_,SqL.of aE⟩,_,rfl,p,_,_,rfl,rfl,aE,?_,?_⟩
    ·rw[List.length_append,List.length_map,List.length_append,List.length_cons];exact Nat.lt_of_le_of_lt (m:=3002) (by show _+1<=_; omega) (by decide)
    refine⟨_,_,_,rfl,?_,fun c o h=>?_⟩
    ·rw[aE,e1]
     simp
    ·rw[aH (aI h hp),aH (aI h hp)];exact h2 c o h
  ·rintro σ H' ⟨x4,x5,x6,rfl,h1,h2⟩;rw[List.length_map,htl,List.take_length] at h1;exact⟨_,rfl,q p H' h2 hp h1⟩
end
theorem aLv:aR ["rooms","room"] ["rooms"] (aB gR):=⟨rfl,rfl,rfl,by decide +kernel,rfl,by decide +kernel,by decide +kernel⟩
section
variable {P:Program}{w:World}{K:PySem.W.Frag}{mg:Str->Option Value}{base:Heap}
theorem wX {f fN:Addr}{fd fdN:FuncData}{cl:Why->Addr}(F:Fun K "refuse_rooms" "refuse_rooms" gR f fd) (T:Txt K mg) (Ex:Exc K mg cl)
  (FN:Fun K "is_name" "is_name" jM fN fdN) (bN:aU K fdN ["thing"] []) (mN:mg "is_name" = some (.ref fN)) :
  aS P w K mg base (CXE P w) 2 f fd ["rooms"] (qZ K cl):=by
 have GN:aS P w K mg base CX0 1 fN fdN ["thing"] (rA K):=qJ FN T;refine okE F aLv (fun vs H Q E h=>?_) (fun cdv A outer s H vs Q E hr h D=>?_)
 ·obtain⟨a,ss,rfl,_⟩:=h;rfl
 ·obtain⟨a,ss,rfl,hS,hsh,q⟩:=h
  refine⟨_,aL (dS PassesOwn.leaving rfl (dC (pv 0)) (aP (i:=1) aLv.nd rfl (Or.inl rfl))
    (aL (dJ (lY (oY (bJ GN hr rfl mN FN.kp bN .nil bU (pac (pv 1) aJ)))) (aL (gN D rfl (by rfl) Ex.nn (Ex.x .noName) (pac bX aJ))) cF))),?_⟩
  refine⟨_,rfl,a,rfl,⟨_,hS⟩,?_⟩;refine dN (xs:=ss.map V.str) (fun i σ H'=>∃ nv,σ=[some (.ref a),nv]∧aO H H'∧(ss.take i).all aQ=true) ?_ ?_ ?_ ?_
  ·exact⟨none,rfl,aO.refl H,rfl⟩
  ·rintro i σ H' _ ⟨nv,rfl,h1,h2⟩;exact h1.seq hS
  ·rintro i x σ H' hx ⟨nv,rfl,h1,h2⟩;rw[List.getElem?_map] at hx;cases hz:ss[i]? with
   | none=>rw[hz] at hx; cases hx
   | some z=>
    rw[hz] at hx;cases hx;obtain⟨hi,hzi⟩:=List.getElem?_eq_some_iff.mp hz;have hzl:z.length<=1000:=hsh z (List.mem_of_getElem? hz);refine⟨_,rfl,.str z,rfl,.inl ⟨z,rfl,Nat.le_of_lt (aW hzl),fun H2 sm2=>⟨_,rfl,?_⟩⟩⟩
    by_cases hn:aQ z=true
    ·rw[hn];refine gH ⟨some (.str z),rfl,h1.trans sm2,?_⟩;rw[List.take_succ,hz,List.all_append,h2];show (true&&(aQ z&&true))=true;rw[hn];rfl
    ·rw[Bool.eq_false_iff.mpr hn];refine jI ⟨by show 1<=sizeLine; decide,?_⟩
     have:=q H2 (h1.trans sm2)
     rw[sU h2,List.drop_eq_getElem_cons hi,hzi] at this;unfold iA at this;rw[if_neg (by rw[List.all_cons,Bool.eq_false_iff.mpr hn]; exact Bool.false_ne_true)] at this;exact this
  ·rintro σ H' ⟨nv,rfl,h1,h2⟩;rw[List.length_map,List.take_length] at h2
   have:=q H' h1
   unfold iA at this;rw[if_pos h2] at this;exact this
end
theorem aBi:aR ["rooms","doors","leads","room","deed","far"] ["rooms","doors"] (aB oW):=⟨rfl,rfl,rfl,by decide +kernel,rfl,by decide +kernel,by decide +kernel⟩
section
variable {P:Program}{w:World}{K:PySem.W.Frag}{mg:Str->Option Value}{base:Heap}
theorem aEy {f:Addr}{fd:FuncData}(F:Fun K "leads_of" "leads_of" oW f fd):aS P w K mg base CX0 1 f fd ["rooms","doors"] (zY K):=by
 refine F.ok aBi (fun vs H Q E h=>?_) (fun cdv A outer s H vs Q E hr h=>?_)
 ·obtain⟨a,d,rs,ds,rfl,_⟩:=h;rfl
 ·obtain⟨a,d,rs,ds,rfl,hR,hD,hlr,hld,hin,hap,q⟩:=h;have hu:=iS hr
  refine⟨_,aK (bO (i:=2) aBi.nd rfl (Or.inl rfl) jZ)
   (aK (dS PassesOwn.never rfl (dC (pv 0)) (aP (i:=3) aBi.nd rfl (Or.inl rfl)) (aL (jC hu (pv 2) (pv 3) jZ rfl)))
   (aK (dS PassesOwn.never rfl (dC (pv 1)) (eU rfl (aX (aP (i:=3) aBi.nd rfl (Or.inl rfl)) (aX (aP (i:=4) aBi.nd rfl (Or.inl rfl)) (aX (aP (i:=5) aBi.nd rfl (Or.inl rfl)) dL))))
    (aK (dJ (oZ (rL hu (pv 4) (iG hu (pv 2) (pv 3) (fun _ _=>rfl)))) (aL aAg) cF)
    (aL (jC hu (iG hu (pv 2) (pv 3) (fun _ _=>rfl)) (pv 4) (pv 5) rfl))))
   (aL (bS (pv 2))))),?_⟩
  obtain⟨ts,hd,htl,htt⟩:=hD.ex;intro l hl;have s0:aO H (upd H l (.dK [])):=smu hl;refine⟨_,rfl,a,rfl,⟨_,s0.seq hR⟩,?_⟩;refine dN (xs:=rs.map V.str) (fun i σ H'=>∃ x3 kvs g,σ=[some (.ref a),some (.ref d),some (.ref l),x3,none,none]∧eA H' l (rs.take i) [] kvs g∧(∀ z∈rs.take i,H (g z)=none)∧kvs.length<=i∧aO H H') ?_ ?_ ?_ ?_
  ·exact⟨none,[],fun _=>0,rfl,⟨aE,rfl,fun z hz=>(nomatch hz),fun z hz=>(nomatch hz),fun z hz=>(nomatch hz),fun z hz=>(nomatch hz)⟩,fun z hz=>(nomatch hz),Nat.le_refl _,s0⟩
  ·rintro i σ H' _ ⟨x3,kvs,g,rfl,L,hg,hk,sm⟩;exact sm.seq hR
  ·rintro i x σ H' hx ⟨x3,kvs,g,rfl,L,hg,hk,sm⟩;rw[List.getElem?_map] at hx;cases hz:rs[i]? with
   | none=>rw[hz] at hx; cases hx
   | some z=>
    rw[hz] at hx;cases hx;have hi:i<rs.length:=(List.getElem?_eq_some_iff.mp hz).1;have et:rs.take (i+1)=rs.take i++[z]:=by rw[List.take_succ,hz]; rfl
    intro c hc;have cl:c≠l:=fun e=>by rw[e,L.dk] at hc; cases hc
    have hcH:H c=none:=by
     cases e:H c with
     | none=>rfl
     | some o=>rw[sm _ _ e] at hc; cases hc
    refine⟨_,rfl,_,rfl,l,_,rfl,pR.k (k:=Sum.inr z) (by rw[aH (Ne.symm cl)]; exact L.dk) (aBg (by omega)),?_⟩;refine⟨_,_,_,rfl,by rw[et]; exact L.more hc z,fun y hy=>?_,?_,fun b o e=>?_⟩
    ·rw[et] at hy
     by_cases e:y=z
     ·show H (if y=z then c else g y)=none
      rw[if_pos e]; exact hcH
     ·show H (if y=z then c else g y)=none
      rw[if_neg e];exact hg y ((List.mem_append.mp hy).resolve_right fun w=>e (List.mem_singleton.mp w))
    ·exact Nat.le_trans (fV _ _ _) (Nat.succ_le_succ hk)
    ·rw[aH (aI e hl),aH (aI e hcH)];exact sm b o e
  ·rintro σ H1 ⟨x3,kvs,g,rfl,L,hg,hk,sm⟩;rw[List.length_map,List.take_length] at L hg;refine⟨_,rfl,d,rfl,⟨_,SqL.of (sm _ _ hd)⟩,?_⟩;refine dN (xs:=ts.map V.ref) (fun i σ H'=>∃ x3 x4 x5,σ=[some (.ref a),some (.ref d),some (.ref l),x3,x4,x5]∧eA H' l rs (ds.take i) kvs g∧aO H H') ?_ ?_ ?_ ?_
   ·exact⟨_,_,_,rfl,L,sm⟩
   ·rintro i σ H' _ ⟨x3,x4,x5,rfl,h1,h2⟩;exact SqL.of (h2 _ _ hd)
   ·rintro i x σ H' hx ⟨x3,x4,x5,rfl,L',sm'⟩;rw[List.getElem?_map] at hx;cases ht:ts[i]? with
    | none=>rw[ht] at hx; cases hx
    | some t=>
     rw[ht] at hx;cases hx;have hi:i<ds.length:=by rw[← htl]; exact (List.getElem?_eq_some_iff.mp ht).1
     have hz:ds[i]?=some ds[i]:=List.getElem?_eq_getElem hi;generalize ds[i]=z at hz;have zin:=hin z (List.mem_of_getElem? hz)
     have gv:eX H' l (.str z.1) (some (.ref (g z.1))):=by
      have:=eX.k (k:=Sum.inr z.1) L'.dk
      rw[L'.val _ zin] at this;exact this
     have gi:=eX.k (k:=Sum.inr z.2.1) (L'.dd _ zin);rw[xJ (hap.at hz)] at gi;refine⟨t,_,rfl,SqT.of (sm' _ _ (htt i t z ht hz)),rfl,_,_,rfl,_,_,rfl,_,_,rfl,rfl,?_⟩;refine⟨_,rfl,_,rfl,_,rfl,l,_,rfl,gv,g z.1,none,rfl,gi,_,rfl,gH ?_⟩;refine⟨_,rfl,_,rfl,_,rfl,l,_,rfl,gv,_,rfl,g z.1,_,rfl,pR.k (k:=Sum.inr z.2.1) (L'.dd _ zin) (aW (Nat.le_trans (aHs _ _) (by rw[List.length_take]; omega))),?_⟩;refine⟨_,_,_,rfl,L'.door hz zin hap,fun b o e=>?_⟩;rw[aH (aI e (hg _ zin))];exact sm' b o e
   ·rintro σ H' ⟨x3,x4,x5,rfl,h1,h2⟩;rw[List.length_map,htl,List.take_length] at h1;exact⟨_,rfl,q l kvs g H' h2 hl hg h1⟩
end
end K24
namespace K24
open PySem L2 Ky
seal L2.PE L2.PS L2.PSs L2.PA L2.PT L2.PW L2.PG L2.PI L2.PTs L2.PO L2.OpR L2.IxR L2.CallR L2.MtM L2.MtR
unseal L2.MtM L2.MtR
abbrev NMI:List Str:=["self","deeds","begin","ends","doors","more","rooms","known"]
theorem aJt:aR NMI ["self","deeds","begin","ends","doors","more"] (aB lO):=⟨rfl,rfl,rfl,by decide +kernel,rfl,by decide +kernel,by decide +kernel⟩
section
variable {P:Program}{w:World}{K:PySem.W.Frag}{mg:Str->Option Value}{base:Heap}
theorem aEw {f fN fR fL fK fQ C CM:Addr}{fd fdN fdR fdL fdK fdQ:FuncData}{cl:Why->Addr}(F:aGf K "__init__" "Machine.__init__" lO f fd) (T:Txt K mg) (DC:zP K C) (MC:mV K CM)
  (mMR:∃ t,mg "MOST_ROOMS"=some (.int 60 t))
  (GN:aS P w K mg base CX0 1 fN fdN ["begin","ends","doors"] zV) (kN:PySem.W.keepIn K (.ref fN)=true) (bN:aU K fdN ["begin","ends","doors"] []) (mN:mg "named_rooms" = some (.ref fN))
  (GR:aS P w K mg base (CXE P w) 2 fR fdR ["rooms"] (qZ K cl)) (kR:PySem.W.keepIn K (.ref fR)=true) (bR:aU K fdR ["rooms"] []) (mR:mg "refuse_rooms" = some (.ref fR))
  (GL:aS P w K mg base CX0 1 fL fdL ["rooms","doors"] (zY K)) (kL:PySem.W.keepIn K (.ref fL)=true) (bL:aU K fdL ["rooms","doors"] []) (mL:mg "leads_of" = some (.ref fL))
  (GK:aS P w K mg base CX0 1 fK fdK ["names"] (qD K)) (kK:PySem.W.keepIn K (.ref fK)=true) (bK:aU K fdK ["names"] []) (mK:mg "marks_of" = some (.ref fK))
  (GQ:aS P w K mg base (CXE P w) 3 fQ fdQ ["self","row"] (iN K C cl)) (bQ:aU K fdQ ["self","row"] []) (mQ:cU K C "require" fQ) :
  aS P w K mg base (CXE P w) 4 f fd ["self","deeds","begin","ends","doors","more"] (uS K C CM):=by
 obtain⟨tr,mMR⟩:=mMR;refine aMg F aJt (fun vs H Q E h=>?_) (fun cdv A outer s H vs Q E hr h D=>?_)
 ·obtain⟨x,dd,e,d,dx,b,y,es,ms,ds,wk,rfl,_⟩:=h;rfl
 ·obtain⟨x,dd,e,d,dx,b,y,es,ms,ds,wk,rfl,hx,hW,hE,hD,hM,⟨hle,hld,hlm⟩,hnm,hgd,hsh,hap,h60,q⟩:=h;have hr1:cO 1 _:=hr.mono (by decide);have hr2:cO 2 _:=hr.mono (by decide)
  refine⟨_,aK (bO (i:=6) aJt.nd rfl (Or.inl rfl) (bJ GN hr1 rfl mN kN bN .nil bU (pac (pv 2) (pac (pv 3) (pac (pv 4) aJ)))))
   (aK (dI (bJ GR hr2 rfl mR kR bR .nil (D.passes fun _ _ _ z=>z) (pac (pv 6) aJ)))
   (aK (eJ (i:=7) (N':=["room","deed","far"]) (nown:=3) (js:=[]) rfl aJt.nd rfl rfl rfl
     ⟨rfl,by decide +kernel,by decide +kernel⟩ (cK (aB lO) NMI rfl rfl (by decide +kernel))
     ⟨fun _ _ _ _=>show PG _ _ (vL K 3 (fY (eQ 0) (fY (eQ 1) (fY (eQ 2) vM)))) from eU rfl (aX (aP (i:=0) (show List.Nodup (["room","deed","far"]:List Str) by decide +kernel) rfl (Or.inl rfl) (.inr rfl)) (aX (aP (i:=1) (show List.Nodup (["room","deed","far"]:List Str) by decide +kernel) rfl (Or.inl rfl) (.inr rfl)) (aX (aP (i:=2) (show List.Nodup (["room","deed","far"]:List Str) by decide +kernel) rfl (Or.inl rfl) (.inr rfl)) dL))),
      fun _ _ _ _=>eN,fun _ _ _ _=>pv 1⟩
     (dC (pv 4)))
   (iF (fun σ H'=>∃ p c,σ=[some (.ref x),some (.ref dd),some (.str b),some (.ref e),some (.ref d),some y,some (.ref p),some (.ref c)]∧H' p=some (.lst ((bZ b es ds).map V.str))∧H' c=some (.lst ((eG ds ms).map V.str))∧aO H H')
    (dJ (bY jF (pv 5) eD (cH _)) (aL (dI (lN PySem.F.plainAttrs_list PySem.F.slot_list_extend PySem.F.type_list_extend pC (pv 7) (pac (pv 5) aJ)))) cF)
   (aK (dI (cM (pv 1) DC.cl mQ GQ hr bQ .nil (D.passes fun _ _ _ z=>z) (pac (pv 7) aJ)))
   (aK (jB (pv 0) (bJ GL hr1 rfl mL kL bL .nil bU (pac (pv 6) (pac (pv 4) aJ))) rfl)
   (aK (dJ (bY rM (cX aCy (by rfl) T.len Bo.len (pac (eK (pv 0) rfl) aJ)) (jE (v:=.int 60) (by rfl) mMR ⟨_,rfl⟩) (cH _)) (aL aAg) cF)
   (aK (jB (pv 0) (pv 1) rfl)
   (aK (jB (pv 0) (pv 2) rfl)
   (aK (jB (pv 0) (bJ GK hr1 rfl mK kK bK .nil bU (pac (pv 3) aJ)) rfl)
   (aL (jB (pv 0) (bJ GK hr1 rfl mK kK bK .nil bU (pac (pv 7) aJ)) rfl))))))))))),?_⟩
  have hxe:∀ {a:Addr}{o:HO},H a=some o->(∀ fs,o≠.ins CM dx fs)->a≠x:=fun {a o} h n e=>by rw[e,hx] at h; exact n _ (Option.some.inj h).symm
  refine⟨_,rfl,_,rfl,_,rfl,b,e,d,es,ds,rfl,hE,hD,by omega,by omega,fun p H1 s1 hp hp1=>?_⟩;refine⟨_,rfl,p,_,rfl,SqL.of hp1,rC hnm,fun H2 s2=>?_⟩;unfold iA;rw[if_pos hnm];have s12:=s1.trans s2;obtain⟨ts,hd,htl,htt⟩:=(hD.same s12).ex;have hp2:=s2 _ _ hp1;clear hp1;refine⟨_,rfl,d,rfl,⟨_,SqL.of hd⟩,fun c hc=>?_⟩;refine iV (xs:=ts.map V.ref) (fun i σ' H'=>∃ v0 v1 v2,σ'=[v0,v1,v2]∧H' c=some (.lst (((ds.take i).map (·.2.1)).map V.str))∧aO H2 H') ?_ ?_ ?_ ?_
  ·exact⟨none,none,none,rfl,aE,smu hc⟩
  ·rintro i σ' H' _ ⟨v0,v1,v2,rfl,h1,h2⟩;exact SqL.of (h2 _ _ hd)
  ·rintro i v σ' H' hv ⟨v0,v1,v2,rfl,h1,h2⟩;rw[List.getElem?_map] at hv;cases ht:ts[i]? with
   | none=>rw[ht] at hv; cases hv
   | some t=>
    rw[ht] at hv;cases hv;have hi:i<ds.length:=by rw[← htl]; exact (List.getElem?_eq_some_iff.mp ht).1
    have hz:ds[i]?=some ds[i]:=List.getElem?_eq_getElem hi;generalize ds[i]=z at hz;refine⟨t,_,rfl,SqT.of (h2 _ _ (htt i t z ht hz)),rfl,_,_,rfl,_,_,rfl,_,_,rfl,rfl,?_⟩;refine⟨_,rfl,_,h1,aW (by rw[List.length_map,List.length_map,List.length_take]; omega),some (.str z.1),some (.str z.2.1),some (.str z.2.2),rfl,?_,fun a o h=>?_⟩
    ·rw[aE,List.take_succ,hz]
     simp
    ·rw[aH (aI h hc)];exact h2 a o h
  ·rintro σ' H3 ⟨v0,v1,v2,rfl,h1,h2⟩;rw[List.length_map,htl,List.take_length] at h1
   have hcH:H c=none:=by
    cases h:H c with
    | none=>rfl
    | some o=>rw[s12 _ _ h] at hc; cases hc
   refine⟨?_,?_⟩
   ·rcases hM with⟨rfl,rfl⟩ | ⟨m,rfl,hm⟩
    ·refine⟨_,rfl,rfl,_,rfl,gH ?_⟩;refine⟨p,c,rfl,h2 _ _ hp2,?_,s12.trans h2⟩;rw[h1];unfold eG;rw[List.append_nil]
    ·refine⟨_,rfl,rfl,_,rfl,jI ?_⟩;refine⟨_,rfl,.inl ⟨rfl,_,SqL.of h1⟩,_,rfl,c,m,_,_,rfl,rfl,h1,h2 _ _ (s12 _ _ hm),oS (by rw[List.length_map,List.length_map,List.length_map]; omega),p,c,rfl,?_,?_,fun a o h=>?_⟩
     ·rw[aH (aI hp2 hc)];exact h2 _ _ hp2
     ·rw[aE];unfold eG;rw[List.map_append]
     ·rw[aH (aI h hcH)];exact h2 _ _ (s12 _ _ h)
   ·clear h1 h2 hp2 s12 s1 s2 hd htl htt hc hcH;rintro σ H4 ⟨p,c,rfl,hp4,hc4,s4⟩;obtain⟨wx,wf,ww,wo,hw0,hw1,hw2,hw3⟩:=hW;refine⟨_,rfl,dd,wx,wf,rfl,s4 _ _ hw0,hw1 "require" (by decide),_,rfl,dd,c,_,wk,rfl,SqL.of hc4,oP hsh,⟨wx,wf,ww,wo,s4 _ _ hw0,hw1,hw2,s4 _ _ hw3⟩,fun H5 s5=>?_⟩;rw[if_pos hgd];have s45:=s4.trans s5;have hx5:=s45 _ _ hx;refine⟨_,rfl,_,rfl,p,d,_,ds,rfl,SqL.of (s5 _ _ hp4),hD.same s45,by rw[wJ]; omega,by omega,aFs,hap,fun l kvs g H6 s6 hl hg L=>?_⟩;have hx6:=s6 _ _ hx5;have lx:l≠x:=fun z=>by rw[z,hx5] at hl; cases hl
    have gx:∀ z∈bZ b es ds,g z≠x:=fun z hz z'=>by have:=hg z hz; rw[z',hx5] at this; cases this
    refine⟨_,rfl,x,CM,dx,[],rfl,hx6,MC.cl,MC.nl,by decide,?_⟩
    have hkl:kvs.length<=60:=by
     have:=congrArg List.length L.keys
     rw[List.length_map,List.length_map] at this;rw[this]; exact h60
    have L7:eA (upd H6 x (.ins CM dx (gC "leads" (.ref l) []))) l (bZ b es ds) ds kvs g:=⟨by rw[aH lx]; exact L.dk,L.keys,L.val,fun z hz=>by rw[aH (gx z hz)]; exact L.dd z hz,L.inj,L.ne⟩;have hx7:(upd H6 x (.ins CM dx (gC "leads" (.ref l) []))) x=some (.ins CM dx [("leads",.ref l)]):=aE;have s7:SameBut x H (upd H6 x (.ins CM dx (gC "leads" (.ref l) []))):=fun a o n h=>by rw[aH n]; exact s6 _ _ (s45 _ _ h)
    have hc7:(upd H6 x (.ins CM dx (gC "leads" (.ref l) []))) c=some (.lst ((eG ds ms).map V.str)):=by
     rw[aH fun z=>by rw[z,s4 _ _ hx] at hc4; cases hc4];exact s6 _ _ (s5 _ _ hc4)
    generalize upd H6 x (.ins CM dx (gC "leads" (.ref l) []))=H7 at L7 hx7 s7 hc7 ⊢;have he7:=s7 _ _ (hxe hE fun _ z=>by cases z) hE;refine⟨_,rfl,x,CM,dx,_,.ref l,rfl,hx7,MC.cl,MC.nl,by rfl,l,kvs,rfl,L7.dk,_,_,rfl,rfl,_,rfl,dY (fun z=>absurd (of_decide_eq_true z) (by omega)) fun _=>?_⟩;refine⟨_,rfl,_,rfl,x,CM,dx,_,rfl,hx7,MC.cl,MC.nd,by show 1<1000; decide,?_⟩;refine⟨_,rfl,_,rfl,x,CM,dx,_,rfl,aE,MC.cl,MC.nf,by show 2<1000; decide,?_⟩;have hL8:∀ (f2 f3:List (Str×V)),eA (upd (upd H7 x (.ins CM dx f2)) x (.ins CM dx f3)) l (bZ b es ds) ds kvs g:=fun f2 f3=>⟨by rw[aH lx,aH lx]; exact L7.dk,L7.keys,L7.val,fun z hz=>by rw[aH (gx z hz),aH (gx z hz)]; exact L7.dd z hz,L7.inj,L7.ne⟩;have h8:∀ (f2 f3:List (Str×V)),SameBut x H7 (upd (upd H7 x (.ins CM dx f2)) x (.ins CM dx f3)):=fun f2 f3 a o n h=>by rw[aH n,aH n]; exact h
    have cx:c≠x:=fun z=>by rw[z,hx7] at hc7; cases hc7
    have ex:e≠x:=hxe hE fun _ z=>by cases z
    refine⟨_,rfl,e,es,rfl,SqL.of (h8 _ _ _ _ ex he7),by omega,fun de H9 s9 hde hde9=>?_⟩;have hx9:=s9 x _ aE;have dex:de≠x:=fun z=>by rw[z,aE] at hde; cases hde
    refine⟨_,rfl,x,CM,dx,_,rfl,hx9,MC.cl,MC.ne,by show 3<1000; decide,?_⟩;have s79:∀ f4:List (Str×V),SameBut x H7 (upd H9 x (.ins CM dx f4)):=fun f4 a o n h=>by rw[aH n]; exact s9 _ _ (h8 _ _ _ _ n h)
    refine⟨_,rfl,c,_,rfl,SqL.of (s79 _ _ _ cx hc7),by unfold eG; rw[List.length_append,List.length_map]; omega,fun dk H10 s10 hdk hdk10=>?_⟩;have hx10:=s10 x _ aE;have dkx:dk≠x:=fun z=>by rw[z,aE] at hdk; cases hdk
    refine⟨_,rfl,x,CM,dx,_,rfl,hx10,MC.cl,MC.nk,by show 4<1000; decide,?_⟩;have sF:∀ f5:List (Str×V),SameBut x H7 (upd H10 x (.ins CM dx f5)):=fun f5 a o n h=>by rw[aH n]; exact s10 _ _ (s79 _ _ _ n h)
    refine q l de dk kvs g _ (fun a o n h=>sF _ a o n (s7 a o n h)) ⟨by rw[aE]; rfl,⟨sF _ _ _ lx L7.dk,L7.keys,L7.val,fun z hz=>sF _ _ _ (gx z hz) (L7.dd z hz),L7.inj,L7.ne⟩,?_,?_⟩
    ·rw[aH dex];exact s10 _ _ (by rw[aH dex]; exact hde9)
    ·rw[aH dkx];exact hdk10
end
end K24
namespace K24
open PySem L2 Ky
seal L2.PE L2.PS L2.PSs L2.PA L2.PT L2.PW L2.PG L2.PI L2.PTs L2.PO L2.OpR L2.IxR L2.CallR L2.MtM L2.MtR
unseal L2.MtM L2.MtR
abbrev tabs:List (List Str):=[["a","b","c","d","e"],["r0","r1","r2","r3","r4"],["go","stop","x","room1","zz"],["a","ab","b","ba","aba"],["a","ab","b","ba","aba"]]
def eS (c:Int) (k:Nat):Str:=(tabs.getD (c%5).toNat []).getD ((c/5+k)%5).toNat ""
def aZ (c:Int) (n:Nat):List Str:=(List.range n).map (eS c)
theorem dP (c:Int) (n:Nat):(aZ c n).length=n:=by unfold aZ; rw[List.length_map,List.length_range]
theorem aIn:∀ i,i<5->(tabs.getD i []).length=5∧(tabs.getD i []).all aQ=true∧(tabs.getD i []).Nodup:=by decide +kernel
inductive tK (vs:List V) (H:Hp) (Q:VK) (E:XK):Prop
 | mk (c:Int) (n:Nat) (h0_:vs=[.int c,.int n]) (h1_:n<=1000) (h2_:∀ (l:Addr) H',aO H H'->H l=none->H' l=some (.lst ((aZ c n).map V.str))->Q (.ref l) H')
section
variable {P:Program}{w:World}{K:PySem.W.Frag}{mg:Str->Option Value}{base:Heap}
abbrev NRB:List Str:=["_law_cell","_law_many","_law_some"]
theorem aJr:aR NRB ["_law_cell","_law_many"] (aB gW):=⟨rfl,rfl,rfl,by decide +kernel,rfl,by decide +kernel,by decide +kernel⟩
theorem yM {f:Addr}{fd:FuncData}(F:Fun K "_law_rooms_by" "_law_rooms_by" gW f fd) (T:Txt K mg):aS P w K mg base CX0 1 f fd ["_law_cell","_law_many"] tK:=by
 refine F.ok aJr (fun vs H Q E h=>?_) (fun cdv A outer s H vs Q E hr h=>?_)
 ·obtain⟨c,n,rfl,_⟩:=h;rfl
 ·obtain⟨c,n,rfl,hn,q⟩:=h
  refine⟨_,aK (bO (i:=2) aJr.nd rfl (Or.inr rfl) (dD (pac (dD (pac bX (pac bX (pac bX (pac bX (pac bX aJ)))))) (pac (dD (pac bX (pac bX (pac bX (pac bX (pac bX aJ)))))) aJ))))
   (aK (bO (i:=2) aJr.nd rfl (Or.inr rfl) (aY yJ (aY yJ (pv 2) (dD (pac (dD (pac bX (pac bX (pac bX (pac bX (pac bX aJ)))))) aJ)))
     (aY aKd (dD (pac (dD (pac bX (pac bX (pac bX (pac bX (pac bX aJ)))))) aJ)) aN)))
   (aL (bS (gB (N':=["_law_k","_law_some","_law_cell"]) (nown:=1) (js:=[2,0]) rfl
     ⟨rfl,by decide +kernel,by decide +kernel⟩ (cK (aB gW) NRB rfl rfl (by decide +kernel))
     ⟨fun _ _ _ _=>aP (i:=0) (show List.Nodup (["_law_k","_law_some","_law_cell"]:List Str) by decide +kernel) rfl (Or.inl rfl) (.inr rfl),fun _ _ _ _=>eN,
      fun _ _ _ _=>eW (show IxR _ (aBl K) from cY) (eW (show IxR _ (aBl K) from cY) (pv 1) (aY cQ (pv 2) aN) (fun _ _=>rfl)) (aY cQ (aY dU (aY eE (pv 2) aN) (pv 0)) aN) (fun _ _=>rfl)⟩
     (gT rfl T.range (pac (pv 1) aJ)))))),?_⟩
  refine⟨by show 5<=sizeLine; decide,fun p1 h1=>⟨by show 5<=sizeLine; decide,fun p2 h2=>⟨by show 2<=sizeLine; decide,fun p3 h3=>⟨_,rfl,by show 5<=sizeLine; decide,fun p4 h4=>⟨by show 1<=sizeLine; decide,fun p5 h5=>⟨p3,p5,_,_,rfl,rfl,smu h5 _ _ (smu h4 _ _ aE),aE,by show 3<=sizeLine; decide,fun p6 h6=>⟨by show 5<=sizeLine; decide,fun p7 h7=>⟨by show 1<=sizeLine; decide,fun p8 h8=>⟨p8,2,_,rfl,rfl,aE,by decide,by decide,by show 1*2<=sizeLine; decide,fun p9 h9=>⟨p6,p9,_,_,rfl,rfl,smu h9 _ _ (smu h8 _ _ (smu h7 _ _ aE)),aE,by show 3+2<=sizeLine; decide,fun p10 h10=>?_⟩⟩⟩⟩⟩⟩⟩⟩⟩⟩;generalize hH2:upd (upd (upd (upd (upd (upd (upd (upd (upd (upd H p1 _) p2 _) p3 _) p4 _) p5 _) p6 _) p7 _) p8 _) p9 _) p10 _=H2;have s2:aO H H2:=by rw[← hH2]; exact (smu h1).trans ((smu h2).trans ((smu h3).trans ((smu h4).trans ((smu h5).trans ((smu h6).trans ((smu h7).trans ((smu h8).trans ((smu h9).trans (smu h10)))))))))
  have e10:H2 p10=some (.lst ([p1,p2,p4,p7,p7].map V.ref)):=by rw[← hH2,aE]; rfl
  have ee:∀ i,i<5->H2 ([p1,p2,p4,p7,p7].getD i 0)=some (.lst ((tabs.getD i []).map V.str)):=by
   rw[← hH2];intro i hi
   match i,hi with
   | 0,_=>exact smu h10 _ _ (smu h9 _ _ (smu h8 _ _ (smu h7 _ _ (smu h6 _ _ (smu h5 _ _ (smu h4 _ _ (smu h3 _ _ (smu h2 _ _ aE))))))))
   | 1,_=>exact smu h10 _ _ (smu h9 _ _ (smu h8 _ _ (smu h7 _ _ (smu h6 _ _ (smu h5 _ _ (smu h4 _ _ (smu h3 _ _ aE)))))))
   | 2,_=>exact smu h10 _ _ (smu h9 _ _ (smu h8 _ _ (smu h7 _ _ (smu h6 _ _ (smu h5 _ _ aE)))))
   | 3,_=>exact smu h10 _ _ (smu h9 _ _ (smu h8 _ _ aE))
   | 4,_=>exact smu h10 _ _ (smu h9 _ _ (smu h8 _ _ aE))
  clear hH2 h1 h2 h3 h4 h5 h6 h7 h8 h9 h10;refine⟨_,rfl,n,rfl,by omega,by omega,fun D hD=>iU (n:=n) (fun i σ' H'=>∃ v,σ'=[v,some (.ref p10),some (.int c)]∧H' D=some (.lst ((aZ c i).map V.str))∧aO H2 H') ?_ ?_ ?_⟩
  ·exact⟨none,rfl,aE,smu hD⟩
  ·rintro i σ' H' hi ⟨v,rfl,hl',sm⟩;have g5:=cC c (m:=5) (by decide);have g5':=cC (c/5+(0+(i:Int))) (m:=5) (by decide);have ti:=aIn (c%5).toNat (by omega);have el:=ee (c%5).toNat (by omega);refine⟨_,rfl,_,rfl,_,_,rfl,rfl,(by show (0:Int)<5; decide),p10,_,_,V.ref ([p1,p2,p4,p7,p7].getD (c%5).toNat 0),rfl,rfl,SqL.of (sm _ _ e10),gO V.ref [p1,p2,p4,p7,p7] 0 g5.1 g5.2,?_⟩;refine⟨_,rfl,_,_,rfl,rfl,⟨by decide,by decide⟩,_,rfl,_,_,rfl,rfl,_,_,rfl,rfl,(by show (0:Int)<5; decide),_,_,_,V.str (eS c i),rfl,rfl,SqL.of (sm _ _ el),?_,_,hl',?_,_,rfl,?_,?_⟩
   ·have h:=gO V.str (tabs.getD (c%5).toNat []) "" g5'.1 (by rw[ti.1]; exact g5'.2);rw[h,Int.zero_add];rfl
   ·exact aW (by rw[List.length_map,dP]; omega)
   ·rw[aE];unfold aZ;rw[List.range_succ,List.map_append,List.map_append];rfl
   ·intro b o e;rw[aH (aI e hD)];exact sm b o e
  ·rintro σ' H' ⟨v,rfl,hl',sm⟩;exact q D H' (s2.trans sm) (s2.free hD) hl'
end
end K24
namespace K24
open PySem L2 Ky
seal L2.PE L2.PS L2.PSs L2.PA L2.PT L2.PW L2.PG L2.PI L2.PTs L2.PO L2.OpR L2.IxR L2.CallR L2.MtM L2.MtR
unseal L2.MtM L2.MtR
section
variable {P:Program}{w:World}{K:PySem.W.Frag}{mg:Str->Option Value}{base:Heap}
abbrev NMB:List Str:=["_law_cell","_law_names","_law_many","_law_rooms","_law_known","_law_doors","_law_i","_law_room","_law_k","_law_deed","_law_draw","_law_ends","_law_more_here"]
theorem jU:aR NMB ["_law_cell","_law_names","_law_many"] (aB dR):=⟨rfl,rfl,rfl,by decide +kernel,rfl,by decide +kernel,by decide +kernel⟩
theorem aCs (fs:List Str):(fs.map V.str).all nV=true:=by
 rw[List.all_map,List.all_eq_true];intro z _;rfl
theorem aHt (z:Str) (fs:List Str):inV (.str z) (fs.map V.str)=decide (z∈fs):=by
 have e:∀ y:Str,eqV (.str y) (.str z)=(y==z):=fun _=>rfl;unfold inV;rw[List.any_map,Bool.eq_iff_iff,List.any_eq_true,decide_eq_true_iff];constructor
 ·rintro⟨y,hy,h⟩;have h':(y==z)=true:=h;rw[← eq_of_beq h']; exact hy
 ·exact fun h=>⟨z,h,(e z).trans (beq_self_eq_true z)⟩
def pK (c:Int) (k:Nat):Bool:=decide (RW.mixed c (300+(k:Int))%4>0)
def pE (c:Int) (k:Nat):Bool:=decide (RW.mixed c (400+(k:Int))%2=0)
def pM (c:Int) (k:Nat):Bool:=decide (RW.mixed c (500+(k:Int))%8=1)
def drw (c:Int) (i k:Nat):Int:=RW.mixed c (20*(i:Int)+(k:Int))
def dr (c:Int) (kn rs nm:List Str) (n i k:Nat):Option Dr:=match rs[i]?,nm[k]? with
 | some r,some d=>if (decide (d∈kn)&&decide (drw c i k%3>0))=true then some (r,d,rs.getD (drw c i k/3%n).toNat "") else none
 | _,_=>none
def uW (c:Int) (kn rs nm:List Str) (n i j:Nat):List Dr:=(List.range j).filterMap (dr c kn rs nm n i)
def mS (c:Int) (kn rs nm:List Str) (n i:Nat):List Dr:=(List.range i).flatMap fun a=>uW c kn rs nm n a nm.length
def cN (c:Int) (nm:List Str):List Str:=rH (pK c) nm nm.length
def cS (c:Int) (nm:List Str) (n:Nat):List Dr:=let d:=mS c (cN c nm) (aZ c n) nm n n; if c/15%2=1 then d.reverse else d
def gI (c:Int) (n:Nat):List Str:=rH (pE c) (aZ c n) n
def jG (c:Int) (nm:List Str):List Str:=rH (pM c) nm nm.length
theorem aBk {c:Int}{kn rs nm:List Str}{n i k:Nat}{r d:Str}(hr:rs[i]?=some r) (hd:nm[k]?=some d):uW c kn rs nm n i (k+1)=uW c kn rs nm n i k++(if (decide (d∈kn)&&decide (drw c i k%3>0))=true then [(r,d,rs.getD (drw c i k/3%n).toNat "")] else []):=by
 unfold uW;rw[List.range_succ,List.filterMap_append]
 have e:dr c kn rs nm n i k=if (decide (d∈kn)&&decide (drw c i k%3>0))=true then some (r,d,rs.getD (drw c i k/3%n).toNat "") else none:=by
  unfold dr;rw[hr,hd]
 by_cases q:(decide (d∈kn)&&decide (drw c i k%3>0))=true
 ·rw[if_pos q] at e ⊢;rw[List.filterMap_cons_some e];rfl
 ·rw[if_neg q] at e ⊢;rw[List.filterMap_cons_none e];rfl
theorem uO (c:Int) (kn rs nm:List Str) (n i:Nat):mS c kn rs nm n (i+1)=mS c kn rs nm n i++uW c kn rs nm n i nm.length:=by
 unfold mS;rw[List.range_succ,List.flatMap_append]
 simp
theorem wI (c:Int) (kn rs nm:List Str) (n i j:Nat):(uW c kn rs nm n i j).length<=j:=by
 refine Nat.le_trans (List.length_filterMap_le ..) ?_;rw[List.length_range];exact Nat.le_refl _
theorem sH (c:Int) (kn rs nm:List Str) (n:Nat):∀ i,(mS c kn rs nm n i).length<=nm.length*i
 | 0=>Nat.le_refl _
 | i+1=>by
  rw[uO,List.length_append,Nat.mul_succ];exact Nat.add_le_add (sH c kn rs nm n i) (wI ..)
inductive jT (K:PySem.W.Frag) (vs:List V) (H:Hp) (Q:VK) (E:XK):Prop
 | mk (c:Int) (a:Addr) (n:Nat) (ss:List Str) (h0_:vs=[.int c,.ref a,.int n]) (h1_:SqL K H a (ss.map V.str)) (h2_:1<=n) (h3_:n<=5) (h4_:ss.length<=12)
  (h5_:∀ (t e d m:Addr) H',aO H H'->H e=none->H d=none->H m=none->H' t=some (.tup [.str (eS c 0),.ref e,.ref d,.ref m])->H' e=some (.lst ((gI c n).map V.str))->cL H' d (cS c ss n)->H' m=some (.lst ((jG c ss).map V.str))->Q (.ref t) H')
inductive J1 (H:Hp) (c:Int) (a:Addr) (n:Nat) (ss:List Str) (σ:St) (H':Hp):Prop
 | mk (l kn:Addr) (h0_:σ=[some (.int c),some (.ref a),some (.int n),some (.ref l),some (.ref kn),none,none,none,none,none,none,none,none]) (h1_:H' l=some (.lst ((aZ c n).map V.str))) (h2_:H' kn=some (.lst ((cN c ss).map V.str))) (h3_:aO H H')
inductive J2 (H:Hp) (c:Int) (a:Addr) (n:Nat) (ss:List Str) (i:Nat) (ds:List Dr) (x11 x12:Option V) (σ:St) (H':Hp):Prop
 | mk (l kn d:Addr) (x6 x7 x8 x9 x10:Option V) (h0_:σ=[some (.int c),some (.ref a),some (.int n),some (.ref l),some (.ref kn),some (.ref d),x6,x7,x8,x9,x10,x11,x12]) (h1_:H' l=some (.lst ((aZ c n).map V.str))) (h2_:H' kn=some (.lst ((cN c ss).map V.str))) (h3_:cL H' d ds) (h4_:H d=none) (h5_:l≠d) (h6_:kn≠d) (h7_:aO H H') (h8_:∀ p,(x11=some (.ref p)∨x12=some (.ref p))->p≠d∧H p=none)
abbrev nd3:List Str:=["_law_k","_law_name","_law_cell"]
abbrev nd4:List Str:=["_law_i","_law_room","_law_cell"]
theorem vB {f fM fR:Addr}{fd fdM fdR:FuncData}(F:Fun K "_law_machine_by" "_law_machine_by" dR f fd) (T:Txt K mg)
  (GM:aS P w K mg base CX0 1 fM fdM ["_law_cell","_law_k"] nG) (kM:PySem.W.keepIn K (.ref fM)=true) (bM:aU K fdM ["_law_cell","_law_k"] []) (mM:mg "_law_mixed" = some (.ref fM))
  (GR:aS P w K mg base CX0 1 fR fdR ["_law_cell","_law_many"] tK) (kR:PySem.W.keepIn K (.ref fR)=true) (bR:aU K fdR ["_law_cell","_law_many"] []) (mR:mg "_law_rooms_by" = some (.ref fR)) :
  aS P w K mg base CX0 2 f fd ["_law_cell","_law_names","_law_many"] (jT K):=by
 refine F.ok jU (fun vs H Q E h=>?_) (fun cdv A outer s H vs Q E hr h=>?_)
 ·obtain⟨c,a,n,ss,rfl,_⟩:=h;rfl
 ·obtain⟨c,a,n,ss,rfl,hA,hn1,hn5,hs12,q⟩:=h
  refine⟨_,aK (bO (i:=3) jU.nd rfl (Or.inl rfl) (bJ GR hr rfl mR kR bR .nil bU (pac (pv 0) (pac (pv 2) aJ))))
   (iF (J1 H c a n ss) (eJ (i:=4) (N':=nd3) (nown:=2) (js:=[0]) rfl jU.nd rfl rfl rfl
     ⟨rfl,by decide +kernel,by decide +kernel⟩ (cK (aB dR) NMB rfl rfl (by decide +kernel))
     ⟨fun _ _ _ _=>show PG _ _ (vL K 2 (fY (eQ 0) (fY (eQ 1) vM))) from eU rfl (aX (aP (i:=0) (show List.Nodup nd3 by decide +kernel) rfl (Or.inl rfl) (.inr rfl)) (aX (aP (i:=1) (show List.Nodup nd3 by decide +kernel) rfl (Or.inl rfl) (.inr rfl)) dL)),
      fun _ _ _ _=>lC (bY rM (aY cQ (bJ GM hr rfl mM kM bM .nil bU (pac (pv 2) (pac (aY dU aN (pv 0)) aJ))) aN) aN (cH _)),
      fun _ _ _ _=>pv 1⟩
     (jD rfl T.enum (pac (pv 1) aJ)))
   (aK (bO (i:=5) jU.nd rfl (Or.inl rfl) (dD aJ))
   (iF (J2 H c a n ss n (mS c (cN c ss) (aZ c n) ss n n) none none) (dS PassesOwn.never rfl (jD rfl T.enum (pac (pv 3) aJ)) (eU rfl (aX (aP (i:=6) jU.nd rfl (Or.inl rfl)) (aX (aP (i:=7) jU.nd rfl (Or.inl rfl)) dL)))
    (aL (dS PassesOwn.never rfl (jD rfl T.enum (pac (pv 1) aJ)) (eU rfl (aX (aP (i:=8) jU.nd rfl (Or.inl rfl)) (aX (aP (i:=9) jU.nd rfl (Or.inl rfl)) dL)))
     (aK (bO (i:=10) jU.nd rfl (Or.inl rfl) (bJ GM hr rfl mM kM bM .nil bU (pac (pv 0) (pac (aY dU (aY lZ aN (pv 6)) (pv 8)) aJ))))
     (aL (dJ (rF (bY (show OpR _ _ (rIn K false) from aBs) (pv 9) (pv 4) (by with_unfolding_all rfl)) (qF (bY rM (aY cQ (pv 10) aN) aN (cH _)))).pt
      (aL (dI (lN PySem.F.plainAttrs_list PySem.F.slot_list_append PySem.F.type_list_append fU (pv 5) (pac (rJ (pac (pv 7) (pac (pv 9) (pac (eW cY (pv 3) (aY cQ (aY eE (pv 10) aN) (pv 2)) (fun _ _=>rfl)) aJ)))) aJ)))) cF))))))
   (iF (fun σ H'=>∃ e,J2 H c a n ss n (mS c (cN c ss) (aZ c n) ss n n) (some (.ref e)) none σ H'∧H' e=some (.lst ((gI c n).map V.str))) (eJ (i:=11) (N':=nd4) (nown:=2) (js:=[0]) rfl jU.nd rfl rfl rfl
     ⟨rfl,by decide +kernel,by decide +kernel⟩ (cK (aB dR) NMB rfl rfl (by decide +kernel))
     ⟨fun _ _ _ _=>show PG _ _ (vL K 2 (fY (eQ 0) (fY (eQ 1) vM))) from eU rfl (aX (aP (i:=0) (show List.Nodup nd4 by decide +kernel) rfl (Or.inl rfl) (.inr rfl)) (aX (aP (i:=1) (show List.Nodup nd4 by decide +kernel) rfl (Or.inl rfl) (.inr rfl)) dL)),
      fun _ _ _ _=>lC (bY rO (aY cQ (bJ GM hr rfl mM kM bM .nil bU (pac (pv 2) (pac (aY dU aN (pv 0)) aJ))) aN) aN (cH _)),
      fun _ _ _ _=>pv 1⟩
     (jD rfl T.enum (pac (pv 3) aJ)))
   (iF (fun σ H'=>∃ e m,J2 H c a n ss n (mS c (cN c ss) (aZ c n) ss n n) (some (.ref e)) (some (.ref m)) σ H'∧H' e=some (.lst ((gI c n).map V.str))∧H' m=some (.lst ((jG c ss).map V.str))) (eJ (i:=12) (N':=nd3) (nown:=2) (js:=[0]) rfl jU.nd rfl rfl rfl
     ⟨rfl,by decide +kernel,by decide +kernel⟩ (cK (aB dR) NMB rfl rfl (by decide +kernel))
     ⟨fun _ _ _ _=>show PG _ _ (vL K 2 (fY (eQ 0) (fY (eQ 1) vM))) from eU rfl (aX (aP (i:=0) (show List.Nodup nd3 by decide +kernel) rfl (Or.inl rfl) (.inr rfl)) (aX (aP (i:=1) (show List.Nodup nd3 by decide +kernel) rfl (Or.inl rfl) (.inr rfl)) dL)),
      fun _ _ _ _=>lC (bY rO (aY cQ (bJ GM hr rfl mM kM bM .nil bU (pac (pv 2) (pac (aY dU aN (pv 0)) aJ))) aN) aN (cH _)),
      fun _ _ _ _=>pv 1⟩
     (jD rfl T.enum (pac (pv 1) aJ)))
   (aK (dJ (bY rO (aY cQ (aY eE (pv 0) aN) aN) aN (cH _)) (aL (dI (aKb PySem.F.plainAttrs_list PySem.F.slot_list_reverse PySem.F.type_list_reverse zA (pv 5)))) cF)
   (aL (bS (rJ (pac (eW cY (pv 3) aN (fun _ _=>rfl)) (pac (pv 11) (pac (pv 5) (pac (pv 12) aJ))))))))))))),?_⟩
  refine⟨_,rfl,_,rfl,c,n,rfl,by omega,fun l H1 s1 hl hl1=>⟨?_,?_⟩⟩
  ·refine⟨_,rfl,a,rfl,⟨_,s1.seq hA⟩,fun D hD=>oB (xs:=ss.map V.str) (fun i σ' H'=>∃ v0 v1,σ'=[v0,v1,some (.int c)]∧H' D=some (.lst ((rH (pK c) ss i).map V.str))∧aO H1 H') ?_ ?_ ?_ ?_⟩
   ·exact⟨none,none,rfl,aE,smu hD⟩
   ·rintro i σ' H' _ ⟨v0,v1,rfl,h1,h2⟩;exact h2.seq (s1.seq hA)
   ·rintro i x σ' H' t hx ⟨v0,v1,rfl,h1,h2⟩ ht;rw[List.getElem?_map] at hx;cases hz:(ss)[i]? with
    | none=>rw[hz] at hx; cases hx
    | some z=>
     rw[hz] at hx;cases hx;have hi:i<(ss).length:=(List.getElem?_eq_some_iff.mp hz).1;have nD:D≠t:=fun e=>by rw[e,ht] at h1; cases h1
     have sT:aO H1 (upd H' t (.tup [.int i,.str z])):=h2.trans (smu ht);have hlu:=jX (pK c) (ss) i;refine⟨t,_,rfl,SqT.of aE,rfl,_,_,rfl,_,_,rfl,rfl,_,rfl,_,rfl,_,_,rfl,rfl,c,_,rfl,_,_,rfl,rfl,(by show (0:Int)<4; decide),_,_,rfl,rfl,_,rfl,dY (fun h4=>?_) (fun h4=>?_)⟩
     ·have e4:pK c i=true:=h4;refine⟨_,rfl,_,by rw[aH nD]; exact h1,aW (by rw[List.length_map]; omega),some (.int i),some (.str z),rfl,?_,?_⟩
      ·rw[aE,gS hz,if_pos e4,List.map_append];rfl
      ·intro b o e;rw[aH (aI e hD)];exact sT b o e
     ·have e4:¬ pK c i=true:=h4;refine⟨some (.int i),some (.str z),rfl,?_,sT⟩;rw[aH nD,gS hz,if_neg e4,List.append_nil];exact h1
   ·rintro σ' H' ⟨v0,v1,rfl,h1,h2⟩;rw[List.length_map] at h1;exact⟨l,D,rfl,h2 _ _ hl1,h1,s1.trans h2⟩
  rintro σ H2 ⟨l,kn,rfl,hl2,hk2,s2⟩;refine⟨by show 0<=sizeLine; decide,fun d hd=>⟨?_,?_⟩⟩
  ·have hdH:H d=none:=s2.free hd;have ld:l≠d:=aI hl2 hd;have kd:kn≠d:=aI hk2 hd;have sd:aO H2 (upd H2 d (.lst [])):=smu hd;have D0:cL (upd H2 d (.lst [])) d []:=⟨⟨[],aE,rfl,fun i t x h=>by cases h⟩⟩;refine⟨_,rfl,l,rfl,⟨_,SqL.of (sd _ _ hl2)⟩,?_⟩;have hl0:=sd _ _ hl2;have hk0:=sd _ _ hk2;have hA2:=sd.seq (s2.seq hA)
   have aA:∀ {H':Hp},(∀ b o,b≠d->H2 b=some o->H' b=some o)->(∃ ys,H' d=some (.lst ys))->SqL K H' a (ss.map V.str):=fun {H'} k z=>by
    rcases s2.seq hA with (h | ⟨o,h⟩) | h
    ·exact .inl (.inl (k _ _ (aI h hd) h))
    ·exact .inl (.inr ⟨o,k _ _ (aI h hd) h⟩)
    ·exact .inr h
   refine rX (xs:=(aZ c n).map V.str) (fun i σ H'=>∃ x6 x7 x8 x9 x10,σ=[some (.int c),some (.ref a),some (.int n),some (.ref l),some (.ref kn),some (.ref d),x6,x7,x8,x9,x10,none,none]∧cL H' d (mS c (cN c ss) (aZ c n) ss n i)∧∀ b o,b≠d->H2 b=some o->H' b=some o) ?_ ?_ ?_ ?_
   ·exact⟨none,none,none,none,none,rfl,D0,fun b o _ h=>sd _ _ h⟩
   ·rintro i σ H' _ ⟨x6,x7,x8,x9,x10,rfl,h1,h2⟩;exact SqL.of (h2 _ _ ld hl2)
   ·rintro i x σ H' t hx ⟨x6,x7,x8,x9,x10,rfl,h1,h2⟩ ht;rw[List.getElem?_map] at hx;cases hz:(aZ c n)[i]? with
    | none=>rw[hz] at hx; cases hx
    | some r=>
     rw[hz] at hx;cases hx;have hi:i<n:=by have:=(List.getElem?_eq_some_iff.mp hz).1; rw[dP] at this; exact this
     have sT:=smu (o:=.tup [.int i,.str r]) ht;have h2':∀ b o,b≠d->H2 b=some o->upd H' t (.tup [.int i,.str r]) b=some o:=fun b o n h=>sT _ _ (h2 b o n h);have D1:=h1.same sT;refine⟨t,_,rfl,SqT.of aE,rfl,_,_,rfl,_,_,rfl,rfl,?_⟩;generalize upd H' t (.tup [.int i,.str r])=H3 at h2' D1 ⊢;refine⟨_,rfl,a,rfl,⟨_,aA h2' (let ⟨_,z,_⟩:=D1.ex; ⟨_,z⟩)⟩,?_⟩;refine rX (xs:=ss.map V.str) (fun k σ H'=>∃ x8 x9 x10,σ=[some (.int c),some (.ref a),some (.int n),some (.ref l),some (.ref kn),some (.ref d),some (.int i),some (.str r),x8,x9,x10,none,none]∧cL H' d (mS c (cN c ss) (aZ c n) ss n i++uW c (cN c ss) (aZ c n) ss n i k)∧∀ b o,b≠d->H2 b=some o->H' b=some o) ?_ ?_ ?_ ?_
     ·exact⟨x8,x9,x10,rfl,by rw[show uW c (cN c ss) (aZ c n) ss n i 0=[] from rfl,List.append_nil]; exact D1,h2'⟩
     ·rintro k σ H' _ ⟨x8,x9,x10,rfl,h3,h4⟩;exact aA h4 (let ⟨_,z,_⟩:=h3.ex; ⟨_,z⟩)
     ·rintro k x σ H' t' hx ⟨x8,x9,x10,rfl,h3,h4⟩ ht';rw[List.getElem?_map] at hx;cases hy:ss[k]? with
      | none=>rw[hy] at hx; cases hx
      | some y=>
       rw[hy] at hx;cases hx;have hk:k<ss.length:=(List.getElem?_eq_some_iff.mp hy).1;have es:=aBk (c:=c) (kn:=cN c ss) (n:=n) hz hy;have sT':=smu (o:=.tup [.int k,.str y]) ht';have h4':∀ b o,b≠d->H2 b=some o->upd H' t' (.tup [.int k,.str y]) b=some o:=fun b o n h=>sT' _ _ (h4 b o n h);have D3:=h3.same sT';refine⟨t',_,rfl,SqT.of aE,rfl,_,_,rfl,_,_,rfl,rfl,?_⟩;generalize upd H' t' (.tup [.int k,.str y])=H4 at h4' D3 ⊢;refine⟨_,rfl,_,rfl,_,_,rfl,rfl,.inl ⟨by decide,by decide⟩,_,rfl,_,_,rfl,rfl,c,_,rfl,?_⟩;refine⟨_,rfl,_,rfl,kn,_,rfl,.inl (SqL.of (h4' _ _ kd hk2)),rfl,aCs _,_,rfl,?_⟩;have ei:inV (.str y) ((cN c ss).map V.str)=decide (y∈cN c ss):=aHt _ _
       have stay:(decide (y∈cN c ss)&&decide (drw c i k%3>0))=false->cL H4 d (mS c (cN c ss) (aZ c n) ss n i++uW c (cN c ss) (aZ c n) ss n i (k+1)):=fun z=>by
        rw[es,if_neg (by rw[z]; exact Bool.false_ne_true),List.append_nil];exact D3
       refine dY (fun g1=>?_) (fun g1=>?_)
       ·have g1':decide (y∈cN c ss)=true:=ei.symm.trans g1;refine⟨_,rfl,_,_,rfl,rfl,(by show (0:Int)<3; decide),_,_,rfl,rfl,_,rfl,dY (fun g2=>?_) (fun g2=>?_)⟩
        ·have g2':decide (drw c i k%3>0)=true:=g2;have gi:=cC (drw c i k/3) (m:=(n:Int)) (by omega);have hat:atI ((aZ c n).map V.str) (drw c i k/3%n)=some (.str ((aZ c n).getD (drw c i k/3%n).toNat "")):=gO V.str (aZ c n) "" gi.1 (by rw[dP]; exact gi.2);obtain⟨_,hdd,_⟩:=D3.ex;refine⟨_,rfl,.inl ⟨rfl,_,SqL.of hdd⟩,_,rfl,_,rfl,_,rfl,_,rfl,_,_,rfl,rfl,⟨by decide,by decide⟩,_,rfl,_,_,rfl,rfl,(by show (0:Int)<n; omega),l,_,_,_,rfl,rfl,SqL.of (h4' _ _ ld hl2),hat,by show 3<=sizeLine; decide,fun t2 ht2=>?_⟩;obtain⟨xs,hx1,hx2,hx3⟩:=D3.push ht2 (r,y,(aZ c n).getD (drw c i k/3%n).toNat "");have td:t2≠d:=fun z=>by rw[z,hx1] at ht2; cases ht2
         refine⟨d,xs,_,rfl,rfl,by rw[aH (Ne.symm td)]; exact hx1,?_,_,_,_,rfl,?_,fun b o nb h=>?_⟩
         ·have a1:=sH c (cN c ss) (aZ c n) ss n i;have a2:=wI c (cN c ss) (aZ c n) ss n i k;rw[hx2,List.length_append];have a3:ss.length*i<=12*5:=Nat.mul_le_mul hs12 (by omega);exact aW (by omega)
         ·rw[es,if_pos (by rw[g1',g2']; rfl),← List.append_assoc];exact hx3
         ·rw[aH nb];exact smu ht2 _ _ (h4' b o nb h)
        ·exact⟨_,_,_,rfl,stay (by rw[g1',Bool.true_and]; exact Bool.eq_false_iff.mpr g2),h4'⟩
       ·have g1':¬ inV (.str y) ((cN c ss).map V.str)=true:=g1;exact⟨_,_,_,rfl,stay (by rw[← ei,Bool.eq_false_iff.mpr g1',Bool.false_and]),h4'⟩
     ·rintro σ H' ⟨x8,x9,x10,rfl,h3,h4⟩;rw[List.length_map,← uO] at h3;exact⟨_,_,_,_,_,rfl,h3,h4⟩
   ·rintro σ H' ⟨x6,x7,x8,x9,x10,rfl,h1,h2⟩;rw[List.length_map,dP] at h1;exact⟨l,kn,d,x6,x7,x8,x9,x10,rfl,h2 _ _ ld hl2,h2 _ _ kd hk2,h1,hdH,ld,kd,fun b o h=>h2 _ _ (aI h hdH) (s2 _ _ h),fun p h=>by rcases h with h | h <;> cases h⟩
  clear hl hl1 s1 hl2 hk2 s2 hd;rintro σ H3 ⟨l,kn,d,x6,x7,x8,x9,x10,rfl,hl3,hk3,hd3,hd0,n1,n2,s3,nn⟩;refine⟨?_,?_⟩
  ·refine⟨_,rfl,l,rfl,⟨_,SqL.of hl3⟩,fun D hD=>oB (xs:=(aZ c n).map V.str) (fun i σ' H'=>∃ v0 v1,σ'=[v0,v1,some (.int c)]∧H' D=some (.lst ((rH (pE c) (aZ c n) i).map V.str))∧aO H3 H') ?_ ?_ ?_ ?_⟩
   ·exact⟨none,none,rfl,aE,smu hD⟩
   ·rintro i σ' H' _ ⟨v0,v1,rfl,h1,h2⟩;exact h2.seq (SqL.of hl3)
   ·rintro i x σ' H' t hx ⟨v0,v1,rfl,h1,h2⟩ ht;rw[List.getElem?_map] at hx;cases hz:((aZ c n))[i]? with
    | none=>rw[hz] at hx; cases hx
    | some z=>
     rw[hz] at hx;cases hx;have hi:i<((aZ c n)).length:=(List.getElem?_eq_some_iff.mp hz).1;have nD:D≠t:=fun e=>by rw[e,ht] at h1; cases h1
     have sT:aO H3 (upd H' t (.tup [.int i,.str z])):=h2.trans (smu ht);have hlu:=jX (pE c) ((aZ c n)) i;refine⟨t,_,rfl,SqT.of aE,rfl,_,_,rfl,_,_,rfl,rfl,_,rfl,_,rfl,_,_,rfl,rfl,c,_,rfl,_,_,rfl,rfl,(by show (0:Int)<2; decide),rfl,_,rfl,dY (fun h4=>?_) (fun h4=>?_)⟩
     ·have e4:pE c i=true:=decide_eq_true (V.int.inj (of_decide_eq_true h4));refine⟨_,rfl,_,by rw[aH nD]; exact h1,aW (by rw[List.length_map]; rw[dP] at hi; omega),some (.int i),some (.str z),rfl,?_,?_⟩
      ·rw[aE,gS hz,if_pos e4,List.map_append];rfl
      ·intro b o e;rw[aH (aI e hD)];exact sT b o e
     ·have e4:¬ pE c i=true:=fun z=>h4 (decide_eq_true (congrArg V.int (of_decide_eq_true z)));refine⟨some (.int i),some (.str z),rfl,?_,sT⟩;rw[aH nD,gS hz,if_neg e4,List.append_nil];exact h1
   ·rintro σ' H' ⟨v0,v1,rfl,h1,h2⟩;rw[List.length_map] at h1;rw[dP] at h1
    exact⟨D,⟨l,kn,d,x6,x7,x8,x9,x10,rfl,h2 _ _ hl3,h2 _ _ hk3,hd3.same h2,hd0,n1,n2,s3.trans h2,fun p h=>by
     obtain⟨_,hdd,_⟩:=hd3.ex;rcases h with h | h
     ·cases h; exact⟨Ne.symm (aI hdd hD),s3.free hD⟩
     ·cases h⟩,h1⟩
  clear hl3 hk3 hd3 hd0 n1 n2 s3 nn;rintro σ H4 ⟨e,⟨l,kn,d,x6,x7,x8,x9,x10,rfl,hl4,hk4,hd4,hd0,n1,n2,s4,nn⟩,he4⟩;refine⟨?_,?_⟩
  ·refine⟨_,rfl,a,rfl,⟨_,s4.seq hA⟩,fun D hD=>oB (xs:=ss.map V.str) (fun i σ' H'=>∃ v0 v1,σ'=[v0,v1,some (.int c)]∧H' D=some (.lst ((rH (pM c) ss i).map V.str))∧aO H4 H') ?_ ?_ ?_ ?_⟩
   ·exact⟨none,none,rfl,aE,smu hD⟩
   ·rintro i σ' H' _ ⟨v0,v1,rfl,h1,h2⟩;exact h2.seq (s4.seq hA)
   ·rintro i x σ' H' t hx ⟨v0,v1,rfl,h1,h2⟩ ht;rw[List.getElem?_map] at hx;cases hz:(ss)[i]? with
    | none=>rw[hz] at hx; cases hx
    | some z=>
     rw[hz] at hx;cases hx;have hi:i<(ss).length:=(List.getElem?_eq_some_iff.mp hz).1;have nD:D≠t:=fun e=>by rw[e,ht] at h1; cases h1
     have sT:aO H4 (upd H' t (.tup [.int i,.str z])):=h2.trans (smu ht);have hlu:=jX (pM c) (ss) i;refine⟨t,_,rfl,SqT.of aE,rfl,_,_,rfl,_,_,rfl,rfl,_,rfl,_,rfl,_,_,rfl,rfl,c,_,rfl,_,_,rfl,rfl,(by show (0:Int)<8; decide),rfl,_,rfl,dY (fun h4=>?_) (fun h4=>?_)⟩
     ·have e4:pM c i=true:=decide_eq_true (V.int.inj (of_decide_eq_true h4));refine⟨_,rfl,_,by rw[aH nD]; exact h1,aW (by rw[List.length_map]; omega),some (.int i),some (.str z),rfl,?_,?_⟩
      ·rw[aE,gS hz,if_pos e4,List.map_append];rfl
      ·intro b o e;rw[aH (aI e hD)];exact sT b o e
     ·have e4:¬ pM c i=true:=fun z=>h4 (decide_eq_true (congrArg V.int (of_decide_eq_true z)));refine⟨some (.int i),some (.str z),rfl,?_,sT⟩;rw[aH nD,gS hz,if_neg e4,List.append_nil];exact h1
   ·rintro σ' H' ⟨v0,v1,rfl,h1,h2⟩;rw[List.length_map] at h1
    exact⟨e,D,⟨l,kn,d,x6,x7,x8,x9,x10,rfl,h2 _ _ hl4,h2 _ _ hk4,hd4.same h2,hd0,n1,n2,s4.trans h2,fun p h=>by
     obtain⟨_,hdd,_⟩:=hd4.ex;rcases h with h | h
     ·exact nn p (.inl h)
     ·cases h; exact⟨Ne.symm (aI hdd hD),s4.free hD⟩⟩,h2 _ _ he4,h1⟩
  clear hl4 hk4 hd4 hd0 n1 n2 s4 he4 nn;rintro σ H5 ⟨e,m,⟨l,kn,d,x6,x7,x8,x9,x10,rfl,hl5,hk5,hd5,hd0,n1,n2,s5,nn⟩,he5,hm5⟩
  have r0:atI ((aZ c n).map V.str) 0=some (.str (eS c 0)):=by
   have:=jK (xs:=(aZ c n).map V.str) (j:=0) (v:=.str (eS c 0)) (by
    rw[List.getElem?_map];unfold aZ;rw[List.getElem?_map,List.getElem?_range (by omega)];rfl)
   exact this
  refine⟨_,rfl,_,_,rfl,rfl,⟨by decide,by decide⟩,_,_,rfl,rfl,(by show (0:Int)<2; decide),rfl,_,rfl,dY (fun h4=>?_) (fun h4=>?_)⟩
  ·have e4:c/15%2=1:=V.int.inj (of_decide_eq_true h4);obtain⟨xs,hx1,hx2,hx3⟩:=hd5.rev;have sb:∀ {b:Addr}{o:HO},H5 b=some o->b≠d->upd H5 d (.lst xs.reverse) b=some o:=fun h nb=>by rw[aH nb]; exact h
   refine⟨_,rfl,.inl ⟨rfl,_,SqL.of hx1⟩,d,xs,rfl,rfl,hx1,?_⟩;refine⟨_,rfl,l,_,_,_,rfl,rfl,SqL.of (sb hl5 n1),r0,_,rfl,_,rfl,_,rfl,by show 4<=sizeLine; decide,fun t ht=>?_⟩;refine q t e d m _ (fun b o h=>smu ht _ _ (by rw[aH (aI h hd0)]; exact s5 _ _ h)) (nn _ (.inl rfl)).2 hd0 (nn _ (.inr rfl)).2 aE (smu ht _ _ (sb he5 (nn _ (.inl rfl)).1)) ?_ (smu ht _ _ (sb hm5 (nn _ (.inr rfl)).1));unfold cS;rw[if_pos e4];exact hx3.same (smu ht)
  ·have e4:¬ c/15%2=1:=fun z=>h4 (decide_eq_true (congrArg V.int z));refine⟨_,rfl,l,_,_,_,rfl,rfl,SqL.of hl5,r0,_,rfl,_,rfl,_,rfl,by show 4<=sizeLine; decide,fun t ht=>?_⟩;refine q t e d m _ (s5.trans (smu ht)) (nn _ (.inl rfl)).2 hd0 (nn _ (.inr rfl)).2 aE (smu ht _ _ he5) ?_ (smu ht _ _ hm5);unfold cS;rw[if_neg e4];exact hd5.same (smu ht)
end
end K24
namespace K24
open PySem L2 Ky
seal L2.PE L2.PS L2.PSs L2.PA L2.PT L2.PW L2.PG L2.PI L2.PTs L2.PO L2.OpR L2.IxR L2.CallR L2.MtM L2.MtR
unseal L2.MtM L2.MtR
inductive aJd (H:Hp) (t:Addr) (c:Int) (n:Nat) (ss:List Str):Prop
 | mk (e d m:Addr) (h0_:H t=some (.tup [.str (eS c 0),.ref e,.ref d,.ref m])) (h1_:H e=some (.lst ((gI c n).map V.str))) (h2_:cL H d (cS c ss n)) (h3_:H m=some (.lst ((jG c ss).map V.str)))
structure oE (H:Hp) (p:Addr) (l:List (Int×Nat)) (ss:List Str):Prop where
 ex:∃ ts:List Addr,H p=some (.lst (ts.map V.ref))∧ts.length=l.length∧∀ (i:Nat) (t:Addr) (x:Int×Nat),ts[i]?=some t->l[i]?=some x->aJd H t x.1 x.2 ss
def z1 (c:Int):Nat:=1+(c/7%5).toNat
def z2 (c:Int):Nat:=1+(c/7%3).toNat
def z3 (c:Int):Nat:=1+(c/7%2).toNat
def pV (c:Int):Nat:=([1,2,2,3]:List Nat).getD (c/35%4).toNat 1
def tU (c1 c2 c3:Int):List (Int×Nat):=[(c1,z1 c1),(c2,z2 c2),(c3,z3 c3)]
def plant (c1 c2 c3:Int):List (Int×Nat):=(tU c1 c2 c3).take (pV c1)
theorem aCi:∀ n,n<4->1<=([1,2,2,3]:List Nat).getD n 1∧([1,2,2,3]:List Nat).getD n 1<=3∧([1,2,2,3]:List Int).getD n 1=((([1,2,2,3]:List Nat).getD n 1:Nat):Int):=by decide +kernel
theorem xH (c:Int):1<=pV c∧pV c<=3∧([1,2,2,3]:List Int).getD (c/35%4).toNat 1=((pV c:Nat):Int):=by
 have h:=cC (c/35) (m:=4) (by decide);exact aCi _ (by omega)
theorem aIk (c1 c2 c3:Int):∀ x∈tU c1 c2 c3,1<=x.2∧x.2<=5:=by
 have h1:=cC (c1/7) (m:=5) (by decide);have h2:=cC (c2/7) (m:=3) (by decide);have h3:=cC (c3/7) (m:=2) (by decide);intro x hx;rcases List.mem_cons.mp hx with rfl | hx
 ·exact⟨by show 1<=z1 c1; unfold z1; omega,by show z1 c1<=5; unfold z1; omega⟩
 rcases List.mem_cons.mp hx with rfl | hx
 ·exact⟨by show 1<=z2 c2; unfold z2; omega,by show z2 c2<=5; unfold z2; omega⟩
 rcases List.mem_cons.mp hx with rfl | hx
 ·exact⟨by show 1<=z3 c3; unfold z3; omega,by show z3 c3<=5; unfold z3; omega⟩
 cases hx
theorem aDx (c1 c2 c3:Int) (i:Nat) (h:i<3):∃ x:Int×Nat,(tU c1 c2 c3)[i]?=some x∧atI ([c1,c2,c3].map V.int) (i:Int)=some (.int x.1)∧atI ([z1 c1,z2 c2,z3 c3].map fun n:Nat=>V.int n) (i:Int)=some (.int x.2):=by
 match i,h with
 | 0,_=>exact⟨_,rfl,rfl,rfl⟩
 | 1,_=>exact⟨_,rfl,rfl,rfl⟩
 | 2,_=>exact⟨_,rfl,rfl,rfl⟩
inductive pQ (D:Addr) (H:Hp) (t:Addr) (c:Int) (n:Nat) (ss:List Str):Prop
 | mk (e d m:Addr) (h0_:H t=some (.tup [.str (eS c 0),.ref e,.ref d,.ref m])) (h1_:H e=some (.lst ((gI c n).map V.str))) (h2_:cL H d (cS c ss n)) (h3_:H m=some (.lst ((jG c ss).map V.str))) (h4_:e≠D) (h5_:d≠D) (h6_:m≠D)
theorem pQ.same {D:Addr}{H H':Hp}{t:Addr}{c:Int}{n:Nat}{ss:List Str}(R:pQ D H t c n ss) (sm:aO H H'):pQ D H' t c n ss:=by
 obtain⟨e,d,m,h0,h1,h2,h3,h4,h5,h6⟩:=R;exact⟨e,d,m,sm _ _ h0,sm _ _ h1,h2.same sm,sm _ _ h3,h4,h5,h6⟩
theorem pQ.put {H:Hp}{t D:Addr}{c:Int}{n:Nat}{ss:List Str}{ys:List V}(R:pQ D H t c n ss) (hD:∃ xs,H D=some (.lst xs)):pQ D (upd H D (.lst ys)) t c n ss:=by
 obtain⟨e,d,m,h0,h1,h2,h3,h4,h5,h6⟩:=R;obtain⟨xs,hD⟩:=hD;obtain⟨ts,b1,b2,b3⟩:=h2.ex;refine⟨e,d,m,by rw[aH (fun z=>by rw[z,hD] at h0; cases h0)]; exact h0,by rw[aH h4]; exact h1,⟨ts,by rw[aH h5]; exact b1,b2,fun i u x hu hx=>?_⟩,by rw[aH h6]; exact h3,h4,h5,h6⟩
 have:=b3 i u x hu hx
 rw[aH (fun z=>by rw[z,hD] at this; cases this)];exact this
theorem pQ.row {D:Addr}{H:Hp}{t:Addr}{c:Int}{n:Nat}{ss:List Str}(R:pQ D H t c n ss):aJd H t c n ss:=by
 obtain⟨e,d,m,h0,h1,h2,h3,_⟩:=R;exact⟨e,d,m,h0,h1,h2,h3⟩
inductive tL (K:PySem.W.Frag) (vs:List V) (H:Hp) (Q:VK) (E:XK):Prop
 | mk (a b:Addr) (c1 c2 c3:Int) (ss:List Str) (h0_:vs=[.ref a,.ref b]) (h1_:SqL K H a ([c1,c2,c3].map V.int)) (h2_:SqL K H b (ss.map V.str)) (h3_:ss.length<=12)
  (h4_:∀ (p:Addr) H',aO H H'->oE H' p (plant c1 c2 c3) ss->Q (.ref p) H')
section
variable {P:Program}{w:World}{K:PySem.W.Frag}{mg:Str->Option Value}{base:Heap}
abbrev NPB:List Str:=["_law_cells","_law_names","_law_sizes"]
theorem aLw:aR NPB ["_law_cells","_law_names"] (aB gX):=⟨rfl,rfl,rfl,by decide +kernel,rfl,by decide +kernel,by decide +kernel⟩
abbrev nd5:List Str:=["_law_k","_law_cells","_law_names","_law_sizes"]
theorem yO {f fB:Addr}{fd fdB:FuncData}(F:Fun K "_law_plant_by" "_law_plant_by" gX f fd) (T:Txt K mg)
  (GB:aS P w K mg base CX0 2 fB fdB ["_law_cell","_law_names","_law_many"] (jT K)) (kB:PySem.W.keepIn K (.ref fB)=true) (bB:aU K fdB ["_law_cell","_law_names","_law_many"] []) (mB:mg "_law_machine_by" = some (.ref fB)) :
  aS P w K mg base CX0 3 f fd ["_law_cells","_law_names"] (tL K):=by
 refine F.ok aLw (fun vs H Q E h=>?_) (fun cdv A outer s H vs Q E hr h=>?_)
 ·obtain⟨a,b,c1,c2,c3,ss,rfl,_⟩:=h;rfl
 ·obtain⟨a,b,c1,c2,c3,ss,rfl,hA,hB,hs12,q⟩:=h
  refine⟨_,aK (bO (i:=2) aLw.nd rfl (Or.inr rfl) (dD (pac (aY dU aN (aY cQ (aY eE (eW cY (pv 0) aN (fun _ _=>rfl)) aN) aN))
    (pac (aY dU aN (aY cQ (aY eE (eW cY (pv 0) aN (fun _ _=>rfl)) aN) aN))
    (pac (aY dU aN (aY cQ (aY eE (eW cY (pv 0) aN (fun _ _=>rfl)) aN) aN)) aJ)))))
   (aL (bS (gB (N':=nd5) (nown:=1) (js:=[0,1,2]) rfl
     ⟨rfl,by decide +kernel,by decide +kernel⟩ (cK (aB gX) NPB rfl rfl (by decide +kernel))
     ⟨fun _ _ _ _=>aP (i:=0) (show List.Nodup nd5 by decide +kernel) rfl (Or.inl rfl) (.inr rfl),fun _ _ _ _=>eN,
      fun _ _ _ _=>bJ GB hr rfl mB kB bB .nil bU (pac (eW (show IxR _ (aBl K) from cY) (pv 1) (pv 0) (fun _ _=>rfl)) (pac (pv 2) (pac (eW (show IxR _ (aBl K) from cY) (pv 3) (pv 0) (fun _ _=>rfl)) aJ)))⟩
     (gT rfl T.range (pac (eW cY (dD (pac aN (pac aN (pac aN (pac aN aJ))))) (aY cQ (aY eE (eW cY (pv 0) aN (fun _ _=>rfl)) aN) aN) (fun _ _=>rfl)) aJ))))),?_⟩
  have g1:=cC (c1/7) (m:=5) (by decide);have g2:=cC (c2/7) (m:=3) (by decide);have g3:=cC (c3/7) (m:=2) (by decide);have g4:=cC (c1/35) (m:=4) (by decide);have hm:=xH c1;refine⟨_,rfl,a,_,_,.int c1,rfl,rfl,hA,rfl,_,_,rfl,rfl,⟨by decide,by decide⟩,_,_,rfl,rfl,(by show (0:Int)<5; decide),_,_,rfl,rfl,_,rfl,a,_,_,.int c2,rfl,rfl,hA,rfl,_,_,rfl,rfl,⟨by decide,by decide⟩,_,_,rfl,rfl,(by show (0:Int)<3; decide),_,_,rfl,rfl,_,rfl,a,_,_,.int c3,rfl,rfl,hA,rfl,_,_,rfl,rfl,⟨by decide,by decide⟩,_,_,rfl,rfl,(by show (0:Int)<2; decide),_,_,rfl,rfl,by show 3<=sizeLine; decide,fun p1 hp1=>?_⟩
  have e1:(upd H p1 (.lst [.int (1+c1/7%5),.int (1+c2/7%3),.int (1+c3/7%2)])) p1=some (.lst ([z1 c1,z2 c2,z3 c3].map fun n:Nat=>V.int n)):=by
   rw[aE];have a1:1+c1/7%5=((z1 c1:Nat):Int):=by unfold z1; omega
   have a2:1+c2/7%3=((z2 c2:Nat):Int):=by unfold z2; omega
   have a3:1+c3/7%2=((z3 c3:Nat):Int):=by unfold z3; omega
   rw[a1,a2,a3];rfl
  have s1:aO H (upd H p1 (.lst [.int (1+c1/7%5),.int (1+c2/7%3),.int (1+c3/7%2)])):=smu hp1;generalize upd H p1 (.lst [.int (1+c1/7%5),.int (1+c2/7%3),.int (1+c3/7%2)])=H1 at e1 s1 ⊢;have hat:atI ([1,2,2,3].map V.int) (c1/35%4)=some (.int ((pV c1:Nat):Int)):=by rw[← hm.2.2]; exact gO V.int [1,2,2,3] 1 g4.1 g4.2
  refine⟨by show 4<=sizeLine; decide,fun p2 hp2=>⟨_,rfl,a,_,_,.int c1,rfl,rfl,(s1.trans (smu hp2)).seq hA,rfl,_,_,rfl,rfl,⟨by decide,by decide⟩,_,_,rfl,rfl,(by show (0:Int)<4; decide),p2,_,_,_,rfl,rfl,SqL.of aE,hat,_,rfl,by omega,by omega,?_⟩⟩;have s2:=s1.trans (smu (o:=.lst ([1,2,2,3].map V.int)) hp2);have e2:=smu (o:=.lst ([1,2,2,3].map V.int)) hp2 _ _ e1;intro D hD;refine iU (n:=pV c1) (fun i σ' H'=>∃ v,σ'=[v,some (.ref a),some (.ref b),some (.ref p1)]∧(∃ ts:List Addr,H' D=some (.lst (ts.map V.ref))∧ts.length=i∧∀ (j:Nat) (t:Addr) (x:Int×Nat),ts[j]?=some t->(tU c1 c2 c3)[j]?=some x->pQ D H' t x.1 x.2 ss)∧∀ b o,b≠D->upd H1 p2 (.lst ([1,2,2,3].map V.int)) b=some o->H' b=some o) ?_ ?_ ?_
  ·exact⟨none,rfl,⟨[],aE,rfl,fun j t x h=>by cases h⟩,fun b o n h=>by rw[aH n]; exact h⟩
  ·rintro i σ' H' hi ⟨v,rfl,⟨ts,t1,t2,t3⟩,k⟩;obtain⟨x,hx0,hx1,hx2⟩:=aDx c1 c2 c3 i (by omega);have hxz:=aIk c1 c2 c3 x (List.mem_of_getElem? hx0)
   have sq:∀ {p:Addr}{xs:List V},SqL K (upd H1 p2 (.lst ([1,2,2,3].map V.int))) p xs->SqL K H' p xs:=fun {p xs} h=>by
    rcases h with (h | ⟨o,h⟩) | h
    ·exact .inl (.inl (k _ _ (aI h hD) h))
    ·exact .inl (.inr ⟨o,k _ _ (aI h hD) h⟩)
    ·exact .inr h
   refine⟨_,rfl,_,rfl,a,_,_,.int x.1,rfl,rfl,sq (s2.seq hA),by rw[Int.zero_add]; exact hx1,_,rfl,_,rfl,_,rfl,p1,_,_,.int x.2,rfl,rfl,sq (SqL.of e2),by rw[Int.zero_add]; exact hx2,x.1,b,x.2,ss,rfl,sq (s2.seq hB),hxz.1,hxz.2,hs12,fun t e d m H3 s3 he hd hm' ht he3 hd3 hm3=>?_⟩;have t13:=s3 _ _ t1;refine⟨_,t13,aW (by rw[List.length_map]; omega),_,rfl,⟨ts++[t],by rw[aE,List.map_append]; rfl,by rw[List.length_append,t2]; rfl,fun j u y hu hy=>?_⟩,fun b o n h=>by rw[aH n]; exact s3 _ _ (k b o n h)⟩
   by_cases hj:j<ts.length
   ·rw[List.getElem?_append_left hj] at hu;exact ((t3 j u y hu hy).same s3).put ⟨_,t13⟩
   ·have hl:j=ts.length:=by
     have:=(List.getElem?_eq_some_iff.mp hu).1
     rw[List.length_append] at this;simp only[List.length_cons,List.length_nil] at this;omega
    subst hl;rw[List.getElem?_append_right (Nat.le_refl _),Nat.sub_self] at hu;cases hu;rw[t2,hx0] at hy;cases hy;have nD:∀ {p:Addr},H' p=none->p≠D:=fun h z=>by rw[z,t1] at h; cases h
    exact (pQ.mk e d m ht he3 hd3 hm3 (nD he) (nD hd) (nD hm')).put ⟨_,t13⟩
  ·rintro σ' H' ⟨v,rfl,⟨ts,t1,t2,t3⟩,k⟩;refine q D H' (fun b o h=>k _ _ (aI h (s2.free hD)) (s2 _ _ h)) ⟨ts,t1,?_,fun j t x hj hx=>?_⟩
   ·rw[t2];unfold plant;rw[List.length_take];show _=min (pV c1) 3;omega
   ·unfold plant at hx;have hjl:j<pV c1:=by rw[← t2]; exact (List.getElem?_eq_some_iff.mp hj).1
    rw[List.getElem?_take_of_lt hjl] at hx;exact (t3 j t x hj hx).row
end
end K24
namespace K24
open PySem L2 Ky
seal L2.PE L2.PS L2.PSs L2.PA L2.PT L2.PW L2.PG L2.PI L2.PTs L2.PO L2.OpR L2.IxR L2.CallR L2.MtM L2.MtR
unseal L2.MtM L2.MtR
theorem qW {rs:List Str}{z:Str}:z∈unl rs []↔z∈rs:=by
 rw[zR];exact⟨fun h=>h.elim (fun h=>nomatch h) id,.inr⟩
theorem aFn (k:List (Key×V)) (l:List Str) (s:Str) (v:V) (h:k.map (·.1)=l.map Sum.inr):(eV k (Sum.inr s) v).map (·.1)=(if s∈l then l else l++[s]).map Sum.inr:=by
 unfold eV;rw[kU,h]
 have m:(k.map fun kv=>if kv.1=(Sum.inr s:Key) then (kv.1,v) else kv).map (·.1)=k.map (·.1):=by
  rw[List.map_map];refine List.map_congr_left fun p _=>?_;show (if p.1=_ then (p.1,v) else p).1=p.1
  split <;> rfl
 by_cases q:s∈l
 ·rw[if_pos q,if_pos (by rw[List.any_eq_true]; exact⟨_,List.mem_map.mpr ⟨s,q,rfl⟩,decide_eq_true rfl⟩),m,h]
 ·rw[if_neg q,if_neg fun z=>by
   obtain⟨x,hx,e⟩:=List.any_eq_true.mp z;obtain⟨y,hy,rfl⟩:=List.mem_map.mp hx;exact q (Sum.inr.inj (of_decide_eq_true e)▸hy),List.map_append,h,List.map_append]
  rfl
theorem vE:∀ (ss:List Str) (k:List (Key×V)) (l:List Str),k.map (·.1)=l.map Sum.inr->(mks ss k).map (·.1)=(unl ss l).map Sum.inr
 | [],k,l,h=>h
 | s::r,k,l,h=>vE r _ _ (aFn k l s _ h)
theorem tZ {kvs:List (Key×V)}{rs:List Str}(h:kvs.map (·.1)=(mks rs []).map (·.1)):kvs.map (fun kv=>L2.kV kv.1)=(unl rs []).map V.str:=by
 have e:kvs.map (fun kv=>L2.kV kv.1)=(kvs.map (·.1)).map L2.kV:=by rw[List.map_map]; rfl
 rw[e,h,vE rs [] [] rfl,List.map_map];rfl
theorem pD:∀ (fs:List Str) (kvs:List (Key×V)) (z:Str),(dB (mks fs kvs) (Sum.inr z)).isSome=(decide (z∈fs)||(dB kvs (Sum.inr z)).isSome)
 | [],kvs,z=>by simp[mks]
 | s::r,kvs,z=>by
  rw[mks,pD r,nA]
  by_cases h:z=s
  ·subst h
   simp
  ·rw[if_neg fun e=>h (Sum.inr.inj e)];simp[h]
theorem pJ {kvs:List (Key×V)}{rs:List Str}(h:kvs.map (·.1)=(mks rs []).map (·.1)) (z:Str):(dB kvs (Sum.inr z)).isSome=decide (z∈rs):=by
 have:=pD rs [] z
 rw[show (dB ([]:List (Key×V)) (Sum.inr z)).isSome=false from rfl,Bool.or_false] at this
 rw[← this,← fZ,← fZ,kU,kU,h]
theorem fS {rs N:List Str}(h:∀ z∈rs,z∈N):(unl rs []).length<=N.length:=by
 have:∀ (l m:List Str),l.Nodup->(∀ z∈l,z∈m)->l.length<=m.length:=fun l m hd hs=>by
  induction l generalizing m with
  | nil=>exact Nat.zero_le _
  | cons x r ih=>
   have hn:=List.nodup_cons.mp hd;have h1:=ih (m.erase x) hn.2 (fun z hz=>(List.mem_erase_of_ne (fun (e:z=x)=>hn.1 (e▸hz))).mpr (hs z (List.mem_cons_of_mem _ hz)));have hx:=hs x (List.mem_cons_self ..);have h2:=List.length_pos_of_mem hx;rw[List.length_erase_of_mem hx] at h1;simp only[List.length_cons];omega
 exact this _ _ (oO _ _ .nil) fun z hz=>h z (qW.mp hz)
inductive wC (CM:Addr) (vs:List V) (H:Hp) (Q:VK) (E:XK):Prop
 | mk (x dd:Addr) (b:Str) (es kn:List Str) (ds:List Dr) (h0_:vs=[.ref x]) (h1_:MM CM H x dd b es kn ds) (h2_:Q (.ref dd) H)
inductive zW (CM:Addr) (f:Str->List Str->List Str->List Dr->List Str) (vs:List V) (H:Hp) (Q:VK) (E:XK):Prop
 | mk (x dd:Addr) (b:Str) (es kn:List Str) (ds:List Dr) (h0_:vs=[.ref x]) (h1_:MM CM H x dd b es kn ds) (h2_:(unl (f b es kn ds) []).length<64)
  (h3_:∀ (l:Addr) (ts:List Str) H',aO H H'->H l=none->H' l=some (.lst (ts.map V.str))->PyProof.Rows.sortedS ts=true->ts.Perm (unl (f b es kn ds) [])->Q (.ref l) H')
abbrev aAr (b:Str) (es:List Str) (ds:List Dr) (z:Str):Prop:=aQ z=true∧z∈bZ b es ds
inductive zX (CM cR:Addr) (vs:List V) (H:Hp) (Q:VK) (E:XK):Prop
 | mk (x dd:Addr) (b z:Str) (es kn:List Str) (ds:List Dr) (h0_:vs=[.ref x,.str z]) (h1_:MM CM H x dd b es kn ds) (h2_:z.length<=1000) (h3_:aAr b es ds z->∀ H',aO H H'->Q .non H') (h4_:¬ aAr b es ds z->∀ H',aO H H'->E (.ref cR) none H')
inductive oQ (CM cR:Addr) (vs:List V) (H:Hp) (Q:VK) (E:XK):Prop
 | mk (x dd:Addr) (b z:Str) (es kn:List Str) (ds:List Dr) (h0_:vs=[.ref x,.str z]) (h1_:MM CM H x dd b es kn ds) (h2_:z.length<=1000) (h3_:aAr b es ds z->∀ H',aO H H'->Q (.bl (decide (z∈es))) H') (h4_:¬ aAr b es ds z->∀ H',aO H H'->E (.ref cR) none H')
section
variable {P:Program}{w:World}{K:PySem.W.Frag}{mg:Str->Option Value}{base:Heap}
theorem aOk:aR ["self"] ["self"] (aB pH):=⟨rfl,rfl,rfl,by decide +kernel,rfl,by decide +kernel,by decide +kernel⟩
theorem aCb {f CM:Addr}{fd:FuncData}(F:Fun K "deeds" "Machine.deeds" pH f fd) (MC:mV K CM):aS P w K mg base CX0 1 f fd ["self"] (wC CM):=by
 refine F.ok aOk (fun vs H Q E h=>?_) (fun cdv A outer s H vs Q E hr h=>?_)
 ·obtain⟨x,dd,b,es,kn,ds,rfl,_⟩:=h;rfl
 ·obtain⟨x,dd,b,es,kn,ds,rfl,⟨dx,l,e,k,kvs,g,M⟩,q⟩:=h;exact⟨_,aL (bS (eK (pv 0) rfl)),_,rfl,x,CM,dx,_,_,rfl,M.ins,MC.cl,MC.nd,by rfl,q⟩
theorem aOl:aR ["self"] ["self"] (aB pI):=⟨rfl,rfl,rfl,by decide +kernel,rfl,by decide +kernel,by decide +kernel⟩
theorem aCc {f CM:Addr}{fd:FuncData}(F:Fun K "begin" "Machine.begin" pI f fd) (MC:mV K CM):aS P w K mg base CX0 1 f fd ["self"] (wD CM):=by
 refine F.ok aOl (fun vs H Q E h=>?_) (fun cdv A outer s H vs Q E hr h=>?_)
 ·obtain⟨x,dd,b,es,kn,ds,rfl,_⟩:=h;rfl
 ·obtain⟨x,dd,b,es,kn,ds,rfl,⟨dx,l,e,k,kvs,g,M⟩,q⟩:=h;exact⟨_,aL (bS (eK (pv 0) rfl)),_,rfl,x,CM,dx,_,_,rfl,M.ins,MC.cl,MC.nf,by rfl,q⟩
abbrev aFq (_b:Str) (_es kn:List Str) (_ds:List Dr):List Str:=kn
theorem aOh:aR ["self"] ["self"] (aB pF):=⟨rfl,rfl,rfl,by decide +kernel,rfl,by decide +kernel,by decide +kernel⟩
theorem aCa {f CM:Addr}{fd:FuncData}(F:Fun K "knows" "Machine.knows" pF f fd) (T:Txt K mg) (MC:mV K CM):aS P w K mg base CX0 1 f fd ["self"] (zW CM aFq):=by
 refine F.ok aOh (fun vs H Q E h=>?_) (fun cdv A outer s H vs Q E hr h=>?_)
 ·obtain⟨x,dd,b,es,kn,ds,rfl,_⟩:=h;rfl
 ·obtain⟨x,dd,b,es,kn,ds,rfl,⟨dx,l,e,k,kvs,g,M⟩,h64,q⟩:=h;refine⟨_,aL (bS (cX (nZ rfl) (by rfl) T.sorted Bo.sorted (pac (eK (pv 0) rfl) aJ))),?_⟩;exact⟨_,rfl,x,CM,dx,_,_,rfl,M.ins,MC.cl,MC.nk,by rfl,k,_,_,rfl,M.know,tZ rfl,h64,fun p ts' hp pm so=>q p ts' _ (smu hp) hp aE so pm⟩
theorem aOx {CM:Addr}{H:Hp}{x dx l dd e k:Addr}{b:Str}{es kn:List Str}{ds:List Dr}{kvs:List (Key×V)}{g:Str->Addr}(M:MAt CM H x dx l dd e k b es kn ds kvs g){z:Str}(hz:z∈bZ b es ds):eX H l (.str z) (some (.ref (g z))):=by
 have gv:=eX.k (k:=Sum.inr z) M.lead.dk;rw[M.lead.val z hz] at gv;exact gv
theorem aKm (ds:List Dr) (z y:Str):(dB (inn ds z) (Sum.inr y)).getD .non=oV (kJ ds z y):=by rw[aHp]; rfl
theorem aOg:aR ["self","room"] ["self","room"] (aB iR):=⟨rfl,rfl,rfl,by decide +kernel,rfl,by decide +kernel,by decide +kernel⟩
theorem aEv {f fN CM cR:Addr}{fd fdN:FuncData}(F:Fun K "require_room" "Machine.require_room" iR f fd) (T:Txt K mg) (MC:mV K CM) (mR:mg "NoRoom" = some (.ref cR)) (xR:xW K cR)
  (FN:Fun K "is_name" "is_name" jM fN fdN) (bN:aU K fdN ["thing"] []) (mN:mg "is_name" = some (.ref fN)):aS P w K mg base (CXE P w) 2 f fd ["self","room"] (zX CM cR):=by
 have GN:aS P w K mg base CX0 1 fN fdN ["thing"] (rA K):=qJ FN T;refine okE F aOg (fun vs H Q E h=>?_) (fun cdv A outer s H vs Q E hr h D=>?_)
 ·obtain⟨x,dd,b,z,es,kn,ds,rfl,_⟩:=h;rfl
 ·obtain⟨x,dd,b,z,es,kn,ds,rfl,⟨dx,l,e,k,kvs,g,M⟩,hz,q1,q2⟩:=h;have hu:=iS hr;refine⟨_,aL (dJ (wO (lY (oY (bJ GN hr (by rfl) mN FN.kp bN .nil bU (pac (pv 1) aJ)))) (uZ (oZ (pA hu (pv 1) (eK (pv 0) rfl))))).pt (aL (gN D rfl (by rfl) mR xR (pac bX aJ))) cF),?_⟩;refine⟨_,rfl,.str z,rfl,.inl ⟨z,rfl,Nat.le_of_lt (aW hz),fun H2 s2=>⟨_,rfl,?_⟩⟩⟩
  by_cases hn:aQ z=true
  ·rw[hn];refine gH ⟨_,rfl,_,rfl,x,CM,dx,_,_,rfl,s2 _ _ M.ins,MC.cl,MC.nl,by rfl,l,_,rfl,eX.k (k:=Sum.inr z) (s2 _ _ M.lead.dk),_,rfl,?_⟩;rw[pJ M.lead.keys z]
   by_cases hm:z∈bZ b es ds
   ·rw[decide_eq_true hm];exact gH (q1 ⟨hn,hm⟩ H2 s2)
   ·rw[decide_eq_false hm];exact jI ⟨by show 1<=sizeLine; decide,q2 (fun g=>hm g.2) H2 s2⟩
  ·rw[Bool.eq_false_iff.mpr hn];exact jI ⟨by show 1<=sizeLine; decide,q2 (fun g=>hn g.1) H2 s2⟩
theorem aOj:aR ["self","room"] ["self","room"] (aB pG):=⟨rfl,rfl,rfl,by decide +kernel,rfl,by decide +kernel,by decide +kernel⟩
theorem yQ {f fR CM cR:Addr}{fd fdR:FuncData}(F:Fun K "is_end" "Machine.is_end" pG f fd) (MC:mV K CM)
  (GR:aS P w K mg base (CXE P w) 2 fR fdR ["self","room"] (zX CM cR)) (bR:aU K fdR ["self","room"] []) (mR:cU K CM "require_room" fR):aS P w K mg base (CXE P w) 3 f fd ["self","room"] (oQ CM cR):=by
 refine okE F aOj (fun vs H Q E h=>?_) (fun cdv A outer s H vs Q E hr h D=>?_)
 ·obtain⟨x,dd,b,z,es,kn,ds,rfl,_⟩:=h;rfl
 ·obtain⟨x,dd,b,z,es,kn,ds,rfl,⟨dx,l,e,k,kvs,g,M⟩,hz,q1,q2⟩:=h;have hu:=iS hr;refine⟨_,aK (dI (cM (pv 0) MC.cl mR GR hr bR .nil (D.passes fun _ _ _ z=>z) (pac (pv 1) aJ))) (aL (bS (aEl (rL hu (pv 1) (eK (pv 0) rfl))))),?_⟩;refine⟨_,rfl,x,dx,_,rfl,M.ins,eC _ _ _ _ _ _ (by decide),_,rfl,x,dd,b,z,es,kn,ds,rfl,⟨dx,l,e,k,kvs,g,M⟩,hz,fun good H2 s2=>?_,fun bad H2 s2=>q2 bad H2 s2⟩;have M2:=M.same s2;refine⟨_,rfl,_,rfl,x,CM,dx,_,_,rfl,M2.ins,MC.cl,MC.ne,by rfl,e,_,rfl,eX.k (k:=Sum.inr z) M2.ends,?_⟩;rw[pJ rfl z];exact q1 good H2 s2
end
end K24
namespace K24
open PySem L2 Ky
seal L2.PE L2.PS L2.PSs L2.PA L2.PT L2.PW L2.PG L2.PI L2.PTs L2.PO L2.OpR L2.IxR L2.CallR L2.MtM L2.MtR
theorem nX {c:Int}{kn rs nm:List Str}{n i k:Nat}{x:Dr}(h:dr c kn rs nm n i k=some x):rs[i]?=some x.1∧nm[k]?=some x.2.1∧x.2.1∈kn∧x.2.2=rs.getD (drw c i k/3%n).toNat "":=by
 unfold dr at h;split at h
 ·rename_i r d hr hd
  by_cases q:(decide (d∈kn)&&decide (drw c i k%3>0))=true
  ·rw[if_pos q] at h;cases h;exact⟨hr,hd,of_decide_eq_true (Bool.and_eq_true_iff.mp q).1,rfl⟩
  ·rw[if_neg q] at h;cases h
 ·cases h
theorem rD (c:Int) (k:Nat):∃ T:List Str,T.length=5∧T.all aQ=true∧T.Nodup∧∀ j:Nat,T[((c/5+j)%5).toNat]?=some (eS c j):=by
 have g:=cC c (m:=5) (by decide);have t:=aIn (c%5).toNat (by omega);refine⟨tabs.getD (c%5).toNat [],t.1,t.2.1,t.2.2,fun j=>?_⟩;have g':=cC (c/5+(j:Int)) (m:=5) (by decide);unfold eS;generalize tabs.getD (c%5).toNat []=T at t ⊢;rw[List.getD_eq_getElem?_getD,List.getElem?_eq_getElem (by rw[t.1]; omega)];rfl
theorem wK (c:Int) (k:Nat):aQ (eS c k)=true:=by
 obtain⟨T,_,h2,_,h4⟩:=rD c k;exact List.all_eq_true.mp h2 _ (List.mem_of_getElem? (h4 k))
theorem uX {c:Int}{n:Nat}:∀ z∈aZ c n,aQ z=true:=fun z hz=>by
 obtain⟨k,_,rfl⟩:=List.mem_map.mp hz;exact wK c k
theorem sR (c:Int){n:Nat}(hn:n<=5):(aZ c n).Nodup:=by
 obtain⟨T,h1,_,h3,h4⟩:=rD c 0;unfold aZ;refine List.pairwise_map.mpr (List.Pairwise.imp_of_mem (fun {i j} hi hj hlt e=>?_) (List.pairwise_lt_range (n:=n)));have hi':=List.mem_range.mp hi;have hj':=List.mem_range.mp hj;have g1:=cC (c/5+(i:Int)) (m:=5) (by decide);have g2:=cC (c/5+(j:Int)) (m:=5) (by decide)
 have:=(List.getElem?_inj (i:=((c/5+i)%5).toNat) (j:=((c/5+j)%5).toNat) (by rw[h1]; omega) h3).mp (by rw[h4,h4,e])
 omega
theorem yH {c:Int}{n i:Nat}(h:i<n):eS c i∈aZ c n:=List.mem_map.mpr ⟨i,List.mem_range.mpr h,rfl⟩
theorem aGa {c:Int}{kn rs nm:List Str}{n i:Nat}{x:Dr}(hn:rs.length=n) (h1:1<=n) (h:x∈mS c kn rs nm n i):x.1∈rs∧x.2.1∈nm∧x.2.2∈rs:=by
 obtain⟨a,_,hx⟩:=List.mem_flatMap.mp h;obtain⟨k,_,e⟩:=List.mem_filterMap.mp hx;obtain⟨e1,e2,_,e3⟩:=nX e;refine⟨List.mem_of_getElem? e1,List.mem_of_getElem? e2,?_⟩;have g:=cC (drw c a k/3) (m:=(n:Int)) (by omega);rw[e3,List.getD_eq_getElem?_getD,List.getElem?_eq_getElem (by omega)];exact List.getElem_mem _
theorem zM {c:Int}{kn rs nm:List Str}{n i:Nat}(hr:rs.Nodup) (hm:nm.Nodup):Apart (mS c kn rs nm n i):=by
 refine List.pairwise_map.mpr (List.pairwise_flatMap.mpr ⟨fun a _=>?_,?_⟩)
 ·refine List.pairwise_filterMap.mpr (List.Pairwise.imp (fun {k k'} hlt x hx y hy e=>?_) (List.pairwise_lt_range (n:=nm.length)));obtain⟨_,e2,_⟩:=nX hx;obtain⟨_,f2,_⟩:=nX hy
  have:=(List.getElem?_inj (i:=k) (j:=k') (List.getElem?_eq_some_iff.mp e2).1 hm).mp (by rw[e2,f2,(Prod.mk.inj e).2])
  omega
 ·refine List.Pairwise.imp (fun {a a'} hlt x hx y hy e=>?_) (List.pairwise_lt_range (n:=i));obtain⟨k,_,hx⟩:=List.mem_filterMap.mp hx;obtain⟨k',_,hy⟩:=List.mem_filterMap.mp hy;obtain⟨e1,_⟩:=nX hx;obtain⟨f1,_⟩:=nX hy
  have:=(List.getElem?_inj (i:=a) (j:=a') (List.getElem?_eq_some_iff.mp e1).1 hr).mp (by rw[e1,f1,(Prod.mk.inj e).1])
  omega
structure aBc (c:Int) (n:Nat) (ss:List Str):Prop where
 le:(gI c n).length<=200∧(cS c ss n).length<=200∧(jG c ss).length<=200
 nm:(bZ (eS c 0) (gI c n) (cS c ss n)).all aQ=true
 ap:Apart (cS c ss n)
 dd:∀ x∈cS c ss n,x.2.1∈ss
 kn:∀ z∈eG (cS c ss n) (jG c ss),z∈ss
 rb:∀ z∈bZ (eS c 0) (gI c n) (cS c ss n),z∈aZ c n
 sm:(gI c n).length<=5∧(cS c ss n).length<=60∧(jG c ss).length<=12
theorem xM {c:Int}{n:Nat}{ss:List Str}{x:Dr}(h:x∈cS c ss n):x∈mS c (cN c ss) (aZ c n) ss n n:=by
 unfold cS at h;dsimp only at h;split at h
 ·exact List.mem_reverse.mp h
 ·exact h
theorem aMa {c:Int}{n:Nat}{ss:List Str}(h1:1<=n) (h5:n<=5) (hs:ss.length<=12) (hd:ss.Nodup):aBc c n ss:=by
 have mem:=fun (x:Dr) (h:x∈cS c ss n)=>aGa (dP c n) h1 (xM h)
 have rm:∀ z∈bZ (eS c 0) (gI c n) (cS c ss n),z∈aZ c n:=fun z hz=>by
  rcases List.mem_append.mp hz with hz | hz
  ·rcases List.mem_cons.mp hz with rfl | hz
   ·exact yH (by omega)
   ·exact wQ z hz
  ·obtain⟨x,hx,hz⟩:=List.mem_flatMap.mp hz;rcases List.mem_cons.mp hz with rfl | hz
   ·exact (mem x hx).1
   ·rw[List.mem_singleton.mp hz]; exact (mem x hx).2.2
 have dl:(cS c ss n).length<=60:=by
  have a1:=sH c (cN c ss) (aZ c n) ss n n;have a3:ss.length*n<=12*5:=Nat.mul_le_mul hs h5;unfold cS;dsimp only;split
  ·rw[List.length_reverse]; omega
  ·omega
 have el:(gI c n).length<=5:=Nat.le_trans (jX ..) (by omega);have ml:(jG c ss).length<=12:=Nat.le_trans (jX ..) (by omega);refine⟨⟨by omega,by omega,by omega⟩,List.all_eq_true.mpr fun z hz=>uX z (rm z hz),?_,fun x hx=>(mem x hx).2.1,fun z hz=>?_,rm,el,dl,ml⟩
 ·have ap:Apart (mS c (cN c ss) (aZ c n) ss n n):=zM (sR c h5) hd;unfold cS;dsimp only;split
  ·unfold Ky.Apart at ap ⊢;rw[List.map_reverse];exact List.pairwise_reverse.mpr (List.Pairwise.imp (fun h=>Ne.symm h) ap)
  ·exact ap
 ·rcases List.mem_append.mp hz with hz | hz
  ·obtain⟨x,hx,rfl⟩:=List.mem_map.mp hz;exact (mem x hx).2.1
  ·exact wQ z hz
end K24
namespace K24
open PySem L2 Ky
seal L2.PE L2.PS L2.PSs L2.PA L2.PT L2.PW L2.PG L2.PI L2.PTs L2.PO L2.OpR L2.IxR L2.CallR L2.MtM L2.MtR
unseal L2.MtM L2.MtR
structure MW where
 b:Str
 es:List Str
 kn:List Str
 ds:List Dr
abbrev MW.rs (m:MW):List Str:=bZ m.b m.es m.ds
def parts (ms:List MW) (room:List Str) (y:Str):List (Option Str):=List.zipWith (fun m z=>iT m.ds m.kn z y) ms room
def aDe (ms:List MW) (room:List Str) (y:Str):Option (List Str):=if (parts ms room y).any (fun o=>o.isNone)=true then none else some ((parts ms room y).map fun o=>o.getD "")
def wkn (ms:List MW):List Str:=ms.flatMap (·.kn)
def wto (ms:List MW) (room:List Str) (y:Str):Option (List Str):=if y∈wkn ms then aDe ms room y else none
def qQ (ms:List MW) (room:List Str):Bool:=(List.zipWith (fun m z=>decide (z∈m.es)) ms room).all id
structure ROk (ms:List MW) (room:List Str):Prop where
 len:ms.length=room.length
 mem:∀ (i:Nat) (m:MW) (z:Str),ms[i]?=some m->room[i]?=some z->aQ z=true∧z∈m.rs
structure jQ (CM:Addr) (H:Hp) (x p:Addr) (ms:List MW):Prop where
 ex:∃ Xs:List Addr,H p=some (.lst (Xs.map V.ref))∧Xs.length=ms.length∧∀ (i:Nat) (X:Addr) (m:MW),Xs[i]?=some X->ms[i]?=some m->MM CM H X x m.b m.es m.kn m.ds
theorem jQ.same {CM:Addr}{H H':Hp}{x p:Addr}{ms:List MW}(M:jQ CM H x p ms) (sm:aO H H'):jQ CM H' x p ms:=by
 obtain⟨Xs,h0,h1,h2⟩:=M.ex;exact⟨Xs,sm _ _ h0,h1,fun i X m a b=>(h2 i X m a b).same sm⟩
def zN (H:Hp) (Q:VK):Option (List Str)->Prop
 | none=>∀ H',aO H H'->Q .non H'
 | some ss=>∀ (l:Addr) H',aO H H'->H l=none->H' l=some (.tup (ss.map V.str))->Q (.ref l) H'
inductive tQ (CM:Addr) (vs:List V) (H:Hp) (Q:VK) (E:XK):Prop
 | mk (x p:Addr) (ms:List MW) (h0_:vs=[.ref p]) (h1_:jQ CM H x p ms) (h2_:ms.length<=100) (h3_:zN H Q (some (ms.map (·.b))))
inductive aAb (K:PySem.W.Frag) (CM:Addr) (vs:List V) (H:Hp) (Q:VK) (E:XK):Prop
 | mk (x p t:Addr) (ms:List MW) (room:List Str) (y:Str) (h0_:vs=[.ref p,.ref t,.str y]) (h1_:jQ CM H x p ms) (h2_:SqT K H t (room.map V.str)) (h3_:ROk ms room) (h4_:ms.length<=100) (h5_:zN H Q (aDe ms room y))
inductive tR (K:PySem.W.Frag) (CM:Addr) (vs:List V) (H:Hp) (Q:VK) (E:XK):Prop
 | mk (x p t:Addr) (ms:List MW) (room:List Str) (h0_:vs=[.ref p,.ref t]) (h1_:jQ CM H x p ms) (h2_:SqT K H t (room.map V.str)) (h3_:ROk ms room) (h4_:ms.length<=100) (h5_:∀ H',aO H H'->Q (.bl (qQ ms room)) H')
inductive tO (CM:Addr) (vs:List V) (H:Hp) (Q:VK) (E:XK):Prop
 | mk (x p:Addr) (ms:List MW) (N:List Str) (h0_:vs=[.ref p]) (h1_:jQ CM H x p ms) (h2_:ms.length<=10) (h3_:∀ m∈ms,∀ z∈m.kn,z∈N) (h4_:N.length<64)
  (h5_:∀ (l:Addr) (kn:List Str) H',aO H H'->H l=none->(∀ z,z∈kn↔z∈wkn ms)->H' l=some (.dK (mks kn []))->Q (.ref l) H')
theorem qO {α β γ:Type}{f:α->β->γ}:∀ {as:List α}{bs:List β}{i:Nat}{a:α}{b:β},as[i]?=some a->bs[i]?=some b->List.zipWith f (as.take (i+1)) (bs.take (i+1))=List.zipWith f (as.take i) (bs.take i)++[f a b]
 | [],_,_,_,_,h,_=>by simp at h
 | _::_,[],_,_,_,_,h=>by simp at h
 | a'::as,b'::bs,0,a,b,h1,h2=>by
  have e1:a'=a:=by simpa using h1
  have e2:b'=b:=by simpa using h2
  rw[e1,e2]
  simp
 | a'::as,b'::bs,i+1,a,b,h1,h2=>by
  have:=qO (f:=f) (as:=as) (bs:=bs) (i:=i) (a:=a) (b:=b) (by simpa using h1) (by simpa using h2)
  simp only[List.take_succ_cons,List.zipWith_cons_cons,List.cons_append] at this ⊢;rw[this]
section
variable {P:Program}{w:World}{K:PySem.W.Frag}{mg:Str->Option Value}{base:Heap}
theorem aOi:aR ["self","room","deed"] ["self","room","deed"] (aB uB):=⟨rfl,rfl,rfl,by decide +kernel,rfl,by decide +kernel,by decide +kernel⟩
theorem aEx {f CM:Addr}{fd:FuncData}(F:Fun K "goes" "Machine.goes" uB f fd) (MC:mV K CM):aS P w K mg base CX0 1 f fd ["self","room","deed"] (uT CM):=by
 refine F.ok aOi (fun vs H Q E h=>?_) (fun cdv A outer s H vs Q E hr h=>?_)
 ·obtain⟨x,dd,b,z,y,es,kn,ds,rfl,_⟩:=h;rfl
 ·obtain⟨x,dd,b,z,y,es,kn,ds,rfl,⟨dx,l,e,k,kvs,g,M⟩,hz,q⟩:=h;have hu:=iS hr
  refine⟨_,aK (dJ (oZ (rL hu (pv 2) (eK (pv 0) rfl))) (aL (bS (aEk hu (iG hu (eK (pv 0) rfl) (pv 1) (fun _ _=>rfl)) (pv 2) ⟨by rfl,by rfl,by rfl,by rfl⟩))) cF)
   (aL (bS (pv 1))),?_⟩
  refine⟨_,rfl,_,rfl,x,CM,dx,_,_,rfl,M.ins,MC.cl,MC.nk,by rfl,k,_,rfl,eX.k (k:=Sum.inr y) M.know,_,rfl,?_⟩;rw[pD];unfold iT at q
  by_cases hy:y∈kn
  ·rw[if_pos hy] at q;rw[decide_eq_true hy,Bool.true_or];refine jI ⟨_,rfl,x,CM,dx,_,_,rfl,M.ins,MC.cl,MC.nl,by rfl,_,rfl,l,_,rfl,aOx M hz,g z,rfl,?_,_,rfl,_,eX.k (k:=Sum.inr y) (M.lead.dd z hz),?_⟩
   ·exact .inl ⟨_,.inl (M.lead.dd z hz)⟩
   ·rw[aKm];exact q
  ·rw[if_neg hy] at q;rw[decide_eq_false hy];exact gH ⟨_,rfl,q⟩
end
end K24
namespace K24
open PySem L2 Ky
seal L2.PE L2.PS L2.PSs L2.PA L2.PT L2.PW L2.PG L2.PI L2.PTs L2.PO L2.OpR L2.IxR L2.CallR L2.MtM L2.MtR
unseal L2.MtM L2.MtR
theorem nC {K:PySem.W.Frag}{H H':Hp}{a:Addr}{xs:List V}(h:SqT K H a xs) (e:aO H H'):SqT K H' a xs:=by
 rcases h with (h | ⟨o,h⟩) | h
 ·exact .inl (.inl (e _ _ h))
 ·exact .inl (.inr ⟨o,e _ _ h⟩)
 ·exact .inr h
theorem yW:∀ {os:List (Option Str)},os.any (fun o=>o.isNone)=false->os.map oV=(os.map fun o=>o.getD "").map V.str
 | [],_=>rfl
 | none::_,h=>by simp at h
 | some z::os,h=>by
  rw[List.map_cons,List.map_cons,List.map_cons,yW (by simpa using h)];rfl
section
variable {P:Program}{w:World}{K:PySem.W.Frag}{mg:Str->Option Value}{base:Heap}
theorem aOn:aR ["machines"] ["machines"] (aB hG):=⟨rfl,rfl,rfl,by decide +kernel,rfl,by decide +kernel,by decide +kernel⟩
abbrev nd1:List Str:=["machine"]
theorem yU {f fB CM:Addr}{fd fdB:FuncData}(F:Fun K "begin_of" "begin_of" hG f fd) (mT:mg "tuple" = none) (MC:mV K CM)
  (GB:aS P w K mg base CX0 1 fB fdB ["self"] (wD CM)) (bB:aU K fdB ["self"] []) (mB:cU K CM "begin" fB):aS P w K mg base CX0 2 f fd ["machines"] (tQ CM):=by
 refine F.ok aOn (fun vs H Q E h=>?_) (fun cdv A outer s H vs Q E hr h=>?_)
 ·obtain⟨x,p,ms,rfl,_⟩:=h;rfl
 ·obtain⟨x,p,ms,rfl,M,hl,q⟩:=h
  refine⟨_,aL (bS (gU iL (by rfl) mT Bo.tuple (pac (gB (N':=nd1) (nown:=1) (js:=[]) rfl
     ⟨rfl,by decide +kernel,by decide +kernel⟩ (cK (aB hG) ["machines"] rfl rfl (by decide +kernel))
     ⟨fun _ _ _ _=>aP (i:=0) (show List.Nodup nd1 by decide +kernel) rfl (Or.inl rfl) (.inr rfl),fun _ _ _ _=>eN,fun _ _ _ _=>dM (pv 0) MC.cl mB GB hr bB .nil bU⟩
     (dC (pv 0))) aJ))),?_⟩
  obtain⟨Xs,h0,h1,h2⟩:=M.ex;refine⟨_,rfl,p,rfl,⟨_,SqL.of h0⟩,fun D hD=>iV (xs:=Xs.map V.ref) (fun i σ' H'=>∃ v,σ'=[v]∧H' D=some (.lst (((ms.take i).map (·.b)).map V.str))∧aO H H') ?_ ?_ ?_ ?_⟩
  ·exact⟨none,rfl,aE,smu hD⟩
  ·rintro i σ' H' _ ⟨v,rfl,a1,a2⟩;exact SqL.of (a2 _ _ h0)
  ·rintro i v σ' H' hv ⟨v0,rfl,a1,a2⟩;rw[List.getElem?_map] at hv;cases hX:Xs[i]? with
   | none=>rw[hX] at hv; cases hv
   | some X=>
    rw[hX] at hv;cases hv;have hi:i<ms.length:=by rw[← h1]; exact (List.getElem?_eq_some_iff.mp hX).1
    have hm:=List.getElem?_eq_getElem hi;generalize ms[i]=m at hm;have MX:=(h2 i X m hX hm).same a2;obtain⟨dx,l,e,k,kvs,g,M0⟩:=MX;refine⟨_,rfl,X,dx,_,rfl,M0.ins,eC _ _ _ _ _ _ (by decide),X,x,m.b,m.es,m.kn,m.ds,rfl,⟨dx,l,e,k,kvs,g,M0⟩,_,a1,aW (by rw[List.length_map,List.length_map,List.length_take]; omega),_,rfl,?_,fun b o z=>?_⟩
    ·rw[aE,List.take_succ,hm]
     simp
    ·rw[aH (aI z hD)];exact a2 b o z
  ·rintro σ' H' ⟨v,rfl,a1,a2⟩;rw[List.length_map,h1,List.take_length] at a1;exact⟨D,_,rfl,.inl ⟨SqL.of a1,fun l hl'=>q l _ (a2.trans (smu hl')) (a2.free hl') aE⟩⟩
abbrev NFO:List Str:=["machines","room","deed","parts"]
theorem aLx:aR NFO ["machines","room","deed"] (aB lX):=⟨rfl,rfl,rfl,by decide +kernel,rfl,by decide +kernel,by decide +kernel⟩
abbrev ndf:List Str:=["machine","part","deed"]
theorem aEz {f fG CM:Addr}{fd fdG:FuncData}(F:Fun K "far_of" "far_of" lX f fd) (mT:mg "tuple" = none) (mZ:mg "zip" = none) (MC:mV K CM)
  (GG:aS P w K mg base CX0 1 fG fdG ["self","room","deed"] (uT CM)) (bG:aU K fdG ["self","room","deed"] []) (mG:cU K CM "goes" fG):aS P w K mg base CX0 2 f fd ["machines","room","deed"] (aAb K CM):=by
 refine F.ok aLx (fun vs H Q E h=>?_) (fun cdv A outer s H vs Q E hr h=>?_)
 ·obtain⟨x,p,t,ms,room,y,rfl,_⟩:=h;rfl
 ·obtain⟨x,p,t,ms,room,y,rfl,M,hT,R,hl,q⟩:=h
  refine⟨_,aK (eJ (i:=3) (N':=ndf) (nown:=2) (js:=[2]) rfl aLx.nd rfl rfl rfl
     ⟨rfl,by decide +kernel,by decide +kernel⟩ (cK (aB lX) NFO rfl rfl (by decide +kernel))
     ⟨fun _ _ _ _=>show PG _ _ (vL K 2 (fY (eQ 0) (fY (eQ 1) vM))) from eU rfl (aX (aP (i:=0) (show List.Nodup ndf by decide +kernel) rfl (Or.inl rfl) (.inr rfl)) (aX (aP (i:=1) (show List.Nodup ndf by decide +kernel) rfl (Or.inl rfl) (.inr rfl)) dL)),
      fun _ _ _ _=>eN,fun _ _ _ _=>cM (pv 0) MC.cl mG GG hr bG .nil bU (pac (pv 1) (pac (pv 2) aJ))⟩
     (wR rfl mZ (pac (pv 0) (pac (pv 1) aJ))))
   (aL (bS (wV (bY aKf eD (pv 3) (by with_unfolding_all rfl)) eD (gU iL (by rfl) mT Bo.tuple (pac (pv 3) aJ))))),?_⟩
  obtain⟨Xs,h0,h1,h2⟩:=M.ex;refine⟨_,rfl,_,rfl,p,t,rfl,⟨_,SqL.of h0⟩,⟨_,hT⟩,fun D hD=>aAy (xs:=Xs.map V.ref) (ys:=room.map V.str) (fun i σ' H'=>∃ v0 v1,σ'=[v0,v1,some (.str y)]∧H' D=some (.lst ((parts (ms.take i) (room.take i) y).map oV))∧aO H H') ?_ ?_ ?_ ?_ ?_⟩
  ·exact⟨none,none,rfl,aE,smu hD⟩
  ·rw[List.length_map,List.length_map,h1,R.len]
  ·rintro i σ' H' _ ⟨v0,v1,rfl,a1,a2⟩;exact⟨SqL.of (a2 _ _ h0),nC hT a2⟩
  ·rintro i v1 v2 σ' H' tt hv1 hv2 ⟨w0,w1,rfl,a1,a2⟩ htt;rw[List.getElem?_map] at hv1 hv2;cases hX:Xs[i]? with
   | none=>rw[hX] at hv1; cases hv1
   | some X=>
    cases hzz:room[i]? with
    | none=>rw[hzz] at hv2; cases hv2
    | some z=>
     rw[hX] at hv1;rw[hzz] at hv2;cases hv1;cases hv2;have hi:i<ms.length:=by rw[← h1]; exact (List.getElem?_eq_some_iff.mp hX).1
     have hm:=List.getElem?_eq_getElem hi;generalize ms[i]=m at hm;have s3:=a2.trans (smu (o:=.tup [.ref X,.str z]) htt);have a1':(upd H' tt (.tup [.ref X,.str z])) D=some (.lst ((parts (ms.take i) (room.take i) y).map oV)):=smu htt _ _ a1;have eT:(upd H' tt (.tup [.ref X,.str z])) tt=some (.tup [.ref X,.str z]):=aE;generalize upd H' tt (.tup [.ref X,.str z])=H3 at s3 a1' eT ⊢;obtain⟨dx,l,e,k,kvs,g,M0⟩:=(h2 i X m hX hm).same s3;refine⟨tt,_,rfl,SqT.of eT,rfl,_,_,rfl,_,_,rfl,rfl,_,rfl,X,dx,_,rfl,M0.ins,eC _ _ _ _ _ _ (by decide),_,rfl,_,rfl,X,x,m.b,z,y,m.es,m.kn,m.ds,rfl,⟨dx,l,e,k,kvs,g,M0⟩,(R.mem i m z hm hzz).2,_,a1',aW ?_,_,_,rfl,?_,fun b o u=>?_⟩
     ·rw[List.length_map];unfold parts;rw[List.length_zipWith,List.length_take];omega
     ·rw[aE];unfold parts;rw[qO hm hzz,List.map_append];rfl
     ·rw[aH (aI u hD)];exact s3 b o u
  ·rintro σ' H' ⟨v0,v1,rfl,a1,a2⟩;have e1:ms.take (Xs.map V.ref).length=ms:=by rw[List.length_map,h1,List.take_length]
   have e2:room.take (Xs.map V.ref).length=room:=by rw[List.length_map,h1,R.len,List.take_length]
   rw[e1,e2] at a1;unfold aDe at q;refine⟨_,rfl,D,parts ms room y,rfl,rfl,SqL.of a1,_,rfl,dY (fun hn=>?_) (fun hn=>?_)⟩
   ·rw[if_pos hn] at q;exact q H' a2
   ·rw[if_neg hn] at q;refine⟨_,rfl,D,_,rfl,.inl ⟨SqL.of a1,fun l hl'=>q l _ (a2.trans (smu hl')) (a2.free hl') ?_⟩⟩;rw[aE,yW (Bool.eq_false_iff.mpr hn)]
end
end K24
namespace K24
open PySem L2 Ky
seal L2.PE L2.PS L2.PSs L2.PA L2.PT L2.PW L2.PG L2.PI L2.PTs L2.PO L2.OpR L2.IxR L2.CallR L2.MtM L2.MtR
unseal L2.MtM L2.MtR
theorem jN {P:Program}{w:World}{X:Cx}:eZ (CXE P w) X E0:=by
 rintro pins σ H s e s' I ⟨_,_,_,_,_,_,_,_,_,_,_,_,_,_,_,_,_,h⟩;exact h.elim
theorem aDd {ms:List MW}{i:Nat}{m:MW}(h:ms[i]?=some m) (z:Str):z∈wkn (ms.take (i+1))↔z∈wkn (ms.take i)∨z∈m.kn:=by
 unfold wkn;rw[List.take_succ,h]
 simp
section
variable {P:Program}{w:World}{K:PySem.W.Frag}{mg:Str->Option Value}{base:Heap}
theorem aOo:aR ["machines","room"] ["machines","room"] (aB hJ):=⟨rfl,rfl,rfl,by decide +kernel,rfl,by decide +kernel,by decide +kernel⟩
abbrev nda:List Str:=["machine","part"]
theorem yV {f fE CM cR:Addr}{fd fdE:FuncData}(F:Fun K "all_at_ends" "all_at_ends" hJ f fd) (T:Txt K mg) (mZ:mg "zip" = none) (MC:mV K CM)
  (GE:aS P w K mg base (CXE P w) 3 fE fdE ["self","room"] (oQ CM cR)) (bE:aU K fdE ["self","room"] []) (mE:cU K CM "is_end" fE):aS P w K mg base CX0 4 f fd ["machines","room"] (tR K CM):=by
 refine F.ok aOo (fun vs H Q E h=>?_) (fun cdv A outer s H vs Q E hr h=>?_)
 ·obtain⟨x,p,t,ms,room,rfl,_⟩:=h;rfl
 ·obtain⟨x,p,t,ms,room,rfl,M,hT,R,hl,q⟩:=h
  refine⟨_,aL (bS (cX (uJ rfl) (by rfl) T.all Bo.all (pac (gB (N':=nda) (nown:=2) (js:=[]) rfl
     ⟨rfl,by decide +kernel,by decide +kernel⟩ (cK (aB hJ) ["machines","room"] rfl rfl (by decide +kernel))
     ⟨fun _ _ _ _=>show PG _ _ (vL K 2 (fY (eQ 0) (fY (eQ 1) vM))) from eU rfl (aX (aP (i:=0) (show List.Nodup nda by decide +kernel) rfl (Or.inl rfl) (.inr rfl)) (aX (aP (i:=1) (show List.Nodup nda by decide +kernel) rfl (Or.inl rfl) (.inr rfl)) dL)),
      fun _ _ _ _=>eN,fun _ _ _ _=>cM (pv 0) MC.cl mE GE hr bE .nil jN (pac (pv 1) aJ)⟩
     (wR rfl mZ (pac (pv 0) (pac (pv 1) aJ)))) aJ))),?_⟩
  obtain⟨Xs,h0,h1,h2⟩:=M.ex;refine⟨_,rfl,_,rfl,p,t,rfl,⟨_,SqL.of h0⟩,⟨_,hT⟩,fun D hD=>aAy (xs:=Xs.map V.ref) (ys:=room.map V.str) (fun i σ' H'=>∃ v0 v1,σ'=[v0,v1]∧H' D=some (.lst ((List.zipWith (fun m z=>decide (z∈MW.es m)) (ms.take i) (room.take i)).map V.bl))∧aO H H') ?_ ?_ ?_ ?_ ?_⟩
  ·exact⟨none,none,rfl,aE,smu hD⟩
  ·rw[List.length_map,List.length_map,h1,R.len]
  ·rintro i σ' H' _ ⟨v0,v1,rfl,a1,a2⟩;exact⟨SqL.of (a2 _ _ h0),nC hT a2⟩
  ·rintro i v1 v2 σ' H' tt hv1 hv2 ⟨w0,w1,rfl,a1,a2⟩ htt;rw[List.getElem?_map] at hv1 hv2;cases hX:Xs[i]? with
   | none=>rw[hX] at hv1; cases hv1
   | some X=>
    cases hzz:room[i]? with
    | none=>rw[hzz] at hv2; cases hv2
    | some z=>
     rw[hX] at hv1;rw[hzz] at hv2;cases hv1;cases hv2;have hi:i<ms.length:=by rw[← h1]; exact (List.getElem?_eq_some_iff.mp hX).1
     have hm:=List.getElem?_eq_getElem hi;generalize ms[i]=m at hm;have s3:=a2.trans (smu (o:=.tup [.ref X,.str z]) htt);have a1':=smu (o:=.tup [.ref X,.str z]) htt _ _ a1;have eT:(upd H' tt (.tup [.ref X,.str z])) tt=some (.tup [.ref X,.str z]):=aE;generalize upd H' tt (.tup [.ref X,.str z])=H3 at s3 a1' eT ⊢;obtain⟨dx,l,e,k,kvs,g,M0⟩:=(h2 i X m hX hm).same s3;have gd:=R.mem i m z hm hzz;refine⟨tt,_,rfl,SqT.of eT,rfl,_,_,rfl,_,_,rfl,rfl,_,rfl,X,dx,_,rfl,M0.ins,eC _ _ _ _ _ _ (by decide),_,rfl,X,x,m.b,z,m.es,m.kn,m.ds,rfl,⟨dx,l,e,k,kvs,g,M0⟩,Nat.le_trans (nQ gd.1) (by decide),fun _ H4 s4=>?_,fun bad=>absurd gd bad⟩;refine⟨_,s4 _ _ a1',aW ?_,_,_,rfl,?_,fun b o u=>?_⟩
     ·rw[List.length_map,List.length_zipWith,List.length_take];omega
     ·rw[aE,qO hm hzz,List.map_append];rfl
     ·rw[aH (aI u hD)];exact s4 _ _ (s3 b o u)
  ·rintro σ' H' ⟨v0,v1,rfl,a1,a2⟩;have e1:ms.take (Xs.map V.ref).length=ms:=by rw[List.length_map,h1,List.take_length]
   have e2:room.take (Xs.map V.ref).length=room:=by rw[List.length_map,h1,R.len,List.take_length]
   rw[e1,e2] at a1;exact⟨D,_,rfl,SqL.of a1,q H' a2⟩
abbrev NKO:List Str:=["machines","known","machine"]
theorem aJu:aR NKO ["machines"] (aB iQ):=⟨rfl,rfl,rfl,by decide +kernel,rfl,by decide +kernel,by decide +kernel⟩
theorem yS {f fKn fMk CM:Addr}{fd fdKn fdMk:FuncData}(F:Fun K "known_of" "known_of" iQ f fd) (MC:mV K CM)
  (GKn:aS P w K mg base CX0 1 fKn fdKn ["self"] (zW CM aFq)) (bKn:aU K fdKn ["self"] []) (mKn:cU K CM "knows" fKn)
  (GMk:aS P w K mg base CX0 1 fMk fdMk ["names"] (qD K)) (kMk:PySem.W.keepIn K (.ref fMk)=true) (bMk:aU K fdMk ["names"] []) (mMk:mg "marks_of" = some (.ref fMk)):aS P w K mg base CX0 2 f fd ["machines"] (tO CM):=by
 refine F.ok aJu (fun vs H Q E h=>?_) (fun cdv A outer s H vs Q E hr h=>?_)
 ·obtain⟨x,p,ms,N,rfl,_⟩:=h;rfl
 ·obtain⟨x,p,ms,N,rfl,M,hl,hN,h64,q⟩:=h
  refine⟨_,aK (bO (i:=1) aJu.nd rfl (Or.inl rfl) (dD aJ))
   (aK (dS PassesOwn.never rfl (dC (pv 0)) (aP (i:=2) aJu.nd rfl (Or.inl rfl))
    (aL (dI (lN PySem.F.plainAttrs_list PySem.F.slot_list_extend PySem.F.type_list_extend pC (pv 1) (pac (dM (pv 2) MC.cl mKn GKn hr bKn .nil bU) aJ)))))
   (aL (bS (bJ GMk hr rfl mMk kMk bMk .nil bU (pac (pv 1) aJ))))),?_⟩
  obtain⟨Xs,h0,h1,h2⟩:=M.ex;refine⟨by show 0<=sizeLine; decide,fun D hD=>⟨_,rfl,p,rfl,⟨_,SqL.of (smu hD _ _ h0)⟩,?_⟩⟩;refine dN (xs:=Xs.map V.ref) (fun i σ H'=>∃ (x2:Option V) (kn:List Str),σ=[some (.ref p),some (.ref D),x2]∧(∀ z,z∈kn↔z∈wkn (ms.take i))∧kn.length<=64*i∧H' D=some (.lst (kn.map V.str))∧aO H H') ?_ ?_ ?_ ?_
  ·exact⟨none,[],rfl,fun z=>Iff.rfl,Nat.le_refl _,aE,smu hD⟩
  ·rintro i σ H' _ ⟨x2,kn,rfl,b1,b2,a1,a2⟩;exact SqL.of (a2 _ _ h0)
  ·rintro i v σ H' hv ⟨x2,kn,rfl,b1,b2,a1,a2⟩;rw[List.getElem?_map] at hv;cases hX:Xs[i]? with
   | none=>rw[hX] at hv; cases hv
   | some X=>
    rw[hX] at hv;cases hv;have hi:i<ms.length:=by rw[← h1]; exact (List.getElem?_eq_some_iff.mp hX).1
    have hm:=List.getElem?_eq_getElem hi;have hmm:ms[i]∈ms:=List.getElem_mem hi;generalize ms[i]=m at hm hmm;obtain⟨dx,l,e,k,kvs,g,M0⟩:=(h2 i X m hX hm).same a2;have u64:(unl m.kn []).length<64:=Nat.lt_of_le_of_lt (fS fun z hz=>hN m hmm z hz) h64;refine⟨_,rfl,.inl ⟨rfl,_,SqL.of a1⟩,_,rfl,X,dx,_,rfl,M0.ins,eC _ _ _ _ _ _ (by decide),X,x,m.b,m.es,m.kn,m.ds,rfl,⟨dx,l,e,k,kvs,g,M0⟩,u64,fun l1 ts H2 s2 n1 g1 _ pm=>?_⟩;have tl:ts.length<64:=by rw[pm.length_eq]; exact u64
    refine⟨D,l1,_,_,rfl,rfl,s2 _ _ a1,g1,oS (by rw[List.length_map,List.length_map]; omega),?_⟩;refine⟨_,kn++ts,rfl,fun z=>?_,by rw[List.length_append]; omega,by rw[aE,List.map_append],fun b o u=>?_⟩
    ·rw[List.mem_append,b1,aDd hm,pm.mem_iff,qW]
    ·rw[aH (aI u hD)];exact s2 _ _ (a2 b o u)
  ·rintro σ H' ⟨x2,kn,rfl,b1,b2,a1,a2⟩;have e1:ms.take (Xs.map V.ref).length=ms:=by rw[List.length_map,h1,List.take_length]
   rw[e1] at b1;rw[List.length_map,h1] at b2;refine⟨_,rfl,D,kn,rfl,SqL.of a1,by omega,fun d H2 s2 n2 g2=>q d kn H2 (a2.trans s2) (a2.free n2) b1 g2⟩
end
end K24
namespace K24
open PySem L2 Ky
seal L2.PE L2.PS L2.PSs L2.PA L2.PT L2.PW L2.PG L2.PI L2.PTs L2.PO L2.OpR L2.IxR L2.CallR L2.MtM L2.MtR
unseal L2.MtM L2.MtR
def NLs (H H':Hp):Prop:=∀ b o,H b=some o->(∀ xs,o≠.lst xs)->H' b=some o
theorem aIt {CM:Addr}{H H':Hp}{x dd:Addr}{b:Str}{es kn:List Str}{ds:List Dr}(h:MM CM H x dd b es kn ds) (s:NLs H H'):MM CM H' x dd b es kn ds:=by
 obtain⟨dx,l,e,k,kvs,g,M⟩:=h;exact⟨dx,l,e,k,kvs,g,⟨s _ _ M.ins (fun _ z=>nomatch z),⟨s _ _ M.lead.dk (fun _ z=>nomatch z),M.lead.keys,M.lead.val,fun z hz=>s _ _ (M.lead.dd z hz) (fun _ z=>nomatch z),M.lead.inj,M.lead.ne⟩,s _ _ M.ends (fun _ z=>nomatch z),s _ _ M.know (fun _ z=>nomatch z)⟩⟩
theorem aAm {H:Hp}{l:Addr}{xs ys:List V}(hm:H l=some (.lst xs)):NLs H (upd H l (.lst ys)):=fun b o e n=>by
 rw[aH (fun z=>by rw[z,hm] at e; exact n _ (Option.some.inj e).symm)];exact e
abbrev aDf (lm lk:Addr):List (Str×V):=[("machines",.ref lm),("known_marks",.ref lk)]
abbrev aIl:List Str:=["deeds","begin","knows","at","to","is_end","ways","rooms"]
theorem cE (lm lk:Addr):∀ m∈aIl,(aDf lm lk).lookup m=none:=by
 have h:∀ m∈aIl,(m==("machines" : Str))=false∧(m==("known_marks" : Str))=false:=by decide +kernel
 intro m hm;obtain⟨h1,h2⟩:=h m hm;simp only[List.lookup,h1,h2]
inductive Wv (CM CW:Addr) (H:Hp) (v x:Addr) (ms:List MW):Prop
 | mk (dv lm lk:Addr) (kn:List Str) (ins:H v=some (.ins CW dv (aDf lm lk))) (mm:jQ CM H x lm ms) (dk:H lk=some (.dK (mks kn []))) (kk:∀ z,z∈kn↔z∈wkn ms)
theorem Wv.same {CM CW:Addr}{H H':Hp}{v x:Addr}{ms:List MW}(W:Wv CM CW H v x ms) (sm:aO H H'):Wv CM CW H' v x ms:=by
 obtain⟨dv,lm,lk,kn,h1,h2,h3,h4⟩:=W;exact⟨dv,lm,lk,kn,sm _ _ h1,h2.same sm,sm _ _ h3,h4⟩
structure pP (K:PySem.W.Frag) (CW:Addr):Prop where
 cl:Cls K CW
 nm:fJ K CW "machines"
 nk:fJ K CW "known_marks"
theorem aKp {CM CW:Addr}{H H':Hp}{v dv x p:Addr}{ms:List MW}(hv:H v=some (.ins CW dv [])) (s:SameBut v H H') (M:jQ CM H x p ms):jQ CM H' x p ms:=by
 have k:∀ {b:Addr}{o:HO},H b=some o->o≠.ins CW dv []->H' b=some o:=fun {b o} e n=>s b o (fun z=>n (by rw[z,hv] at e; exact (Option.some.inj e).symm)) e;obtain⟨Xs,h0,h1,h2⟩:=M.ex;refine⟨Xs,k h0 (fun z=>nomatch z),h1,fun i X m a b=>?_⟩;obtain⟨dx,l,e,kk,kvs,g,M0⟩:=h2 i X m a b;exact⟨dx,l,e,kk,kvs,g,⟨k M0.ins (fun z=>by cases z),⟨k M0.lead.dk (fun z=>nomatch z),M0.lead.keys,M0.lead.val,fun z hz=>k (M0.lead.dd z hz) (fun z=>nomatch z),M0.lead.inj,M0.lead.ne⟩,k M0.ends (fun z=>nomatch z),k M0.know (fun z=>nomatch z)⟩⟩
inductive uR (CM CW cT:Addr) (vs:List V) (H:Hp) (Q:VK) (E:XK):Prop
 | mk (v dv x p:Addr) (ms:List MW) (N:List Str) (h0_:vs=[.ref v,.ref p]) (h1_:H v=some (.ins CW dv [])) (h2_:jQ CM H x p ms) (h3_:1<=ms.length∧ms.length<=7) (h4_:∀ m∈ms,∀ z∈m.kn,z∈N) (h5_:N.length<64) (h6_:∀ H',SameBut v H H'->Wv CM CW H' v x ms->(∀ d xs,H d=some (.lst xs)->Wv CM CW (upd H' d (.lst [])) v x ms)->Q .non H')
 | bad (v p:Addr) (xs:List V) (h0_:vs=[.ref v,.ref p]) (h1_:H p=some (.lst xs)) (h2_:xs.length=0∨7<xs.length) (h3_:E (.ref cT) none H)
inductive qY (CM CW:Addr) (vs:List V) (H:Hp) (Q:VK) (E:XK):Prop
 | mk (v x:Addr) (ms:List MW) (h0_:vs=[.ref v]) (h1_:Wv CM CW H v x ms) (h2_:1<=ms.length) (h3_:Q (.ref x) H)
inductive jS (CM CW:Addr) (vs:List V) (H:Hp) (Q:VK) (E:XK):Prop
 | mk (v x:Addr) (ms:List MW) (h0_:vs=[.ref v]) (h1_:Wv CM CW H v x ms) (h2_:ms.length<=100) (h3_:zN H Q (some (ms.map (·.b))))
structure Srt (ts:List Str) (p:Str->Prop):Prop where
 so:PyProof.Rows.sortedS ts=true
 nd:ts.Nodup
 mem:∀ z,z∈ts↔p z
theorem Srt.one {ts us:List Str}{p q:Str->Prop}(h:Srt ts p) (g:Srt us q) (e:∀ z,p z↔q z):ts=us:=
 yA (s:=us) ((List.perm_ext_iff_of_nodup h.nd g.nd).mpr fun z=>by rw[h.mem,g.mem,e]) (List.Perm.refl _) h.so g.so
inductive nF (CM CW:Addr) (vs:List V) (H:Hp) (Q:VK) (E:XK):Prop
 | mk (v x:Addr) (ms:List MW) (N:List Str) (h0_:vs=[.ref v]) (h1_:Wv CM CW H v x ms) (h2_:∀ z∈wkn ms,z∈N) (h3_:N.length<64) (h4_:∀ (l:Addr) (ts:List Str) H',aO H H'->H l=none->H' l=some (.lst (ts.map V.str))->Srt ts (fun z=>z∈wkn ms)->Q (.ref l) H')
inductive qX (K:PySem.W.Frag) (CM CW:Addr) (vs:List V) (H:Hp) (Q:VK) (E:XK):Prop
 | mk (v x t:Addr) (ms:List MW) (room:List Str) (h0_:vs=[.ref v,.ref t]) (h1_:Wv CM CW H v x ms) (h2_:SqT K H t (room.map V.str)) (h3_:ROk ms room) (h4_:ms.length<=100) (h5_:∀ H',aO H H'->Q (.bl (qQ ms room)) H')
section
variable {P:Program}{w:World}{K:PySem.W.Frag}{mg:Str->Option Value}{base:Heap}
theorem aNz:aR ["self","machines"] ["self","machines"] (aB sX):=⟨rfl,rfl,rfl,by decide +kernel,rfl,by decide +kernel,by decide +kernel⟩
theorem aEr {f fK CM CW cT:Addr}{fd fdK:FuncData}(F:Fun K "__init__" "Woven.__init__" sX f fd) (T:Txt K mg) (WC:pP K CW) (mMW:∃ t,mg "MOST_WOVEN" = some (.int 7 t)) (mTM:mg "TooMany" = some (.ref cT)) (xTM:xW K cT)
  (GK:aS P w K mg base CX0 2 fK fdK ["machines"] (tO CM)) (kK:PySem.W.keepIn K (.ref fK)=true) (bK:aU K fdK ["machines"] []) (mK:mg "known_of" = some (.ref fK)):aS P w K mg base (CXE P w) 3 f fd ["self","machines"] (uR CM CW cT):=by
 obtain⟨tw,mMW⟩:=mMW;refine okE F aNz (fun vs H Q E h=>?_) (fun cdv A outer s H vs Q E hr h D=>?_)
 ·rcases h with⟨v,dv,x,p,ms,N,rfl,_⟩ | ⟨v,p,xs,rfl,_⟩ <;> rfl
 ·refine⟨_,aK (dJ (wO (lY (wP (pv 1) (fun _=>rfl))) (uZ (bY rM (cX dF (by rfl) T.len Bo.len (pac (pv 1) aJ)) (jE (v:=.int 7) (by rfl) mMW ⟨_,rfl⟩) (cH _)))).pt (aL (gN D rfl (by rfl) mTM xTM (pac bX aJ))) cF)
   (aK (jB (pv 0) (gU oA (by rfl) T.list Bo.list (pac (pv 1) aJ)) rfl)
   (aL (jB (pv 0) (bJ GK hr rfl mK kK bK .nil bU (pac (pv 1) aJ)) rfl))),?_⟩
  rcases h with⟨v,dv,x,p,ms,N,rfl,hv,M,hl,hN,h64,q⟩ | ⟨v,p,xs,rfl,h0,hb,q⟩
  rotate_left
  ·cases xs with
   | nil=>exact⟨_,rfl,false,.inl ⟨_,SqL.of h0,rfl⟩,jI ⟨by show 1<=sizeLine; decide,q⟩⟩
   | cons y ys=>exact⟨_,rfl,true,.inl ⟨_,SqL.of h0,rfl⟩,gH ⟨_,rfl,p,_,rfl,.inl (SqL.of h0),_,_,rfl,rfl,_,rfl,dY (fun _=>⟨by show 1<=sizeLine; decide,q⟩) fun z=>absurd (decide_eq_true (by simp only[List.length_cons] at hb ⊢; omega)) z⟩⟩
  obtain⟨Xs,h0,h1,h2⟩:=M.ex
  have hne:(Xs.map V.ref).isEmpty=false:=by
   cases Xs with
   | nil=>simp at h1; omega
   | cons _ _=>rfl
  refine⟨_,rfl,true,.inl ⟨_,SqL.of h0,by rw[hne]; rfl⟩,gH ⟨_,rfl,p,_,rfl,.inl (SqL.of h0),_,_,rfl,rfl,_,rfl,dY (fun z=>absurd (of_decide_eq_true z) (by rw[List.length_map]; omega)) fun _=>?_⟩⟩;refine⟨_,rfl,p,_,rfl,.inl (SqL.of h0),fun lm hlm=>⟨_,rfl,v,CW,dv,[],rfl,smu hlm _ _ hv,WC.cl,WC.nm,by decide,?_⟩⟩;have nv:lm≠v:=fun z=>by rw[z,hv] at hlm; cases hlm
  generalize hH2:upd (upd H lm _) v _=H2;have s2:SameBut v H H2:=fun b o n e=>by rw[← hH2,aH n]; exact smu hlm _ _ e
  have v2:H2 v=some (.ins CW dv [("machines",.ref lm)]):=by rw[← hH2,aE]; rfl
  have l2:H2 lm=some (.lst (Xs.map V.ref)):=by rw[← hH2,aH nv,aE]
  clear hH2;have M2:=aKp hv s2 M
  have M2':jQ CM H2 x lm ms:=by
   obtain⟨Ys,k0,k1,k2⟩:=M2.ex;have pv':p≠v:=fun z=>by rw[z,hv] at h0; cases h0
   have e:=s2 _ _ pv' h0;rw[k0] at e;have e':Ys.map V.ref=Xs.map V.ref:=HO.lst.inj (Option.some.inj e);exact⟨Ys,by rw[e']; exact l2,k1,k2⟩
  refine⟨_,rfl,x,p,ms,N,rfl,M2,by omega,hN,h64,fun lk kn H3 s3 hlk hkn g3=>⟨_,rfl,v,CW,dv,_,rfl,s3 _ _ v2,WC.cl,WC.nk,by show 1<1000; decide,?_⟩⟩;have kv:lk≠v:=fun z=>by rw[z,v2] at hlk; cases hlk
  have M3:=M2'.same s3;have v3:=s3 _ _ v2;have sF:SameBut v H (upd H3 v (.ins CW dv (gC "known_marks" (.ref lk) [("machines",.ref lm)]))):=fun b o n e=>by rw[aH n]; exact s3 _ _ (s2 b o n e)
  have vF:(upd H3 v (.ins CW dv (gC "known_marks" (.ref lk) [("machines",.ref lm)]))) v=some (.ins CW dv (aDf lm lk)):=aE;have kF:(upd H3 v (.ins CW dv (gC "known_marks" (.ref lk) [("machines",.ref lm)]))) lk=some (.dK (mks kn [])):=by rw[aH kv]; exact g3
  have MF:jQ CM (upd H3 v (.ins CW dv (gC "known_marks" (.ref lk) [("machines",.ref lm)]))) x lm ms:=by
   have k:∀ {b:Addr}{o:HO},H3 b=some o->o≠.ins CW dv [("machines",.ref lm)]->(upd H3 v (.ins CW dv (gC "known_marks" (.ref lk) [("machines",.ref lm)]))) b=some o:=fun {b o} e n=>by
    rw[aH (fun z=>n (by rw[z,v3] at e; exact (Option.some.inj e).symm))];exact e
   obtain⟨Ys,k0,k1,k2⟩:=M3.ex;refine⟨Ys,k k0 (fun z=>nomatch z),k1,fun i X m a b=>?_⟩;obtain⟨dx,l,e,kk,kvs,g,M0⟩:=k2 i X m a b;exact⟨dx,l,e,kk,kvs,g,⟨k M0.ins (fun z=>by cases z),⟨k M0.lead.dk (fun z=>nomatch z),M0.lead.keys,M0.lead.val,fun z hz=>k (M0.lead.dd z hz) (fun z=>nomatch z),M0.lead.inj,M0.lead.ne⟩,k M0.ends (fun z=>nomatch z),k M0.know (fun z=>nomatch z)⟩⟩
  refine q _ sF ⟨dv,lm,lk,kn,vF,MF,kF,hkn⟩ fun d xs hd=>?_;have dv':d≠v:=fun z=>by rw[z,hv] at hd; cases hd
  have hdF:=sF d _ dv' hd;have ld:lm≠d:=fun z=>by rw[z,hd] at hlm; cases hlm
  generalize upd H3 v (.ins CW dv (gC "known_marks" (.ref lk) [("machines",.ref lm)]))=HF at sF vF kF MF hdF;have nk:NLs HF (upd HF d (.lst [])):=aAm hdF;obtain⟨Ys,k0,k1,k2⟩:=MF.ex;exact⟨dv,lm,lk,kn,nk _ _ vF (fun _ z=>nomatch z),⟨Ys,by rw[aH ld]; exact k0,k1,fun i X m a b=>aIt (k2 i X m a b) nk⟩,nk _ _ kF (fun _ z=>nomatch z),hkn⟩
theorem aOb:aR ["self"] ["self"] (aB oJ):=⟨rfl,rfl,rfl,by decide +kernel,rfl,by decide +kernel,by decide +kernel⟩
theorem aBw {f fD CM CW:Addr}{fd fdD:FuncData}(F:Fun K "deeds" "Woven.deeds" oJ f fd) (WC:pP K CW) (MC:mV K CM)
  (GD:aS P w K mg base CX0 1 fD fdD ["self"] (wC CM)) (bD:aU K fdD ["self"] []) (mD:cU K CM "deeds" fD):aS P w K mg base CX0 2 f fd ["self"] (qY CM CW):=by
 refine F.ok aOb (fun vs H Q E h=>?_) (fun cdv A outer s H vs Q E hr h=>?_)
 ·obtain⟨v,x,ms,rfl,_⟩:=h;rfl
 ·obtain⟨v,x,ms,rfl,⟨dv,lm,lk,kn,hi,M,hk,hkn⟩,hl,q⟩:=h;refine⟨_,aL (bS (dM (eW cY (eK (pv 0) rfl) aN (fun _ _=>rfl)) MC.cl mD GD hr bD .nil bU)),?_⟩;obtain⟨Xs,h0,h1,h2⟩:=M.ex;have hX:=List.getElem?_eq_getElem (l:=Xs) (i:=0) (by omega);have hm:=List.getElem?_eq_getElem (l:=ms) (i:=0) (by omega);generalize Xs[0]'(by omega)=X at hX;generalize ms[0]'(by omega)=m at hm;obtain⟨dx,l,e,k,kvs,g,M0⟩:=h2 0 X m hX hm;exact⟨_,rfl,v,CW,dv,_,_,rfl,hi,WC.cl,WC.nm,by rfl,lm,_,_,.ref X,rfl,rfl,SqL.of h0,jK (j:=0) (by rw[List.getElem?_map,hX]; rfl),X,dx,_,rfl,M0.ins,eC _ _ _ _ _ _ (by decide),X,x,m.b,m.es,m.kn,m.ds,rfl,⟨dx,l,e,k,kvs,g,M0⟩,q⟩
theorem aOc:aR ["self"] ["self"] (aB oK):=⟨rfl,rfl,rfl,by decide +kernel,rfl,by decide +kernel,by decide +kernel⟩
theorem aBx {f fB CM CW:Addr}{fd fdB:FuncData}(F:Fun K "begin" "Woven.begin" oK f fd) (WC:pP K CW)
  (GB:aS P w K mg base CX0 2 fB fdB ["machines"] (tQ CM)) (kB:PySem.W.keepIn K (.ref fB)=true) (bB:aU K fdB ["machines"] []) (mB:mg "begin_of" = some (.ref fB)):aS P w K mg base CX0 3 f fd ["self"] (jS CM CW):=by
 refine F.ok aOc (fun vs H Q E h=>?_) (fun cdv A outer s H vs Q E hr h=>?_)
 ·obtain⟨v,x,ms,rfl,_⟩:=h;rfl
 ·obtain⟨v,x,ms,rfl,⟨dv,lm,lk,kn,hi,M,hk,hkn⟩,hl,q⟩:=h;exact⟨_,aL (bS (bJ GB hr (by rfl) mB kB bB .nil bU (pac (eK (pv 0) rfl) aJ))),_,rfl,v,CW,dv,_,_,rfl,hi,WC.cl,WC.nm,by rfl,x,lm,ms,rfl,M,hl,q⟩
theorem aNy:aR ["self"] ["self"] (aB oH):=⟨rfl,rfl,rfl,by decide +kernel,rfl,by decide +kernel,by decide +kernel⟩
theorem aBu {f CM CW:Addr}{fd:FuncData}(F:Fun K "knows" "Woven.knows" oH f fd) (T:Txt K mg) (WC:pP K CW):aS P w K mg base CX0 1 f fd ["self"] (nF CM CW):=by
 refine F.ok aNy (fun vs H Q E h=>?_) (fun cdv A outer s H vs Q E hr h=>?_)
 ·obtain⟨v,x,ms,N,rfl,_⟩:=h;rfl
 ·obtain⟨v,x,ms,N,rfl,⟨dv,lm,lk,kn,hi,M,hk,hkn⟩,hN,h64,q⟩:=h;refine⟨_,aL (bS (cX (nZ rfl) (by rfl) T.sorted Bo.sorted (pac (eK (pv 0) rfl) aJ))),?_⟩;exact⟨_,rfl,v,CW,dv,_,_,rfl,hi,WC.cl,WC.nk,by rfl,lk,_,_,rfl,hk,tZ rfl,Nat.lt_of_le_of_lt (fS fun z hz=>hN z ((hkn z).mp hz)) h64,fun l ts hl' pm so=>q l ts _ (smu hl') hl' aE ⟨so,pm.nodup_iff.mpr (oO _ _ .nil),fun z=>by rw[pm.mem_iff,qW,hkn]⟩⟩
theorem aOa:aR ["self","room"] ["self","room"] (aB oI):=⟨rfl,rfl,rfl,by decide +kernel,rfl,by decide +kernel,by decide +kernel⟩
theorem aBv {f fA CM CW:Addr}{fd fdA:FuncData}(F:Fun K "is_end" "Woven.is_end" oI f fd) (WC:pP K CW)
  (GA:aS P w K mg base CX0 4 fA fdA ["machines","room"] (tR K CM)) (kA:PySem.W.keepIn K (.ref fA)=true) (bA:aU K fdA ["machines","room"] []) (mA:mg "all_at_ends" = some (.ref fA)):aS P w K mg base CX0 5 f fd ["self","room"] (qX K CM CW):=by
 refine F.ok aOa (fun vs H Q E h=>?_) (fun cdv A outer s H vs Q E hr h=>?_)
 ·obtain⟨v,x,t,ms,room,rfl,_⟩:=h;rfl
 ·obtain⟨v,x,t,ms,room,rfl,⟨dv,lm,lk,kn,hi,M,hk,hkn⟩,hT,R,hl,q⟩:=h;exact⟨_,aL (bS (bJ GA hr (by rfl) mA kA bA .nil bU (pac (eK (pv 0) rfl) (pac (pv 1) aJ)))),_,rfl,v,CW,dv,_,_,rfl,hi,WC.cl,WC.nm,by rfl,_,rfl,x,lm,t,ms,room,rfl,M,hT,R,hl,q⟩
end
end K24
namespace K24
open PySem L2 Ky
seal L2.PE L2.PS L2.PSs L2.PA L2.PT L2.PW L2.PG L2.PI L2.PTs L2.PO L2.OpR L2.IxR L2.CallR L2.MtM L2.MtR
unseal L2.MtM L2.MtR
theorem lK {l:List Str}{p:Str->Bool}(h:PyProof.Rows.sortedS l=true):PyProof.Rows.sortedS (l.filter p)=true:=PyProof.Rows.sortedS_of_pairwise _ ((oR h).filter p)
theorem Srt.filter {l:List Str}{q:Str->Prop}(h:Srt l q) (p:Str->Bool):Srt (l.filter p) (fun z=>q z∧p z=true):=
 ⟨lK h.so,h.nd.filter p,fun z=>by rw[List.mem_filter,h.mem]⟩
inductive tJ (K:PySem.W.Frag) (C CM CW cD:Addr) (vs:List V) (H:Hp) (Q:VK) (E:XK):Prop
 | mk (v x t:Addr) (y:V) (ms:List MW) (room:List Str) (wk:List (Key×V)) (h0_:vs=[.ref v,.ref t,y]) (h1_:Wv CM CW H v x ms) (h2_:SqT K H t (room.map V.str)) (h3_:ROk ms room) (h4_:1<=ms.length∧ms.length<=100) (h5_:WAt C H x wk) (h6_:aBb y)
  (h7_:cZ wk y=true->∀ u,y=.str u->zN H Q (wto ms room u)) (h8_:cZ wk y=false->∀ H',aO H H'->E (.ref cD) none H')
inductive aDn (K:PySem.W.Frag) (C CM CW:Addr) (vs:List V) (H:Hp) (Q:VK) (E:XK):Prop
 | mk (v x t:Addr) (ms:List MW) (room N:List Str) (wk:List (Key×V)) (h0_:vs=[.ref v,.ref t]) (h1_:Wv CM CW H v x ms) (h2_:SqT K H t (room.map V.str)) (h3_:ROk ms room) (h4_:1<=ms.length∧ms.length<=100) (h5_:WAt C H x wk) (h6_:∀ z∈wkn ms,z∈N) (h7_:N.length<64) (h8_:∀ z∈N,cZ wk (.str z)=true)
  (h9_:∀ (l:Addr) (ts:List Str) H',aO H H'->H l=none->H' l=some (.lst (ts.map V.str))->Srt ts (fun z=>z∈wkn ms∧(wto ms room z).isSome=true)->Q (.ref l) H')
theorem zN.mono {H H1:Hp}{Q:VK}{o:Option (List Str)}(h:zN H Q o) (s:aO H H1):zN H1 Q o:=by
 cases o with
 | none=>exact fun H' s'=>h H' (s.trans s')
 | some ss=>exact fun l H' s' n e=>h l H' (s.trans s') (s.free n) e
theorem dQ {C:Addr}{H H':Hp}{p:Addr}{kvs:List (Key×V)}(W:WAt C H p kvs) (sm:aO H H'):WAt C H' p kvs:=by
 obtain⟨dx,fs,dw,o,h0,h1,h2,h3⟩:=W;exact⟨dx,fs,dw,o,sm _ _ h0,h1,h2,sm _ _ h3⟩
theorem fX {wk:List (Key×V)}{z:Str}(h:cZ wk (.str z)=true):z.length<=1000:=Nat.le_trans (nQ (Bool.and_eq_true_iff.mp h).1) (by decide)
section
variable {P:Program}{w:World}{K:PySem.W.Frag}{mg:Str->Option Value}{base:Heap}
theorem aNw:aR ["self","room","deed"] ["self","room","deed"] (aB wTo):=⟨rfl,rfl,rfl,by decide +kernel,rfl,by decide +kernel,by decide +kernel⟩
theorem aKh {f fD fQ fF C CM CW:Addr}{fd fdD fdQ fdF:FuncData}{cl:Why->Addr}(F:Fun K "to" "Woven.to" wTo f fd) (DC:zP K C) (WC:pP K CW)
  (GD:aS P w K mg base CX0 2 fD fdD ["self"] (qY CM CW)) (bD:aU K fdD ["self"] []) (mD:cU K CW "deeds" fD)
  (GQ:aS P w K mg base (CXE P w) 3 fQ fdQ ["self","row"] (iN K C cl)) (bQ:aU K fdQ ["self","row"] []) (mQ:cU K C "require" fQ)
  (GF:aS P w K mg base CX0 2 fF fdF ["machines","room","deed"] (aAb K CM)) (kF:PySem.W.keepIn K (.ref fF)=true) (bF:aU K fdF ["machines","room","deed"] []) (mF:mg "far_of" = some (.ref fF)) :
  aS P w K mg base (CXE P w) 4 f fd ["self","room","deed"] (tJ K C CM CW (cl .noDeed)):=by
 refine okE F aNw (fun vs H Q E h=>?_) (fun cdv A outer s H vs Q E hr h D=>?_)
 ·obtain⟨v,x,t,y,ms,room,wk,rfl,_⟩:=h;rfl
 ·obtain⟨v,x,t,y,ms,room,wk,rfl,W,hT,R,hl,hW,hy,q1,q2⟩:=h;have hu:=iS hr;have hr2:cO 2 _:=hr.mono (by decide)
  refine⟨_,aK (dI (cM (dM (pv 0) WC.cl mD GD hr2 bD .nil bU) DC.cl mQ GQ hr bQ .nil (D.passes fun _ _ _ z=>z) (pac (dD (pac (pv 2) aJ)) aJ)))
   (aK (dJ (oZ (pA hu (pv 2) (eK (pv 0) rfl))) (aL (bS eD)) cF)
   (aL (bS (bJ GF hr2 (by rfl) mF kF bF .nil bU (pac (eK (pv 0) rfl) (pac (pv 1) (pac (pv 2) aJ))))))),?_⟩
  obtain⟨dv,lm,lk,kn,hi,M,hk,hkn⟩:=id W;obtain⟨wx,wf,ww,wo,hw0,hw1,hw2,hw3⟩:=id hW;refine⟨_,rfl,v,dv,_,rfl,hi,cE _ _ _ (by decide),v,x,ms,rfl,W,hl.1,x,wx,wf,rfl,hw0,hw1 "require" (by decide),_,rfl,by show 1<=sizeLine; decide,fun p hp=>?_⟩;have s3:=smu (o:=.lst [y]) hp;refine⟨x,p,_,wk,rfl,SqL.of aE,fun u hv=>?_,dQ hW s3,fun H4 s4=>?_⟩
  ·rw[List.mem_singleton.mp hv];exact hy
  ·have e1:([y]:List V).all (cZ wk)=cZ wk y:=by rw[List.all_cons,List.all_nil,Bool.and_true]
   rw[e1]
   by_cases hg:cZ wk y=true
   ·rw[if_pos hg]
    obtain⟨u,rfl⟩:∃ u,y=.str u:=by
     cases y with
     | str u=>exact⟨u,rfl⟩
     | _=>cases hg
    have s5:=s3.trans s4;have qq:=(q1 hg u rfl).mono s5;unfold wto at qq;refine⟨_,rfl,_,rfl,v,CW,dv,_,_,rfl,s5 _ _ hi,WC.cl,WC.nk,by rfl,lk,_,rfl,eX.k (k:=Sum.inr u) (s5 _ _ hk),_,rfl,?_⟩;rw[pJ rfl u]
    by_cases hm:u∈wkn ms
    ·rw[decide_eq_true ((hkn u).mpr hm)];rw[if_pos hm] at qq;exact gH ⟨_,rfl,v,CW,dv,_,_,rfl,s5 _ _ hi,WC.cl,WC.nm,by rfl,_,rfl,_,rfl,x,lm,t,ms,room,u,rfl,M.same s5,nC hT s5,R,hl.2,qq⟩
    ·rw[decide_eq_false fun z=>hm ((hkn u).mp z)];rw[if_neg hm] at qq;exact jI (qq H4 (aO.refl H4))
   ·rw[if_neg hg];exact q2 (Bool.eq_false_iff.mpr hg) H4 (s3.trans s4)
theorem aOd:aR ["self","room"] ["self","room"] (aB wAt):=⟨rfl,rfl,rfl,by decide +kernel,rfl,by decide +kernel,by decide +kernel⟩
abbrev ndw:List Str:=["deed","self","room"]
theorem aKi {f fK fT C CM CW cD:Addr}{fd fdK fdT:FuncData}(F:Fun K "at" "Woven.at" wAt f fd) (WC:pP K CW)
  (GK:aS P w K mg base CX0 1 fK fdK ["self"] (nF CM CW)) (bK:aU K fdK ["self"] []) (mK:cU K CW "knows" fK)
  (GT:aS P w K mg base (CXE P w) 4 fT fdT ["self","room","deed"] (tJ K C CM CW cD)) (bT:aU K fdT ["self","room","deed"] []) (mT:cU K CW "to" fT) :
  aS P w K mg base CX0 5 f fd ["self","room"] (aDn K C CM CW):=by
 refine F.ok aOd (fun vs H Q E h=>?_) (fun cdv A outer s H vs Q E hr h=>?_)
 ·obtain⟨v,x,t,ms,room,N,wk,rfl,_⟩:=h;rfl
 ·obtain⟨v,x,t,ms,room,N,wk,rfl,W,hT,R,hl,hW,hN,h64,hg,q⟩:=h;have hr1:cO 1 _:=hr.mono (by decide)
  refine⟨_,aL (bS (gB (N':=ndw) (nown:=1) (js:=[0,1]) rfl
     ⟨rfl,by decide +kernel,by decide +kernel⟩ (cK (aB wAt) ["self","room"] rfl rfl (by decide +kernel))
     ⟨fun _ _ _ _=>aP (i:=0) (show List.Nodup ndw by decide +kernel) rfl (Or.inl rfl) (.inr rfl),
      fun _ _ _ _=>lC (bY jF (cM (pv 1) WC.cl mT GT hr bT .nil jN (pac (pv 2) (pac (pv 0) aJ))) eD (cH _)),
      fun _ _ _ _=>pv 0⟩
     (dC (dM (pv 0) WC.cl mK GK hr1 bK .nil bU)))),?_⟩
  obtain⟨dv,lm,lk,kn,hi,M,hk,hkn⟩:=id W;refine⟨_,rfl,v,dv,_,rfl,hi,cE _ _ _ (by decide),v,x,ms,N,rfl,W,hN,h64,fun l ts H2 s2 n2 g2 S2=>⟨l,rfl,⟨_,SqL.of g2⟩,fun D hD=>?_⟩⟩
  have lts:ts.length<64:=by
   have:ts.length<=N.length:=by
    have:=fS (rs:=ts) (N:=N) fun z hz=>hN z ((S2.mem z).mp hz)
    rw[← (jY (m:=unl ts []) S2.nd (fun z hz=>qW.mpr hz) (fS fun z hz=>hz)).length_eq] at this;exact this
   omega
  refine iV (xs:=ts.map V.str) (fun i σ' H'=>∃ v0,σ'=[v0,some (.ref v),some (.ref t)]∧H' D=some (.lst (((ts.take i).filter fun z=>(wto ms room z).isSome).map V.str))∧aO H2 H') ?_ ?_ ?_ ?_
  ·exact⟨none,rfl,aE,smu hD⟩
  ·rintro i σ' H' _ ⟨v0,rfl,a1,a2⟩;exact SqL.of (a2 _ _ g2)
  ·rintro i u σ' H' hv ⟨v0,rfl,a1,a2⟩;rw[List.getElem?_map] at hv;cases hz:ts[i]? with
   | none=>rw[hz] at hv; cases hv
   | some z=>
    rw[hz] at hv;cases hv;have sA:=s2.trans a2;have hzk:=(S2.mem z).mp (List.mem_of_getElem? hz);have gz:=hg z (hN z hzk)
    have ef:(ts.take (i+1)).filter (fun z=>(wto ms room z).isSome)=(ts.take i).filter (fun z=>(wto ms room z).isSome)++(if (wto ms room z).isSome=true then [z] else []):=by
     rw[List.take_succ,hz,List.filter_append];congr 1;show List.filter _ [z]=_;rw[List.filter_cons,List.filter_nil]
    have lf:((ts.take i).filter fun z=>(wto ms room z).isSome).length<=63:=Nat.le_trans (List.length_filter_le ..) (by rw[List.length_take]; omega);refine⟨_,rfl,v,dv,_,rfl,sA _ _ hi,cE _ _ _ (by decide),_,rfl,_,rfl,v,x,t,.str z,ms,room,wk,rfl,W.same sA,nC hT sA,R,hl,dQ hW sA,.inl ⟨z,rfl,fX gz⟩,fun _ u' eu=>?_,fun bad=>absurd (gz.symm.trans bad) (by decide)⟩;cases eu;cases ho:wto ms room z with
    | none=>
     intro H3 s3;refine⟨rfl,_,rfl,gH ⟨_,rfl,?_,a2.trans s3⟩⟩;rw[ef,ho]
     simpa using s3 _ _ a1
    | some ss=>
     intro l3 H3 s3 n3 e3;refine⟨rfl,_,rfl,jI ⟨_,rfl,_,s3 _ _ a1,aW (by rw[List.length_map]; omega),_,rfl,?_,fun b o e=>?_⟩⟩
     ·rw[aE,ef,ho,List.map_append];rfl
     ·rw[aH (aI e hD)];exact s3 _ _ (a2 b o e)
  ·rintro σ' H' ⟨v0,rfl,a1,a2⟩;rw[List.length_map,List.take_length] at a1;exact q D _ H' (s2.trans a2) (s2.free hD) a1 (S2.filter _)
end
end K24
namespace K24
open PySem L2 Ky
seal L2.PE L2.PS L2.PSs L2.PA L2.PT L2.PW L2.PG L2.PI L2.PTs L2.PO L2.OpR L2.IxR L2.CallR L2.MtM L2.MtR
unseal L2.MtM L2.MtR
abbrev aGg (l:List (Int×Nat)):Prop:=∀ x∈l,1<=x.2∧x.2<=5
inductive aDp (K:PySem.W.Frag) (vs:List V) (H:Hp) (Q:VK) (E:XK):Prop
 | mk (p n:Addr) (c:Int) (l:List (Int×Nat)) (ss:List Str) (h0_:vs=[.ref p,.int c,.ref n]) (h1_:oE H p l ss) (h2_:SqL K H n (ss.map V.str)) (h3_:ss.length<=12) (h4_:1<=l.length∧l.length<=3) (h5_:aGg l)
  (h6_:∀ (D:Addr) (l':List (Int×Nat)) H',aO H H'->H D=none->oE H' D l' ss->1<=l'.length∧l'.length<=7->aGg l'->Q (.ref D) H')
structure PlG (D:Addr) (H:Hp) (l:List (Int×Nat)) (ss:List Str):Prop where
 ex:∃ ts:List Addr,H D=some (.lst (ts.map V.ref))∧ts.length=l.length∧∀ (j:Nat) (t:Addr) (x:Int×Nat),ts[j]?=some t->l[j]?=some x->pQ D H t x.1 x.2 ss
theorem PlG.same {D:Addr}{H H':Hp}{l:List (Int×Nat)}{ss:List Str}(G:PlG D H l ss) (s:aO H H'):PlG D H' l ss:=by
 obtain⟨ts,h0,h1,h2⟩:=G.ex;exact⟨ts,s _ _ h0,h1,fun j t x a b=>(h2 j t x a b).same s⟩
theorem PlG.plant {D:Addr}{H:Hp}{l:List (Int×Nat)}{ss:List Str}(G:PlG D H l ss):oE H D l ss:=by
 obtain⟨ts,h0,h1,h2⟩:=G.ex;exact⟨ts,h0,h1,fun j t x a b=>(h2 j t x a b).row⟩
theorem PlG.push {D t:Addr}{H:Hp}{l:List (Int×Nat)}{ss:List Str}{c:Int}{n:Nat}(G:PlG D H l ss) (R:pQ D H t c n ss):∃ xs,H D=some (.lst xs)∧xs.length=l.length∧PlG D (upd H D (.lst (xs++[.ref t]))) (l++[(c,n)]) ss:=by
 obtain⟨ts,h0,h1,h2⟩:=G.ex;refine⟨_,h0,by rw[List.length_map,h1],⟨ts++[t],by rw[aE,List.map_append]; rfl,by rw[List.length_append,List.length_append,h1]; rfl,fun j u y hu hy=>?_⟩⟩
 by_cases hj:j<ts.length
 ·rw[List.getElem?_append_left hj] at hu;rw[List.getElem?_append_left (by omega)] at hy;exact (h2 j u y hu hy).put ⟨_,h0⟩
 ·have hl:j=ts.length:=by
   have:=(List.getElem?_eq_some_iff.mp hu).1
   rw[List.length_append] at this;simp only[List.length_cons,List.length_nil] at this;omega
  subst hl;rw[List.getElem?_append_right (Nat.le_refl _),Nat.sub_self] at hu;rw[h1,List.getElem?_append_right (Nat.le_refl _),Nat.sub_self] at hy;cases hu;cases hy;exact R.put ⟨_,h0⟩
inductive aMy (H:Hp) (p n:Addr) (c:Int) (ss:List Str) (σ:St) (H':Hp):Prop
 | mk (D:Addr) (x4:Option V) (l':List (Int×Nat)) (h0_:σ=[some (.ref p),some (.int c),some (.ref n),some (.ref D),x4]) (h1_:PlG D H' l' ss) (h2_:1<=l'.length∧l'.length<=7) (h3_:aGg l') (h4_:H D=none) (h5_:aO H H')
section
variable {P:Program}{w:World}{K:PySem.W.Frag}{mg:Str->Option Value}{base:Heap}
abbrev NMo:List Str:=["_law_plant","_law_cell","_law_names","_law_found","_law_k"]
theorem aJs:aR NMo ["_law_plant","_law_cell","_law_names"] (aB tS):=⟨rfl,rfl,rfl,by decide +kernel,rfl,by decide +kernel,by decide +kernel⟩
theorem aHd {f fB fM:Addr}{fd fdB fdM:FuncData}(F:Fun K "_law_more" "_law_more" tS f fd) (T:Txt K mg)
  (GM:aS P w K mg base CX0 1 fM fdM ["_law_cell","_law_k"] nG) (kM:PySem.W.keepIn K (.ref fM)=true) (bM:aU K fdM ["_law_cell","_law_k"] []) (mM:mg "_law_mixed" = some (.ref fM))
  (GB:aS P w K mg base CX0 2 fB fdB ["_law_cell","_law_names","_law_many"] (jT K)) (kB:PySem.W.keepIn K (.ref fB)=true) (bB:aU K fdB ["_law_cell","_law_names","_law_many"] []) (mB:mg "_law_machine_by" = some (.ref fB)) :
  aS P w K mg base CX0 3 f fd ["_law_plant","_law_cell","_law_names"] (aDp K):=by
 refine F.ok aJs (fun vs H Q E h=>?_) (fun cdv A outer s H vs Q E hr h=>?_)
 ·obtain⟨p,n,c,l,ss,rfl,_⟩:=h;rfl
 ·obtain⟨p,n,c,l,ss,rfl,hP,hN,h12,hl,hf,q⟩:=h;have hr1:cO 1 _:=hr.mono (by decide)
  refine⟨_,aK (bO (i:=3) aJs.nd rfl (Or.inl rfl) (gU oA (by rfl) T.list Bo.list (pac (pv 0) aJ)))
   (iF (aMy H p n c ss) (dJ (bY rO (aY cQ (pv 1) aN) aN (cH _))
    (aL (dS PassesOwn.never rfl (gT rfl T.range (pac (aY aKc (aY dU aN (aY cQ (aY eE (pv 1) aN) aN)) (cX dF (by rfl) T.len Bo.len (pac (pv 0) aJ))) aJ)) (aP (i:=4) aJs.nd rfl (Or.inl rfl))
     (aL (dI (lN PySem.F.plainAttrs_list PySem.F.slot_list_append PySem.F.type_list_append fU (pv 3) (pac (bJ GB hr rfl mB kB bB .nil bU (pac (bJ GM hr1 rfl mM kM bM .nil bU (pac (pv 1) (pac (aY dU aN (pv 4)) aJ))) (pac (pv 2) (pac (aY dU aN (aY cQ (aY cQ (aY eE (pv 1) aN) (aY dU aN (pv 4))) aN)) aJ)))) aJ)))))) cF)
   (aL (bS (pv 3)))),?_⟩
  obtain⟨ts,h0,h1,h2⟩:=hP.ex;refine⟨_,rfl,p,_,rfl,.inl (SqL.of h0),fun D hD=>?_⟩;have s1:aO H (upd H D (.lst (ts.map V.ref))):=smu hD
  have G1:PlG D (upd H D (.lst (ts.map V.ref))) l ss:=by
   refine⟨ts,aE,h1,fun j t x a b=>?_⟩;obtain⟨e,d,m,r0,r1,r2,r3⟩:=h2 j t x a b;obtain⟨us,rd,_⟩:=id r2.ex;exact⟨e,d,m,s1 _ _ r0,s1 _ _ r1,r2.same s1,s1 _ _ r3,aI r1 hD,aI rd hD,aI r3 hD⟩
  have h0':=s1 _ _ h0;generalize upd H D (.lst (ts.map V.ref))=H1 at s1 G1 h0' ⊢;refine⟨⟨_,rfl,_,_,rfl,rfl,(by show (0:Int)<5; decide),rfl,_,rfl,dY (fun _=>?_) (fun _=>⟨D,none,l,rfl,G1,⟨hl.1,by omega⟩,hf,hD,s1⟩)⟩,?_⟩
  ·have g4:=cC (c/5) (m:=4) (by decide);refine⟨_,rfl,_,_,rfl,rfl,⟨by decide,by decide⟩,_,_,rfl,rfl,(by show (0:Int)<4; decide),_,_,rfl,rfl,_,rfl,p,_,rfl,.inl (SqL.of h0'),_,_,rfl,rfl,_,rfl,by rw[List.length_map]; omega,by rw[List.length_map]; omega,?_⟩;refine uG (n:=(4+c/5%4-((ts.map V.ref).length:Int)).toNat) (fun i σ H'=>∃ (x4:Option V) (l':List (Int×Nat)),σ=[some (.ref p),some (.int c),some (.ref n),some (.ref D),x4]∧PlG D H' l' ss∧l'.length=l.length+i∧aGg l'∧aO H H') ?_ ?_ ?_
   ·exact⟨none,l,rfl,G1,rfl,hf,s1⟩
   ·rintro i σ H' hi ⟨x4,l',rfl,G,b1,b2,a2⟩;rw[List.length_map] at hi;obtain⟨xs,d0,d1,_⟩:∃ xs,H' D=some (.lst xs)∧xs.length=l'.length∧True:=let ⟨us,e0,e1,_⟩:=G.ex; ⟨_,e0,by rw[List.length_map,e1],trivial⟩
    obtain⟨nk,ek,hk1,hk2⟩:∃ nk:Nat,1+c/20%(1+(0+(i:Int)))%2=(nk:Int)∧1<=nk∧nk<=5:=by
     have g:=cC (c/20%(1+(0+(i:Int)))) (m:=2) (by decide);exact⟨(1+c/20%(1+(0+(i:Int)))%2).toNat,by omega,by omega,by omega⟩
    refine⟨_,rfl,.inl ⟨rfl,_,SqL.of d0⟩,_,rfl,_,rfl,_,_,rfl,rfl,c,_,rfl,_,rfl,_,rfl,_,_,rfl,rfl,⟨by decide,by decide⟩,_,rfl,_,_,rfl,rfl,_,_,rfl,rfl,(by omega),_,_,rfl,rfl,(by show (0:Int)<2; decide),_,_,rfl,rfl,RW.mixed c (700+(0+(i:Int))),n,nk,ss,by rw[ek]; rfl,a2.seq hN,hk1,hk2,h12,fun t e d m H3 s3 he hd hm ht he3 hd3 hm3=>?_⟩;have nD:∀ {p:Addr},H' p=none->p≠D:=fun h z=>by rw[z,d0] at h; cases h
    obtain⟨ys,y0,y1,y2⟩:=(G.same s3).push (pQ.mk e d m ht he3 hd3 hm3 (nD he) (nD hd) (nD hm));refine⟨D,ys,_,rfl,rfl,y0,aW (by omega),_,_,rfl,y2,by rw[List.length_append,b1]; rfl,fun x hx=>?_,fun b o u=>?_⟩
    ·rcases List.mem_append.mp hx with h | h
     ·exact b2 x h
     ·rw[List.mem_singleton.mp h]; exact⟨hk1,hk2⟩
    ·rw[aH (aI u hD)];exact s3 _ _ (a2 b o u)
   ·rintro σ H' ⟨x4,l',rfl,G,b1,b2,a2⟩;rw[List.length_map] at b1;exact⟨D,x4,l',rfl,G,by omega,b2,hD,a2⟩
  ·rintro σ H' ⟨D',x4,l',rfl,G,hl',hf',hD',s'⟩;exact⟨_,rfl,q D' l' H' s' hD' G.plant hl' hf'⟩
end
end K24
namespace K24
open PySem L2 Ky
seal L2.PE L2.PS L2.PSs L2.PA L2.PT L2.PW L2.PG L2.PI L2.PTs L2.PO L2.OpR L2.IxR L2.CallR L2.MtM L2.MtR
unseal L2.MtM L2.MtR
theorem aLd (xs:List Str) (n:Nat):zK (xs.map V.str) none (some (n:Int))=(xs.take n).map V.str:=by
 unfold zK;rw[HT.sIx_none,HT.sIx_nat,Nat.sub_zero,List.drop_zero,List.map_take]
 by_cases h:n<=(xs.map V.str).length
 ·rw[Nat.min_eq_left h]
 ·rw[Nat.min_eq_right (by omega),List.take_of_length_le (Nat.le_refl _),List.take_of_length_le (by omega)]
theorem aHu {S ss:List Str}(pm:S.Perm ss) (hn:∀ z∈ss,aQ z=true):∀ z∈ss,cZ (wts S 1 []) (.str z)=true:=fun z hz=>by
 rw[cZ,qV,hn z hz];simp[pm.mem_iff.mpr hz]
abbrev aGc (l:List (Int×Nat)) (ss:List Str):Prop:=∀ x∈l,aBc x.1 x.2 ss∧x.2<=5
theorem aAo (rs:List Str):(mks rs []).length=(unl rs []).length:=by
 have:=congrArg List.length (vE rs [] [] rfl)
 simpa using this
theorem aBc.ul {c:Int}{n:Nat}{ss:List Str}(R:aBc c n ss) (h5:n<=5):(unl (bZ (eS c 0) (gI c n) (cS c ss n)) []).length<=5:=by
 have:=fS R.rb
 rw[dP] at this;omega

structure MR where
 b:Str
 es:List Str
 ds:List Dr
 mo:List Str
def MR.mw (r:MR):MW:=⟨r.b,r.es,eG r.ds r.mo,r.ds⟩
def wH (ss:List Str) (x:Int×Nat):MR:=⟨eS x.1 0,gI x.1 x.2,cS x.1 ss x.2,jG x.1 ss⟩
structure aPk (r:MR) (ss:List Str):Prop where
 le:r.es.length<=200∧r.ds.length<=800∧r.mo.length<=200
 nm:(bZ r.b r.es r.ds).all aQ=true
 ap:Apart r.ds
 kn:∀ z∈eG r.ds r.mo,z∈ss
 ul:(unl (bZ r.b r.es r.ds) []).length<=60
abbrev aIf (l:List MR) (ss:List Str):Prop:=∀ r∈l,aPk r ss
theorem aLz {l:List (Int×Nat)}{ss:List Str}(h:aGc l ss):aIf (l.map (wH ss)) ss:=fun r hr=>by
 obtain⟨x,hx,rfl⟩:=List.mem_map.mp hr;obtain⟨R,h5⟩:=h x hx;exact⟨⟨R.le.1,Nat.le_trans R.le.2.1 (by decide),R.le.2.2⟩,R.nm,R.ap,R.kn,Nat.le_trans (R.ul h5) (by decide)⟩
inductive aIg (H:Hp) (t:Addr) (r:MR):Prop
 | mk (e d m:Addr) (h0_:H t=some (.tup [.str r.b,.ref e,.ref d,.ref m])) (h1_:H e=some (.lst (r.es.map V.str))) (h2_:cL H d r.ds) (h3_:H m=some (.lst (r.mo.map V.str)))
theorem aIg.same {H H':Hp}{t:Addr}{r:MR}(R:aIg H t r) (s:aO H H'):aIg H' t r:=by
 obtain⟨e,d,m,h0,h1,h2,h3⟩:=R;exact⟨e,d,m,s _ _ h0,s _ _ h1,h2.same s,s _ _ h3⟩
structure PlA (H:Hp) (p:Addr) (l:List MR):Prop where
 ex:∃ ts:List Addr,H p=some (.lst (ts.map V.ref))∧ts.length=l.length∧∀ (i:Nat) (t:Addr) (r:MR),ts[i]?=some t->l[i]?=some r->aIg H t r
theorem aJy {H:Hp}{p:Addr}{l:List (Int×Nat)}{ss:List Str}(h:oE H p l ss):PlA H p (l.map (wH ss)):=by
 obtain⟨ts,h0,h1,h2⟩:=h.ex;refine⟨ts,h0,by rw[List.length_map,h1],fun i t r a b=>?_⟩;rw[List.getElem?_map] at b;cases hx:l[i]? with
 | none=>rw[hx] at b; cases b
 | some x=>
  rw[hx] at b;cases b;obtain⟨e,d,m,r0,r1,r2,r3⟩:=h2 i t x a hx;exact⟨e,d,m,r0,r1,r2,r3⟩
theorem aPh {wk:List (Key×V)}{ss l:List Str}(hg:∀ z∈ss,cZ wk (.str z)=true) (h:∀ z∈l,z∈ss):(l.map V.str).all (cZ wk)=true:=List.all_eq_true.mpr fun y hy=>by
 obtain⟨z,hz,rfl⟩:=List.mem_map.mp hy;exact hg z (h z hz)
inductive rB (C CM:Addr) (vs:List V) (H:Hp) (Q:VK) (E:XK):Prop
 | mk (x p:Addr) (l:List MR) (ss:List Str) (wk:List (Key×V)) (h0_:vs=[.ref x,.ref p]) (h1_:WAt C H x wk) (h2_:PlA H p l) (h3_:l.length<=10) (h4_:aIf l ss) (h5_:∀ z∈ss,cZ wk (.str z)=true)
  (h6_:∀ (D:Addr) H',aO H H'->H D=none->jQ CM H' x D (l.map MR.mw)->Q (.ref D) H')
section
variable {P:Program}{w:World}{K:PySem.W.Frag}{mg:Str->Option Value}{base:Heap}
theorem aOf:aR ["_law_deeds","_law_plant"] ["_law_deeds","_law_plant"] (aB gF):=⟨rfl,rfl,rfl,by decide +kernel,rfl,by decide +kernel,by decide +kernel⟩
abbrev ndp:List Str:=["_law_begin","_law_ends","_law_doors","_law_more_here","_law_deeds"]
theorem wY {f fMI C CM:Addr}{fd fdMI:FuncData}(F:Fun K "_law_machines" "_law_machines" gF f fd)
  (GMI:aS P w K mg base (CXE P w) 4 fMI fdMI ["self","deeds","begin","ends","doors","more"] (uS K C CM)) (MMk:Mk K CM fMI) (bMI:aU K fdMI ["self","deeds","begin","ends","doors","more"] []) (mMa:mg "Machine" = some (.ref CM)) :
  aS P w K mg base CX0 6 f fd ["_law_deeds","_law_plant"] (rB C CM):=by
 refine F.ok aOf (fun vs H Q E h=>?_) (fun cdv A outer s H vs Q E hr h=>?_)
 ·obtain⟨x,p,l,ss,wk,rfl,_⟩:=h;rfl
 ·obtain⟨x,p,l,ss,wk,rfl,hW,hP,hl,hR,hg,q⟩:=h
  refine⟨_,aL (bS (gB (N':=ndp) (nown:=4) (js:=[0]) rfl
     ⟨rfl,by decide +kernel,by decide +kernel⟩ (cK (aB gF) ["_law_deeds","_law_plant"] rfl rfl (by decide +kernel))
     ⟨fun _ _ _ _=>show PG _ _ (vL K 4 (fY (eQ 0) (fY (eQ 1) (fY (eQ 2) (fY (eQ 3) vM))))) from eU rfl (aX (aP (i:=0) (show List.Nodup ndp by decide +kernel) rfl (Or.inl rfl) (.inr rfl)) (aX (aP (i:=1) (show List.Nodup ndp by decide +kernel) rfl (Or.inl rfl) (.inr rfl)) (aX (aP (i:=2) (show List.Nodup ndp by decide +kernel) rfl (Or.inl rfl) (.inr rfl)) (aX (aP (i:=3) (show List.Nodup ndp by decide +kernel) rfl (Or.inl rfl) (.inr rfl)) dL)))),
      fun _ _ _ _=>eN,fun _ _ _ _=>qG MMk GMI hr rfl mMa bMI .nil jN (pac (pv 4) (pac (pv 0) (pac (pv 1) (pac (pv 2) (pac (pv 3) aJ)))))⟩
     (dC (pv 1)))),?_⟩
  obtain⟨ts,h0,h1,h2⟩:=hP.ex;refine⟨_,rfl,p,rfl,⟨_,SqL.of h0⟩,fun D hD=>iV (xs:=ts.map V.ref) (fun i σ' H'=>∃ v0 v1 v2 v3,σ'=[v0,v1,v2,v3,some (.ref x)]∧jQ CM H' x D ((l.take i).map MR.mw)∧aO H H') ?_ ?_ ?_ ?_⟩
  ·exact⟨none,none,none,none,rfl,⟨[],aE,rfl,fun i X m z=>nomatch z⟩,smu hD⟩
  ·rintro i σ' H' _ ⟨v0,v1,v2,v3,rfl,a1,a2⟩;exact SqL.of (a2 _ _ h0)
  ·rintro i v σ' H' hv ⟨v0,v1,v2,v3,rfl,a1,a2⟩;rw[List.getElem?_map] at hv;cases ht:ts[i]? with
   | none=>rw[ht] at hv; cases hv
   | some t=>
    rw[ht] at hv;cases hv;have hi:i<l.length:=by rw[← h1]; exact (List.getElem?_eq_some_iff.mp ht).1
    have hx:=List.getElem?_eq_getElem hi;have hxm:l[i]∈l:=List.getElem_mem hi;generalize l[i]=cn at hx hxm;have RO:=hR cn hxm;obtain⟨e,d,m,r0,r1,r2,r3⟩:=(h2 i t cn ht hx).same a2;refine⟨t,_,rfl,SqT.of r0,rfl,_,_,rfl,_,_,rfl,_,_,rfl,_,_,rfl,rfl,_,rfl,_,rfl,_,rfl,_,rfl,_,rfl,fun X dX hX hdX _=>?_⟩;have k1:aO H' (upd (upd H' dX (.own X)) X (.ins CM dX [])):=fun b o' e'=>by rw[aH (aI e' hX),aH (aI e' hdX)]; exact e'
    refine⟨X,x,e,d,dX,cn.b,.ref m,cn.es,cn.mo,cn.ds,wk,rfl,aE,dQ hW (a2.trans k1),k1 _ _ r1,r2.same k1,.inr ⟨m,rfl,k1 _ _ r3⟩,RO.le,RO.nm,aPh hg RO.kn,fun z hz=>fX (hg z (RO.kn z hz)),RO.ap,by rw[aAo]; exact RO.ul,fun lM eM kM kvs g H5 sb M5=>⟨rfl,?_⟩⟩;have s5:aO H' H5:=fun b u e'=>sb b u (aI e' hX) (k1 b u e');obtain⟨Xs,b0,b1,b2⟩:=a1.ex;rw[List.length_map,List.length_take] at b1;have b05:=s5 _ _ b0;have en:(l.take (i+1)).map MR.mw=(l.take i).map MR.mw++[cn.mw]:=by rw[List.take_succ,hx,List.map_append]; rfl
    refine⟨_,b05,aW (by rw[List.length_map]; omega),_,_,_,_,rfl,⟨Xs++[X],by rw[aE,List.map_append]; rfl,by rw[en,List.length_append,List.length_append,b1,List.length_map,List.length_take]; rfl,fun j Y mw hY hm=>aIt ?_ (aAm b05)⟩,fun b o u=>?_⟩
    ·rw[en] at hm
     by_cases hj:j<Xs.length
     ·rw[List.getElem?_append_left hj] at hY;rw[List.getElem?_append_left (by rw[List.length_map,List.length_take]; omega)] at hm;exact (b2 j Y mw hY hm).same s5
     ·have hl':j=Xs.length:=by
       have:=(List.getElem?_eq_some_iff.mp hY).1
       rw[List.length_append] at this;simp only[List.length_cons,List.length_nil] at this;omega
      subst hl';rw[List.getElem?_append_right (Nat.le_refl _),Nat.sub_self] at hY;rw[List.getElem?_append_right (by rw[List.length_map,List.length_take]; omega),show Xs.length-((l.take i).map MR.mw).length=0 by rw[List.length_map,List.length_take]; omega] at hm;cases hY;cases hm;exact⟨dX,lM,eM,kM,kvs,g,M5⟩
    ·rw[aH (aI u hD)];exact s5 _ _ (a2 b o u)
  ·rintro σ' H' ⟨v0,v1,v2,v3,rfl,a1,a2⟩;rw[List.length_map,h1,List.take_length] at a1;exact q D H' a2 hD a1
end
end K24
namespace K24
open PySem L2 Ky
seal L2.PE L2.PS L2.PSs L2.PA L2.PT L2.PW L2.PG L2.PI L2.PTs L2.PO L2.OpR L2.IxR L2.CallR L2.MtM L2.MtR
unseal L2.MtM L2.MtR
theorem wW {ms:List MW}{room:List Str}{y:Str}{i:Nat}{m:MW}{z:Str}(hm:ms[i]?=some m) (hz:room[i]?=some z):(parts ms room y)[i]?=some (iT m.ds m.kn z y):=by
 unfold parts;rw[List.getElem?_zipWith,hm,hz]
end K24
namespace K24
open PySem L2 Ky
seal L2.PE L2.PS L2.PSs L2.PA L2.PT L2.PW L2.PG L2.PI L2.PTs L2.PO L2.OpR L2.IxR L2.CallR L2.MtM L2.MtR
unseal L2.MtM L2.MtR
def iC:List (List Str)->List (List Str)->List (List Str)
 | rs,[]=>rs
 | rs,r::fs=>iC (if r∈rs then rs else rs++[r]) fs
def gJ (F:List Str->List (List Str)):Nat->List (List Str)->Nat->List (List Str)
 | 0,rs,_=>rs
 | n+1,rs,i=>if i<rs.length∧rs.length<=60 then gJ F n (iC rs (F (rs.getD i []))) (i+1) else rs
theorem uI {F:List Str->List (List Str)}{n i:Nat}{rs:List (List Str)}(h:¬ (i<rs.length∧rs.length<=60)):gJ F n rs i=rs:=by
 cases n with
 | zero=>rfl
 | succ n=>unfold gJ; rw[if_neg h]
theorem aHz {F:List Str->List (List Str)}{i:Nat}{rs:List (List Str)}{r:List Str}(h1:rs[i]?=some r) (h2:rs.length<=60):gJ F (61-i) rs i=gJ F (61-(i+1)) (iC rs (F r)) (i+1):=by
 have hi:=(List.getElem?_eq_some_iff.mp h1).1;rw[show 61-i=(61-(i+1))+1 by omega];show (if _ then _ else _)=_
 rw[if_pos ⟨hi,h2⟩,List.getD_eq_getElem?_getD,h1];rfl
theorem uP:∀ {fs rs:List (List Str)}{r:List Str},iC rs (fs++[r])=if r∈iC rs fs then iC rs fs else iC rs fs++[r]
 | [],_,_=>rfl
 | _::fs,_,_=>uP (fs:=fs)
theorem xT:∀ {fs rs:List (List Str)},(iC rs fs).length<=rs.length+fs.length
 | [],_=>Nat.le_refl _
 | r::fs,rs=>by
  refine Nat.le_trans (xT (fs:=fs)) ?_;rw[List.length_cons]
  by_cases h:r∈rs
  ·rw[if_pos h]; omega
  ·rw[if_neg h,List.length_append,List.length_singleton]; omega
theorem sJ:∀ {fs rs:List (List Str)}{r:List Str},r∈iC rs fs->r∈rs∨r∈fs
 | [],_,_,h=>.inl h
 | x::fs,rs,r,h=>by
  rcases sJ (fs:=fs) h with h | h
  ·by_cases q:x∈rs
   ·rw[if_pos q] at h; exact .inl h
   ·rw[if_neg q] at h;rcases List.mem_append.mp h with h | h
    ·exact .inl h
    ·exact .inr (by rw[List.mem_singleton.mp h]; exact List.mem_cons_self ..)
  ·exact .inr (List.mem_cons_of_mem _ h)
structure sK (H:Hp) (l:Addr) (fs:List (Str×List Str)):Prop where
 ex:∃ ts:List Addr,H l=some (.lst (ts.map V.ref))∧ts.length=fs.length∧∀ (i:Nat) (t:Addr) (p:Str×List Str),ts[i]?=some t->fs[i]?=some p->∃ u,H t=some (.tup [.str p.1,.ref u])∧H u=some (.tup (p.2.map V.str))
theorem sK.same {H H':Hp}{l:Addr}{fs:List (Str×List Str)}(M:sK H l fs) (s:aO H H'):sK H' l fs:=by
 obtain⟨qs,h0,h1,h2⟩:=M.ex;exact⟨qs,s _ _ h0,h1,fun i q m a b=>let ⟨u,x,y⟩:=h2 i q m a b; ⟨u,s _ _ x,s _ _ y⟩⟩
def aGb (H:Hp) (fs:List (Str×List Str)) (Q:VK):Prop:=∀ (l:Addr) H',aO H H'->H l=none->sK H' l fs->Q (.ref l) H'
def cV (ms:List MW) (ts:List Str) (room:List Str):List (Str×List Str):=ts.map fun z=>(z,(wto ms room z).getD [])
def iM (ms:List MW) (S:List Str) (room:List Str):List Str:=S.filter fun z=>(wto ms room z).isSome
theorem aAu {ms:List MW}{room:List Str}:∀ (S:List Str),(cV ms (iM ms S room) room).map (·.2)=S.filterMap (wto ms room)
 | []=>rfl
 | z::S=>by
  have ih:=aAu (ms:=ms) (room:=room) S;unfold iM cV at ih ⊢;cases h:wto ms room z with
  | none=>rw[List.filter_cons_of_neg (by rw[h]; simp),List.filterMap_cons_none h]; exact ih
  | some r=>rw[List.filter_cons_of_pos (by rw[h]; rfl),List.filterMap_cons_some h,List.map_cons,List.map_cons,ih,h]; rfl
theorem aDc {ms:List MW}{room:List Str}{z:Str}(h:(wto ms room z).isSome=true):z∈wkn ms:=by
 unfold wto at h
 by_cases q:z∈wkn ms
 ·exact q
 ·rw[if_neg q] at h; cases h
inductive qC (K:PySem.W.Frag) (C CM CW:Addr) (vs:List V) (H:Hp) (Q:VK) (E:XK):Prop
 | mk (v x t:Addr) (ms:List MW) (room S:List Str) (wk:List (Key×V)) (h0_:vs=[.ref v,.ref t]) (h1_:Wv CM CW H v x ms) (h2_:H t=some (.tup (room.map V.str))) (h3_:ROk ms room) (h4_:1<=ms.length∧ms.length<=100) (h5_:WAt C H x wk) (h6_:∀ z∈wkn ms,z∈S) (h7_:S.length<64) (h8_:∀ z∈S,cZ wk (.str z)=true)
  (h9_:PyProof.Rows.sortedS S=true) (h10_:S.Nodup) (h11_:aGb H (cV ms (iM ms S room) room) Q)
section
variable {P:Program}{w:World}{K:PySem.W.Frag}{mg:Str->Option Value}{base:Heap}
theorem aNv:aR ["self","room"] ["self","room"] (aB qS):=⟨rfl,rfl,rfl,by decide +kernel,rfl,by decide +kernel,by decide +kernel⟩
theorem aEq {f fA fT C CM CW cD:Addr}{fd fdA fdT:FuncData}(F:Fun K "ways" "Woven.ways" qS f fd) (WC:pP K CW)
  (GA:aS P w K mg base CX0 5 fA fdA ["self","room"] (aDn K C CM CW)) (bA:aU K fdA ["self","room"] []) (mA:cU K CW "at" fA)
  (GT:aS P w K mg base (CXE P w) 4 fT fdT ["self","room","deed"] (tJ K C CM CW cD)) (bT:aU K fdT ["self","room","deed"] []) (mT:cU K CW "to" fT) :
  aS P w K mg base CX0 6 f fd ["self","room"] (qC K C CM CW):=by
 refine F.ok aNv (fun vs H Q E h=>?_) (fun cdv A outer s H vs Q E hr h=>?_)
 ·obtain⟨v,x,t,ms,room,S,wk,rfl,_⟩:=h;rfl
 ·obtain⟨v,x,t,ms,room,S,wk,rfl,W,hT,R,hl,hW,hN,h64,hg,so,nd,q⟩:=h
  refine⟨_,aL (bS (gB (N':=ndw) (nown:=1) (js:=[0,1]) rfl
     ⟨rfl,by decide +kernel,by decide +kernel⟩ (cK (aB qS) ["self","room"] rfl rfl (by decide +kernel))
     ⟨fun _ _ _ _=>aP (i:=0) (show List.Nodup ndw by decide +kernel) rfl (Or.inl rfl) (.inr rfl),fun _ _ _ _=>eN,
      fun _ _ _ _=>rJ (pac (pv 0) (pac (cM (pv 1) WC.cl mT GT (hr.mono (by decide)) bT .nil jN (pac (pv 2) (pac (pv 0) aJ))) aJ))⟩
     (dC (cM (pv 0) WC.cl mA GA hr bA .nil bU (pac (pv 1) aJ))))),?_⟩
  obtain⟨dv,lm,lk,kn,hi,M,hk,hkn⟩:=id W;refine⟨_,rfl,v,dv,_,rfl,hi,cE _ _ _ (by decide),_,rfl,v,x,t,ms,room,S,wk,rfl,W,SqT.of hT,R,hl,hW,hN,h64,hg,fun l ts H2 s2 n2 g2 S2=>⟨l,rfl,⟨_,SqL.of g2⟩,fun D hD=>?_⟩⟩;have ets:ts=iM ms S room:=S2.one (q:=fun z=>z∈S∧(wto ms room z).isSome=true) ⟨lK so,nd.filter _,fun z=>List.mem_filter⟩ fun z=>⟨fun h=>⟨hN z h.1,h.2⟩,fun h=>⟨aDc h.2,h.2⟩⟩;rw[← ets] at q;have lts:ts.length<64:=Nat.lt_of_le_of_lt (by rw[ets]; exact List.length_filter_le ..) h64;refine iV (xs:=ts.map V.str) (fun i σ' H'=>∃ v0,σ'=[v0,some (.ref v),some (.ref t)]∧sK H' D (cV ms (ts.take i) room)∧aO H2 H') ?_ ?_ ?_ ?_
  ·exact⟨none,rfl,⟨[],aE,rfl,fun i t p z=>nomatch z⟩,smu hD⟩
  ·rintro i σ' H' _ ⟨v0,rfl,a1,a2⟩;exact SqL.of (a2 _ _ g2)
  ·rintro i u σ' H' hv ⟨v0,rfl,a1,a2⟩;rw[List.getElem?_map] at hv;cases hz:ts[i]? with
   | none=>rw[hz] at hv; cases hv
   | some z=>
    rw[hz] at hv;cases hv;have sA:=s2.trans a2;have hzk:=(S2.mem z).mp (List.mem_of_getElem? hz);have gz:=hg z (hN z hzk.1);refine⟨_,rfl,_,rfl,v,dv,_,rfl,sA _ _ hi,cE _ _ _ (by decide),_,rfl,_,rfl,v,x,t,.str z,ms,room,wk,rfl,W.same sA,SqT.of (sA _ _ hT),R,hl,dQ hW sA,.inl ⟨z,rfl,fX gz⟩,fun _ u' eu=>?_,fun bad=>absurd (gz.symm.trans bad) (by decide)⟩;cases eu;cases ho:wto ms room z with
    | none=>rw[ho] at hzk; cases hzk.2
    | some ss=>
     intro l3 H3 s3 n3 e3;refine⟨by show 2<=sizeLine; decide,fun tt htt=>?_⟩;have s4:=s3.trans (smu (o:=.tup [.str z,.ref l3]) htt);have e3':=smu (o:=.tup [.str z,.ref l3]) htt _ _ e3;have eT:(upd H3 tt (.tup [.str z,.ref l3])) tt=some (.tup [.str z,.ref l3]):=aE;generalize upd H3 tt (.tup [.str z,.ref l3])=H4 at s4 e3' eT ⊢;obtain⟨us,b0,b1,b2⟩:=(a1.same s4).ex;have ew:cV ms (ts.take (i+1)) room=cV ms (ts.take i) room++[(z,ss)]:=by unfold cV; rw[List.take_succ,hz,List.map_append,Option.toList_some,List.map_singleton,ho]; rfl
     have lw:(cV ms (ts.take i) room).length<=63:=by unfold cV; rw[List.length_map,List.length_take]; omega
     refine⟨_,b0,aW (by rw[List.length_map]; omega),_,rfl,⟨us++[tt],by rw[aE,List.map_append]; rfl,by rw[ew,List.length_append,List.length_append,b1]; rfl,fun j y p hy hp=>?_⟩,fun b o e=>?_⟩
     ·have nt:∀ {b:Addr}{xs:List V},H4 b=some (.tup xs)->(upd H4 D (.lst (us.map V.ref++[.ref tt]))) b=some (.tup xs):=fun {b xs} e=>by
       rw[aH (fun z=>by rw[z,b0] at e; cases e)];exact e
      rw[ew] at hp
      by_cases hj:j<us.length
      ·rw[List.getElem?_append_left hj] at hy;rw[List.getElem?_append_left (by omega)] at hp;obtain⟨u,k1,k2⟩:=b2 j y p hy hp;exact⟨u,nt k1,nt k2⟩
      ·have hl':j=us.length:=by
        have:=(List.getElem?_eq_some_iff.mp hy).1
        rw[List.length_append] at this;simp only[List.length_cons,List.length_nil] at this;omega
       subst hl';rw[List.getElem?_append_right (Nat.le_refl _),Nat.sub_self] at hy;rw[b1,List.getElem?_append_right (Nat.le_refl _),Nat.sub_self] at hp;cases hy;cases hp;exact⟨l3,nt eT,nt e3'⟩
     ·rw[aH (aI e hD)];exact s4 _ _ (a2 b o e)
  ·rintro σ' H' ⟨v0,rfl,a1,a2⟩;rw[List.length_map,List.take_length] at a1;exact q D H' (s2.trans a2) (s2.free hD) a1
end
end K24
namespace K24
open PySem L2 Ky
seal L2.PE L2.PS L2.PSs L2.PA L2.PT L2.PW L2.PG L2.PI L2.PTs L2.PO L2.OpR L2.IxR L2.CallR L2.MtM L2.MtR
unseal L2.MtM L2.MtR
inductive wA (cT:Addr) (df:Addr) (spD:Sp) (vs:List V) (H:Hp) (Q:VK) (E:XK):Prop
 | mk (t:Addr) (b:List Str) (Fp:List Str->List (Str×List Str)) (Ok:List Str->Prop) (h0_:vs=[.ref t,.ref df,.int 60]) (h1_:H t=some (.tup (b.map V.str))) (h2_:Ok b) (h3_:∀ r,Ok r->∀ p∈Fp r,Ok p.2) (h4_:∀ r,Ok r->(Fp r).length<=64)
  (h5_:∀ (r:List Str) (t':Addr) H' Q',aO H H'->Ok r->H' t'=some (.tup (r.map V.str))->aGb H' (Fp r) Q'->spD [.ref t'] H' Q' E)
  (h6_:(gJ (fun r=>(Fp r).map (·.2)) 61 [b] 0).length<=60->∀ (d:Addr) (kvs:List (List Key×V)) H',aO H H'->H d=none->H' d=some (.dT kvs)->kvs.map (·.1)=(gJ (fun r=>(Fp r).map (·.2)) 61 [b] 0).map (fun r=>r.map Sum.inr)->Q (.ref d) H')
  (h7_:60<(gJ (fun r=>(Fp r).map (·.2)) 61 [b] 0).length->∀ H',aO H H'->E (.ref cT) none H')
inductive wE (cT:Addr) (df:Addr) (spD:Sp) (vs:List V) (H:Hp) (Q:VK) (E:XK):Prop
 | mk (t:Addr) (b:List Str) (Fp:List Str->List (Str×List Str)) (Ok:List Str->Prop) (h0_:vs=[.ref t,.ref df,.int 60]) (h1_:H t=some (.tup (b.map V.str))) (h2_:Ok b) (h3_:∀ r,Ok r->∀ p∈Fp r,Ok p.2) (h4_:∀ r,Ok r->(Fp r).length<=64)
  (h5_:∀ (r:List Str) (t':Addr) H' Q',aO H H'->Ok r->H' t'=some (.tup (r.map V.str))->aGb H' (Fp r) Q'->spD [.ref t'] H' Q' E)
  (h6_:(gJ (fun r=>(Fp r).map (·.2)) 61 [b] 0).length<=60->∀ (l:Addr) (bs:List Addr) H',aO H H'->H l=none->H' l=some (.lst (bs.map V.ref))->lJ H' bs (gJ (fun r=>(Fp r).map (·.2)) 61 [b] 0)->Q (.ref l) H')
  (h7_:60<(gJ (fun r=>(Fp r).map (·.2)) 61 [b] 0).length->∀ H',aO H H'->E (.ref cT) none H')
structure RT (H H':Hp) (d R:Addr) (rs:List (List Str)) (n:Nat):Prop where
 ex:∃ (kvs:List (List Key×V)) (bs:List Addr),H' d=some (.dT kvs)∧kvs.map (·.1)=rs.map (fun r=>r.map Sum.inr)∧H' R=some (.lst (bs.map V.ref))∧lJ H' bs rs∧∀ kv∈kvs,∃ (l:Addr) (row:List Str),kv.2=.ref l∧H' l=some (.lst (row.map V.str))∧row.length<=n∧l≠R
 sm:aO H H'
 nd:H d=none
 nR:H R=none
theorem vI:∀ {ss ts:List Str},ss.map (Sum.inr:Str->Key)=ts.map Sum.inr->ss=ts
 | [],[],_=>rfl
 | [],_::_,h=>by cases h
 | _::_,[],h=>by cases h
 | a::ss,b::ts,h=>by
  have h':=List.cons.inj h;rw[Sum.inr.inj h'.1,vI h'.2]
theorem vH {kvs:List (List Key×V)}{rs:List (List Str)}(h:kvs.map (·.1)=rs.map (fun r=>r.map Sum.inr)) (r:List Str):(dB kvs (r.map Sum.inr)).isSome=decide (r∈rs):=by
 rw[← fZ,Bool.eq_iff_iff,List.any_eq_true,decide_eq_true_iff];constructor
 ·rintro⟨x,hx,e⟩
  have:x.1∈kvs.map (·.1):=List.mem_map.mpr ⟨x,hx,rfl⟩
  rw[h,of_decide_eq_true e] at this;obtain⟨y,hy,ey⟩:=List.mem_map.mp this;rw[← vI ey];exact hy
 ·intro hr
  have:r.map Sum.inr∈kvs.map (·.1):=by rw[h]; exact List.mem_map.mpr ⟨r,hr,rfl⟩
  obtain⟨x,hx,e⟩:=List.mem_map.mp this;exact⟨x,hx,decide_eq_true e⟩
theorem aAf {kvs:List (List Key×V)}{k:List Key}{v:V}(h:(dB kvs k).isSome=false):eV kvs k v=kvs++[(k,v)]:=by
 unfold eV;rw[fZ,h];rfl
theorem hZ (r:List Str):(r.map Sum.inr).map kV=r.map V.str:=by rw[List.map_map]; rfl
theorem aGu {kvs:List (List Key×V)}{rs:List (List Str)}{Pv:V->Prop}(h:kvs.map (·.1)=rs.map (fun r=>r.map Sum.inr)) (h5:∀ kv∈kvs,Pv kv.2){r:List Str}(hr:r∈rs):∃ v,dB kvs (r.map Sum.inr)=some v∧Pv v:=by
 have e:=vH h r;rw[decide_eq_true hr] at e;obtain⟨v,hv⟩:=Option.isSome_iff_exists.mp e;refine⟨v,hv,?_⟩;unfold dB at hv;obtain⟨kv,hf,rfl⟩:=Option.map_eq_some_iff.mp hv;exact h5 kv (List.mem_of_find?_eq_some hf)
theorem kX:∀ {fs rs:List (List Str)}{r:List Str},r∈rs->r∈iC rs fs
 | [],_,_,h=>h
 | x::fs,rs,r,h=>kX (fs:=fs) (by
  by_cases q:x∈rs
  ·rw[if_pos q]; exact h
  ·rw[if_neg q]; exact List.mem_append_left _ h)
theorem qM:∀ {fs rs:List (List Str)},rs.length<=(iC rs fs).length
 | [],_=>Nat.le_refl _
 | x::fs,rs=>Nat.le_trans (by
  by_cases q:x∈rs
  ·rw[if_pos q]; exact Nat.le_refl _
  ·rw[if_neg q,List.length_append]; omega) (qM (fs:=fs))
theorem RT.same {H H' H2:Hp}{d R:Addr}{rs:List (List Str)}{n:Nat}(h:RT H H' d R rs n) (s:aO H' H2):RT H H2 d R rs n:=by
 obtain⟨⟨kvs,bs,e1,e2,e3,e4,e5⟩,sm,nd,nR⟩:=h;exact⟨⟨kvs,bs,s _ _ e1,e2,s _ _ e3,e4.same fun b xs e=>s _ _ e,fun kv hk=>let ⟨l,row,k1,k2,k3,k4⟩:=e5 kv hk; ⟨l,row,k1,s _ _ k2,k3,k4⟩⟩,sm.trans s,nd,nR⟩
theorem RT.more {H H':Hp}{d R:Addr}{rs:List (List Str)}{n m:Nat}(h:RT H H' d R rs n) (hm:n<=m):RT H H' d R rs m:=by
 obtain⟨⟨kvs,bs,e1,e2,e3,e4,e5⟩,sm,nd,nR⟩:=h;exact⟨⟨kvs,bs,e1,e2,e3,e4,fun kv hk=>let ⟨l,row,k1,k2,k3,k4⟩:=e5 kv hk; ⟨l,row,k1,k2,Nat.le_trans k3 hm,k4⟩⟩,sm,nd,nR⟩
section
variable {P:Program}{w:World}{K:PySem.W.Frag}{mg:Str->Option Value}{base:Heap}
abbrev NRT:List Str:=["begin","doors","most","rows","rooms","place","room","deed","far"]
theorem wG:aR NRT ["begin","doors","most"] (aB kZ):=⟨rfl,rfl,rfl,by decide +kernel,rfl,by decide +kernel,by decide +kernel⟩
theorem aBy {f cT:Addr}{fd:FuncData}{kd:Nat}(F:Fun K "rows_to" "rows_to" kZ f fd) (T:Txt K mg) (mTM:mg "TooMany" = some (.ref cT)) (xTM:xW K cT) :
  sL P w K mg base (kd+1) f fd ["begin","doors","most"] (SpH P w K mg base kd (wA cT)):=by
 refine okS F wG (fun o s vs H Q E h=>?_) (fun cdv A outer s H vs Q E hr h D=>?_)
 ·obtain⟨df,spD,_,t,b,Fp,Ok,rfl,_⟩:=h;rfl
 ·obtain⟨df,spD,hd,t,b,Fp,Ok,rfl,hT,hok,h3,h4,h5,q6,q7⟩:=h;have hu:=iS hr
  refine⟨_,aK (bO (i:=3) wG.nd rfl (Or.inl rfl) (aEj (Nat.lt_of_succ_lt hu) (pv 0) (dD aJ)))
   (aK (bO (i:=4) wG.nd rfl (Or.inl rfl) (dD (pac (pv 0) aJ)))
   (aK (bO (i:=5) wG.nd rfl (Or.inl rfl) aN)
   (aK (aEd PassesOwn.leaving (bY aEp (pv 5) (cX dF (by rfl) T.len Bo.len (pac (pv 4) aJ)) (cH _))
    (aK (bO (i:=6) wG.nd rfl (Or.inl rfl) (eW cY (pv 4) (pv 5) (fun _ _=>rfl)))
    (aK (dS PassesOwn.leaving rfl (dC (aBp (i:=1) (sp:=spD) (E:=E) rfl (by rfl) (D.passes fun _ _ _ z=>z) hr (fun _ _ _ _ I=>hd.later (aIy I)) (pv 6))) (eU rfl (aX (aP (i:=7) wG.nd rfl (Or.inl rfl)) (aX (aP (i:=8) wG.nd rfl (Or.inl rfl)) dL)))
     (aL (dJ (oZ (pA hu (pv 8) (pv 3)))
      (aK (jC hu (pv 3) (pv 8) (aY yJ (iG hu (pv 3) (pv 6) (fun _ _=>rfl)) (dD (pac (pv 7) aJ))) rfl)
      (aL (dI (lN PySem.F.plainAttrs_list PySem.F.slot_list_append PySem.F.type_list_append fU (pv 4) (pac (pv 8) aJ))))) cF)))
    (aK (dJ (bY rM (cX dF (by rfl) T.len Bo.len (pac (pv 4) aJ)) (pv 2) (cH _)) (aL (gN D rfl (by rfl) mTM xTM (pac (wU bX (aAk (pv 2)) bX) aJ))) cF)
    (aL (bO (i:=5) wG.nd rfl (Or.inl rfl) (aY dU (pv 5) aN)))))))
   (aL (bS (pv 3)))))),?_⟩
  intro d hd0;refine⟨_,rfl,by show 0<=sizeLine; decide,fun l0 hl0=>?_⟩;have dl0:d≠l0:=fun z=>by rw[← z,aE] at hl0; cases hl0
  have k1:aO H (upd (upd H d (.dT [])) l0 (.lst [])):=(smu hd0).trans (smu hl0);have nl0:H l0=none:=(smu hd0).free hl0;have ed:(upd (upd H d (.dT [])) l0 (.lst [])) d=some (.dT []):=by rw[aH dl0,aE]
  have el:(upd (upd H d (.dT [])) l0 (.lst [])) l0=some (.lst []):=aE;generalize upd (upd H d (.dT [])) l0 (.lst [])=H1 at k1 ed el ⊢;refine⟨ed,t,b.map Sum.inr,rfl,by rw[hZ]; exact k1 _ _ hT,?_⟩;have k2:aO H (upd H1 d (.dT [(b.map Sum.inr,.ref l0)])):=fun c o e=>by rw[aH (aI e hd0)]; exact k1 _ _ e
  have ed2:(upd H1 d (.dT [(b.map Sum.inr,.ref l0)])) d=some (.dT [(b.map Sum.inr,.ref l0)]):=aE;have el2:(upd H1 d (.dT [(b.map Sum.inr,.ref l0)])) l0=some (.lst []):=by rw[aH (Ne.symm dl0)]; exact el
  generalize upd H1 d (.dT [(b.map Sum.inr,.ref l0)])=H2 at k2 ed2 el2 ⊢;refine⟨_,rfl,by show 1<=sizeLine; decide,fun R hR=>?_⟩;have k3:aO H2 (upd H2 R (.lst [.ref t])):=smu hR;have eR:(upd H2 R (.lst [.ref t])) R=some (.lst ([t].map V.ref)):=aE;have nR:H R=none:=k2.free hR;have lR:l0≠R:=fun z=>by rw[z,hR] at el2; cases el2
  generalize upd H2 R (.lst [.ref t])=H3 at k3 eR ⊢;have rt0:RT H H3 d R [b] 0:=⟨⟨_,[t],k3 _ _ ed2,rfl,eR,.cons ((k2.trans k3) _ _ hT) .nil,fun kv hk=>⟨l0,[],by rw[List.mem_singleton.mp hk],k3 _ _ el2,Nat.le_refl _,lR⟩⟩,k2.trans k3,hd0,nR⟩;clear k1 ed el k2 ed2 el2 k3 eR hR hl0 nl0;generalize hF:(fun r=>(Fp r).map (·.2))=Fr at *;have hFr:∀ r,Fr r=(Fp r).map (·.2):=fun r=>by rw[← hF]
  clear hF
  refine⟨fun m σ H'=>∃ (i:Nat) (rs:List (List Str)) (x6 x7 x8:Option V),m=61-i∧σ=[some (.ref t),some (.ref df),some (.int 60),some (.ref d),some (.ref R),some (.int i),x6,x7,x8]∧RT H H' d R rs (64*i)∧i<=rs.length∧rs.length<=60∧(∀ r∈rs,Ok r)∧gJ Fr 61 [b] 0=gJ Fr (61-i) rs i,
   ⟨61,0,[b],none,none,none,rfl,rfl,rt0,Nat.zero_le _,(by show 1<=60; decide),fun r hr=>by rw[List.mem_singleton.mp hr]; exact hok,rfl⟩,?_⟩
  rintro m σ H' ⟨i,rs,x6,x7,x8,rfl,rfl,rt,hi,h60,hOk,hc⟩;obtain⟨⟨kvs,bs,e1,e2,e3,e4,e5⟩,sm,nd,_⟩:=id rt;have lbs:bs.length=rs.length:=Paired.length e4;refine⟨_,rfl,_,rfl,R,_,rfl,.inl (SqL.of e3),_,_,rfl,rfl,_,rfl,dY (fun hlt=>?_) (fun hge=>?_)⟩
  rotate_left
  ·have hin:¬ i<rs.length:=fun z=>hge (decide_eq_true (by rw[List.length_map]; omega));rw[uI (fun z=>hin z.1)] at hc;rw[hc] at q6;exact⟨_,rfl,q6 h60 d kvs H' sm nd e1 e2⟩
  ·have hil:i<rs.length:=by have:=of_decide_eq_true hlt; rw[List.length_map] at this; omega
   have hb:=List.getElem?_eq_getElem (l:=bs) (i:=i) (by omega);generalize bs[i]'(by omega)=tr at hb;obtain⟨r,hrs,htr⟩:=e4.get hb;have hrm:r∈rs:=List.mem_of_getElem? hrs;have okr:=hOk r hrm;have hc':=hc.trans (aHz hrs h60);rw[hFr] at hc';have h4r:=h4 r okr;refine⟨_,fun _ _ h=>h,?_⟩;refine⟨_,rfl,_,rfl,R,_,_,.ref tr,rfl,rfl,SqL.of e3,jK (by rw[List.getElem?_map,hb]; rfl),?_⟩;refine⟨rfl,_,rfl,h5 r tr H' _ sm okr htr fun l H2 s2 n2 W=>?_⟩;obtain⟨ts,w0,w1,w2⟩:=W.ex;have ld:l≠d:=fun z=>by rw[z,e1] at n2; cases n2
   have lR:l≠R:=fun z=>by rw[z,e3] at n2; cases n2
   have d2:=s2 _ _ e1;have R2:=s2 _ _ e3;have t2:=s2 _ _ htr;refine⟨l,rfl,⟨_,SqL.of w0⟩,?_⟩;refine dN (xs:=ts.map V.ref) (fun j σ H3=>∃ x7 x8:Option V,σ=[some (.ref t),some (.ref df),some (.int 60),some (.ref d),some (.ref R),some (.int i),some (.ref tr),x7,x8]∧RT H H3 d R (iC rs (((Fp r).take j).map (·.2))) (64*i+j)∧∀ b o,H2 b=some o->b≠d->b≠R->H3 b=some o) ?_ ?_ ?_ ?_
   ·exact⟨_,_,rfl,rt.same s2,fun b o e _ _=>e⟩
   ·rintro j σ H3 _ ⟨x7,x8,rfl,rt3,a2⟩;exact SqL.of (a2 _ _ w0 ld lR)
   ·rintro j v σ H3 hv ⟨x7,x8,rfl,rt3,a2⟩;rw[List.getElem?_map] at hv;cases hy:ts[j]? with
    | none=>rw[hy] at hv; cases hv
    | some y=>
     rw[hy] at hv;cases hv;have hj:j<(Fp r).length:=by rw[← w1]; exact (List.getElem?_eq_some_iff.mp hy).1
     have hz:=List.getElem?_eq_getElem hj;generalize (Fp r)[j]=z at hz;obtain⟨u,w3,w4⟩:=w2 j y z hy hz;have w3':=a2 _ _ w3 (eP w3 d2 (fun z=>nomatch z)) (eP w3 R2 (fun z=>nomatch z));have w4':=a2 _ _ w4 (eP w4 d2 (fun z=>nomatch z)) (eP w4 R2 (fun z=>nomatch z));have t3:=a2 _ _ t2 (eP t2 d2 (fun z=>nomatch z)) (eP t2 R2 (fun z=>nomatch z));have etk:((Fp r).take (j+1)).map (·.2)=((Fp r).take j).map (·.2)++[z.2]:=by rw[List.take_succ,hz,List.map_append]; rfl
     have hr3:r∈iC rs (((Fp r).take j).map (·.2)):=kX hrm;have rlen:(iC rs (((Fp r).take j).map (·.2))).length<=200:=by have:=xT (rs:=rs) (fs:=((Fp r).take j).map (·.2)); rw[List.length_map,List.length_take] at this; omega
     rw[etk,uP];generalize iC rs (((Fp r).take j).map (·.2))=rs3 at rt3 hr3 rlen;obtain⟨⟨kvs3,bs3,f1,f2,f3,f4,f5⟩,sm3,_,nR3⟩:=id rt3;have kl:kvs3.length=rs3.length:=by have:=congrArg List.length f2; rw[List.length_map,List.length_map] at this; exact this
     have bl:bs3.length=rs3.length:=Paired.length f4;refine⟨y,_,rfl,SqT.of w3',rfl,_,_,rfl,_,_,rfl,rfl,?_⟩;refine⟨_,rfl,_,rfl,d,_,rfl,eX.t (k:=z.2.map Sum.inr) f1 (by rw[hZ]; exact w4'),_,rfl,?_⟩;rw[vH f2]
     by_cases hm:z.2∈rs3
     ·rw[decide_eq_true hm];refine gH ⟨_,_,rfl,?_,a2⟩;rw[if_pos hm];exact rt3.more (by omega)
     ·rw[decide_eq_false hm,if_neg hm];obtain⟨v,hv,lr,row,rfl,hrow,hle,hne⟩:=aGu (Pv:=fun v=>∃ (l:Addr) (row:List Str),v=.ref l∧H3 l=some (.lst (row.map V.str))∧row.length<=64*i+j∧l≠R) f2 f5 hr3;have g1:=eX.t (k:=r.map Sum.inr) f1 (b:=tr) (by rw[hZ]; exact t3);rw[hv] at g1;refine jI ⟨_,rfl,_,rfl,d,_,rfl,g1,_,rfl,by show 1<=sizeLine; decide,fun l1 hl1=>⟨lr,l1,_,_,rfl,rfl,smu hl1 _ _ hrow,aE,oS (by rw[List.length_map]; simp only[List.length_cons,List.length_nil]; omega),fun l2 hl2=>?_⟩⟩;have s5:aO H3 (upd (upd H3 l1 (.lst [.str z.1])) l2 (.lst (row.map V.str++[.str z.1]))):=(smu hl1).trans (smu hl2);have e5l:(upd (upd H3 l1 (.lst [.str z.1])) l2 (.lst (row.map V.str++[.str z.1]))) l2=some (.lst ((row++[z.1]).map V.str)):=by rw[aE,List.map_append]; rfl
      have nl2:H3 l2=none:=(smu hl1).free hl2;generalize upd (upd H3 l1 (.lst [.str z.1])) l2 (.lst (row.map V.str++[.str z.1]))=H5 at s5 e5l ⊢;have l2d:l2≠d:=fun z=>by rw[z,f1] at nl2; cases nl2
      have l2R:l2≠R:=fun z=>by rw[z,f3] at nl2; cases nl2
      have Rd:R≠d:=eP f3 f1 (fun z=>nomatch z);refine⟨_,rfl,_,rfl,d,_,rfl,pR.t (k:=z.2.map Sum.inr) (s5 _ _ f1) (by rw[hZ]; exact s5 _ _ w4') (aW (by omega)),?_⟩;rw[aAf (by rw[vH f2,decide_eq_false hm])];have h6R:(upd H5 d (.dT (kvs3++[(z.2.map Sum.inr,.ref l2)]))) R=some (.lst (bs3.map V.ref)):=by rw[aH Rd]; exact s5 _ _ f3
      refine⟨_,rfl,.inl ⟨rfl,_,SqL.of h6R⟩,_,rfl,R,_,_,rfl,rfl,h6R,aW (by rw[List.length_map]; omega),?_⟩;have k7:∀ b o,H5 b=some o->b≠d->b≠R->(upd (upd H5 d (.dT (kvs3++[(z.2.map Sum.inr,.ref l2)]))) R (.lst (bs3.map V.ref++[.ref u]))) b=some o:=fun b o e n1 n2=>by rw[aH n2,aH n1]; exact e
      have d7:(upd (upd H5 d (.dT (kvs3++[(z.2.map Sum.inr,.ref l2)]))) R (.lst (bs3.map V.ref++[.ref u]))) d=some (.dT (kvs3++[(z.2.map Sum.inr,.ref l2)])):=by rw[aH (Ne.symm Rd),aE]
      have R7:(upd (upd H5 d (.dT (kvs3++[(z.2.map Sum.inr,.ref l2)]))) R (.lst (bs3.map V.ref++[.ref u]))) R=some (.lst ((bs3++[u]).map V.ref)):=by rw[aE,List.map_append]; rfl
      generalize upd (upd H5 d (.dT (kvs3++[(z.2.map Sum.inr,.ref l2)]))) R (.lst (bs3.map V.ref++[.ref u]))=H7 at k7 d7 R7 ⊢;have tk:∀ b xs,H3 b=some (.tup xs)->H7 b=some (.tup xs):=fun b xs e=>k7 _ _ (s5 _ _ e) (eP e f1 (fun z=>nomatch z)) (eP e f3 (fun z=>nomatch z));refine⟨_,_,rfl,⟨⟨_,bs3++[u],d7,by rw[List.map_append,List.map_append,f2]; rfl,R7,lJ.snoc (f4.same tk) (tk _ _ w4'),fun kv hk=>?_⟩,fun b o e=>k7 _ _ (s5 _ _ (sm3 _ _ e)) (aI e nd) (aI e nR3),nd,nR3⟩,fun b o e n1 n2=>k7 _ _ (s5 _ _ (a2 _ _ e n1 n2)) n1 n2⟩;rcases List.mem_append.mp hk with hk | hk
      ·obtain⟨l',row',q1,q2,q3,q4⟩:=f5 kv hk;exact⟨l',row',q1,k7 _ _ (s5 _ _ q2) (eP q2 f1 (fun z=>nomatch z)) q4,by omega,q4⟩
      ·rw[List.mem_singleton.mp hk];exact⟨l2,row++[z.1],rfl,k7 _ _ e5l l2d l2R,by rw[List.length_append,List.length_singleton]; omega,l2R⟩
   ·rintro σ H3 ⟨x7,x8,rfl,rt3,a2⟩;rw[List.length_map,w1,List.take_length] at rt3;generalize hrs3:iC rs ((Fp r).map (·.2))=rs3 at rt3 hc';have rt4:RT H H3 d R rs3 (64*(i+1)):=rt3.more (by omega);obtain⟨⟨kvs3,bs3,f1,f2,f3,f4,f5⟩,sm3,_,nR3⟩:=id rt3;have bl:bs3.length=rs3.length:=Paired.length f4;refine⟨_,rfl,R,_,rfl,.inl (SqL.of f3),_,rfl,_,_,rfl,rfl,_,rfl,dY (fun hgt=>?_) (fun hle=>?_)⟩
    ·have hgt':60<rs3.length:=by have:=of_decide_eq_true hgt; rw[List.length_map] at this; omega
     have hc2:gJ Fr 61 [b] 0=rs3:=by rw[hc']; exact uI (fun z=>absurd z.2 (by omega))
     rw[hc2] at q7;exact⟨_,rfl,by decide +kernel,_,rfl,60,rfl,by decide +kernel,_,rfl,by decide +kernel,_,rfl,by decide +kernel,by decide +kernel,by show 1<=sizeLine; decide,q7 hgt' H3 sm3⟩
    ·have hle':rs3.length<=60:=Nat.le_of_not_lt fun z=>hle (decide_eq_true (by rw[List.length_map]; omega));refine⟨_,rfl,_,_,rfl,rfl,?_⟩;refine⟨61-(i+1),by omega,i+1,rs3,_,_,_,rfl,rfl,rt4,?_,hle',fun r' hr'=>?_,hc'⟩
     ·have:rs.length<=rs3.length:=by rw[← hrs3]; exact qM
      omega
     ·rw[← hrs3] at hr';rcases sJ hr' with h | h
      ·exact hOk r' h
      ·obtain⟨p,hp,rfl⟩:=List.mem_map.mp h;exact h3 r okr p hp
end
end K24
namespace K24
open PySem L2 Ky
seal L2.PE L2.PS L2.PSs L2.PA L2.PT L2.PW L2.PG L2.PI L2.PTs L2.PO L2.OpR L2.IxR L2.CallR L2.MtM L2.MtR
unseal L2.MtM L2.MtR
def off (H:Hp) (P:Addr):Hp:=fun b=>if b=P then none else H b
theorem nM {H:Hp}{P b:Addr}{o:HO}(e:off H P b=some o):b≠P∧H b=some o:=by
 unfold off at e
 by_cases q:b=P
 ·rw[if_pos q] at e; cases e
 ·rw[if_neg q] at e; exact⟨q,e⟩
theorem vC {H:Hp}{P b:Addr}{o:HO}(n:b≠P) (e:H b=some o):off H P b=some o:=by
 unfold off;rw[if_neg n];exact e
theorem rP {H H':Hp}{P:Addr}(s:aO H H'):aO (off H P) (off H' P):=fun _ _ e=>let ⟨n,e'⟩:=nM e; vC n (s _ _ e')
theorem aFa {H:Hp}{P:Addr}:aO (off H P) H:=fun _ _ z=>(nM z).2
def Pl:HO->Prop
 | .tbl _=>False
 | .dT _=>False
 | _=>True
def NTb (H H':Hp):Prop:=∀ b o,H b=some o->Pl o->H' b=some o
section
variable {K:PySem.W.Frag}{H H':Hp}
theorem ntL {p:Addr}{xs:List V}(s:NTb H H') (h:SqL K H p xs):SqL K H' p xs:=by
 rcases h with (h | ⟨o,h⟩) | h
 ·exact .inl (.inl (s _ _ h trivial))
 ·exact .inl (.inr ⟨o,s _ _ h trivial⟩)
 ·exact .inr h
theorem ntW {C p:Addr}{kvs:List (Key×V)}(s:NTb H H') (h:WAt C H p kvs):WAt C H' p kvs:=by
 obtain⟨dx,fs,dw,o,h0,h1,h2,h3⟩:=h;exact⟨dx,fs,dw,o,s _ _ h0 trivial,h1,h2,s _ _ h3 trivial⟩
theorem ntM {CM x dd:Addr}{b:Str}{es kn:List Str}{ds:List Dr}(s:NTb H H') (h:MM CM H x dd b es kn ds):MM CM H' x dd b es kn ds:=by
 obtain⟨dx,l,e,k,kvs,g,M⟩:=h;exact⟨dx,l,e,k,kvs,g,⟨s _ _ M.ins trivial,⟨s _ _ M.lead.dk trivial,M.lead.keys,M.lead.val,fun z hz=>s _ _ (M.lead.dd z hz) trivial,M.lead.inj,M.lead.ne⟩,s _ _ M.ends trivial,s _ _ M.know trivial⟩⟩
theorem aMh {CM x p:Addr}{ms:List MW}(s:NTb H H') (h:jQ CM H x p ms):jQ CM H' x p ms:=by
 obtain⟨Xs,a0,a1,a2⟩:=h.ex;exact⟨Xs,s _ _ a0 trivial,a1,fun i X m a b=>ntM s (a2 i X m a b)⟩
theorem ntV {CM CW v x:Addr}{ms:List MW}(s:NTb H H') (W:Wv CM CW H v x ms):Wv CM CW H' v x ms:=by
 obtain⟨dv,lm,lk,kn,h1,h2,h3,h4⟩:=W;exact⟨dv,lm,lk,kn,s _ _ h1 trivial,aMh s h2,s _ _ h3 trivial,h4⟩
end
def Tab (pos:Pos) (q:Str) (P:Addr) (H:Hp):Prop:=H P=some (.tbl #[])∨∃ c',H P=some (.tbl #[rawInt pos.line,rawInt pos.col,.ref c'])∧H c'=some (.ext (fO c' q))
section
variable {pos:Pos}{q:Str}{P:Addr}{H H':Hp}
theorem Tab.same (T:Tab pos q P H) (s:aO H H'):Tab pos q P H':=T.elim (fun h=>.inl (s _ _ h)) fun ⟨c',h1,h2⟩=>.inr ⟨c',s _ _ h1,s _ _ h2⟩
theorem Tab.tb (T:Tab pos q P H):∃ ps,H P=some (.tbl ps):=T.elim (fun h=>⟨_,h⟩) fun ⟨_,h,_⟩=>⟨_,h⟩
theorem aIr {d:Addr}{u:HO}(h:H d=some u) (hu:¬ Pl u){b:Addr}{o:HO}(e:H b=some o) (n:Pl o):b≠d:=fun z=>by
 rw[z,h] at e;cases e;exact hu n
theorem aFd (t:∃ ps,H P=some (.tbl ps)) (s:aO (off H P) H'):NTb H H':=fun b o e n=>s _ _ (vC (let ⟨_,h⟩:=t; aIr h (fun z=>z) e n) e)
theorem aFb (T:Tab pos q P H') (s:aO (off H P) H'){l:Addr}(h:H' l=none):H l=none:=by
 cases e:H l with
 | none=>rfl
 | some o=>
  by_cases n:l=P
  ·obtain⟨ps,t⟩:=T.tb;rw[n,t] at h; cases h
  ·rw[s _ _ (vC n e)] at h; cases h
theorem Tab.made {c':Addr}{H1:Hp}(hc:H c'=none) (hn:c'≠P) (e:H1=upd (upd H P (.tbl (#[]++#[rawInt pos.line,rawInt pos.col,.ref c']))) c' (.ext (fO c' q))):aO (K24.off H P) H1∧Tab pos q P H1∧H1 c'=some (.ext (fO c' q)):=by
 refine⟨fun b o z=>?_,.inr ⟨c',?_,?_⟩,?_⟩
 ·obtain⟨z1,z2⟩:=nM z;rw[e,aH (aI z2 hc),aH z1];exact z2
 ·rw[e,aH (Ne.symm hn),aE]
  first | done | rfl
 ·rw[e,aE]
 ·rw[e,aE]
theorem Tab.hand {R:Addr->Hp->Prop}(T:Tab pos q P H) (h:∀ c' H1,aO (K24.off H P) H1->Tab pos q P H1->H1 c'=some (.ext (fO c' q))->R c' H1) (hca:∀ c',codeAmong pos [rawInt pos.line,rawInt pos.col,.ref c']=some (.ref c'):=by intro; rfl):aGe P pos q R H:=by
 rcases id T with hP | ⟨c',hP,hc⟩
 ·exact .made #[] hP trivial rfl fun c' H1 hc hn e=>let ⟨a,b,c⟩:=Tab.made hc hn e; h c' H1 a b c
 ·exact .hit _ c' hP ⟨⟩ (hca c') hc (h c' H aFa T hc)
end
theorem ROk.far {ms:List MW}{room r':List Str}{z:Str}(hN:∀ m∈ms,m.rs.all aQ=true) (R:ROk ms room) (h:wto ms room z=some r'):ROk ms r':=by
 unfold wto at h
 by_cases q:z∈wkn ms
 ·rw[if_pos q] at h;unfold aDe at h
  by_cases a:(parts ms room z).any (fun o=>o.isNone)=true
  ·rw[if_pos a] at h; cases h
  ·rw[if_neg a] at h;cases h;refine⟨by rw[List.length_map]; unfold parts; rw[List.length_zipWith,← R.len,Nat.min_self],fun i m u hm hu=>?_⟩;have hi:i<ms.length:=(List.getElem?_eq_some_iff.mp hm).1;have hz0:=List.getElem?_eq_getElem (l:=room) (i:=i) (by rw[← R.len]; exact hi);generalize room[i]'(by rw[← R.len]; exact hi)=z0 at hz0;rw[List.getElem?_map,wW hm hz0] at hu;cases g:iT m.ds m.kn z0 z with
   | none=>exact absurd (List.any_eq_true.mpr ⟨none,List.mem_of_getElem? (by rw[wW hm hz0,g]),rfl⟩) a
   | some u'=>
    rw[g] at hu;cases hu;have hmem:u'∈m.rs:=rV (R.mem i m z0 hm hz0).2 g;exact⟨List.all_eq_true.mp (hN m (List.mem_of_getElem? hm)) _ hmem,hmem⟩
 ·rw[if_neg q] at h; cases h
theorem ROk.begin {ms:List MW}(hN:∀ m∈ms,m.rs.all aQ=true):ROk ms (ms.map (·.b)):=by
 refine⟨by rw[List.length_map],fun i m z hm hz=>?_⟩;rw[List.getElem?_map,hm] at hz;cases hz
 have:m.b∈m.rs:=List.mem_append_left _ (List.mem_cons_self ..)
 exact⟨List.all_eq_true.mp (hN m (List.mem_of_getElem? hm)) _ this,this⟩
abbrev lQ:Pos:=⟨228,37,228,65⟩
abbrev lP:Str:="Woven.rooms.<locals>."++"<lambda>"
abbrev cB (ms:List MW) (S:List Str):List (List Str):=gJ (fun r=>S.filterMap (wto ms r)) 61 [ms.map (·.b)] 0
inductive vZ (C CM CW cT Pr:Addr) (vs:List V) (H:Hp) (Q:VK) (E:XK):Prop
 | mk (v x:Addr) (ms:List MW) (S:List Str) (wk:List (Key×V)) (h0_:vs=[.ref v]) (h1_:Wv CM CW H v x ms) (h2_:1<=ms.length∧ms.length<=100) (h3_:∀ m∈ms,m.rs.all aQ=true) (h4_:WAt C H x wk) (h5_:∀ z∈wkn ms,z∈S) (h6_:S.length<64) (h7_:∀ z∈S,cZ wk (.str z)=true)
  (h8_:PyProof.Rows.sortedS S=true) (h9_:S.Nodup) (h10_:Tab lQ lP Pr H)
  (h11_:(cB ms S).length<=60->∀ (l:Addr) (bs:List Addr) H',aO (off H Pr) H'->H l=none->Tab lQ lP Pr H'->H' l=some (.lst (bs.map V.ref))->lJ H' bs (cB ms S)->Q (.ref l) H')
  (h12_:60<(cB ms S).length->∀ H',aO (off H Pr) H'->Tab lQ lP Pr H'->E (.ref cT) none H')
section
variable {P:Program}{w:World}{K:PySem.W.Frag}{mg:Str->Option Value}{base:Heap}
abbrev NCT:List Str:=["begin","doors","most"]
theorem aOm:aR NCT NCT (aB lB):=⟨rfl,rfl,rfl,by decide +kernel,rfl,by decide +kernel,by decide +kernel⟩
theorem aCd {f fR cT:Addr}{fd fdR:FuncData}{kd:Nat}(F:Fun K "come_to" "come_to" lB f fd) (T:Txt K mg)
  (GR:sL P w K mg base (kd+1) fR fdR NCT (SpH P w K mg base kd (wA cT))) (kR:PySem.W.keepIn K (.ref fR)=true) (bR:aU K fdR NCT []) (mR:mg "rows_to"=some (.ref fR)) :
  sL P w K mg base (kd+2) f fd NCT (SpH P w K mg base kd (wE cT)):=by
 refine okS F aOm (fun o s vs H Q E h=>?_) (fun cdv A outer s H vs Q E hr h D=>?_)
 ·obtain⟨df,spD,_,t,b,Fp,Ok,rfl,_⟩:=h;rfl
 ·obtain⟨df,spD,hd,t,b,Fp,Ok,rfl,hT,hok,h3,h4,h5,q6,q7⟩:=h
  exact⟨_,aL (bS (gU (zL rfl) (by rfl) T.list Bo.list (pac (aEm (spD:=spD) (E:=E) GR hr rfl mR kR bR (D.passes fun _ _ _ z=>z) (fun _ _ _ _ I=>hd.later (aIy I)) (pac (pv 0) (pac (pv 1) (pac (pv 2) aJ)))) aJ))),
   _,rfl,_,rfl,_,rfl,t,b,Fp,Ok,rfl,hT,hok,h3,h4,h5,fun hc d kvs H' s n e ek=>⟨d,kvs,_,rfl,e,ek,fun p bs hp tp=>q6 hc p bs _ (s.trans (smu hp)) (s.free hp) aE (tp.same fun b xs e=>smu hp _ _ e)⟩,q7⟩
theorem aNx:aR ["self"] ["self"] (aB gD):=⟨rfl,rfl,rfl,by decide +kernel,rfl,by decide +kernel,by decide +kernel⟩
theorem aBt {f fB fWy fCT C CM CW cT c2 Pr:Addr}{fdB fdWy fdCT:FuncData}{oc kV doc pm ct:Value}{an od:Option Addr}{osl:Array (Option Value)}
  (lk:K.lookup f=some ⟨oc,od,.func (PySem.W.fnOf "rooms" "Woven.rooms" (aG gD) (aF gD) (aB gD) .none kV doc pm an (.ref c2) ct),osl⟩) (hcd:PySem.W.codeIn K (.ref c2) "Woven.rooms" = true) (hhd:PySem.W.codeHdIn K c2 Pr=true) (bm:oG mg base)
  (WC:pP K CW) (mMR:∃ t,mg "MOST_ROOMS"=some (.int 60 t))
  (GB:aS P w K mg base CX0 3 fB fdB ["self"] (jS CM CW)) (bB:aU K fdB ["self"] []) (mB:cU K CW "begin" fB)
  (GWy:aS P w K mg base CX0 6 fWy fdWy ["self","room"] (qC K C CM CW)) (bWy:aU K fdWy ["self","room"] []) (mWy:cU K CW "ways" fWy)
  (GCT:sL P w K mg base 9 fCT fdCT NCT (SpH P w K mg base 7 (wE cT))) (kCT:PySem.W.keepIn K (.ref fCT)=true) (bCT:aU K fdCT NCT []) (mCT:mg "come_to"=some (.ref fCT)) :
  aS P w K mg base (CXE P w) 10 f (PySem.W.fnOf "rooms" "Woven.rooms" (aG gD) (aF gD) (aB gD) .none kV doc pm an (.ref c2) ct) ["self"] (vZ C CM CW cT Pr):=by
 obtain⟨tm,mMR⟩:=mMR;refine aAt lk hcd aNx (fun vs H Q E h=>?_) (fun A outer s H vs Q E hr h=>?_)
 ·obtain⟨v,x,ms,S,wk,rfl,_⟩:=h;rfl
 ·obtain⟨v,x,ms,S,wk,rfl,W,hl,hN,hW,hkS,h64,hg,so,nd,TB,q1,q2⟩:=h;have D:(iB (CXE P w) P w K mg base ["self"] "Woven.rooms" (aB gD) f (.ref c2) A outer s H E).Body E:=qL;have hr3:cO 3 _:=hr.mono (by decide)
  refine⟨_,aL (bS (aHb (kd:=6) (P:=Pr) (v3:=.int 60) (NL:=["self"]) (js:=[0]) (te:=fun Ew=>aDi CW "ways" (qC K C CM CW) [] Ew (aGl 1) (aDk (aGl 0) aJj)) GCT hr rfl mCT kCT bCT (D.passes fun _ _ _ z=>z) (fun _=>rfl) rfl hhd bm
   ⟨rfl,rfl,rfl,by decide +kernel,rfl,by decide +kernel⟩ (cK (aB gD) ["self"] rfl rfl (by decide +kernel)) rfl (fun _ _ _ _ _=>rfl)
   (fun Ew A outer f c' cl s' H' hr=>cM (E:=Ew) (pv 1) WC.cl mWy GWy hr bWy .nil bU (pac (pv 0) aJ)) (dM (pv 0) WC.cl mB GB hr3 bB .nil bU) (by rfl) mMR ⟨_,rfl⟩)),?_⟩
  obtain⟨dv,lm,lk',kn,hi,M,hk,hkn⟩:=id W;refine⟨_,rfl,v,dv,_,rfl,hi,cE _ _ _ (by decide),v,x,ms,rfl,W,hl.2,fun l H1 s1 n1 e1=>?_⟩;have T1:=TB.same s1;refine T1.hand fun c' H2 s2 T2 hc f'=>?_;have nt:=aFd T1.tb s2;have sO:aO (off H Pr) H2:=(rP s1).trans s2;have eF:(fun r=>(cV ms (iM ms S r) r).map (·.2))=fun r=>S.filterMap (wto ms r):=funext fun r=>aAu S;have W2:=ntV nt (W.same s1);have hW2:=ntW nt (dQ hW s1);refine⟨l,ms.map (·.b),fun r=>cV ms (iM ms S r) r,ROk ms,rfl,nt _ _ e1 trivial,ROk.begin hN,fun r hr p hp=>?_,fun r _=>?_,fun r t' H' Q' s' ok ht hw=>⟨_,rfl,s' _ _ hc,?_⟩,?_,?_⟩
  ·obtain⟨z,hz,rfl⟩:=List.mem_map.mp hp;have hs:=(List.mem_filter.mp hz).2;obtain⟨r',er⟩:=Option.isSome_iff_exists.mp hs;show ROk ms ((wto ms r z).getD []);rw[er];exact hr.far hN er
  ·unfold cV iM;rw[List.length_map];exact Nat.le_trans (List.length_filter_le ..) (Nat.le_of_lt h64)
  ·have W3:=W2.same s';obtain⟨dv3,lm3,lk3,kn3,hi3,_⟩:=id W3;exact⟨_,rfl,v,dv3,_,rfl,hi3,cE _ _ _ (by decide),_,rfl,v,x,t',ms,r,S,wk,rfl,W3,ht,ok,hl,dQ hW2 s',hkS,h64,hg,so,nd,hw⟩
  ·rw[eF];exact fun hle l2 bs H' s' n' e' tp=>q1 hle l2 bs H' (sO.trans s') (aFb T2 sO n') (T2.same s') e' tp
  ·rw[eF];exact fun hgt H' s'=>q2 hgt H' (sO.trans s') (T2.same s')
end
end K24
namespace K24
open PySem L2 Ky
seal L2.PE L2.PS L2.PSs L2.PA L2.PT L2.PW L2.PG L2.PI L2.PTs L2.PO L2.OpR L2.IxR L2.CallR L2.MtM L2.MtR
unseal L2.MtM L2.MtR
def rN (k:Nat):Str:=(Str.empty++("r" : Str))++Str.ofString (toString (k:Int))
theorem aEb:∀ k:Nat,k<64->aQ (rN k)=true∧(rN k).length<=100:=by decide +kernel
theorem aJw:∀ i:Nat,i<64->∀ j:Nat,j<64->rN i=rN j->i=j:=by decide +kernel
theorem qN:∀ {fs rs:List (List Str)}{i:Nat},i<rs.length->(iC rs fs)[i]?=rs[i]?
 | [],_,_,_=>rfl
 | x::fs,rs,i,h=>by
  by_cases q:x∈rs
  ·show (iC (if x∈rs then rs else rs++[x]) fs)[i]?=_
   rw[if_pos q];exact qN h
  ·show (iC (if x∈rs then rs else rs++[x]) fs)[i]?=_
   rw[if_neg q,qN (by rw[List.length_append]; omega),List.getElem?_append_left h]
theorem aCk:∀ k:Nat,k<64->((k:Int)).natAbs.log2<1920:=by decide +kernel
theorem aMk {α:Type}(a:α):[a].Nodup:=List.nodup_cons.mpr ⟨(fun h=>(nomatch h)),List.Pairwise.nil⟩
theorem sI:∀ {fs rs:List (List Str)},rs.Nodup->(iC rs fs).Nodup
 | [],_,h=>h
 | x::fs,rs,h=>sI (fs:=fs) (by
  by_cases q:x∈rs
  ·rw[if_pos q]; exact h
  ·rw[if_neg q];exact List.nodup_append.mpr ⟨h,aMk _,fun a ha b hb=>by rw[List.mem_singleton.mp hb]; exact fun e=>q (e▸ha)⟩)
theorem aBa:∀ {fs rs:List (List Str)}{r:List Str},r∈fs->r∈iC rs fs
 | x::fs,rs,r,h=>by
  rcases List.mem_cons.mp h with rfl | h
  ·show r∈iC (if r∈rs then rs else rs++[r]) fs
   refine kX ?_
   by_cases q:r∈rs
   ·rw[if_pos q]; exact q
   ·rw[if_neg q]; exact List.mem_append_right _ (List.mem_singleton.mpr rfl)
  ·exact aBa (fs:=fs) (rs:=if x∈rs then rs else rs++[x]) h
theorem sD {F:List Str->List (List Str)}:∀ {n i:Nat}{rs:List (List Str)},rs.Nodup->(gJ F n rs i).Nodup
 | 0,_,_,h=>h
 | n+1,i,rs,h=>by
  unfold gJ;split
  ·exact sD (sI h)
  ·exact h
theorem xP {F:List Str->List (List Str)}:∀ {n i:Nat}{rs:List (List Str)}{r:List Str},r∈rs->r∈gJ F n rs i
 | 0,_,_,_,h=>h
 | n+1,i,rs,r,h=>by
  unfold gJ;split
  ·exact xP (kX h)
  ·exact h
theorem qA {F:List Str->List (List Str)}:∀ {n i:Nat}{rs:List (List Str)},61<=n+i->i<=rs.length->(∀ j r,j<i->rs[j]?=some r->∀ r'∈F r,r'∈rs)->(gJ F n rs i).length<=60->∀ r∈gJ F n rs i,∀ r'∈F r,r'∈gJ F n rs i
 | 0,i,rs,hn,hi,_,hl=>by
  have:rs.length<=60:=hl
  omega
 | n+1,i,rs,hn,hi,hc,hl=>by
  unfold gJ at hl ⊢
  by_cases q:i<rs.length∧rs.length<=60
  ·rw[if_pos q] at hl ⊢;have hrs:=List.getElem?_eq_getElem q.1;have e:rs.getD i []=rs[i]:=by rw[List.getD_eq_getElem?_getD,hrs]; rfl
   rw[e] at hl ⊢;generalize rs[i]=r0 at hrs hl ⊢;refine qA (by omega) (by have:=qM (rs:=rs) (fs:=F r0); omega) (fun j r hj hr r' hr'=>?_) hl;rw[qN (by omega)] at hr
   by_cases ej:j=i
   ·subst ej;rw[hrs] at hr;cases hr;exact aBa hr'
   ·exact kX (hc j r (by omega) hr r' hr')
  ·rw[if_neg q] at hl ⊢
   have hi':i=rs.length:=by
    have:¬ i<rs.length:=fun z=>q ⟨z,hl⟩
    omega
   intro r hr r' hr';obtain⟨j,hj,ej⟩:=List.mem_iff_getElem.mp hr;exact hc j r (by omega) (by rw[List.getElem?_eq_getElem hj,ej]) r' hr'
section
variable (ms:List MW) (S:List Str)
def rOf (r:List Str):Str:=rN ((cB ms S).idxOf r)
def hU:List Str:=((cB ms S).filter fun r=>qQ ms r).map (rOf ms S)
def dH:List Dr:=(cB ms S).flatMap fun r=>(cV ms (iM ms S r) r).map fun p=>(rOf ms S r,p.1,rOf ms S p.2)
end
section
variable {ms:List MW}{S:List Str}
theorem kQ:(cB ms S).Nodup:=sD (aMk _)
theorem iK:ms.map (·.b)∈cB ms S:=xP (List.mem_singleton.mpr rfl)
theorem nY (h:(cB ms S).length<=60){r r':List Str}{z:Str}(hr:r∈cB ms S) (hz:z∈S) (hw:wto ms r z=some r'):r'∈cB ms S:=
 qA (by decide) (Nat.zero_le _) (fun j _ hj=>absurd hj (Nat.not_lt_zero _)) h r hr r' (List.mem_filterMap.mpr ⟨z,hz,hw⟩)
theorem vJ (h:(cB ms S).length<=60){r:List Str}(hr:r∈cB ms S):(cB ms S).idxOf r<64:=by
 have:=List.idxOf_lt_length_of_mem hr
 omega
theorem qE (h:(cB ms S).length<=60){r r':List Str}(hr:r∈cB ms S) (hr':r'∈cB ms S) (e:rOf ms S r=rOf ms S r'):r=r':=by
 have ei:=aJw _ (vJ h hr) _ (vJ h hr') e;have l1:=List.idxOf_lt_length_of_mem hr;have e1:=List.getElem_idxOf l1;have l2:=List.idxOf_lt_length_of_mem hr';have e2:=List.getElem_idxOf l2;rw[← e1,← e2];congr 1
theorem oX (h:(cB ms S).length<=60):rOf ms S (ms.map (·.b))=rN 0:=by
 have:(cB ms S)[0]?=some (ms.map (·.b)):=by
  have:∀ {F:List Str->List (List Str)}{n i:Nat}{rs:List (List Str)},0<rs.length->(gJ F n rs i)[0]?=rs[0]?:=by
   intro F n
   induction n with
   | zero=>intro i rs _; rfl
   | succ n ih=>
    intro i rs hp;unfold gJ;split
    ·rw[ih (Nat.lt_of_lt_of_le hp qM),qN hp]
    ·rfl
  rw[this (by show 0<1; decide)];rfl
 obtain⟨hl,e⟩:=List.getElem?_eq_some_iff.mp this;unfold rOf;rw[← e,List.Nodup.idxOf_getElem kQ]
theorem hV {x:Dr}:x∈dH ms S↔∃ r∈cB ms S,∃ z∈S,∃ r',wto ms r z=some r'∧x=(rOf ms S r,z,rOf ms S r'):=by
 unfold dH;rw[List.mem_flatMap];constructor
 ·rintro⟨r,hr,hx⟩;obtain⟨p,hp,rfl⟩:=List.mem_map.mp hx;obtain⟨z,hz,rfl⟩:=List.mem_map.mp hp;obtain⟨hzS,hs⟩:=List.mem_filter.mp hz;obtain⟨r',er⟩:=Option.isSome_iff_exists.mp hs;exact⟨r,hr,z,hzS,r',er,by rw[er]; rfl⟩
 ·rintro⟨r,hr,z,hz,r',er,rfl⟩;refine⟨r,hr,List.mem_map.mpr ⟨(z,(wto ms r z).getD []),List.mem_map.mpr ⟨z,List.mem_filter.mpr ⟨hz,by rw[er]; rfl⟩,rfl⟩,by rw[er]; rfl⟩⟩
theorem aFc (h:(cB ms S).length<=60){r:List Str}{z:Str}(hr:r∈cB ms S) (hz:z∈S):kJ (dH ms S) (rOf ms S r) z=(wto ms r z).map (rOf ms S):=by
 unfold kJ;cases hw:wto ms r z with
 | none=>
  rw[List.find?_eq_none.mpr fun x hx e=>?_]
  ·rfl
  ·obtain⟨r2,hr2,z2,hz2,r',er,rfl⟩:=hV.mp hx;have e':=Bool.and_eq_true_iff.mp e;have e1:=qE h hr2 hr (of_decide_eq_true e'.1);have e2:z2=z:=of_decide_eq_true e'.2;rw[e1,e2,hw] at er;cases er
 | some r'=>
  have hm:(rOf ms S r,z,rOf ms S r')∈dH ms S:=hV.mpr ⟨r,hr,z,hz,r',hw,rfl⟩
  obtain⟨y,hy⟩:∃ y,(dH ms S).find? (fun u=>decide (u.1=rOf ms S r)&&decide (u.2.1=z))=some y:=by
   rw[← Option.isSome_iff_exists,List.find?_isSome];exact⟨_,hm,by simp⟩
  rw[hy];have hp:=List.find?_some hy;obtain⟨r2,hr2,z2,hz2,r3,er,e3⟩:=hV.mp (List.mem_of_find?_eq_some hy);subst e3;have e':=Bool.and_eq_true_iff.mp hp;have e1:=qE h hr2 hr (of_decide_eq_true e'.1);have e2:z2=z:=of_decide_eq_true e'.2;rw[e1,e2,hw] at er;cases er;rfl
end
end K24
namespace K24
open PySem L2 Ky
seal L2.PE L2.PS L2.PSs L2.PA L2.PT L2.PW L2.PG L2.PI L2.PTs L2.PO L2.OpR L2.IxR L2.CallR L2.MtM L2.MtR
unseal L2.MtM L2.MtR
theorem xQ {F:List Str->List (List Str)}{Ok:List Str->Prop}(hF:∀ r,Ok r->∀ r'∈F r,Ok r'):∀ {n i:Nat}{rs:List (List Str)},(∀ r∈rs,Ok r)->∀ r∈gJ F n rs i,Ok r
 | 0,_,_,h=>h
 | n+1,i,rs,h=>by
  unfold gJ
  by_cases q:i<rs.length∧rs.length<=60
  ·rw[if_pos q];have hrs:=List.getElem?_eq_getElem q.1;have e:rs.getD i []=rs[i]:=by rw[List.getD_eq_getElem?_getD,hrs]; rfl
   rw[e];refine xQ hF fun r hr=>?_;rcases sJ hr with hr | hr
   ·exact h r hr
   ·exact hF _ (h _ (List.getElem_mem q.1)) r hr
  ·rw[if_neg q];exact h
theorem aFw {ms:List MW}{S:List Str}(hN:∀ m∈ms,m.rs.all aQ=true):∀ r∈cB ms S,ROk ms r:=
 xQ (fun r hr r' hr'=>by
  obtain⟨z,_,hz⟩:=List.mem_filterMap.mp hr';exact hr.far hN hz) fun r hr=>by rw[List.mem_singleton.mp hr]; exact ROk.begin hN
section
variable {ms:List MW}{S:List Str}
theorem wN (h:(cB ms S).length<=60){r:List Str}(hr:r∈cB ms S):aQ (rOf ms S r)=true:=(aEb _ (vJ h hr)).1
theorem tY (h:(cB ms S).length<=60):∀ z∈bZ (rN 0) (hU ms S) (dH ms S),∃ r∈cB ms S,z=rOf ms S r:=fun z hz=>by
 rcases List.mem_append.mp hz with hz | hz
 ·rcases List.mem_cons.mp hz with rfl | hz
  ·exact⟨_,iK,(oX h).symm⟩
  ·obtain⟨r,hr,rfl⟩:=List.mem_map.mp hz;exact⟨r,(List.mem_filter.mp hr).1,rfl⟩
 ·obtain⟨x,hx,hz⟩:=List.mem_flatMap.mp hz;obtain⟨r,hr,y,hy,r',er,rfl⟩:=hV.mp hx;rcases List.mem_cons.mp hz with rfl | hz
  ·exact⟨r,hr,rfl⟩
  ·rw[List.mem_singleton.mp hz];exact⟨r',nY h hr hy er,rfl⟩
theorem nN (h:(cB ms S).length<=60):(bZ (rN 0) (hU ms S) (dH ms S)).all aQ=true:=List.all_eq_true.mpr fun z hz=>by
 obtain⟨r,hr,rfl⟩:=tY h z hz;exact wN h hr
theorem yX (h:(cB ms S).length<=60):(mks (bZ (rN 0) (hU ms S) (dH ms S)) []).length<=60:=by
 rw[aAo];refine Nat.le_trans (fS (N:=(cB ms S).map (rOf ms S)) fun z hz=>?_) (by rw[List.length_map]; exact h);obtain⟨r,hr,rfl⟩:=tY h z hz;exact List.mem_map.mpr ⟨r,hr,rfl⟩
theorem vD (h:(cB ms S).length<=60) (nd:S.Nodup):Apart (dH ms S):=by
 refine List.pairwise_map.mpr (List.pairwise_flatMap.mpr ⟨fun r hr=>?_,?_⟩)
 ·refine List.pairwise_map.mpr (List.pairwise_map.mpr (List.Pairwise.imp (fun {a b} hne e=>?_) (nd.filter _)));exact hne (Prod.mk.inj e).2
 ·refine List.Pairwise.imp_of_mem (fun {a b} ha hb hne x hx y hy e=>?_) kQ;obtain⟨p,_,rfl⟩:=List.mem_map.mp hx;obtain⟨p',_,rfl⟩:=List.mem_map.mp hy;exact hne (qE h ha hb (Prod.mk.inj e).1)
theorem aCf (h:(cB ms S).length<=60):(hU ms S).length<=60:=by
 unfold hU;rw[List.length_map];exact Nat.le_trans (List.length_filter_le ..) h
theorem rY {α β:Type}{f:α->List β}{k:Nat}:∀ {l:List α},(∀ a∈l,(f a).length<=k)->(l.flatMap f).length<=k*l.length
 | [],_=>Nat.zero_le _
 | a::l,h=>by
  have h1:=h a (List.mem_cons_self ..);have h2:=rY (l:=l) fun b hb=>h b (List.mem_cons_of_mem _ hb);rw[List.flatMap_cons,List.length_append,List.length_cons,Nat.mul_succ];omega
theorem qR (r:List Str):(cV ms (iM ms S r) r).length<=S.length:=by
 unfold cV iM;rw[List.length_map];exact List.length_filter_le ..
theorem yY (h:(cB ms S).length<=60) (h12:S.length<=12):(dH ms S).length<=720:=by
 have:=rY (k:=12) (l:=cB ms S) (f:=fun r=>(cV ms (iM ms S r) r).map fun p=>(rOf ms S r,p.1,rOf ms S p.2)) fun r _=>by
  rw[List.length_map];exact Nat.le_trans (qR r) h12
 unfold dH;omega
def nmK (ms:List MW) (S:List Str) (rs:List (List Str)):List (List Key×V):=rs.map fun r=>(r.map Sum.inr,V.str (rOf ms S r))
theorem aFe (rs:List (List Str)):(nmK ms S rs).map (·.1)=rs.map fun r=>r.map Sum.inr:=by
 unfold nmK;rw[List.map_map];rfl
theorem nO:∀ {rs:List (List Str)}{r:List Str},r∈rs->dB (nmK ms S rs) (r.map Sum.inr)=some (.str (rOf ms S r))
 | x::rs,r,h=>by
  unfold nmK dB;rw[List.map_cons,List.find?_cons]
  by_cases e:x=r
  ·rw[e,decide_eq_true rfl];rfl
  ·rw[decide_eq_false fun z=>e (vI z)];exact nO ((List.mem_cons.mp h).resolve_left fun z=>e z.symm)
end
theorem aHi {α:Type}{l:List α}(h:l.Nodup){i:Nat}{a:α}(e:l[i]?=some a):¬ a∈l.take i:=fun hm=>by
 obtain⟨j,hj,ej⟩:=List.mem_iff_getElem.mp hm;rw[List.length_take] at hj;rw[List.getElem_take] at ej;have hi:=(List.getElem?_eq_some_iff.mp e).1
 have:=(List.getElem?_inj (i:=j) (j:=i) (by omega) h).mp (by rw[e,List.getElem?_eq_getElem (by omega),ej])
 omega
theorem eX.tf {H:Hp}{a b:Addr}{o:Obj}{kvs:List (List Key×V)}{k:List Key}(e:H a=some (.frz o (.dT kvs))) (eb:H b=some (.tup (k.map kV))):eX H a (.ref b) (dB kvs k):=.inr ⟨kvs,k,b,.inr ⟨o,e⟩,rfl,eb,rfl⟩
inductive aDq (C CM CW cT Pr:Addr) (vs:List V) (H:Hp) (Q:VK) (E:XK):Prop
 | mk (v x:Addr) (ms:List MW) (S:List Str) (wk:List (Key×V)) (h0_:vs=[.ref v]) (h1_:Wv CM CW H v x ms) (h2_:1<=ms.length∧ms.length<=100) (h3_:∀ m∈ms,m.rs.all aQ=true) (h4_:WAt C H x wk) (h5_:∀ z∈wkn ms,z∈S) (h6_:S.length<=12) (h7_:∀ z∈S,cZ wk (.str z)=true)
  (h8_:PyProof.Rows.sortedS S=true) (h9_:S.Nodup) (h10_:Tab lQ lP Pr H)
  (h11_:(cB ms S).length<=60->∀ (X:Addr) (kn:List Str) H',aO (off H Pr) H'->Tab lQ lP Pr H'->(∀ z,z∈kn↔z∈wkn ms)->MM CM H' X x (rN 0) (hU ms S) kn (dH ms S)->Q (.ref X) H')
  (h12_:60<(cB ms S).length->∀ H',aO (off H Pr) H'->Tab lQ lP Pr H'->E (.ref cT) none H')
section
variable {P:Program}{w:World}{K:PySem.W.Frag}{mg:Str->Option Value}{base:Heap}
abbrev NMO:List Str:=["woven","names","place","room","doors","deed","far","ends"]
theorem uV:aR NMO ["woven"] (aB gY):=⟨rfl,rfl,rfl,by decide +kernel,rfl,by decide +kernel,by decide +kernel⟩
abbrev aMj:List Str:=["room","names","woven"]
theorem aHe {f fWR fWy fWE fWD fWB fWK fMI C CM CW cT Pr:Addr}{fd fdWR fdWy fdWE fdWD fdWB fdWK fdMI:FuncData}(F:Fun K "made_one" "made_one" gY f fd) (T:Txt K mg) (WC:pP K CW)
  (GWR:aS P w K mg base (CXE P w) 10 fWR fdWR ["self"] (vZ C CM CW cT Pr)) (bWR:aU K fdWR ["self"] []) (mWR:cU K CW "rooms" fWR)
  (GWy:aS P w K mg base CX0 6 fWy fdWy ["self","room"] (qC K C CM CW)) (bWy:aU K fdWy ["self","room"] []) (mWy:cU K CW "ways" fWy)
  (GWE:aS P w K mg base CX0 5 fWE fdWE ["self","room"] (qX K CM CW)) (bWE:aU K fdWE ["self","room"] []) (mWE:cU K CW "is_end" fWE)
  (GWD:aS P w K mg base CX0 2 fWD fdWD ["self"] (qY CM CW)) (bWD:aU K fdWD ["self"] []) (mWD:cU K CW "deeds" fWD)
  (GWB:aS P w K mg base CX0 3 fWB fdWB ["self"] (jS CM CW)) (bWB:aU K fdWB ["self"] []) (mWB:cU K CW "begin" fWB)
  (GWK:aS P w K mg base CX0 1 fWK fdWK ["self"] (nF CM CW)) (bWK:aU K fdWK ["self"] []) (mWK:cU K CW "knows" fWK)
  (GMI:aS P w K mg base (CXE P w) 4 fMI fdMI ["self","deeds","begin","ends","doors","more"] (uS K C CM)) (MMk:Mk K CM fMI) (bMI:aU K fdMI ["self","deeds","begin","ends","doors","more"] []) (mMa:mg "Machine" = some (.ref CM)) :
  aS P w K mg base (CXE P w) 11 f fd ["woven"] (aDq C CM CW cT Pr):=by
 refine okE F uV (fun vs H Q E h=>?_) (fun cdv A outer s H vs Q E hr h D=>?_)
 ·obtain⟨v,x,ms,S,wk,rfl,_⟩:=h;rfl
 ·obtain⟨v,x,ms,S,wk,rfl,W,hl,hN,hW,hkS,h12,hg,so,nd,TB,q1,q2⟩:=h;have hu:=iS hr;have hr1:cO 1 _:=hr.mono (by decide);have hr2:cO 2 _:=hr.mono (by decide);have hr3:cO 3 _:=hr.mono (by decide);have hr5:cO 5 _:=hr.mono (by decide);have hr6:cO 6 _:=hr.mono (by decide)
  refine⟨_,aK (bO (i:=1) uV.nd rfl (Or.inr rfl) aEi)
   (aK (dS PassesOwn.leaving rfl (jD rfl T.enum (pac (dM (E:=E) (pv 0) WC.cl mWR GWR hr bWR .nil (D.passes fun _ _ _ z=>z)) aJ)) (eU rfl (aX (aP (i:=2) uV.nd rfl (Or.inl rfl)) (aX (aP (i:=3) uV.nd rfl (Or.inl rfl)) dL)))
    (aL (jC hu (pv 1) (pv 3) (aEh bX (aAk (pv 2))) rfl)))
   (aK (bO (i:=4) uV.nd rfl (Or.inl rfl) (dD aJ))
   (aK (dS PassesOwn.leaving rfl (wS (rK (pv 1))) (aP (i:=3) uV.nd rfl (Or.inl rfl))
    (aL (dS PassesOwn.leaving rfl (dC (cM (pv 0) WC.cl mWy GWy hr6 bWy .nil bU (pac (pv 3) aJ))) (eU rfl (aX (aP (i:=5) uV.nd rfl (Or.inl rfl)) (aX (aP (i:=6) uV.nd rfl (Or.inl rfl)) dL)))
     (aL (dI (lN PySem.F.plainAttrs_list PySem.F.slot_list_append PySem.F.type_list_append fU (pv 4) (pac (rJ (pac (iG hu (pv 1) (pv 3) (fun _ _=>rfl)) (pac (pv 5) (pac (iG hu (pv 1) (pv 6) (fun _ _=>rfl)) aJ)))) aJ)))))))
   (aK (eJ (i:=7) (N':=aMj) (nown:=1) (js:=[1,0]) rfl uV.nd rfl rfl rfl
     ⟨rfl,by decide +kernel,by decide +kernel⟩ (cK (aB gY) NMO rfl rfl (by decide +kernel))
     ⟨fun _ _ _ _=>aP (i:=0) (show List.Nodup aMj by decide +kernel) rfl (Or.inl rfl) (.inr rfl),fun _ _ _ _=>lC (oY (cM (pv 2) WC.cl mWE GWE hr5 bWE .nil bU (pac (pv 0) aJ))),fun _ _ _ _=>iG hu (pv 1) (pv 0) (fun _ _=>rfl)⟩
     (wS (rK (pv 1))))
   (aL (bS (qG (E:=E0) MMk GMI hr5 rfl mMa bMI .nil jN (pac (dM (pv 0) WC.cl mWD GWD hr2 bWD .nil bU) (pac (iG hu (pv 1) (dM (pv 0) WC.cl mWB GWB hr3 bWB .nil bU) (fun _ _=>rfl)) (pac (pv 7) (pac (pv 4) (pac (dM (pv 0) WC.cl mWK GWK hr1 bWK .nil bU) aJ)))))))))))),?_⟩
  intro nm hnm;have s1:aO H (upd H nm (.dT [])):=smu hnm;have e1:(upd H nm (.dT [])) nm=some (.dT (nmK ms S [])):=aE;generalize upd H nm (.dT [])=H1 at s1 e1 ⊢;have W1:=W.same s1;have hW1:=dQ hW s1;have T1:=TB.same s1;obtain⟨dv,lm,lk',kn',hi1,_⟩:=id W1;refine⟨_,rfl,v,dv,_,rfl,hi1,cE _ _ _ (by decide),v,x,ms,S,wk,rfl,W1,hl,hN,hW1,hkS,by omega,hg,so,nd,T1,fun hle L bs H2 s2 n2 T2 eL tp2=>?_,fun hgt H2 s2 T2=>q2 hgt H2 ((rP s1).trans s2) T2⟩;have q1':=q1 hle;clear q1 q2;have nt2:=aFd T1.tb s2;have W2:=ntV nt2 W1;have hW2:=ntW nt2 hW1;obtain⟨psr,hpr⟩:=T1.tb;have e2:H2 nm=some (.dT (nmK ms S [])):=s2 _ _ (vC (eP e1 hpr (fun z=>nomatch z)) e1);have sO:aO (off H Pr) H2:=(rP s1).trans s2;have okr:=aFw (ms:=ms) (S:=S) hN;have inr:=fun (r:List Str) (hr:r∈cB ms S) (z:Str) (hz:z∈S) (r':List Str) (hw:wto ms r z=some r')=>nY hle hr hz hw;have ndr:(cB ms S).Nodup:=kQ;have bgn:ms.map (·.b)∈cB ms S:=iK;have eDo:(cB ms S).flatMap (fun r=>(cV ms (iM ms S r) r).map fun p=>(rOf ms S r,p.1,rOf ms S p.2))=dH ms S:=rfl;have eEn:((cB ms S).filter fun r=>qQ ms r).map (rOf ms S)=hU ms S:=rfl
  have eIx:∀ i r,(cB ms S)[i]?=some r->rOf ms S r=rN i:=fun i r h=>by
   obtain⟨hi,e⟩:=List.getElem?_eq_some_iff.mp h;unfold rOf;rw[← e,List.Nodup.idxOf_getElem ndr]
  have lbs:bs.length=(cB ms S).length:=Paired.length tp2;have dl:=yY hle h12;have el:=aCf hle;have hap:=vD hle nd;have hrn:=nN hle;have hrf:=yX hle;have hb0:=oX hle;have hnm':=hnm;clear s2 nt2 W1 hW1 T1 hi1 e1 s1 hW W TB hnm;generalize cB ms S=rs at *;refine⟨L,rfl,⟨_,SqL.of eL⟩,?_⟩;refine rX (xs:=bs.map V.ref) (fun i σ H'=>∃ x2 x3:Option V,σ=[some (.ref v),some (.ref nm),x2,x3,none,none,none,none]∧H' nm=some (.dT (nmK ms S (rs.take i)))∧SameBut nm H2 H') ?_ ?_ ?_ ?_
  ·exact⟨_,_,rfl,e2,fun b o _ e=>e⟩
  ·rintro i σ H' _ ⟨x2,x3,rfl,a1,a2⟩;exact SqL.of (a2 _ _ (eP eL e2 (fun z=>nomatch z)) eL)
  ·rintro i u σ H' t hv ⟨x2,x3,rfl,a1,a2⟩ ht;rw[List.getElem?_map] at hv;cases hb:bs[i]? with
   | none=>rw[hb] at hv; cases hv
   | some b=>
    rw[hb] at hv;cases hv;obtain⟨r,hr,hbr⟩:=tp2.get hb;have hi:i<rs.length:=(List.getElem?_eq_some_iff.mp hr).1;have hb':=a2 _ _ (eP hbr e2 (fun z=>nomatch z)) hbr;have k1:aO H' (upd H' t (.tup [.int i,.ref b])):=smu ht;have et:(upd H' t (.tup [.int i,.ref b])) t=some (.tup [.int i,.ref b]):=aE;generalize upd H' t (.tup [.int i,.ref b])=H3 at k1 et ⊢;refine⟨t,_,rfl,SqT.of et,rfl,_,_,rfl,_,_,rfl,rfl,?_⟩;have hln:=(aEb i (by omega)).2;refine⟨_,rfl,by decide +kernel,_,rfl,(i:Int),rfl,aCk i (by omega),_,rfl,oS (Nat.le_trans hln (by decide)),oS (Nat.le_trans hln (by decide)),_,rfl,_,rfl,nm,_,rfl,pR.t (k:=r.map Sum.inr) (k1 _ _ a1) (by rw[hZ]; exact k1 _ _ hb') (aW (by unfold nmK; rw[List.length_map,List.length_take]; omega)),?_⟩;refine⟨_,_,rfl,?_,fun b o n e=>by rw[aH n]; exact k1 _ _ (a2 b o n e)⟩;rw[aE,aAf]
    ·rw[List.take_succ,hr];unfold nmK;rw[List.map_append];show _=some (HO.dT (_++[(r.map Sum.inr,V.str (rOf ms S r))]));rw[eIx i r hr];rfl
    ·rw[vH (aFe _),decide_eq_false];exact aHi ndr hr
  rintro σ H3 ⟨x2,x3,rfl,a1,a2⟩;rw[List.length_map,lbs,List.take_length] at a1;refine⟨by show 0<=sizeLine; decide,fun dd hdd=>?_⟩;have nmd:nm≠dd:=aI a1 hdd;refine⟨_,rfl,.mk nm _ rfl (smu hdd _ _ a1) fun o=>⟨nm,o,_,rfl,aE,?_⟩⟩;have B0:∀ b u,b≠nm->H2 b=some u->(upd H3 nm (.frz o (.dT (nmK ms S rs)))) b=some u:=fun b u n e=>by rw[aH n]; exact a2 b u n e
  have Bn:(upd H3 nm (.frz o (.dT (nmK ms S rs)))) nm=some (.frz o (.dT (nmK ms S rs))):=aE;have Bd:(upd H3 nm (.frz o (.dT (nmK ms S rs)))) dd=none:=by rw[aH (Ne.symm nmd)]; exact hdd
  have B5:aO (upd H3 nm (.frz o (.dT (nmK ms S rs)))) (upd (upd H3 dd (.lst [])) nm (.frz o (.dT (nmK ms S rs)))):=fun b u e=>by
   by_cases n:b=nm
   ·rw[n,aE] at e ⊢;exact e
   ·rw[aH n] at e ⊢;exact smu hdd _ _ e
  have D5:cL (upd (upd H3 dd (.lst [])) nm (.frz o (.dT (nmK ms S rs)))) dd []:=⟨[],by rw[aH (Ne.symm nmd),aE]; rfl,rfl,fun i t x z=>nomatch z⟩;generalize upd H3 nm (.frz o (.dT (nmK ms S rs)))=B at B0 Bn Bd B5;generalize upd (upd H3 dd (.lst [])) nm (.frz o (.dT (nmK ms S rs)))=H5 at B5 D5 ⊢;have ntB:NTb H2 B:=fun b u e p=>B0 b u (aIr e2 (fun z=>z) e p) e;have WB:=ntV ntB W2;have hWB:=ntW ntB hW2;have TB:Tab lQ lP Pr B:=T2.elim (fun h=>.inl (B0 _ _ (eP h e2 (fun z=>nomatch z)) h)) fun ⟨c',h1,h2⟩=>.inr ⟨c',B0 _ _ (eP h1 e2 (fun z=>nomatch z)) h1,B0 _ _ (eP h2 e2 (fun z=>nomatch z)) h2⟩;have sOB:aO (off H Pr) B:=fun b u e=>B0 _ _ (fun z=>by have:=sO _ _ e; rw[z] at e; rw[(nM e).2] at hnm'; cases hnm') (sO _ _ e);have knm:(nmK ms S rs).length=rs.length:=by unfold nmK; rw[List.length_map]
  have kvr:∀ (i:Nat) (kv:List Key×V),(nmK ms S rs)[i]?=some kv->∃ r,rs[i]?=some r∧kv=(r.map Sum.inr,V.str (rOf ms S r)):=fun i kv hkv=>by
   unfold nmK at hkv;rw[List.getElem?_map] at hkv;cases hr:rs[i]? with
   | none=>rw[hr] at hkv; cases hkv
   | some r=>rw[hr] at hkv; cases hkv; exact⟨r,rfl,rfl⟩
  have S64:S.length<64:=by omega
  clear a1 a2 hdd B0 e2 eL tp2 n2 T2 W2 hW2 ntB;refine aCr (kvs:=nmK ms S rs) (fun i σ H'=>∃ x2 x3 x5 x6:Option V,σ=[some (.ref v),some (.ref nm),x2,x3,some (.ref dd),x5,x6,none]∧cL H' dd ((rs.take i).flatMap fun r=>(cV ms (iM ms S r) r).map fun p=>(rOf ms S r,p.1,rOf ms S p.2))∧aO B H') ?_ ?_ ?_ ?_
  ·exact⟨_,_,_,_,rfl,D5,B5⟩
  ·rintro i σ H' _ ⟨x2,x3,x5,x6,rfl,a1,a2⟩;exact a2 _ _ Bn
  ·rintro i kv b σ H' hkv hb ⟨y2,y3,y5,y6,rfl,a1,a2⟩;obtain⟨r,hr,rfl⟩:=kvr i kv hkv;have hrm:=List.mem_of_getElem? hr;have hb:H' b=some (.tup (r.map V.str)):=by rw[← hZ]; exact hb
   have WH:=WB.same a2;obtain⟨dvh,lmh,lkh,knh,hih,_⟩:=id WH;refine⟨_,rfl,v,dvh,_,rfl,hih,cE _ _ _ (by decide),_,rfl,v,x,b,ms,r,S,wk,rfl,WH,hb,okr r hrm,hl,dQ hWB a2,hkS,S64,hg,so,nd,fun l H6 s6 n6 Wy=>?_⟩;obtain⟨ts,w0,w1,w2⟩:=Wy.ex;obtain⟨us0,u0,u1,_⟩:=id a1.ex;have ld:l≠dd:=fun z=>by rw[z,u0] at n6; cases n6
   have dd6:=s6 _ _ u0;have nB:aO B H6:=a2.trans s6
   have fmem:∀ z∈cV ms (iM ms S r) r,z.2∈rs:=fun z hz=>by
    obtain⟨y,hy,rfl⟩:=List.mem_map.mp hz;obtain⟨hyS,hs⟩:=List.mem_filter.mp hy;obtain⟨r',er⟩:=Option.isSome_iff_exists.mp hs;show (wto ms r y).getD []∈rs;rw[er];exact inr r hrm y hyS r' er
   have wl:(cV ms (iM ms S r) r).length<=12:=Nat.le_trans (qR r) h12
   have pl:=rY (k:=12) (l:=rs.take i) (f:=fun r=>(cV ms (iM ms S r) r).map fun p=>(rOf ms S r,p.1,rOf ms S p.2)) fun r _=>by
    rw[List.length_map];exact Nat.le_trans (qR r) h12
   rw[List.length_take] at pl
   have etk:(rs.take (i+1)).flatMap (fun r=>(cV ms (iM ms S r) r).map fun p=>(rOf ms S r,p.1,rOf ms S p.2))=(rs.take i).flatMap (fun r=>(cV ms (iM ms S r) r).map fun p=>(rOf ms S r,p.1,rOf ms S p.2))++(cV ms (iM ms S r) r).map fun p=>(rOf ms S r,p.1,rOf ms S p.2):=by
    rw[List.take_succ,hr,List.flatMap_append,Option.toList_some,List.flatMap_cons,List.flatMap_nil,List.append_nil]
   refine⟨l,rfl,⟨_,SqL.of w0⟩,?_⟩;generalize (rs.take i).flatMap (fun r=>(cV ms (iM ms S r) r).map fun p=>(rOf ms S r,p.1,rOf ms S p.2))=pre at a1 pl etk;generalize cV ms (iM ms S r) r=fs at w1 w2 fmem wl etk;refine dN (xs:=ts.map V.ref) (fun j σ H7=>∃ z5 z6:Option V,σ=[some (.ref v),some (.ref nm),y2,some (.ref b),some (.ref dd),z5,z6,none]∧cL H7 dd (pre++(fs.take j).map fun p=>(rOf ms S r,p.1,rOf ms S p.2))∧SameBut dd H6 H7∧aO B H7) ?_ ?_ ?_ ?_
   ·exact⟨_,_,rfl,by rw[List.take_zero,List.map_nil,List.append_nil]; exact a1.same s6,fun b o _ e=>e,nB⟩
   ·rintro j σ H7 _ ⟨z5,z6,rfl,c1,c2,c3⟩;exact SqL.of (c2 _ _ ld w0)
   ·rintro j vv σ H7 hv ⟨z5,z6,rfl,c1,c2,c3⟩;rw[List.getElem?_map] at hv;cases hy:ts[j]? with
    | none=>rw[hy] at hv; cases hv
    | some y=>
     rw[hy] at hv;cases hv;have hj:j<fs.length:=by rw[← w1]; exact (List.getElem?_eq_some_iff.mp hy).1
     have hz:=List.getElem?_eq_getElem hj;have hzm:fs[j]∈fs:=List.getElem_mem hj;generalize fs[j]=z at hz hzm;obtain⟨u,w3,w4⟩:=w2 j y z hy hz;have w3':=c2 _ _ (eP w3 dd6 (fun z=>nomatch z)) w3;have w4':=c2 _ _ (eP w4 dd6 (fun z=>nomatch z)) w4;have b7:=c2 _ _ (eP (s6 _ _ hb) dd6 (fun z=>nomatch z)) (s6 _ _ hb);have n7:=c3 _ _ Bn;have g1:=eX.tf (k:=r.map Sum.inr) n7 (b:=b) (by rw[hZ]; exact b7);rw[nO hrm] at g1;have g2:=eX.tf (k:=z.2.map Sum.inr) n7 (b:=u) (by rw[hZ]; exact w4');rw[nO (fmem z hzm)] at g2;obtain⟨vs,v0,v1,_⟩:=id c1.ex;refine⟨y,_,rfl,SqT.of w3',rfl,_,_,rfl,_,_,rfl,rfl,?_⟩;refine⟨_,rfl,.inl ⟨rfl,_,SqL.of v0⟩,_,rfl,_,rfl,nm,_,rfl,g1,_,rfl,_,rfl,_,rfl,nm,_,rfl,g2,by show 3<=sizeLine; decide,fun tt htt=>?_⟩;obtain⟨xs,x0,x1,xd⟩:=c1.push htt (rOf ms S r,z.1,rOf ms S z.2);rw[v0] at x0;cases x0;refine⟨dd,_,_,rfl,rfl,smu htt _ _ v0,aW (by rw[List.length_map,v1,List.length_append,List.length_map,List.length_take]; omega),?_⟩;refine⟨_,_,rfl,?_,fun b' o' n e=>by rw[aH n]; exact smu htt _ _ (c2 b' o' n e),fun b' o' e=>by rw[aH (aI e Bd)]; exact smu htt _ _ (c3 _ _ e)⟩;rw[List.take_succ,hz,List.map_append,← List.append_assoc];exact xd
   ·rintro σ H7 ⟨z5,z6,rfl,c1,c2,c3⟩;rw[List.length_map,w1,List.take_length] at c1;exact⟨_,_,_,_,rfl,by rw[etk]; exact c1,c3⟩
  rintro σ H6 ⟨y2,y3,y5,y6,rfl,a1,a2⟩;rw[knm,List.take_length,eDo] at a1;have n6:=a2 _ _ Bn;refine⟨_,rfl,.no o nm _ rfl n6 ⟨nm,o,_,rfl,n6,fun D2 hD2=>?_⟩⟩;refine aDb (kvs:=nmK ms S rs) (fun i σ' H'=>∃ v0,σ'=[v0,some (.ref nm),some (.ref v)]∧H' D2=some (.lst ((((rs.take i).filter fun r=>qQ ms r).map (rOf ms S)).map V.str))∧aO H6 H') ?_ ?_ ?_ ?_
  ·exact⟨none,rfl,aE,smu hD2⟩
  ·rintro i σ' H' _ ⟨v0,rfl,c1,c2⟩;exact c2 _ _ n6
  ·rintro i kv b σ' H' hkv hb ⟨v0,rfl,c1,c2⟩;obtain⟨r,hr,rfl⟩:=kvr i kv hkv;have hrm:=List.mem_of_getElem? hr;have hb:H' b=some (.tup (r.map V.str)):=by rw[← hZ]; exact hb
   have WH:=WB.same (a2.trans c2);obtain⟨dvh,lmh,lkh,knh,hih,_⟩:=id WH
   have ef:(rs.take (i+1)).filter (fun r=>qQ ms r)=(rs.take i).filter (fun r=>qQ ms r)++(if qQ ms r=true then [r] else []):=by
    rw[List.take_succ,hr,List.filter_append];congr 1;show List.filter _ [r]=_;rw[List.filter_cons,List.filter_nil]
   have lf:((rs.take i).filter fun r=>qQ ms r).length<=60:=Nat.le_trans (List.length_filter_le ..) (by rw[List.length_take]; omega);refine⟨_,rfl,v,dvh,_,rfl,hih,cE _ _ _ (by decide),_,rfl,v,x,b,ms,r,rfl,WH,SqT.of hb,okr r hrm,hl.2,fun H7 s7=>⟨_,rfl,?_⟩⟩;cases hw:qQ ms r with
   | false=>
    refine gH ⟨_,rfl,?_,c2.trans s7⟩;rw[ef,hw]
    simpa using s7 _ _ c1
   | true=>
    have g1:=eX.tf (k:=r.map Sum.inr) (s7 _ _ (c2 _ _ n6)) (b:=b) (by rw[hZ]; exact s7 _ _ hb);rw[nO hrm] at g1;refine jI ⟨_,rfl,_,rfl,nm,_,rfl,g1,_,s7 _ _ c1,aW (by rw[List.length_map,List.length_map]; omega),_,rfl,?_,fun b o e=>?_⟩
    ·rw[aE,ef,hw,List.map_append,List.map_append];rfl
    ·rw[aH (aI e hD2)];exact s7 _ _ (c2 _ _ e)
  rintro σ' H8 ⟨v0,rfl,c1,c2⟩;rw[knm,List.take_length,eEn] at c1;have s8:=a2.trans c2;have W8:=WB.same s8;obtain⟨dvh,lmh,lkh,knh,hih,_⟩:=id W8;refine⟨_,rfl,v,dvh,_,rfl,hih,cE _ _ _ (by decide),v,x,ms,rfl,W8,hl.1,_,rfl,_,rfl,v,dvh,_,rfl,hih,cE _ _ _ (by decide),v,x,ms,rfl,W8,hl.2,fun bg H9 s9 n9 e9=>?_⟩;have g1:=eX.tf (k:=(ms.map (·.b)).map Sum.inr) (s9 _ _ (c2 _ _ n6)) (b:=bg) (by rw[hZ]; exact e9);rw[nO bgn,hb0] at g1;have W9:=W8.same s9;have s9B:=s8.trans s9;obtain⟨dv9,lm9,lk9,kn9,hi9,_⟩:=id W9;refine⟨nm,_,rfl,g1,_,rfl,_,rfl,_,rfl,v,dv9,_,rfl,hi9,cE _ _ _ (by decide),v,x,ms,S,rfl,W9,hkS,S64,fun kl kts H10 s10 n10 e10 S10 X dX hX hdX _=>?_⟩;have s10B:=s9B.trans s10;have k1:aO H10 (upd (upd H10 dX (.own X)) X (.ins CM dX [])):=fun b o' e'=>by rw[aH (aI e' hX),aH (aI e' hdX)]; exact e'
  have hkn:∀ z,z∈eG (dH ms S) kts↔z∈wkn ms:=fun z=>by
   unfold eG;rw[List.mem_append,S10.mem];refine⟨fun h=>h.elim (fun h=>?_) id,.inr⟩;obtain⟨y,hy,rfl⟩:=List.mem_map.mp h;obtain⟨r,hr,z,hz,r',er,rfl⟩:=hV.mp hy;exact aDc (by rw[er]; rfl)
  have hgk:∀ z∈eG (dH ms S) kts,cZ wk (.str z)=true:=fun z hz=>hg z (hkS z ((hkn z).mp hz))
  have lk:kts.length<=64:=by
   have:=fS (rs:=kts) (N:=S) fun z hz=>hkS z ((S10.mem z).mp hz)
   rw[← (jY (m:=unl kts []) S10.nd (fun z hz=>qW.mpr hz) (fS fun z hz=>hz)).length_eq] at this;omega
  refine⟨X,x,D2,dd,dX,rN 0,.ref kl,hU ms S,kts,dH ms S,wk,rfl,aE,dQ hWB (s10B.trans k1),k1 _ _ (s10 _ _ (s9 _ _ c1)),((a1.same (c2.trans s9)).same s10).same k1,.inr ⟨kl,rfl,k1 _ _ e10⟩,⟨by omega,by omega,by omega⟩,hrn,List.all_eq_true.mpr fun y hy=>?_,fun z hz=>fX (hgk z hz),hap,hrf,fun lM eM kM kvs g H11 sb M11=>⟨rfl,q1' X _ H11 (sOB.trans (fun b u e=>sb b u (aI (s10B _ _ e) hX) (k1 _ _ (s10B _ _ e)))) (TB.same (fun b u e=>sb b u (aI (s10B _ _ e) hX) (k1 _ _ (s10B _ _ e)))) hkn ⟨dX,lM,eM,kM,kvs,g,M11⟩⟩⟩;obtain⟨z,hz,rfl⟩:=List.mem_map.mp hy;exact hgk z hz
end
end K24
namespace K24
open PySem L2 Ky
seal L2.PE L2.PS L2.PSs L2.PA L2.PT L2.PW L2.PG L2.PI L2.PTs L2.PO L2.OpR L2.IxR L2.CallR L2.MtM L2.MtR
unseal L2.MtM L2.MtR
def vO:Stmt->List Stmt
 | .For _ _ b _ _=>b
 | _=>[]
theorem aFy {α:Type}(xs:List α) (x:α):atI (xs++[x]) (-1)=some x:=by
 unfold atI ixN;rw[if_neg (by decide),List.length_append,List.length_singleton,if_pos (by omega)];show (xs++[x])[(-1+((xs.length+1:Nat):Int)).toNat]?=some x;rw[show (-1+((xs.length+1:Nat):Int)).toNat=xs.length by omega,List.getElem?_append_right (Nat.le_refl _),Nat.sub_self];rfl
inductive gP (ms:List MW) (H:Hp):V->Option (List Str)->Prop
 | no:gP ms H .non none
 | at (t:Addr) (r:List Str) (h0_:H t=some (.tup (r.map V.str))) (h1_:ROk ms r):gP ms H (.ref t) (some r)
theorem gP.same {ms:List MW}{H H':Hp}{v:V}{o:Option (List Str)}(R:gP ms H v o) (s:aO H H'):gP ms H' v o:=by
 cases R with
 | no=>exact .no
 | «at» t r h0 h1=>exact .at t r (s _ _ h0) h1
theorem gP.put {ms:List MW}{H:Hp}{v:V}{o:Option (List Str)}{d:Addr}{xs ys:List V}(R:gP ms H v o) (hd:H d=some (.lst xs)):gP ms (upd H d (.lst ys)) v o:=by
 cases R with
 | no=>exact .no
 | «at» t r h0 h1=>exact .at t r (by rw[aH (eP h0 hd (fun z=>nomatch z))]; exact h0) h1
inductive zU (K:PySem.W.Frag) (C CM CW:Addr) (vs:List V) (H:Hp) (Q:VK) (E:XK):Prop
 | mk (v a x:Addr) (ms:List MW) (S:List Str) (wk:List (Key×V)) (cs:List Int) (h0_:vs=[.ref v,.ref a]) (h1_:Wv CM CW H v x ms) (h2_:1<=ms.length∧ms.length<=100) (h3_:∀ m∈ms,m.rs.all aQ=true) (h4_:WAt C H x wk) (h5_:∀ z∈wkn ms,z∈S) (h6_:S.length<64) (h7_:∀ z∈S,cZ wk (.str z)=true)
  (h8_:SqL K H a (cs.map V.int)) (h9_:cs.length<=63) (h10_:∀ (l:Addr) (row:List Str) H',aO H H'->H l=none->H' l=some (.lst (row.map V.str))->(∀ z∈row,z∈wkn ms)->row.length<=63->Q (.ref l) H')
inductive RwV (ms:List MW) (H:Hp) (v a R:Addr) (n:Nat) (σ:St) (H':Hp):Prop
 | mk (rv:V) (o:Option (List Str)) (row:List Str) (x4 x5:Option V) (h0_:σ=[some (.ref v),some (.ref a),some (.ref R),some rv,x4,x5]) (h1_:gP ms H' rv o) (h2_:H' R=some (.lst (row.map V.str))) (h3_:∀ z∈row,z∈wkn ms) (h4_:row.length<=n) (h5_:aO H H')
inductive RwJ (ms:List MW) (H:Hp) (v a R:Addr) (n:Nat) (σ:St) (H':Hp):Prop
 | mk (rv:V) (o:Option (List Str)) (row:List Str) (c:Int) (l:Addr) (ts:List Str) (h0_:σ=[some (.ref v),some (.ref a),some (.ref R),some rv,some (.int c),some (.ref l)]) (h1_:gP ms H' rv o) (h2_:H' R=some (.lst (row.map V.str))) (h3_:∀ z∈row,z∈wkn ms) (h4_:row.length<=n) (h5_:aO H H')
  (h6_:H' l=some (.lst (ts.map V.str))) (h7_:∀ z∈ts,z∈wkn ms) (h8_:l≠R)
section
variable {P:Program}{w:World}{K:PySem.W.Frag}{mg:Str->Option Value}{base:Heap}
abbrev NRw:List Str:=["_law_woven","_law_cells","_law_row","_law_room","_law_cell","_law_some"]
theorem yD:aR NRw ["_law_woven","_law_cells"] (aB jV):=⟨rfl,rfl,rfl,by decide +kernel,rfl,by decide +kernel,by decide +kernel⟩
theorem aEs {f fWB fWK fWA fWT C CM CW cD:Addr}{fd fdWB fdWK fdWA fdWT:FuncData}(F:Fun K "_law_row_by" "_law_row_by" jV f fd) (T:Txt K mg) (WC:pP K CW)
  (GWB:aS P w K mg base CX0 3 fWB fdWB ["self"] (jS CM CW)) (bWB:aU K fdWB ["self"] []) (mWB:cU K CW "begin" fWB)
  (GWK:aS P w K mg base CX0 1 fWK fdWK ["self"] (nF CM CW)) (bWK:aU K fdWK ["self"] []) (mWK:cU K CW "knows" fWK)
  (GWA:aS P w K mg base CX0 5 fWA fdWA ["self","room"] (aDn K C CM CW)) (bWA:aU K fdWA ["self","room"] []) (mWA:cU K CW "at" fWA)
  (GWT:aS P w K mg base (CXE P w) 4 fWT fdWT ["self","room","deed"] (tJ K C CM CW cD)) (bWT:aU K fdWT ["self","room","deed"] []) (mWT:cU K CW "to" fWT) :
  aS P w K mg base CX0 6 f fd ["_law_woven","_law_cells"] (zU K C CM CW):=by
 refine F.ok yD (fun vs H Q E h=>?_) (fun cdv A outer s H vs Q E hr h=>?_)
 ·obtain⟨v,a,x,ms,S,wk,cs,rfl,_⟩:=h;rfl
 ·obtain⟨v,a,x,ms,S,wk,cs,rfl,W,hl,hN,hW,hkS,h64,hg,hC,hcl,q⟩:=h;have hr1:cO 1 _:=hr.mono (by decide);have hr3:cO 3 _:=hr.mono (by decide);have hr4:cO 4 _:=hr.mono (by decide);have hu0:=Nat.lt_of_succ_lt (iS hr)
  have two:∃ t2,PSs (iB CX0 P w K mg base NRw "_law_row_by" (aB jV) f cdv A outer s H E).nox ((vO ((aF jV).getD 2 (.Pass ⟨0,0,0,0⟩))).drop 2) t2∧∀ (R:Addr) (n:Nat) (D:mY) σ H',H R=none->n<=63->RwJ ms H v a R n σ H'->(∀ σ2 H2,RwV ms H v a R (n+1) σ2 H2->D.nx σ2 H2)->t2 D σ H':=by
   refine⟨_,aL (dJ (bY (aAl hu0) (pv 5) (dD aJ) (cH _))
    (aK (dI (lN PySem.F.plainAttrs_list PySem.F.slot_list_append PySem.F.type_list_append fU (pv 2) (pac (eW cY (pv 5) (aY cQ (aY eE (pv 4) aN) (cX dF (by rfl) T.len Bo.len (pac (pv 5) aJ))) (fun _ _=>rfl)) aJ)))
    (aL (dJ (bY jF (pv 3) eD (cH _)) (aL (bO (i:=3) yD.nd rfl (Or.inl rfl) (cM (pv 0) WC.cl mWT GWT hr4 bWT .nil jN (pac (pv 3) (pac (eW cY (pv 2) (aMd aJf aN) (fun _ _=>rfl)) aJ))))) cF))) cF),?_⟩
   rintro R n D σ H' nR hn ⟨rv,o,row,c,l,ts,rfl,hrv,eR,hrow,hrl,sm,el,hts,lR⟩ nx;refine⟨_,rfl,by show 0<=sizeLine; decide,fun e he=>⟨l,e,ts,[],rfl,rfl,SqL.of (smu he _ _ el),SqL.of aE,_,rfl,?_⟩⟩;have s1:aO H' (upd H' e (.lst [])):=smu he;generalize upd H' e (.lst [])=H1 at s1 ⊢
   by_cases hts0:ts=[]
   ·rw[hts0];exact gH (nx _ _ ⟨rv,o,row,_,_,rfl,hrv.same s1,s1 _ _ eR,hrow,by omega,sm.trans s1⟩)
   ·have hpos:0<ts.length:=List.length_pos_iff.mpr hts0;have gm:=cC (c/2) (m:=((ts.map V.str).length:Int)) (by rw[List.length_map]; omega);rw[List.length_map] at gm;have hat:=gO V.str ts "" gm.1 gm.2
    have hzm:ts.getD (c/2%(ts.length:Int)).toNat "" ∈ ts:=by
     rw[List.getD_eq_getElem?_getD,List.getElem?_eq_getElem (by omega)];exact List.getElem_mem _
    generalize ts.getD (c/2%(ts.length:Int)).toNat ""=z at hat hzm;refine dY (fun _=>?_) (fun h=>absurd (by simp[hts0]) h);refine⟨_,rfl,.inl ⟨rfl,_,SqL.of (s1 _ _ eR)⟩,_,rfl,_,rfl,_,_,rfl,rfl,⟨by decide,by decide⟩,_,rfl,l,_,rfl,.inl (SqL.of (s1 _ _ el)),_,_,rfl,rfl,(by show (0:Int)<((ts.map V.str).length:Int); rw[List.length_map]; omega),l,_,_,.str z,rfl,rfl,SqL.of (s1 _ _ el),by rw[List.length_map]; exact hat,R,_,_,rfl,rfl,s1 _ _ eR,aW (by rw[List.length_map]; omega),?_⟩;have eR2:(upd H1 R (.lst (row.map V.str++[.str z]))) R=some (.lst ((row++[z]).map V.str)):=by rw[aE,List.map_append]; rfl
    have s2:aO H (upd H1 R (.lst (row.map V.str++[.str z]))):=fun b o' e'=>by rw[aH (aI e' nR)]; exact s1 _ _ (sm _ _ e')
    have hrv2:gP ms (upd H1 R (.lst (row.map V.str++[.str z]))) rv o:=(hrv.same s1).put (s1 _ _ eR);generalize upd H1 R (.lst (row.map V.str++[.str z]))=H2 at eR2 s2 hrv2 ⊢;have hzk:=hts z hzm;have hrow2:∀ y∈row++[z],y∈wkn ms:=fun y hy=>(List.mem_append.mp hy).elim (hrow y) fun h=>by rw[List.mem_singleton.mp h]; exact hzk
    have hl2:(row++[z]).length<=n+1:=by rw[List.length_append,List.length_singleton]; omega
    cases hrv2 with
    | no=>exact⟨_,rfl,rfl,_,rfl,dY (fun h=>absurd h (by simp)) fun _=>nx _ _ ⟨_,_,row++[z],_,_,rfl,.no,eR2,hrow2,hl2,s2⟩⟩
    | «at» t r h0 h1=>
     refine⟨_,rfl,rfl,_,rfl,dY (fun _=>?_) (fun h=>absurd (by simp) h)⟩;have W2:=W.same s2;obtain⟨dv,lm,lk',kn',hi,_⟩:=id W2;have gz:=hg z (hkS z hzk);refine⟨_,rfl,v,dv,_,rfl,hi,cE _ _ _ (by decide),_,rfl,_,rfl,_,rfl,R,_,_,.str z,rfl,rfl,SqL.of eR2,by rw[List.map_append]; exact aFy _ _,v,x,t,.str z,ms,r,wk,rfl,W2,SqT.of h0,h1,hl,dQ hW s2,.inl ⟨z,rfl,fX gz⟩,fun _ u eu=>?_,fun bad=>absurd (gz.symm.trans bad) (by decide)⟩;cases eu;cases ho:wto ms r z with
     | none=>exact fun H3 s3=>nx _ _ ⟨_,none,row++[z],_,_,rfl,.no,s3 _ _ eR2,hrow2,hl2,s2.trans s3⟩
     | some r'=>exact fun l3 H3 s3 n3 e3=>nx _ _ ⟨_,some r',row++[z],_,_,rfl,.at l3 r' e3 (h1.far hN ho),s3 _ _ eR2,hrow2,hl2,s2.trans s3⟩
  obtain⟨t2,p2,r2⟩:=two
  refine⟨_,aK (bO (i:=2) yD.nd rfl (Or.inl rfl) (dD aJ))
   (aK (bO (i:=3) yD.nd rfl (Or.inl rfl) (dM (pv 0) WC.cl mWB GWB hr3 bWB .nil bU))
   (aK (dS PassesOwn.never rfl (dC (pv 1)) (aP (i:=4) yD.nd rfl (Or.inl rfl))
    (aK (bO (i:=5) yD.nd rfl (Or.inl rfl) (dM (pv 0) WC.cl mWK GWK hr1 bWK .nil bU))
    (aK (dJ (rF (bY rO (aY cQ (pv 4) aN) aN (cH _)) (rF (bY jF (pv 3) eD (cH _)) (qF (bY (aAl hu0) (cM (pv 0) WC.cl mWA GWA hr bWA .nil bU (pac (pv 3) aJ)) (dD aJ) (cH _))))).pt
      (aL (bO (i:=5) yD.nd rfl (Or.inl rfl) (cM (pv 0) WC.cl mWA GWA hr bWA .nil bU (pac (pv 3) aJ)))) cF) p2)))
   (aL (bS (pv 2))))),?_⟩
  refine⟨by show 0<=sizeLine; decide,fun R hR=>?_⟩;have s1:aO H (upd H R (.lst [])):=smu hR;have e1:(upd H R (.lst [])) R=some (.lst (([]:List Str).map V.str)):=aE;generalize upd H R (.lst [])=H1 at s1 e1 ⊢;have W1:=W.same s1;obtain⟨dv,lm,lk',kn',hi1,_⟩:=id W1;refine⟨_,rfl,v,dv,_,rfl,hi1,cE _ _ _ (by decide),v,x,ms,rfl,W1,hl.2,fun bg H2 s2 n2 e2=>?_⟩;refine⟨_,rfl,a,rfl,⟨_,(s1.trans s2).seq hC⟩,?_⟩;refine dN (xs:=cs.map V.int) (fun i σ H'=>RwV ms H v a R i σ H') ?_ ?_ ?_ ?_
  ·exact⟨_,_,[],none,none,rfl,.at bg _ e2 (ROk.begin hN),s2 _ _ e1,fun z hz=>(nomatch hz),Nat.le_refl _,s1.trans s2⟩
  ·rintro i σ H' _ ⟨rv,o,row,x4,x5,rfl,hrv,eR,hrow,hrl,sm⟩;exact sm.seq hC
  ·rintro i u σ H' hv ⟨rv,o,row,x4,x5,rfl,hrv,eR,hrow,hrl,sm⟩;rw[List.getElem?_map] at hv;cases hc:cs[i]? with
   | none=>rw[hc] at hv; cases hv
   | some c=>
    rw[hc] at hv;cases hv;have hi:i<cs.length:=(List.getElem?_eq_some_iff.mp hc).1;have WH:=W.same sm;obtain⟨dvh,lmh,lkh,knh,hih,_⟩:=id WH;refine⟨_,rfl,v,dvh,_,rfl,hih,cE _ _ _ (by decide),v,x,ms,S,rfl,WH,hkS,h64,fun l ts H3 s3 n3 e3 S3=>?_⟩;have lR:l≠R:=fun z=>by rw[z,eR] at n3; cases n3
    have sm3:=sm.trans s3;have low:∀ H4,aO H3 H4->RwJ ms H v a R i [some (.ref v),some (.ref a),some (.ref R),some rv,some (.int c),some (.ref l)] H4:=fun H4 s4=>⟨rv,o,row,c,l,ts,rfl,(hrv.same s3).same s4,s4 _ _ (s3 _ _ eR),hrow,hrl,sm3.trans s4,s4 _ _ e3,fun z hz=>(S3.mem z).mp hz,lR⟩;have go:∀ (D:mY) H4,aO H3 H4->(∀ σ2 H2,RwV ms H v a R (i+1) σ2 H2->D.nx σ2 H2)->t2 D [some (.ref v),some (.ref a),some (.ref R),some rv,some (.int c),some (.ref l)] H4:=fun D H4 s4 k=>r2 R i D _ H4 hR (by omega) (low H4 s4) k;refine⟨_,rfl,_,_,rfl,rfl,(by show (0:Int)<2; decide),rfl,_,rfl,dY (fun _=>?_) (fun _=>gH (go _ H3 (aO.refl H3) fun _ _ h=>h))⟩;have hrv3:=hrv.same s3;cases hrv3 with
    | no=>exact⟨_,rfl,rfl,_,rfl,dY (fun h=>absurd h (by simp)) fun _=>gH (go _ H3 (aO.refl H3) fun _ _ h=>h)⟩
    | «at» t r h0 h1=>
     refine⟨_,rfl,rfl,_,rfl,dY (fun _=>?_) (fun h=>absurd (by simp) h)⟩;have W3:=WH.same s3;obtain⟨dv3,lm3,lk3,kn3,hi3,_⟩:=id W3;refine⟨_,rfl,v,dv3,_,rfl,hi3,cE _ _ _ (by decide),_,rfl,v,x,t,ms,r,S,wk,rfl,W3,SqT.of h0,h1,hl,dQ hW sm3,hkS,h64,hg,fun l4 t4 H4 s4 n4 e4 S4=>⟨by show 0<=sizeLine; decide,fun e he=>⟨l4,e,t4,[],rfl,rfl,SqL.of (smu he _ _ e4),SqL.of aE,_,rfl,?_⟩⟩⟩;have s5:aO H3 (upd H4 e (.lst [])):=s4.trans (smu he);generalize upd H4 e (.lst [])=H5 at s5 ⊢;refine dY (fun _=>?_) (fun _=>go _ H5 s5 fun _ _ h=>h);have W5:=W3.same s5;obtain⟨dv5,lm5,lk5,kn5,hi5,_⟩:=id W5;have sm5:=sm3.trans s5;refine⟨_,rfl,v,dv5,_,rfl,hi5,cE _ _ _ (by decide),_,rfl,v,x,t,ms,r,S,wk,rfl,W5,SqT.of (s5 _ _ h0),h1,hl,dQ hW sm5,hkS,h64,hg,fun l6 t6 H6 s6 n6 e6 S6=>?_⟩;exact r2 R i _ _ H6 hR (by omega) ⟨_,some r,row,c,l6,t6,rfl,.at t r (s6 _ _ (s5 _ _ h0)) h1,s6 _ _ (s5 _ _ (s3 _ _ eR)),hrow,hrl,sm5.trans s6,e6,fun z hz=>((S6.mem z).mp hz).1,fun z=>by rw[z,s5 _ _ (s3 _ _ eR)] at n6; cases n6⟩ (fun σ2 H2 h=>h)
  ·rintro σ H' ⟨rv,o,row,x4,x5,rfl,hrv,eR,hrow,hrl,sm⟩;rw[List.length_map] at hrl;exact⟨_,rfl,q R row H' sm hR eR hrow (by omega)⟩
end
end K24
namespace K24
open PySem L2 Ky
seal L2.PE L2.PS L2.PSs L2.PA L2.PT L2.PW L2.PG L2.PI L2.PTs L2.PO L2.OpR L2.IxR L2.CallR L2.MtM L2.MtR
unseal L2.MtM L2.MtR
inductive aDo (C CM CW Pr:Addr) (vs:List V) (H:Hp) (Q:VK) (E:XK):Prop
 | mk (v x:Addr) (ms:List MW) (S:List Str) (wk:List (Key×V)) (h0_:vs=[.ref v]) (h1_:Wv CM CW H v x ms) (h2_:1<=ms.length∧ms.length<=100) (h3_:∀ m∈ms,m.rs.all aQ=true) (h4_:WAt C H x wk) (h5_:∀ z∈wkn ms,z∈S) (h6_:S.length<=12) (h7_:∀ z∈S,cZ wk (.str z)=true)
  (h8_:PyProof.Rows.sortedS S=true) (h9_:S.Nodup) (h10_:Tab lQ lP Pr H)
  (h11_:(cB ms S).length<=60->∀ (X:Addr) (kn:List Str) H',aO (off H Pr) H'->(∀ z,z∈kn↔z∈wkn ms)->MM CM H' X x (rN 0) (hU ms S) kn (dH ms S)->Q (.ref X) H')
  (h12_:∀ H',aO (off H Pr) H'->Q .non H')
section
variable {P:Program}{w:World}{K:PySem.W.Frag}{mg:Str->Option Value}{base:Heap}
theorem aOe:aR ["_law_woven"] ["_law_woven"] (aB aBj):=⟨rfl,rfl,rfl,by decide +kernel,rfl,by decide +kernel,by decide +kernel⟩
theorem aKj {f fMO C CM CW cT Pr:Addr}{fd fdMO:FuncData}(F:Fun K "_law_one" "_law_one" aBj f fd) (mTM:mg "TooMany" = some (.ref cT)) (hm:PySem.W.exmOne K (.ref cT) (.ref cT)=some true)
  (GMO:aS P w K mg base (CXE P w) 11 fMO fdMO ["woven"] (aDq C CM CW cT Pr)) (kMO:PySem.W.keepIn K (.ref fMO)=true) (bMO:aU K fdMO ["woven"] []) (mMO:mg "made_one" = some (.ref fMO)) :
  aS P w K mg base CX0 12 f fd ["_law_woven"] (aDo C CM CW Pr):=by
 refine F.ok aOe (fun vs H Q E h=>?_) (fun cdv A outer s H vs Q E hr h=>?_)
 ·obtain⟨v,x,ms,S,wk,rfl,_⟩:=h;rfl
 ·obtain⟨v,x,ms,S,wk,rfl,W,hl,hN,hW,hkS,h12,hg,so,nd,TB,q1,q2⟩:=h
  refine⟨_,aL (aGz (x:="TooMany") (W:=cT) (fun cls _ H1=>cls=.ref cT∧aO (off H Pr) H1) ⟨rfl,rfl⟩ rfl (by rfl) mTM
   (fun pn E hp=>aL (bS (bJ GMO hr (by rfl) mMO kMO bMO .nil hp (pac (pv 0) aJ)))) (fun e pn=>aL (bS eD))),?_⟩
  refine⟨⟨_,rfl,v,x,ms,S,wk,rfl,W,hl,hN,hW,hkS,h12,hg,so,nd,TB,fun hle X kn H' s' _ hk hM=>q1 hle X kn H' s' hk hM,fun _ H' s' _=>⟨rfl,s'⟩⟩,?_⟩;rintro cls H1 ⟨rfl,s1⟩;exact⟨cT,rfl,hm,fun e σ1 _ he=>q2 _ (s1.trans (smu he))⟩
end
end K24
namespace K24
open PySem L2 Ky
seal L2.PE L2.PS L2.PSs L2.PA L2.PT L2.PW L2.PG L2.PI L2.PTs L2.PO L2.OpR L2.IxR L2.CallR L2.MtM L2.MtR
unseal L2.MtM L2.MtR
def jL (ms:List MW) (r:List Str):List Str->Option (List Str)
 | []=>some r
 | y::row=>match wto ms r y with
  | none=>none
  | some r'=>jL ms r' row
abbrev gA (ms:List MW) (r row:List Str):List (Option Str):=List.zipWith (fun m z=>walk m.ds m.kn z row) ms r
theorem tG {y:Str}{row:List Str}:∀ {ms:List MW}{r:List Str},(parts ms r y).any (fun o=>o.isNone)=true->(gA ms r (y::row)).any (fun o=>o.isNone)=true
 | [],_,h=>by unfold parts at h; simp at h
 | _::_,[],h=>by unfold parts at h; simp at h
 | m::ms,z::r,h=>by
  unfold parts at h;rw[List.zipWith_cons_cons,List.any_cons,Bool.or_eq_true] at h;show ((walk m.ds m.kn z (y::row)).isNone||(gA ms r (y::row)).any _)=true;rcases h with h | h
  ·have e:iT m.ds m.kn z y=none:=Option.isNone_iff_eq_none.mp h;unfold walk;rw[e];rfl
  ·rw[tG (ms:=ms) (r:=r) h,Bool.or_true]
theorem tF {y:Str}{row:List Str}:∀ {ms:List MW}{r:List Str},(parts ms r y).any (fun o=>o.isNone)=false->gA ms r (y::row)=gA ms ((parts ms r y).map fun o=>o.getD "") row
 | [],_,_=>rfl
 | _::_,[],_=>rfl
 | m::ms,z::r,h=>by
  unfold parts at h;rw[List.zipWith_cons_cons,List.any_cons,Bool.or_eq_false_iff] at h;have ih:=tF (row:=row) (ms:=ms) (r:=r) h.2;show walk m.ds m.kn z (y::row)::gA ms r (y::row)=walk m.ds m.kn ((iT m.ds m.kn z y).getD "") row::gA ms ((parts ms r y).map fun o=>o.getD "") row;rw[ih];cases e:iT m.ds m.kn z y with
  | none=>rw[e] at h; exact absurd h.1 (by decide)
  | some z'=>
   show (match iT m.ds m.kn z y with | none=>none | some z'=>walk m.ds m.kn z' row)::_=_
   rw[e];rfl
theorem pT:∀ {ms:List MW}{r:List Str},ms.length=r.length->gA ms r []=r.map some
 | [],[],_=>rfl
 | [],_::_,h=>by simp at h
 | _::_,[],h=>by simp at h
 | m::ms,z::r,h=>by
  show some z::gA ms r []=some z::r.map some;rw[pT (by simpa using h)]
theorem pS {ms:List MW}:∀ {row r:List Str},ms.length=r.length->(∀ y∈row,y∈wkn ms)->jL ms r row=if (gA ms r row).any (fun o=>o.isNone)=true then none else some ((gA ms r row).map fun o=>o.getD "")
 | [],r,hl,_=>by
  rw[pT hl,if_neg (by simp),List.map_map];exact congrArg some (List.map_id r).symm
 | y::row,r,hl,hk=>by
  unfold jL wto aDe;rw[if_pos (hk y (List.mem_cons_self ..))]
  by_cases h:(parts ms r y).any (fun o=>o.isNone)=true
  ·rw[if_pos h,if_pos (tG h)]
  ·rw[if_neg h,tF (Bool.eq_false_iff.mpr h)];exact pS (by rw[List.length_map]; unfold parts; rw[List.length_zipWith,← hl,Nat.min_self]) fun z hz=>hk z (List.mem_cons_of_mem _ hz)
theorem lV {ms:List MW}{y:Str}:∀ {row r:List Str},jL ms r (row++[y])=(jL ms r row).bind fun r'=>wto ms r' y
 | [],r=>by
  show (match wto ms r y with | none=>none | some r'=>some r')=wto ms r y
  cases wto ms r y <;> rfl
 | x::row,r=>by
  show (match wto ms r x with | none=>none | some r'=>jL ms r' (row++[y]))=(match wto ms r x with | none=>none | some r'=>jL ms r' row).bind fun r'=>wto ms r' y
  cases wto ms r x with
  | none=>rfl
  | some r'=>exact lV
section
variable {ms:List MW}{S:List Str}
theorem qP (h:(cB ms S).length<=60):∀ {row r r':List Str},r∈cB ms S->(∀ y∈row,y∈S)->jL ms r row=some r'->r'∈cB ms S
 | [],r,r',hr,_,e=>by cases e; exact hr
 | y::row,r,r',hr,hk,e=>by
  unfold jL at e;cases hw:wto ms r y with
  | none=>rw[hw] at e; cases e
  | some r2=>
   rw[hw] at e;exact qP h (nY h hr (hk y (List.mem_cons_self ..)) hw) (fun z hz=>hk z (List.mem_cons_of_mem _ hz)) e
theorem vT (h:(cB ms S).length<=60){kn:List Str}(hkn:∀ z,z∈kn↔z∈wkn ms) (hS:∀ z∈wkn ms,z∈S):∀ {row r:List Str},r∈cB ms S->(∀ y∈row,y∈wkn ms)->walk (dH ms S) kn (rOf ms S r) row=(jL ms r row).map (rOf ms S)
 | [],r,_,_=>rfl
 | y::row,r,hr,hk=>by
  have hy:=hk y (List.mem_cons_self ..);unfold walk jL iT;rw[if_pos ((hkn y).mpr hy),aFc h hr (hS y hy)];cases hw:wto ms r y with
  | none=>rfl
  | some r2=>exact vT h hkn hS (nY h hr (hS y hy) hw) fun z hz=>hk z (List.mem_cons_of_mem _ hz)
theorem aCg (h:(cB ms S).length<=60){r:List Str}(hr:r∈cB ms S):decide (rOf ms S r∈hU ms S)=qQ ms r:=by
 rw[Bool.eq_iff_iff,decide_eq_true_iff];unfold hU;constructor
 ·intro hm;obtain⟨r',hr',e⟩:=List.mem_map.mp hm;obtain⟨h1,h2⟩:=List.mem_filter.mp hr';rw[← qE h h1 hr e];exact h2
 ·exact fun hw=>List.mem_map.mpr ⟨r,List.mem_filter.mpr ⟨hr,hw⟩,rfl⟩
end
theorem vU {ds:List Dr}{kn:List Str}{b:Str}{es:List Str}:∀ {row:List Str}{z u:Str},z∈bZ b es ds->walk ds kn z row=some u->u∈bZ b es ds
 | [],z,u,hz,e=>by cases e; exact hz
 | y::row,z,u,hz,e=>by
  unfold walk at e;cases hg:iT ds kn z y with
  | none=>rw[hg] at e; cases e
  | some z'=>rw[hg] at e; exact vU (rV hz hg) e
end K24
namespace K24
open PySem L2 Ky
seal L2.PE L2.PS L2.PSs L2.PA L2.PT L2.PW L2.PG L2.PI L2.PTs L2.PO L2.OpR L2.IxR L2.CallR L2.MtM L2.MtR
unseal L2.MtM L2.MtR
section
variable {P:Program}{w:World}{K:PySem.W.Frag}{mg:Str->Option Value}{base:Heap}
theorem aAe:aR ["self","row","room","deed"] ["self","row"] (aB lF):=⟨rfl,rfl,rfl,by decide +kernel,rfl,by decide +kernel,by decide +kernel⟩
theorem sW (ds:List Dr) (kn:List Str):∀ (rw:List Str) (i:Nat) (b z y:Str),walk ds kn b (rw.take i)=some z->rw[i]?=some y->walk ds kn b (rw.take (i+1))=iT ds kn z y
 | [],i,b,z,y,h,e=>by cases e
 | u::r,0,b,z,y,h,e=>by
  cases e;cases h;show (match iT ds kn b u with | none=>none | some z'=>some z')=_
  cases iT ds kn b u <;> rfl
 | u::r,i+1,b,z,y,h,e=>by
  rw[List.take_succ_cons] at h ⊢;unfold walk at h ⊢;cases q:iT ds kn b u with
  | none=>rw[q] at h; cases h
  | some z'=>
   rw[q] at h;exact sW ds kn r i z' z y h e
theorem sV (ds:List Dr) (kn:List Str):∀ (rw:List Str) (i:Nat) (b:Str),walk ds kn b (rw.take i)=none->walk ds kn b rw=none
 | [],i,b,h=>by rw[List.take_nil] at h; exact h
 | u::r,0,b,h=>by cases h
 | u::r,i+1,b,h=>by
  rw[List.take_succ_cons] at h;unfold walk at h ⊢;cases q:iT ds kn b u with
  | none=>rfl
  | some z'=>
   rw[q] at h;exact sV ds kn r i z' h
theorem yR {f fG fQ C CM:Addr}{fd fdG fdQ:FuncData}{cl:Why->Addr}(F:Fun K "behind" "Machine.behind" lF f fd) (T:Txt K mg) (DC:zP K C) (MC:mV K CM)
  (GG:aS P w K mg base CX0 1 fG fdG ["self","room","deed"] (uT CM)) (bG:aU K fdG ["self","room","deed"] []) (mG:cU K CM "goes" fG)
  (GQ:aS P w K mg base (CXE P w) 3 fQ fdQ ["self","row"] (iN K C cl)) (bQ:aU K fdQ ["self","row"] []) (mQ:cU K C "require" fQ):aS P w K mg base (CXE P w) 4 f fd ["self","row"] (tN K C CM cl):=by
 refine okE F aAe (fun vs H Q E h=>?_) (fun cdv A outer s H vs Q E hr h D=>?_)
 ·obtain⟨x,dd,a,b,es,kn,rw',ds,wk,rfl,_⟩:=h;rfl
 ·obtain⟨x,dd,a,b,es,kn,rw',ds,wk,rfl,⟨dx,l,e,k,kvs,g,M⟩,⟨wx,wf,ww,wo,hw0,hw1,hw2,hw3⟩,hS,hsh,hnm,q⟩:=h;have hr1:cO 1 _:=hr.mono (by decide)
  refine⟨_,aK (dI (cM (eK (pv 0) rfl) DC.cl mQ GQ hr bQ .nil (D.passes fun _ _ _ z=>z) (pac (pv 1) aJ)))
   (aK (bO (i:=2) aAe.nd rfl (Or.inl rfl) (eK (pv 0) rfl))
   (aK (dS PassesOwn.leaving rfl (dC (pv 1)) (aP (i:=3) aAe.nd rfl (Or.inl rfl))
    (aK (bO (i:=2) aAe.nd rfl (Or.inl rfl) (cM (pv 0) MC.cl mG GG hr1 bG .nil bU (pac (pv 2) (pac (pv 3) aJ))))
    (aL (dJ (bY vA (pv 2) eD (cH _)) (aL (bS eD)) cF))))
   (aL (bS (pv 2))))),?_⟩
  refine⟨_,rfl,x,CM,dx,_,_,rfl,M.ins,MC.cl,MC.nd,by rfl,dd,wx,wf,rfl,hw0,hw1 "require" (by decide),_,rfl,dd,a,_,wk,rfl,hS,oP hsh,⟨wx,wf,ww,wo,hw0,hw1,hw2,hw3⟩,fun H2 s2=>?_⟩;have q2:=fun H' (s:aO H2 H')=>q H' (s2.trans s)
  by_cases hall:(rw'.map V.str).all (cZ wk)=true
  ·simp only[if_pos hall] at q2 ⊢;have M2:=M.same s2;refine⟨_,rfl,x,CM,dx,_,_,rfl,M2.ins,MC.cl,MC.nf,by rfl,_,rfl,a,rfl,⟨_,s2.seq hS⟩,?_⟩;refine dN (xs:=rw'.map V.str) (fun i σ H'=>∃ z x3,σ=[some (.ref x),some (.ref a),some (.str z),x3]∧walk ds kn b (rw'.take i)=some z∧z∈bZ b es ds∧H'=H2) ?_ ?_ ?_ ?_
   ·exact⟨b,none,rfl,rfl,List.mem_cons_self ..,rfl⟩
   ·rintro i σ H' _ ⟨z,x3,rfl,h1,h2,rfl⟩;exact s2.seq hS
   ·rintro i v σ H' hv ⟨z,x3,rfl,h1,h2,rfl⟩;rw[List.getElem?_map] at hv;cases hy:rw'[i]? with
    | none=>rw[hy] at hv; cases hv
    | some y=>
     rw[hy] at hv;cases hv;have h3:=sW ds kn rw' i b z y h1 hy;refine⟨_,rfl,x,dx,_,rfl,M2.ins,eC _ _ _ _ _ _ (by decide),_,rfl,_,rfl,x,dd,b,z,y,es,kn,ds,rfl,⟨dx,l,e,k,kvs,g,M2⟩,h2,?_⟩;cases hg:iT ds kn z y with
     | none=>
      refine⟨_,rfl,rfl,_,rfl,jI ?_⟩
      have:=q2 H' (aO.refl H')
      rw[sV ds kn rw' (i+1) b (h3.trans hg)] at this;exact this
     | some u=>
      refine⟨_,rfl,rfl,_,rfl,gH ?_⟩;exact⟨u,some (.str y),rfl,h3.trans hg,rV h2 hg,rfl⟩
   ·rintro σ H' ⟨z,x3,rfl,h1,h2,rfl⟩;rw[List.length_map,List.take_length] at h1
    have:=q2 H' (aO.refl H')
    rw[h1] at this;exact⟨_,rfl,this⟩
  ·simp only[if_neg hall] at q2 ⊢;exact q2 H2 (aO.refl H2)
end
end K24
namespace K24
open PySem L2 Ky
seal L2.PE L2.PS L2.PSs L2.PA L2.PT L2.PW L2.PG L2.PI L2.PTs L2.PO L2.OpR L2.IxR L2.CallR L2.MtM L2.MtR
unseal L2.MtM L2.MtR
abbrev ix:Why->Nat
 | .noName=>0
 | .noDeed=>1
 | .twice=>3
 | .tooMany=>4
theorem aJe {l:List MR}{ss:List Str}(hR:aIf l ss):∀ z∈wkn (l.map MR.mw),z∈ss:=fun z hz=>by
 obtain⟨m,hm,hz⟩:=List.mem_flatMap.mp hz;obtain⟨r,hr,rfl⟩:=List.mem_map.mp hm;exact (hR r hr).kn z hz
theorem aKo {l:List MR}{ss:List Str}(hR:aIf l ss):∀ m∈l.map MR.mw,m.rs.all aQ=true:=fun m hm=>by
 obtain⟨r,hr,rfl⟩:=List.mem_map.mp hm;exact (hR r hr).nm
theorem tH {row:List Str}:∀ {ms:List MW},gA ms (ms.map (·.b)) row=ms.map fun m=>walk m.ds m.kn m.b row
 | []=>rfl
 | m::ms=>congrArg (walk m.ds m.kn m.b row::·) (tH (ms:=ms))
inductive aIj (CM:Addr) (H:Hp) (x:Addr) (ms:List MW) (S:List Str):V->Prop
 | no:aIj CM H x ms S .non
 | one (X:Addr) (kn:List Str) (h0_:(cB ms S).length<=60) (h1_:∀ z,z∈kn↔z∈wkn ms) (h2_:MM CM H X x (rN 0) (hU ms S) kn (dH ms S)):aIj CM H x ms S (.ref X)
theorem aKg {C CM CW Pr v x:Addr}{H:Hp}{Q:VK}{E:XK}{ms:List MW}{S:List Str}{wk:List (Key×V)}(W:Wv CM CW H v x ms) (hl:1<=ms.length∧ms.length<=100) (hN:∀ m∈ms,m.rs.all aQ=true) (hW:WAt C H x wk) (hS:∀ z∈wkn ms,z∈S) (h12:S.length<=12) (hg:∀ z∈S,cZ wk (.str z)=true) (so:PyProof.Rows.sortedS S=true) (nd:S.Nodup) (T:Tab lQ lP Pr H)
  (q:∀ ov H8,aO (off H Pr) H8->aIj CM H8 x ms S ov->Q ov H8):aDo C CM CW Pr [.ref v] H Q E:=⟨v,x,ms,S,wk,rfl,W,hl,hN,hW,hS,h12,hg,so,nd,T,fun hle X kn H' s hk hM=>q _ _ s (.one X kn hle hk hM),fun H' s=>q _ _ s .no⟩
structure L24 (C CM CW:Addr) (H:Hp) (x D v R:Addr) (ov:V) (ms:List MW) (S:List Str) (wk:List (Key×V)) (row:List Str):Prop where
 wv:Wv CM CW H v x ms
 wa:WAt C H x wk
 ma:jQ CM H x D ms
 ro:H R=some (.lst (row.map V.str))
 on:aIj CM H x ms S ov
 hl:1<=ms.length∧ms.length<=10
 hN:∀ m∈ms,m.rs.all aQ=true
 hS:∀ z∈wkn ms,z∈S
 hg:∀ z∈S,cZ wk (.str z)=true
 hr:∀ z∈row,z∈wkn ms
 rl:row.length<=63
theorem L24.same {C CM CW:Addr}{H H':Hp}{x D v R:Addr}{ov:V}{ms:List MW}{S:List Str}{wk:List (Key×V)}{row:List Str}(L:L24 C CM CW H x D v R ov ms S wk row) (s:aO H H'):L24 C CM CW H' x D v R ov ms S wk row:=
 ⟨L.wv.same s,dQ L.wa s,L.ma.same s,s _ _ L.ro,(by
  have:=L.on
  cases this with
  | no=>exact .no
  | one X kn h0 h1 h2=>exact .one X kn h0 h1 (h2.same s)),L.hl,L.hN,L.hS,L.hg,L.hr,L.rl⟩
abbrev aGr (u0 u1 u2 u5 u9:Option V) (x D v R:Addr) (ov:V) (k4 rv x12 x13 x14:Option V):St:=[u0,u1,u2,some (.ref x),k4,u5,some (.ref D),some (.ref v),some ov,u9,some (.ref R),rv,x12,x13,x14]
abbrev oN (ms:List MW) (row:List Str) (k:Nat):Option (List Str):=jL ms (ms.map (·.b)) (row.take k)
inductive aIi (C CM CW:Addr) (u0 u1 u2 u5 u9:Option V) (x D v R:Addr) (ov:V) (ms:List MW) (S:List Str) (wk:List (Key×V)) (row:List Str) (k:Nat) (σ:St) (H:Hp):Prop
 | mk (k4:Option V) (rv:V) (x12 x13 x14:Option V) (h0_:σ=aGr u0 u1 u2 u5 u9 x D v R ov k4 (some rv) x12 x13 x14) (h1_:gP ms H rv (oN ms row k)) (h2_:L24 C CM CW H x D v R ov ms S wk row)
inductive JE (C CM CW:Addr) (u0 u1 u2 u5 u9:Option V) (x D v R:Addr) (ov:V) (ms:List MW) (S:List Str) (wk:List (Key×V)) (row:List Str) (k:Nat) (σ:St) (H:Hp):Prop
 | mk (rv:V) (x12 x13 x14:Option V) (h0_:σ=aGr u0 u1 u2 u5 u9 x D v R ov (some (.int (0+(k:Int)))) (some rv) x12 x13 x14) (h1_:gP ms H rv (oN ms row k)) (h2_:L24 C CM CW H x D v R ov ms S wk row)
inductive JD (C CM CW:Addr) (u0 u1 u2 u5 u9:Option V) (x D v R:Addr) (ov:V) (ms:List MW) (S:List Str) (wk:List (Key×V)) (row:List Str) (k:Nat) (σ:St) (H:Hp):Prop
 | mk (rv dv:V) (x12 x14:Option V) (h0_:σ=aGr u0 u1 u2 u5 u9 x D v R ov (some (.int (0+(k:Int)))) (some rv) x12 (some dv) x14) (h1_:gP ms H rv (oN ms row k)) (h2_:gP ms H dv (oN ms row k)) (h3_:L24 C CM CW H x D v R ov ms S wk row)
section
variable {P:Program}{w:World}{K:PySem.W.Frag}{mg:Str->Option Value}{base:Heap}
abbrev lG (ns:List Int):List Str:=dW (RW.cellAt ns 0/256) (gG (RW.cellAt ns 0))
abbrev aKy (ns:List Int):List Str:=pO (RW.cellAt ns 0) (lG ns)
abbrev aHa (ns:List Int):List (Int×Nat):=plant (RW.cellAt ns 1) (RW.cellAt ns 2) (RW.cellAt ns 3)
abbrev N24:List Str:=["_law_script","_law_names","_law_free","_law_deeds","_law_k","_law_plant","_law_machines_here","_law_woven","_law_one_here","_law_cells","_law_row","_law_room","_law_spots","_law_due","_law_spot"]
theorem scL:aR N24 ["_law_script"] (aB lH):=⟨rfl,rfl,rfl,by decide +kernel,rfl,by decide +kernel,by decide +kernel⟩
abbrev ndk:List Str:=["_law_k","_law_script"]
abbrev ndb:List Str:=["_law_machine","_law_k","_law_row"]
inductive aAa (K:PySem.W.Frag) (Pr:Addr) (vs:List V) (H:Hp) (Q:VK) (E:XK):Prop
 | mk (a:Addr) (ns:List Int) (h0_:vs=[.ref a]) (h1_:SqL K H a (ns.map V.int)) (h2_:ns.length<=63) (h3_:H Pr=some (.tbl #[])) (h4_:∀ H',Q (.bl true) H')
theorem aKk {f fC fD fI fP fMo fMs fWI fOn fRw fWB fWT fWE fBh fME C CM CW cT cR cD Pr:Addr}{fd fdC fdD fdI fdP fdMo fdMs fdWI fdOn fdRw fdWB fdWT fdWE fdBh fdME:FuncData}{cl:Why->Addr}(F:Fun K "law" "law" lH f fd)
  (T:Txt K mg) (WC:pP K CW) (MC:mV K CM) (mTu:mg "tuple"=none)
  (GC:aS P w K mg base CX0 2 fC fdC ["_law_script","_law_k"] (aDt K)) (kC:PySem.W.keepIn K (.ref fC)=true) (bC:aU K fdC ["_law_script","_law_k"] []) (mC:mg "_law_cell_at" = some (.ref fC))
  (GD:aS P w K mg base CX0 2 fD fdD ["_law_cell"] (tP K)) (kD:PySem.W.keepIn K (.ref fD)=true) (bD:aU K fdD ["_law_cell"] []) (mD:mg "_law_deeds_by" = some (.ref fD))
  (GI:aS P w K mg base (CXE P w) 4 fI fdI ["self","names","free"] (aDs K C cl)) (MI:Mk K C fI) (bI:aU K fdI ["self","names","free"] []) (mDs:mg "Deeds" = some (.ref C))
  (GP:aS P w K mg base CX0 3 fP fdP ["_law_cells","_law_names"] (tL K)) (kP:PySem.W.keepIn K (.ref fP)=true) (bP:aU K fdP ["_law_cells","_law_names"] []) (mP:mg "_law_plant_by" = some (.ref fP))
  (GMo:aS P w K mg base CX0 3 fMo fdMo ["_law_plant","_law_cell","_law_names"] (aDp K)) (kMo:PySem.W.keepIn K (.ref fMo)=true) (bMo:aU K fdMo ["_law_plant","_law_cell","_law_names"] []) (mMo:mg "_law_more" = some (.ref fMo))
  (GMs:aS P w K mg base CX0 6 fMs fdMs ["_law_deeds","_law_plant"] (rB C CM)) (kMs:PySem.W.keepIn K (.ref fMs)=true) (bMs:aU K fdMs ["_law_deeds","_law_plant"] []) (mMs:mg "_law_machines" = some (.ref fMs))
  (GWI:aS P w K mg base (CXE P w) 3 fWI fdWI ["self","machines"] (uR CM CW cT)) (WMk:Mk K CW fWI) (bWI:aU K fdWI ["self","machines"] []) (mWv:mg "Woven" = some (.ref CW))
  (GOn:aS P w K mg base CX0 12 fOn fdOn ["_law_woven"] (aDo C CM CW Pr)) (kOn:PySem.W.keepIn K (.ref fOn)=true) (bOn:aU K fdOn ["_law_woven"] []) (mOn:mg "_law_one" = some (.ref fOn))
  (GRw:aS P w K mg base CX0 6 fRw fdRw ["_law_woven","_law_cells"] (zU K C CM CW)) (kRw:PySem.W.keepIn K (.ref fRw)=true) (bRw:aU K fdRw ["_law_woven","_law_cells"] []) (mRw:mg "_law_row_by" = some (.ref fRw))
  (GWB:aS P w K mg base CX0 3 fWB fdWB ["self"] (jS CM CW)) (bWB:aU K fdWB ["self"] []) (mWB:cU K CW "begin" fWB)
  (GWT:aS P w K mg base (CXE P w) 4 fWT fdWT ["self","room","deed"] (tJ K C CM CW cD)) (bWT:aU K fdWT ["self","room","deed"] []) (mWT:cU K CW "to" fWT)
  (GWE:aS P w K mg base CX0 5 fWE fdWE ["self","room"] (qX K CM CW)) (bWE:aU K fdWE ["self","room"] []) (mWE:cU K CW "is_end" fWE)
  (GBh:aS P w K mg base (CXE P w) 4 fBh fdBh ["self","row"] (tN K C CM cl)) (bBh:aU K fdBh ["self","row"] []) (mBh:cU K CM "behind" fBh)
  (GME:aS P w K mg base (CXE P w) 3 fME fdME ["self","room"] (oQ CM cR)) (bME:aU K fdME ["self","room"] []) (mME:cU K CM "is_end" fME) :
  aS P w K mg base CX0 13 f fd ["_law_script"] (aAa K Pr):=by
 refine F.ok scL (fun vs H Q E h=>?_) (fun cdv A outer s H vs Q E hr h=>?_)
 ·obtain⟨a,ns,rfl,_⟩:=h;rfl
 ·obtain⟨a,ns,rfl,hS,hlen,hPr,k⟩:=h;have hr2:cO 2 _:=hr.mono (by decide);have hr3:cO 3 _:=hr.mono (by decide);have hr4:cO 4 _:=hr.mono (by decide);have hr5:cO 5 _:=hr.mono (by decide);have hr6:cO 6 _:=hr.mono (by decide);have hu0:=Nat.lt_of_succ_lt (iS hr);have ctk:∀ (row:List Str) (n:Nat),zK (row.map V.str) none (some (0+(n:Int)))=(row.take n).map V.str:=fun row n=>by rw[Int.zero_add]; exact aLd row n
  have three:∃ t3,PSs (iB CX0 P w K mg base N24 "law" (aB lH) f cdv A outer s H E).nox ((vO ((aF lH).getD 10 (.Pass ⟨0,0,0,0⟩))).drop 5) t3∧∀ (u0 u1 u2 u5 u9:Option V) (x D v R:Addr) (ov:V) (ms:List MW) (S:List Str) (wk:List (Key×V)) (row:List Str) (k:Nat) (En:mY) σ H',k<=row.length->JE C CM CW u0 u1 u2 u5 u9 x D v R ov ms S wk row k σ H'->(∀ σ2 H2,aIi C CM CW u0 u1 u2 u5 u9 x D v R ov ms S wk row (k+1) σ2 H2∨(k=row.length∧True)->En.nx σ2 H2)->t3 En σ H':=by
   refine⟨_,aL (dJ (rF (bY jF (pv 11) eD (cH _)) (qF (bY aEp (pv 4) (cX dF (by rfl) T.len Bo.len (pac (pv 10) aJ)) (cH _)))).pt
    (aL (bO (i:=11) scL.nd rfl (Or.inl rfl) (cM (pv 7) WC.cl mWT GWT hr4 bWT .nil jN (pac (pv 11) (pac (eW cY (pv 10) (pv 4) (fun _ _=>rfl)) aJ))))) cF),?_⟩
   rintro u0 u1 u2 u5 u9 x D v R ov ms S wk row k En σ H' hk ⟨rv,x12,x13,x14,rfl,hrv,L⟩ nx;generalize ho:oN ms row k=o at hrv;cases hrv with
   | no=>
    refine⟨_,rfl,rfl,_,rfl,dY (fun h=>absurd h (by simp)) fun _=>gH ?_⟩
    by_cases he:k=row.length
    ·exact nx _ _ (.inr ⟨he,trivial⟩)
    ·have hkl:k<row.length:=by omega
     refine nx _ _ (.inl ⟨_,_,_,_,_,rfl,?_,L⟩)
     rw[show oN ms row (k+1)=none by
      unfold oN at ho ⊢;rw[List.take_succ,List.getElem?_eq_getElem hkl,Option.toList_some,lV,ho];rfl]
     exact .no
   | «at» t r h0 h1=>
    refine⟨_,rfl,rfl,_,rfl,dY (fun _=>?_) (fun h=>absurd (by simp) h)⟩;refine⟨_,rfl,_,rfl,R,_,rfl,.inl (SqL.of L.ro),_,_,rfl,rfl,_,rfl,dY (fun hlt=>?_) (fun hge=>?_)⟩
    ·have hkl:k<row.length:=by have:=of_decide_eq_true hlt; rw[List.length_map] at this; omega
     have hy:=List.getElem?_eq_getElem hkl;have hym:row[k]∈row:=List.getElem_mem hkl;generalize row[k]=y at hy hym;obtain⟨dv,lm,lk',kn',hi,_⟩:=id L.wv;have hyk:=L.hr y hym;have gy:=L.hg y (L.hS y hyk)
     have hup:oN ms row (k+1)=wto ms r y:=by
      unfold oN at ho ⊢;rw[List.take_succ,hy,Option.toList_some,lV,ho];rfl
     refine⟨_,rfl,v,dv,_,rfl,hi,cE _ _ _ (by decide),_,rfl,_,rfl,_,rfl,R,_,_,.str y,rfl,rfl,SqL.of L.ro,by rw[Int.zero_add]; exact jK (by rw[List.getElem?_map,hy]; rfl),v,x,t,.str y,ms,r,wk,rfl,L.wv,SqT.of h0,h1,⟨L.hl.1,by have:=L.hl.2; omega⟩,L.wa,.inl ⟨y,rfl,fX gy⟩,fun _ u eu=>?_,fun bad=>absurd (gy.symm.trans bad) (by decide)⟩;cases eu;cases hw:wto ms r y with
     | none=>exact fun H3 s3=>nx _ _ (.inl ⟨_,_,_,_,_,rfl,by rw[hup,hw]; exact .no,L.same s3⟩)
     | some r'=>exact fun l3 H3 s3 n3 e3=>nx _ _ (.inl ⟨_,_,_,_,_,rfl,by rw[hup,hw]; exact .at l3 r' e3 (h1.far L.hN hw),L.same s3⟩)
    ·have he:k=row.length:=Nat.le_antisymm hk (Nat.le_of_not_lt fun z=>hge (decide_eq_true (by rw[List.length_map]; omega)));exact nx _ _ (.inr ⟨he,trivial⟩)
  obtain⟨t3,p3,r3⟩:=three
  have two:∃ t2,PSs (iB CX0 P w K mg base N24 "law" (aB lH) f cdv A outer s H E).nox ((vO ((aF lH).getD 10 (.Pass ⟨0,0,0,0⟩))).drop 3) t2∧∀ (u0 u1 u2 u5 u9:Option V) (x D v R:Addr) (ov:V) (ms:List MW) (S:List Str) (wk:List (Key×V)) (row:List Str) (k:Nat) (En:mY) σ H',k<=row.length->JD C CM CW u0 u1 u2 u5 u9 x D v R ov ms S wk row k σ H'->(∀ σ2 H2,aIi C CM CW u0 u1 u2 u5 u9 x D v R ov ms S wk row (k+1) σ2 H2∨(k=row.length∧True)->En.nx σ2 H2)->t2 En σ H':=by
   refine⟨_,aK (dJ (bY (aKe hu0) (pv 11) (pv 13) (cH _)) (aL (bS tW)) cF)
    (aK (dJ (bY jF (pv 8) eD (cH _))
     (aK (bO (i:=14) scL.nd rfl (Or.inl rfl) (cM (pv 8) MC.cl mBh GBh hr4 bBh .nil jN (pac (wT aAc (pv 10) aAi (aAh (pv 4))) aJ)))
     (aL (dJ (wO (bY aIs (qH vA (pv 14) eD (cH _)) (qH vA (pv 13) eD (cH _)) (cH _))
       (uZ (rF (bY jF (pv 14) eD (cH _)) (qF (bY aIs (cM (pv 8) MC.cl mME GME hr3 bME .nil jN (pac (pv 14) aJ)) (cM (pv 7) WC.cl mWE GWE hr5 bWE .nil bU (pac (pv 13) aJ)) (cH _)))).pt)).pt (aL (bS tW)) cF))) cF) p3),?_⟩
   rintro u0 u1 u2 u5 u9 x D v R ov ms S wk row k En σ H' hk ⟨rv,dv,x12,x14,rfl,hrv,hdv,L⟩ nx;have fin:∀ (En:mY) (x14:Option V) H2,aO H' H2->(∀ σ2 H2,aIi C CM CW u0 u1 u2 u5 u9 x D v R ov ms S wk row (k+1) σ2 H2∨(k=row.length∧True)->En.nx σ2 H2)->t3 En (aGr u0 u1 u2 u5 u9 x D v R ov (some (.int (0+(k:Int)))) (some rv) x12 (some dv) x14) H2:=fun En x14 H2 s2 nx=>r3 u0 u1 u2 u5 u9 x D v R ov ms S wk row k En _ H2 hk ⟨rv,_,_,_,rfl,hrv.same s2,L.same s2⟩ nx;have rest:∀ (x14:Option V) H2,aO H' H2->gP ms H2 dv (oN ms row k)->_:=fun x14 H2 s2 hd2=>fin En x14 H2 s2 nx;clear rest;generalize ho:oN ms row k=o at hrv hdv
   have seq:∀ {G:Prop},(∀ Q0:VK,(Q0 (.bl false) H')->aDz K false rv dv H' Q0):=fun {G} Q0 q0=>by
    cases hrv with
    | no=>cases hdv; exact .nn rfl rfl q0
    | «at» t r h0 h1=>cases hdv with | «at» t' _ h0' _=>exact .tt t t' r rfl rfl (SqT.of h0) (SqT.of h0') q0
   refine⟨_,rfl,_,rfl,seq (G:=True) _ ⟨_,rfl,gH ?_⟩⟩;have hon:=L.on;cases hon with
   | no=>exact⟨_,rfl,rfl,_,rfl,dY (fun h=>absurd h (by simp)) fun _=>fin _ _ H' (aO.refl H') nx⟩
   | one X kn h60 hkn M=>
    refine⟨_,rfl,rfl,_,rfl,dY (fun _=>?_) (fun h=>absurd (by simp) h)⟩;obtain⟨dx,l,e,kk,kvs,g,M0⟩:=id M;refine⟨_,rfl,X,dx,_,rfl,M0.ins,eC _ _ _ _ _ _ (by decide),_,rfl,_,rfl,_,rfl,R,_,rfl,SqL.of L.ro,fun p15 hp15=>?_⟩;rw[ctk];have s1:aO H' (upd H' p15 (.lst ((row.take k).map V.str))):=smu hp15;have e1:(upd H' p15 (.lst ((row.take k).map V.str))) p15=some (.lst ((row.take k).map V.str)):=aE;generalize upd H' p15 (.lst ((row.take k).map V.str))=H1 at s1 e1 ⊢;have hrk:∀ z∈row.take k,z∈wkn ms:=fun z hz=>L.hr z (List.mem_of_mem_take hz);have hgk:∀ z∈row.take k,cZ wk (.str z)=true:=fun z hz=>L.hg z (L.hS z (hrk z hz));refine⟨X,x,p15,rN 0,hU ms S,kn,row.take k,dH ms S,wk,rfl,M.same s1,dQ L.wa s1,SqL.of e1,fun z hz=>fX (hgk z hz),nN h60,fun H2 s2=>?_⟩
    rw[if_pos (List.all_eq_true.mpr fun y hy=>by
     obtain⟨z,hz,rfl⟩:=List.mem_map.mp hy;exact hgk z hz)]
    have s12:=s1.trans s2
    have hwk:walk (dH ms S) kn (rN 0) (row.take k)=o.map (rOf ms S):=by
     rw[← oX h60,vT h60 hkn L.hS iK hrk,← ho]
    cases hdv with
    | no=>
     rw[hwk];exact⟨_,rfl,rfl,_,rfl,rfl,rfl,_,rfl,dY (fun h=>absurd h (by simp[oV])) fun _=>⟨_,rfl,rfl,_,rfl,dY (fun h=>absurd h (by simp[oV])) fun _=>gH (fin _ _ H2 s12 nx)⟩⟩
    | «at» t r h0 h1=>
     have hrc:r∈cB ms S:=qP h60 iK (fun y hy=>L.hS y (hrk y hy)) ho;have hmem:rOf ms S r∈bZ (rN 0) (hU ms S) (dH ms S):=vU (List.mem_append_left _ (List.mem_cons_self ..)) hwk;have M2:=M.same s12;obtain⟨dx2,l2,e2,kk2,kvs2,g2,M02⟩:=id M2;rw[hwk];refine⟨_,rfl,rfl,_,rfl,rfl,rfl,_,rfl,dY (fun h=>absurd h (by simp[oV])) fun _=>⟨_,rfl,rfl,_,rfl,dY (fun _=>?_) (fun h=>absurd (by simp[oV]) h)⟩⟩;refine⟨_,rfl,X,dx2,_,rfl,M02.ins,eC _ _ _ _ _ _ (by decide),_,rfl,X,x,rN 0,rOf ms S r,hU ms S,kn,dH ms S,rfl,M2,Nat.le_trans (aEb _ (vJ h60 hrc)).2 (by decide),fun _ H3 s3=>?_,fun bad=>absurd ⟨wN h60 hrc,hmem⟩ bad⟩;have s13:=s12.trans s3;have W3:=L.wv.same s13;obtain⟨dv3,lm3,lk3,kn3,hi3,_⟩:=id W3;refine⟨_,rfl,v,dv3,_,rfl,hi3,cE _ _ _ (by decide),_,rfl,v,x,t,ms,r,rfl,W3,SqT.of (s13 _ _ h0),h1,by have:=L.hl.2; omega,fun H4 s4=>⟨rfl,_,rfl,?_⟩⟩;rw[aCg h60 hrc];exact dY (fun h=>absurd h (by simp)) fun _=>fin _ _ H4 (s13.trans s4) nx
  obtain⟨t2,p2,r2⟩:=two
  refine⟨_,aK (aJx (bJ GD hr2 rfl mD kD bD .nil bU (pac (bJ GC hr2 rfl mC kC bC .nil bU (pac (pv 0) (pac aN aJ))) aJ)) (eU rfl (aX (aP (i:=1) scL.nd rfl (Or.inl rfl)) (aX (aP (i:=2) scL.nd rfl (Or.inl rfl)) dL))))
   (aK (bO (i:=3) scL.nd rfl (Or.inl rfl) (qG MI GI hr5 rfl mDs bI .nil jN (pac (pv 1) (pac (pv 2) aJ))))
   (aK (bO (i:=5) scL.nd rfl (Or.inl rfl) (bJ GP hr3 rfl mP kP bP .nil bU (pac (gB (N':=ndk) (nown:=1) (js:=[0]) rfl
     ⟨rfl,by decide +kernel,by decide +kernel⟩ (cK (aB lH) N24 rfl rfl (by decide +kernel))
     ⟨fun _ _ _ _=>aP (i:=0) (show List.Nodup ndk by decide +kernel) rfl (Or.inl rfl) (.inr rfl),fun _ _ _ _=>eN,fun _ _ _ _=>bJ GC hr2 rfl mC kC bC .nil bU (pac (pv 1) (pac (pv 0) aJ))⟩
     (aBo rfl T.range (pac aN (pac aN aJ)))) (pac (pv 1) aJ))))
   (aK (bO (i:=5) scL.nd rfl (Or.inl rfl) (bJ GMo hr3 rfl mMo kMo bMo .nil bU (pac (pv 5) (pac (bJ GC hr2 rfl mC kC bC .nil bU (pac (pv 0) (pac aN aJ))) (pac (pv 1) aJ)))))
   (aK (bO (i:=6) scL.nd rfl (Or.inl rfl) (bJ GMs hr6 rfl mMs kMs bMs .nil bU (pac (pv 3) (pac (pv 5) aJ))))
   (aK (bO (i:=7) scL.nd rfl (Or.inl rfl) (qG WMk GWI hr4 rfl mWv bWI .nil jN (pac (pv 6) aJ)))
   (aK (bO (i:=8) scL.nd rfl (Or.inl rfl) (bJ GOn hr rfl mOn kOn bOn .nil bU (pac (pv 7) aJ)))
   (aK (eJ (i:=9) (N':=ndk) (nown:=1) (js:=[0]) rfl scL.nd rfl rfl rfl
     ⟨rfl,by decide +kernel,by decide +kernel⟩ (cK (aB lH) N24 rfl rfl (by decide +kernel))
     ⟨fun _ _ _ _=>aP (i:=0) (show List.Nodup ndk by decide +kernel) rfl (Or.inl rfl) (.inr rfl),fun _ _ _ _=>eN,fun _ _ _ _=>bJ GC hr2 rfl mC kC bC .nil bU (pac (pv 1) (pac (aY dU aN (pv 0)) aJ))⟩
     (gT rfl T.range (pac (aY cQ (bJ GC hr2 rfl mC kC bC .nil bU (pac (pv 0) (pac aN aJ))) aN) aJ)))
   (aK (bO (i:=10) scL.nd rfl (Or.inr rfl) (bJ GRw hr6 rfl mRw kRw bRw .nil bU (pac (pv 7) (pac (pv 9) aJ))))
   (aK (bO (i:=11) scL.nd rfl (Or.inl rfl) (dM (pv 7) WC.cl mWB GWB hr3 bWB .nil bU))
   (aK (dS PassesOwn.never rfl (gT rfl T.range (pac (aY dU (cX dF (by rfl) T.len Bo.len (pac (pv 10) aJ)) aN) aJ)) (aP (i:=4) scL.nd rfl (Or.inr rfl))
    (aK (eJ (i:=12) (N':=ndb) (nown:=1) (js:=[4,10]) rfl scL.nd rfl rfl rfl
      ⟨rfl,by decide +kernel,by decide +kernel⟩ (cK (aB lH) N24 rfl rfl (by decide +kernel))
      ⟨fun _ _ _ _=>aP (i:=0) (show List.Nodup ndb by decide +kernel) rfl (Or.inl rfl) (.inr rfl),fun _ _ _ _=>eN,fun _ _ _ _=>cM (pv 0) MC.cl mBh GBh hr4 bBh .nil jN (pac (wT (show SlR _ (aMb K) from aAc) (pv 2) aAi (aAh (pv 1))) aJ)⟩
      (dC (pv 6)))
    (aK (bO (i:=13) scL.nd rfl (Or.inl rfl) eD)
    (aK (dJ (bY aBr eD (pv 12) (by with_unfolding_all rfl)) (aL (bO (i:=13) scL.nd rfl (Or.inl rfl) (gU iL (by rfl) mTu Bo.tuple (pac (pv 12) aJ)))) cF) p2))))
   (aL (bS tW)))))))))))),?_⟩
  have h12:(lG ns).length<=12:=by show (dW _ _).length<=12; unfold dW; rw[List.length_map,List.length_range]; exact lD _
  have hS12:∀ z∈lG ns,z∈iY:=fun z hz=>xB hz;have hnm:∀ z∈lG ns,aQ z=true:=fun z hz=>yB z (hS12 z hz);have hnd:(lG ns).Nodup:=sS _ (lD _);have hF:∀ z∈aKy ns,z∈lG ns:=fun z hz=>zG hz;have hFl:(aKy ns).length<=12:=Nat.le_trans (zH _ _) h12;have sh:oC (lG ns):=fun z hz=>Nat.le_trans (nQ (hnm z hz)) (by decide);refine⟨_,rfl,a,ns,0,rfl,hS,RW.cellAt ns 0,rfl,fun t l m H1 s1 ht hl hm=>⟨t,_,rfl,SqT.of ht,rfl,_,_,rfl,_,_,rfl,rfl,?_⟩⟩;refine⟨_,rfl,_,rfl,fun x dx hx hdx _=>?_⟩;have k1:aO H1 (upd (upd H1 dx (.own x)) x (.ins C dx [])):=fun b o e=>by rw[aH (aI e hx),aH (aI e hdx)]; exact e
  refine⟨x,l,.ref m,dx,lG ns,aKy ns,rfl,aE,SqL.of (k1 _ _ hl),.inr ⟨m,rfl,SqL.of (k1 _ _ hm)⟩,sh,fun z hz=>sh z (hF z hz),by omega,fun H2 sb=>?_⟩;rw[aFu h12 hnm hnd hF];intro dw df o S e1 e2 e3 pm so;have s2:aO H1 H2:=fun b u e=>sb b u (aI e hx) (k1 b u e);have W2:WAt C H2 x (wts S 1 []):=⟨dx,_,dw,o,e1,aOw _ _,by rfl,e2⟩;have hS2:=(s1.trans s2).seq hS;have hl2:=s2 _ _ hl;have s02:=s1.trans s2;refine⟨rfl,?_⟩;clear hx hdx k1 sb e1 e2 e3;refine⟨1,4,rfl,⟨by decide,by decide,by decide,by decide⟩,fun D hD=>iU (n:=3) (fun i σ' H'=>∃ v,σ'=[v,some (.ref a)]∧H' D=some (.lst (([RW.cellAt ns 1,RW.cellAt ns 2,RW.cellAt ns 3].take i).map V.int))∧aO H2 H') ?_ ?_ ?_⟩
  ·exact⟨none,rfl,aE,smu hD⟩
  ·rintro i σ' H' hi ⟨v,rfl,h1,h2⟩;refine⟨_,rfl,_,rfl,a,ns,1+i,by rw[Int.natCast_add]; rfl,h2.seq hS2,_,h1,aW (by rw[List.length_map,List.length_take]; omega),_,rfl,?_,fun b o' e=>?_⟩
   ·rw[aE]
    match i,hi with
    | 0,_=>rfl
    | 1,_=>rfl
    | 2,_=>rfl
   ·rw[aH (aI e hD)];exact h2 _ _ e
  rintro σ' H3 ⟨v,rfl,h3,s3⟩;refine⟨_,rfl,D,l,RW.cellAt ns 1,RW.cellAt ns 2,RW.cellAt ns 3,lG ns,rfl,SqL.of h3,SqL.of (s3 _ _ hl2),h12,fun p H4 s4 PA=>?_⟩;have s24:=s3.trans s4;have hgood:=aHu pm hnm
  have pln:1<=(aHa ns).length∧(aHa ns).length<=3:=by
   show 1<=((tU _ _ _).take _).length∧((tU _ _ _).take _).length<=3
   have:=xH (RW.cellAt ns 1)
   rw[List.length_take];show 1<=min _ 3∧min _ 3<=3;omega
  have plf:aGg (aHa ns):=fun y hy=>aIk _ _ _ y (List.mem_of_mem_take hy);refine⟨_,rfl,_,rfl,a,ns,45,rfl,s24.seq hS2,_,rfl,p,l,RW.cellAt ns 45,aHa ns,lG ns,rfl,PA,SqL.of (s24 _ _ hl2),h12,pln,plf,fun pl L H5 s5 n5 PA5 hL hF5=>?_⟩;have hR0:aGc L (lG ns):=fun y hy=>⟨aMa (hF5 y hy).1 (hF5 y hy).2 h12 hnd,(hF5 y hy).2⟩;have hR:=aLz hR0;have PL5:=aJy PA5;have lL:1<=(L.map (wH (lG ns))).length∧(L.map (wH (lG ns))).length<=7:=by rw[List.length_map]; exact hL
  generalize L.map (wH (lG ns))=l5 at hR PL5 lL;have s25:=s24.trans s5;have W5:=dQ W2 s25;have hS5:=s25.seq hS2;have s05:=s02.trans s25;have TR5:Tab lQ lP Pr H5:=.inl (s05 _ _ hPr);clear hD h3 s3 s4 hS2 hl2 W2 s24 s2 PA s5 s25 PA5 hF5 hL hR0 s02 s05;refine⟨_,rfl,_,rfl,x,pl,l5,lG ns,wts S 1 [],rfl,W5,PL5,by omega,hR,hgood,fun D6 H6 s6 n6 MS6=>?_⟩;have hwk:=aJe hR;have hN:=aKo hR;have msl:(l5.map MR.mw).length=l5.length:=List.length_map ..;refine⟨_,rfl,fun v7 dv7 hv hdv _=>?_⟩;have k1:aO H6 (upd (upd H6 dv7 (.own v7)) v7 (.ins CW dv7 [])):=fun b o' e=>by rw[aH (aI e hv),aH (aI e hdv)]; exact e
  refine .mk v7 dv7 x D6 (l5.map MR.mw) (lG ns) rfl aE (MS6.same k1) ⟨by omega,by omega⟩ (fun mw hm z hz=>hwk z (List.mem_flatMap.mpr ⟨mw,hm,hz⟩)) (by omega) fun H7 sb W7 _=>⟨rfl,?_⟩;have s67:aO H6 H7:=fun b u e=>sb b u (aI e hv) (k1 b u e);have s57:=s6.trans s67;have M7:=MS6.same s67;have hW7:=dQ W5 s57;have TR7:=TR5.same s57;have hS7:=s57.seq hS5;clear k1 sb hv hdv MS6 n6 s6 s67 s57 W5 hS5 TR5 PL5;generalize l5.map MR.mw=ms at *;have hkS:∀ z∈wkn ms,z∈S:=fun z hz=>pm.mem_iff.mpr (hwk z hz);have hgS:∀ z∈S,cZ (wts S 1 []) (.str z)=true:=fun z hz=>hgood z (pm.mem_iff.mp hz);have ndS:S.Nodup:=pm.nodup_iff.mpr hnd;have Sl:S.length<=12:=by rw[pm.length_eq]; exact h12
  have hml:1<=ms.length∧ms.length<=10:=by omega
  obtain⟨dv8,lm8,lk8,kn8,hi7,_⟩:=id W7;refine⟨_,rfl,aKg W7 ⟨hml.1,by omega⟩ hN hW7 hkS Sl hgS so ndS TR7 fun ov H8 s8 hon=>?_⟩;have nt:=aFd TR7.tb s8;have W8:=ntV nt W7;have hW8:=ntW nt hW7;have M8:=aMh nt M7;have hS8:=ntL nt hS7;clear nt s8 W7 hW7 M7 hS7 TR7 hi7;have g40:=cC (RW.cellAt ns 4) (m:=40) (by decide);refine⟨_,rfl,a,ns,4,rfl,hS8,_,_,rfl,rfl,(by show (0:Int)<40; decide),RW.cellAt ns 4%40,rfl,by omega,by omega,fun D9 hD9=>iU (n:=(RW.cellAt ns 4%40).toNat) (fun i σ' H'=>∃ w,σ'=[w,some (.ref a)]∧H' D9=some (.lst (((List.range i).map fun k=>RW.cellAt ns (5+k)).map V.int))∧aO H8 H') ?_ ?_ ?_⟩
  ·exact⟨none,rfl,aE,smu hD9⟩
  ·rintro i σ' H' hi ⟨w',rfl,h1,h2⟩;refine⟨_,rfl,_,rfl,_,_,rfl,rfl,a,ns,5+i,by rw[Int.zero_add,Int.natCast_add]; rfl,h2.seq hS8,_,h1,aW (by rw[List.length_map,List.length_map,List.length_range]; omega),_,rfl,?_,fun b o' e=>?_⟩
   ·rw[aE,List.range_succ,List.map_append,List.map_append];rfl
   ·rw[aH (aI e hD9)];exact h2 _ _ e
  rintro σ' H9 ⟨w',rfl,h9,s9⟩;have W9:=W8.same s9;refine⟨_,rfl,_,rfl,v7,D9,x,ms,S,wts S 1 [],_,rfl,W9,⟨hml.1,by omega⟩,hN,dQ hW8 s9,hkS,by omega,hgS,SqL.of h9,by rw[List.length_map,List.length_range]; omega,fun R row H10 s10 n10 e10 hrow hrl=>?_⟩;have s810:=s9.trans s10;have W10:=W8.same s810;obtain⟨dvA,lmA,lkA,knA,hiA,_⟩:=id W10;refine⟨_,rfl,v7,dvA,_,rfl,hiA,cE _ _ _ (by decide),v7,x,ms,rfl,W10,by omega,fun bg H11 s11 n11 e11=>?_⟩;have s811:=s810.trans s11
  have L11:L24 C CM CW H11 x D6 v7 R ov ms S (wts S 1 []) row:=⟨W8.same s811,dQ hW8 s811,M8.same s811,s11 _ _ e10,(by
   cases hon with
   | no=>exact .no
   | one X kn h0 h1 h2=>exact .one X kn h0 h1 (h2.same s811)),hml,hN,hkS,hgS,hrow,hrl⟩
  clear hD9 h9 s9 W9 s10 n10 e10 W10 hiA s11 s810 s811 W8 hW8 M8 hS8 hon;refine⟨_,rfl,R,_,rfl,.inl (SqL.of L11.ro),_,_,rfl,rfl,_,rfl,by rw[List.length_map]; omega,by rw[List.length_map]; omega,?_⟩;have en:(((row.map V.str).length:Int)+1).toNat=row.length+1:=by rw[List.length_map]; omega
  rw[en];refine uG (n:=row.length+1) (fun i σ H'=>aIi C CM CW (some (.ref a)) (some (.ref l)) (some (.ref m)) (some (.ref pl)) (some (.ref D9)) x D6 v7 R ov ms S (wts S 1 []) row i σ H'∨i=row.length+1) ?_ ?_ ?_
  ·exact .inl ⟨_,_,_,_,_,rfl,.at bg _ e11 (ROk.begin hN),L11⟩
  ·rintro i σ H' hi (⟨k4,rv,x12,x13,x14,rfl,hrv,L⟩ | he)
   rotate_left
   ·omega
   obtain⟨Xs,y0,y1,y2⟩:=L.ma.ex;have hrk:∀ z∈row.take i,z∈wkn ms:=fun z hz=>L.hr z (List.mem_of_mem_take hz);have hgk:∀ z∈row.take i,cZ (wts S 1 []) (.str z)=true:=fun z hz=>L.hg z (L.hS z (hrk z hz))
   have hall:((row.take i).map V.str).all (cZ (wts S 1 []))=true:=List.all_eq_true.mpr fun y hy=>by
    obtain⟨z,hz,rfl⟩:=List.mem_map.mp hy;exact hgk z hz
   refine⟨_,rfl,D6,rfl,⟨_,SqL.of y0⟩,fun D12 hD12=>iV (xs:=Xs.map V.ref) (fun j σ' H2=>∃ w,σ'=[w,some (.int (0+(i:Int))),some (.ref R)]∧H2 D12=some (.lst (((ms.take j).map fun m=>walk m.ds m.kn m.b (row.take i)).map oV))∧aO H' H2) ?_ ?_ ?_ ?_⟩
   ·exact⟨none,rfl,aE,smu hD12⟩
   ·rintro j σ' H2 _ ⟨w',rfl,a1,a2⟩;exact SqL.of (a2 _ _ y0)
   ·rintro j u σ' H2 hv ⟨w',rfl,a1,a2⟩;rw[List.getElem?_map] at hv;cases hX:Xs[j]? with
    | none=>rw[hX] at hv; cases hv
    | some X=>
     rw[hX] at hv;cases hv;have hj:j<ms.length:=by rw[← y1]; exact (List.getElem?_eq_some_iff.mp hX).1
     have hmj:=List.getElem?_eq_getElem hj;have hmm:ms[j]∈ms:=List.getElem_mem hj;generalize ms[j]=mw at hmj hmm;have MX:=(y2 j X mw hX hmj).same a2;obtain⟨dx',l',e',k',kvs',g',M0⟩:=id MX;refine⟨_,rfl,X,dx',_,rfl,M0.ins,eC _ _ _ _ _ _ (by decide),_,rfl,_,rfl,_,rfl,R,_,rfl,SqL.of (a2 _ _ L.ro),fun p15 hp15=>?_⟩;rw[ctk];have s1:aO H2 (upd H2 p15 (.lst ((row.take i).map V.str))):=smu hp15;have e1:(upd H2 p15 (.lst ((row.take i).map V.str))) p15=some (.lst ((row.take i).map V.str)):=aE;generalize upd H2 p15 (.lst ((row.take i).map V.str))=H3 at s1 e1 ⊢;refine⟨X,x,p15,mw.b,mw.es,mw.kn,row.take i,mw.ds,wts S 1 [],rfl,MX.same s1,dQ L.wa (a2.trans s1),SqL.of e1,fun z hz=>fX (hgk z hz),L.hN mw hmm,fun H4 s4=>?_⟩;rw[if_pos hall];refine⟨_,s4 _ _ (s1 _ _ a1),aW (by rw[List.length_map,List.length_map,List.length_take]; omega),_,rfl,?_,fun b o' e'=>?_⟩
     ·rw[aE,List.take_succ,hmj,List.map_append,List.map_append];rfl
     ·rw[aH (aI e' hD12)];exact s4 _ _ (s1 _ _ (a2 _ _ e'))
   rintro σ' H2 ⟨w',rfl,a1,a2⟩;rw[List.length_map,y1,List.take_length] at a1;have esp:=pS (ms:=ms) (r:=ms.map (·.b)) (row:=row.take i) (by rw[List.length_map]) hrk;rw[tH] at esp;generalize (ms.map fun m=>walk m.ds m.kn m.b (row.take i))=os at a1 esp;have L2:=L.same a2;have hrv2:=hrv.same a2;refine⟨_,rfl,D12,os,rfl,rfl,SqL.of a1,_,rfl,?_⟩
   by_cases hany:(os.any fun o=>o.isNone)=true
   ·rw[if_pos hany] at esp;rw[hany];refine gH (r2 _ _ _ _ _ x D6 v7 R ov ms S (wts S 1 []) row i _ _ H2 (by omega) ⟨rv,.non,_,_,rfl,hrv2,?_,L2⟩ fun σ2 H3 h=>h.elim .inl fun h=>.inr (by omega));rw[show oN ms row i=none from esp]
    exact .no
   ·rw[if_neg hany] at esp;rw[Bool.eq_false_iff.mpr hany];have ho:oN ms row i=some (os.map fun o=>o.getD ""):=esp;have a1':=a1;rw[yW (Bool.eq_false_iff.mpr hany)] at a1';refine jI ⟨_,rfl,D12,_,rfl,.inl ⟨SqL.of a1',fun t13 ht13=>?_⟩⟩;have s3:aO H2 (upd H2 t13 (.tup ((os.map fun o=>o.getD "").map V.str))):=smu ht13;have e3:(upd H2 t13 (.tup ((os.map fun o=>o.getD "").map V.str))) t13=some (.tup ((os.map fun o=>o.getD "").map V.str)):=aE;generalize upd H2 t13 (.tup ((os.map fun o=>o.getD "").map V.str))=H3 at s3 e3 ⊢;refine r2 _ _ _ _ _ x D6 v7 R ov ms S (wts S 1 []) row i _ _ H3 (by omega) ⟨rv,.ref t13,_,_,rfl,hrv2.same s3,?_,L2.same s3⟩ fun σ2 H4 h=>h.elim .inl fun h=>.inr (by omega)
    have hrok:ROk ms (os.map fun o=>o.getD ""):=by
     have hrv3:=hrv2;rw[ho] at hrv3;cases hrv3 with
     | «at» t r h0 h1=>exact h1
    rw[ho];exact .at t13 _ e3 hrok
  ·rintro σ H' _;exact k H'
end
end K24
namespace K24
open PySem L2 Ky
theorem aOy {α:Type}{p:List α->Prop}(h:∀ a b c d e f,p [a,b,c,d,e,f]):∀ us:List α,us.length=6->p us
 | [a,b,c,d,e,f],_=>h a b c d e f
theorem all_mk {l:PySem.W.OpenLaw}{w:World}{K:PySem.W.Frag}{h:Heap}{mg:Str->Option Value}{fa f1 f2 f3 f4 f5 f6 f7 f8 f9 f10 f11 f12 f13 f14 f15 f16 f17 f18 f19 f20 f21 f22 f23 f24 f25 f26 fm0 fm1 fM0 fM1 fM2 fM3 fM4 fM5 fM6 fV0 fV1 fV2 fV3 fV4 fV5 fV6 fV7 fV8 fMI fI C CM CW cR Pr Td Te d0 d1 d2 d3 d4:Addr}(X:K.In h) (G:h.Ns mainGlobals mg) (hfa:mg "law"=some (.ref fa))
  {oc1 kV1 dc1 pm1 ct1 cd1:Value}{od1 an1:Option Addr}{sl1:Array (Option Value)}{oc2 kV2 dc2 pm2 ct2 cd2:Value}{od2 an2:Option Addr}{sl2:Array (Option Value)}{oc3 kV3 dc3 pm3 ct3 cd3:Value}{od3 an3:Option Addr}{sl3:Array (Option Value)}{oc4 kV4 dc4 pm4 ct4 cd4:Value}{od4 an4:Option Addr}{sl4:Array (Option Value)}{oc5 kV5 dc5 pm5 ct5 cd5:Value}{od5 an5:Option Addr}{sl5:Array (Option Value)}{oc6 kV6 dc6 pm6 ct6 cd6:Value}{od6 an6:Option Addr}{sl6:Array (Option Value)}{oc7 kV7 dc7 pm7 ct7 cd7:Value}{od7 an7:Option Addr}{sl7:Array (Option Value)}{oc8 kV8 dc8 pm8 ct8 cd8:Value}{od8 an8:Option Addr}{sl8:Array (Option Value)}{oc9 kV9 dc9 pm9 ct9 cd9:Value}{od9 an9:Option Addr}{sl9:Array (Option Value)}{oc10 kV10 dc10 pm10 ct10 cd10:Value}{od10 an10:Option Addr}{sl10:Array (Option Value)}{oc11 kV11 dc11 pm11 ct11 cd11:Value}{od11 an11:Option Addr}{sl11:Array (Option Value)}{oc12 kV12 dc12 pm12 ct12 cd12:Value}{od12 an12:Option Addr}{sl12:Array (Option Value)}{oc13 kV13 dc13 pm13 ct13 cd13:Value}{od13 an13:Option Addr}{sl13:Array (Option Value)}{oc14 kV14 dc14 pm14 ct14 cd14:Value}{od14 an14:Option Addr}{sl14:Array (Option Value)}{oc15 kV15 dc15 pm15 ct15 cd15:Value}{od15 an15:Option Addr}{sl15:Array (Option Value)}{oc16 kV16 dc16 pm16 ct16 cd16:Value}{od16 an16:Option Addr}{sl16:Array (Option Value)}{oc17 kV17 dc17 pm17 ct17 cd17:Value}{od17 an17:Option Addr}{sl17:Array (Option Value)}{oc18 kV18 dc18 pm18 ct18 cd18:Value}{od18 an18:Option Addr}{sl18:Array (Option Value)}{oc19 kV19 dc19 pm19 ct19 cd19:Value}{od19 an19:Option Addr}{sl19:Array (Option Value)}{oc20 kV20 dc20 pm20 ct20 cd20:Value}{od20 an20:Option Addr}{sl20:Array (Option Value)}{oc21 kV21 dc21 pm21 ct21 cd21:Value}{od21 an21:Option Addr}{sl21:Array (Option Value)}{oc22 kV22 dc22 pm22 ct22 cd22:Value}{od22 an22:Option Addr}{sl22:Array (Option Value)}{oc23 kV23 dc23 pm23 ct23 cd23:Value}{od23 an23:Option Addr}{sl23:Array (Option Value)}{oc24 kV24 dc24 pm24 ct24 cd24:Value}{od24 an24:Option Addr}{sl24:Array (Option Value)}{oc25 kV25 dc25 pm25 ct25 cd25:Value}{od25 an25:Option Addr}{sl25:Array (Option Value)}{oc26 kV26 dc26 pm26 ct26 cd26:Value}{od26 an26:Option Addr}{sl26:Array (Option Value)}{ocm0 kVm0 dcm0 pmm0 ctm0 cdm0:Value}{odm0 anm0:Option Addr}{slm0:Array (Option Value)}{ocm1 kVm1 dcm1 pmm1 ctm1 cdm1:Value}{odm1 anm1:Option Addr}{slm1:Array (Option Value)}{ocM0 kVM0 dcM0 pmM0 ctM0 cdM0:Value}{odM0 anM0:Option Addr}{slM0:Array (Option Value)}{ocM1 kVM1 dcM1 pmM1 ctM1 cdM1:Value}{odM1 anM1:Option Addr}{slM1:Array (Option Value)}{ocM2 kVM2 dcM2 pmM2 ctM2 cdM2:Value}{odM2 anM2:Option Addr}{slM2:Array (Option Value)}{ocM3 kVM3 dcM3 pmM3 ctM3 cdM3:Value}{odM3 anM3:Option Addr}{slM3:Array (Option Value)}{ocM4 kVM4 dcM4 pmM4 ctM4 cdM4:Value}{odM4 anM4:Option Addr}{slM4:Array (Option Value)}{ocM5 kVM5 dcM5 pmM5 ctM5 cdM5:Value}{odM5 anM5:Option Addr}{slM5:Array (Option Value)}{ocM6 kVM6 dcM6 pmM6 ctM6 cdM6:Value}{odM6 anM6:Option Addr}{slM6:Array (Option Value)}{ocV0 kVV0 dcV0 pmV0 ctV0 cdV0:Value}{odV0 anV0:Option Addr}{slV0:Array (Option Value)}{ocV1 kVV1 dcV1 pmV1 ctV1 cdV1:Value}{odV1 anV1:Option Addr}{slV1:Array (Option Value)}{ocV2 kVV2 dcV2 pmV2 ctV2 cdV2:Value}{odV2 anV2:Option Addr}{slV2:Array (Option Value)}{ocV3 kVV3 dcV3 pmV3 ctV3 cdV3:Value}{odV3 anV3:Option Addr}{slV3:Array (Option Value)}{ocV4 kVV4 dcV4 pmV4 ctV4 cdV4:Value}{odV4 anV4:Option Addr}{slV4:Array (Option Value)}{ocV5 kVV5 dcV5 pmV5 ctV5 cdV5:Value}{odV5 anV5:Option Addr}{slV5:Array (Option Value)}{ocV6 kVV6 dcV6 pmV6 ctV6 cdV6:Value}{odV6 anV6:Option Addr}{slV6:Array (Option Value)}{ocV7 kVV7 dcV7 pmV7 ctV7:Value}{odV7 anV7:Option Addr}{slV7:Array (Option Value)}{ocV8 kVV8 dcV8 pmV8 ctV8 cdV8:Value}{odV8 anV8:Option Addr}{slV8:Array (Option Value)}{ocMI kVMI dcMI pmMI ctMI cdMI:Value}{odMI anMI:Option Addr}{slMI:Array (Option Value)}{ocE:Value}{odE:Option Addr}{slE:Array (Option Value)}{nE:Nat}{ocI kVI dcI pmI ctI cdI:Value}{odI anI:Option Addr}{slI:Array (Option Value)}{ocT:Value}{odT:Option Addr}{slT:Array (Option Value)}{nT:Nat}{t0 t1 t2 t3 t4 t5:Tok}
  (a1:PySem.W.nsIn K mainGlobals "_law_mixed"=some (some (.ref f1)))
  (l1:K.lookup f1=some ⟨oc1,od1,.func (PySem.W.fnOf "_law_mixed" "_law_mixed" (aG jW) (aF jW) (aB jW) .none kV1 dc1 pm1 an1 cd1 ct1),sl1⟩)
  (c1:PySem.W.codeIn K cd1 "_law_mixed"=true)
  (k1:PySem.W.keepIn K (.ref f1)=true)
  (a2:PySem.W.nsIn K mainGlobals "_law_cell_at"=some (some (.ref f2)))
  (l2:K.lookup f2=some ⟨oc2,od2,.func (PySem.W.fnOf "_law_cell_at" "_law_cell_at" (aG tT) (aF tT) (aB tT) .none kV2 dc2 pm2 an2 cd2 ct2),sl2⟩)
  (c2:PySem.W.codeIn K cd2 "_law_cell_at"=true)
  (k2:PySem.W.keepIn K (.ref f2)=true)
  (a3:PySem.W.nsIn K mainGlobals "is_name"=some (some (.ref f3)))
  (l3:K.lookup f3=some ⟨oc3,od3,.func (PySem.W.fnOf "is_name" "is_name" (aG jM) (aF jM) (aB jM) .none kV3 dc3 pm3 an3 cd3 ct3),sl3⟩)
  (c3:PySem.W.codeIn K cd3 "is_name"=true)
  (k3:PySem.W.keepIn K (.ref f3)=true)
  (a4:PySem.W.nsIn K mainGlobals "refuse_names"=some (some (.ref f4)))
  (l4:K.lookup f4=some ⟨oc4,od4,.func (PySem.W.fnOf "refuse_names" "refuse_names" (aG lA) (aF lA) (aB lA) .none kV4 dc4 pm4 an4 cd4 ct4),sl4⟩)
  (c4:PySem.W.codeIn K cd4 "refuse_names"=true)
  (k4:PySem.W.keepIn K (.ref f4)=true)
  (a5:PySem.W.nsIn K mainGlobals "weights_of"=some (some (.ref f5)))
  (l5:K.lookup f5=some ⟨oc5,od5,.func (PySem.W.fnOf "weights_of" "weights_of" (aG iO) (aF iO) (aB iO) .none kV5 dc5 pm5 an5 cd5 ct5),sl5⟩)
  (c5:PySem.W.codeIn K cd5 "weights_of"=true)
  (k5:PySem.W.keepIn K (.ref f5)=true)
  (a6:PySem.W.nsIn K mainGlobals "marks_of"=some (some (.ref f6)))
  (l6:K.lookup f6=some ⟨oc6,od6,.func (PySem.W.fnOf "marks_of" "marks_of" (aG oU) (aF oU) (aB oU) .none kV6 dc6 pm6 an6 cd6 ct6),sl6⟩)
  (c6:PySem.W.codeIn K cd6 "marks_of"=true)
  (k6:PySem.W.keepIn K (.ref f6)=true)
  (a7:PySem.W.nsIn K mainGlobals "_law_names_by"=some (some (.ref f7)))
  (l7:K.lookup f7=some ⟨oc7,od7,.func (PySem.W.fnOf "_law_names_by" "_law_names_by" (aG gL) (aF gL) (aB gL) .none kV7 dc7 pm7 an7 cd7 ct7),sl7⟩)
  (c7:PySem.W.codeIn K cd7 "_law_names_by"=true)
  (k7:PySem.W.keepIn K (.ref f7)=true)
  (a8:PySem.W.nsIn K mainGlobals "_law_deeds_by"=some (some (.ref f8)))
  (l8:K.lookup f8=some ⟨oc8,od8,.func (PySem.W.fnOf "_law_deeds_by" "_law_deeds_by" (aG gZ) (aF gZ) (aB gZ) .none kV8 dc8 pm8 an8 cd8 ct8),sl8⟩)
  (c8:PySem.W.codeIn K cd8 "_law_deeds_by"=true)
  (k8:PySem.W.keepIn K (.ref f8)=true)
  (a9:PySem.W.nsIn K mainGlobals "made_one"=some (some (.ref f9)))
  (l9:K.lookup f9=some ⟨oc9,od9,.func (PySem.W.fnOf "made_one" "made_one" (aG gY) (aF gY) (aB gY) .none kV9 dc9 pm9 an9 cd9 ct9),sl9⟩)
  (c9:PySem.W.codeIn K cd9 "made_one"=true)
  (k9:PySem.W.keepIn K (.ref f9)=true)
  (a10:PySem.W.nsIn K mainGlobals "_law_one"=some (some (.ref f10)))
  (l10:K.lookup f10=some ⟨oc10,od10,.func (PySem.W.fnOf "_law_one" "_law_one" (aG aBj) (aF aBj) (aB aBj) .none kV10 dc10 pm10 an10 cd10 ct10),sl10⟩)
  (c10:PySem.W.codeIn K cd10 "_law_one"=true)
  (k10:PySem.W.keepIn K (.ref f10)=true)
  (a11:PySem.W.nsIn K mainGlobals "named_rooms"=some (some (.ref f11)))
  (l11:K.lookup f11=some ⟨oc11,od11,.func (PySem.W.fnOf "named_rooms" "named_rooms" (aG oT) (aF oT) (aB oT) .none kV11 dc11 pm11 an11 cd11 ct11),sl11⟩)
  (c11:PySem.W.codeIn K cd11 "named_rooms"=true)
  (k11:PySem.W.keepIn K (.ref f11)=true)
  (a12:PySem.W.nsIn K mainGlobals "refuse_rooms"=some (some (.ref f12)))
  (l12:K.lookup f12=some ⟨oc12,od12,.func (PySem.W.fnOf "refuse_rooms" "refuse_rooms" (aG gR) (aF gR) (aB gR) .none kV12 dc12 pm12 an12 cd12 ct12),sl12⟩)
  (c12:PySem.W.codeIn K cd12 "refuse_rooms"=true)
  (k12:PySem.W.keepIn K (.ref f12)=true)
  (a13:PySem.W.nsIn K mainGlobals "leads_of"=some (some (.ref f13)))
  (l13:K.lookup f13=some ⟨oc13,od13,.func (PySem.W.fnOf "leads_of" "leads_of" (aG oW) (aF oW) (aB oW) .none kV13 dc13 pm13 an13 cd13 ct13),sl13⟩)
  (c13:PySem.W.codeIn K cd13 "leads_of"=true)
  (k13:PySem.W.keepIn K (.ref f13)=true)
  (a14:PySem.W.nsIn K mainGlobals "_law_rooms_by"=some (some (.ref f14)))
  (l14:K.lookup f14=some ⟨oc14,od14,.func (PySem.W.fnOf "_law_rooms_by" "_law_rooms_by" (aG gW) (aF gW) (aB gW) .none kV14 dc14 pm14 an14 cd14 ct14),sl14⟩)
  (c14:PySem.W.codeIn K cd14 "_law_rooms_by"=true)
  (k14:PySem.W.keepIn K (.ref f14)=true)
  (a15:PySem.W.nsIn K mainGlobals "_law_machine_by"=some (some (.ref f15)))
  (l15:K.lookup f15=some ⟨oc15,od15,.func (PySem.W.fnOf "_law_machine_by" "_law_machine_by" (aG dR) (aF dR) (aB dR) .none kV15 dc15 pm15 an15 cd15 ct15),sl15⟩)
  (c15:PySem.W.codeIn K cd15 "_law_machine_by"=true)
  (k15:PySem.W.keepIn K (.ref f15)=true)
  (a16:PySem.W.nsIn K mainGlobals "_law_plant_by"=some (some (.ref f16)))
  (l16:K.lookup f16=some ⟨oc16,od16,.func (PySem.W.fnOf "_law_plant_by" "_law_plant_by" (aG gX) (aF gX) (aB gX) .none kV16 dc16 pm16 an16 cd16 ct16),sl16⟩)
  (c16:PySem.W.codeIn K cd16 "_law_plant_by"=true)
  (k16:PySem.W.keepIn K (.ref f16)=true)
  (a17:PySem.W.nsIn K mainGlobals "_law_more"=some (some (.ref f17)))
  (l17:K.lookup f17=some ⟨oc17,od17,.func (PySem.W.fnOf "_law_more" "_law_more" (aG tS) (aF tS) (aB tS) .none kV17 dc17 pm17 an17 cd17 ct17),sl17⟩)
  (c17:PySem.W.codeIn K cd17 "_law_more"=true)
  (k17:PySem.W.keepIn K (.ref f17)=true)
  (a18:PySem.W.nsIn K mainGlobals "_law_machines"=some (some (.ref f18)))
  (l18:K.lookup f18=some ⟨oc18,od18,.func (PySem.W.fnOf "_law_machines" "_law_machines" (aG gF) (aF gF) (aB gF) .none kV18 dc18 pm18 an18 cd18 ct18),sl18⟩)
  (c18:PySem.W.codeIn K cd18 "_law_machines"=true)
  (k18:PySem.W.keepIn K (.ref f18)=true)
  (a19:PySem.W.nsIn K mainGlobals "_law_row_by"=some (some (.ref f19)))
  (l19:K.lookup f19=some ⟨oc19,od19,.func (PySem.W.fnOf "_law_row_by" "_law_row_by" (aG jV) (aF jV) (aB jV) .none kV19 dc19 pm19 an19 cd19 ct19),sl19⟩)
  (c19:PySem.W.codeIn K cd19 "_law_row_by"=true)
  (k19:PySem.W.keepIn K (.ref f19)=true)
  (a20:PySem.W.nsIn K mainGlobals "all_at_ends"=some (some (.ref f20)))
  (l20:K.lookup f20=some ⟨oc20,od20,.func (PySem.W.fnOf "all_at_ends" "all_at_ends" (aG hJ) (aF hJ) (aB hJ) .none kV20 dc20 pm20 an20 cd20 ct20),sl20⟩)
  (c20:PySem.W.codeIn K cd20 "all_at_ends"=true)
  (k20:PySem.W.keepIn K (.ref f20)=true)
  (a21:PySem.W.nsIn K mainGlobals "begin_of"=some (some (.ref f21)))
  (l21:K.lookup f21=some ⟨oc21,od21,.func (PySem.W.fnOf "begin_of" "begin_of" (aG hG) (aF hG) (aB hG) .none kV21 dc21 pm21 an21 cd21 ct21),sl21⟩)
  (c21:PySem.W.codeIn K cd21 "begin_of"=true)
  (k21:PySem.W.keepIn K (.ref f21)=true)
  (a22:PySem.W.nsIn K mainGlobals "far_of"=some (some (.ref f22)))
  (l22:K.lookup f22=some ⟨oc22,od22,.func (PySem.W.fnOf "far_of" "far_of" (aG lX) (aF lX) (aB lX) .none kV22 dc22 pm22 an22 cd22 ct22),sl22⟩)
  (c22:PySem.W.codeIn K cd22 "far_of"=true)
  (k22:PySem.W.keepIn K (.ref f22)=true)
  (a23:PySem.W.nsIn K mainGlobals "rows_to"=some (some (.ref f23)))
  (l23:K.lookup f23=some ⟨oc23,od23,.func (PySem.W.fnOf "rows_to" "rows_to" (aG kZ) (aF kZ) (aB kZ) .none kV23 dc23 pm23 an23 cd23 ct23),sl23⟩)
  (c23:PySem.W.codeIn K cd23 "rows_to"=true)
  (k23:PySem.W.keepIn K (.ref f23)=true)
  (a24:PySem.W.nsIn K mainGlobals "come_to"=some (some (.ref f24)))
  (l24:K.lookup f24=some ⟨oc24,od24,.func (PySem.W.fnOf "come_to" "come_to" (aG lB) (aF lB) (aB lB) .none kV24 dc24 pm24 an24 cd24 ct24),sl24⟩)
  (c24:PySem.W.codeIn K cd24 "come_to"=true)
  (k24:PySem.W.keepIn K (.ref f24)=true)
  (a25:PySem.W.nsIn K mainGlobals "known_of"=some (some (.ref f25)))
  (l25:K.lookup f25=some ⟨oc25,od25,.func (PySem.W.fnOf "known_of" "known_of" (aG iQ) (aF iQ) (aB iQ) .none kV25 dc25 pm25 an25 cd25 ct25),sl25⟩)
  (c25:PySem.W.codeIn K cd25 "known_of"=true)
  (k25:PySem.W.keepIn K (.ref f25)=true)
  (a26:PySem.W.nsIn K mainGlobals "law"=some (some (.ref f26)))
  (l26:K.lookup f26=some ⟨oc26,od26,.func (PySem.W.fnOf "law" "law" (aG lH) (aF lH) (aB lH) .none kV26 dc26 pm26 an26 cd26 ct26),sl26⟩)
  (c26:PySem.W.codeIn K cd26 "law"=true)
  (k26:PySem.W.keepIn K (.ref f26)=true)
  (aC:PySem.W.nsIn K mainGlobals "Deeds"=some (some (.ref C)))
  (qm0:PySem.W.findIn K (.ref C) "has"=some (some (.ref fm0)))
  (lm0:K.lookup fm0=some ⟨ocm0,odm0,.func (PySem.W.fnOf "has" "Deeds.has" (aG yE) (aF yE) (aB yE) .none kVm0 dcm0 pmm0 anm0 cdm0 ctm0),slm0⟩)
  (cm0:PySem.W.codeIn K cdm0 "Deeds.has"=true)
  (km0:PySem.W.keepIn K (.ref fm0)=true)
  (nm0:PySem.W.isFn K (.ref fm0)=true)
  (qm1:PySem.W.findIn K (.ref C) "require"=some (some (.ref fm1)))
  (lm1:K.lookup fm1=some ⟨ocm1,odm1,.func (PySem.W.fnOf "require" "Deeds.require" (aG iP) (aF iP) (aB iP) .none kVm1 dcm1 pmm1 anm1 cdm1 ctm1),slm1⟩)
  (cm1:PySem.W.codeIn K cdm1 "Deeds.require"=true)
  (km1:PySem.W.keepIn K (.ref fm1)=true)
  (nm1:PySem.W.isFn K (.ref fm1)=true)
  (aM:PySem.W.nsIn K mainGlobals "Machine"=some (some (.ref CM)))
  (qM0:PySem.W.findIn K (.ref CM) "deeds"=some (some (.ref fM0)))
  (lM0:K.lookup fM0=some ⟨ocM0,odM0,.func (PySem.W.fnOf "deeds" "Machine.deeds" (aG pH) (aF pH) (aB pH) .none kVM0 dcM0 pmM0 anM0 cdM0 ctM0),slM0⟩)
  (cM0:PySem.W.codeIn K cdM0 "Machine.deeds"=true)
  (kM0:PySem.W.keepIn K (.ref fM0)=true)
  (nM0:PySem.W.isFn K (.ref fM0)=true)
  (qM1:PySem.W.findIn K (.ref CM) "begin"=some (some (.ref fM1)))
  (lM1:K.lookup fM1=some ⟨ocM1,odM1,.func (PySem.W.fnOf "begin" "Machine.begin" (aG pI) (aF pI) (aB pI) .none kVM1 dcM1 pmM1 anM1 cdM1 ctM1),slM1⟩)
  (cM1:PySem.W.codeIn K cdM1 "Machine.begin"=true)
  (kM1:PySem.W.keepIn K (.ref fM1)=true)
  (nM1:PySem.W.isFn K (.ref fM1)=true)
  (qM2:PySem.W.findIn K (.ref CM) "knows"=some (some (.ref fM2)))
  (lM2:K.lookup fM2=some ⟨ocM2,odM2,.func (PySem.W.fnOf "knows" "Machine.knows" (aG pF) (aF pF) (aB pF) .none kVM2 dcM2 pmM2 anM2 cdM2 ctM2),slM2⟩)
  (cM2:PySem.W.codeIn K cdM2 "Machine.knows"=true)
  (kM2:PySem.W.keepIn K (.ref fM2)=true)
  (nM2:PySem.W.isFn K (.ref fM2)=true)
  (qM3:PySem.W.findIn K (.ref CM) "goes"=some (some (.ref fM3)))
  (lM3:K.lookup fM3=some ⟨ocM3,odM3,.func (PySem.W.fnOf "goes" "Machine.goes" (aG uB) (aF uB) (aB uB) .none kVM3 dcM3 pmM3 anM3 cdM3 ctM3),slM3⟩)
  (cM3:PySem.W.codeIn K cdM3 "Machine.goes"=true)
  (kM3:PySem.W.keepIn K (.ref fM3)=true)
  (nM3:PySem.W.isFn K (.ref fM3)=true)
  (qM4:PySem.W.findIn K (.ref CM) "require_room"=some (some (.ref fM4)))
  (lM4:K.lookup fM4=some ⟨ocM4,odM4,.func (PySem.W.fnOf "require_room" "Machine.require_room" (aG iR) (aF iR) (aB iR) .none kVM4 dcM4 pmM4 anM4 cdM4 ctM4),slM4⟩)
  (cM4:PySem.W.codeIn K cdM4 "Machine.require_room"=true)
  (kM4:PySem.W.keepIn K (.ref fM4)=true)
  (nM4:PySem.W.isFn K (.ref fM4)=true)
  (qM5:PySem.W.findIn K (.ref CM) "is_end"=some (some (.ref fM5)))
  (lM5:K.lookup fM5=some ⟨ocM5,odM5,.func (PySem.W.fnOf "is_end" "Machine.is_end" (aG pG) (aF pG) (aB pG) .none kVM5 dcM5 pmM5 anM5 cdM5 ctM5),slM5⟩)
  (cM5:PySem.W.codeIn K cdM5 "Machine.is_end"=true)
  (kM5:PySem.W.keepIn K (.ref fM5)=true)
  (nM5:PySem.W.isFn K (.ref fM5)=true)
  (qM6:PySem.W.findIn K (.ref CM) "behind"=some (some (.ref fM6)))
  (lM6:K.lookup fM6=some ⟨ocM6,odM6,.func (PySem.W.fnOf "behind" "Machine.behind" (aG lF) (aF lF) (aB lF) .none kVM6 dcM6 pmM6 anM6 cdM6 ctM6),slM6⟩)
  (cM6:PySem.W.codeIn K cdM6 "Machine.behind"=true)
  (kM6:PySem.W.keepIn K (.ref fM6)=true)
  (nM6:PySem.W.isFn K (.ref fM6)=true)
  (aV:PySem.W.nsIn K mainGlobals "Woven"=some (some (.ref CW)))
  (qV0:PySem.W.findIn K (.ref CW) "deeds"=some (some (.ref fV0)))
  (lV0:K.lookup fV0=some ⟨ocV0,odV0,.func (PySem.W.fnOf "deeds" "Woven.deeds" (aG oJ) (aF oJ) (aB oJ) .none kVV0 dcV0 pmV0 anV0 cdV0 ctV0),slV0⟩)
  (cV0:PySem.W.codeIn K cdV0 "Woven.deeds"=true)
  (kV0:PySem.W.keepIn K (.ref fV0)=true)
  (nV0:PySem.W.isFn K (.ref fV0)=true)
  (qV1:PySem.W.findIn K (.ref CW) "begin"=some (some (.ref fV1)))
  (lV1:K.lookup fV1=some ⟨ocV1,odV1,.func (PySem.W.fnOf "begin" "Woven.begin" (aG oK) (aF oK) (aB oK) .none kVV1 dcV1 pmV1 anV1 cdV1 ctV1),slV1⟩)
  (cV1:PySem.W.codeIn K cdV1 "Woven.begin"=true)
  (kV1:PySem.W.keepIn K (.ref fV1)=true)
  (nV1:PySem.W.isFn K (.ref fV1)=true)
  (qV2:PySem.W.findIn K (.ref CW) "knows"=some (some (.ref fV2)))
  (lV2:K.lookup fV2=some ⟨ocV2,odV2,.func (PySem.W.fnOf "knows" "Woven.knows" (aG oH) (aF oH) (aB oH) .none kVV2 dcV2 pmV2 anV2 cdV2 ctV2),slV2⟩)
  (cV2:PySem.W.codeIn K cdV2 "Woven.knows"=true)
  (kV2:PySem.W.keepIn K (.ref fV2)=true)
  (nV2:PySem.W.isFn K (.ref fV2)=true)
  (qV3:PySem.W.findIn K (.ref CW) "at"=some (some (.ref fV3)))
  (lV3:K.lookup fV3=some ⟨ocV3,odV3,.func (PySem.W.fnOf "at" "Woven.at" (aG wAt) (aF wAt) (aB wAt) .none kVV3 dcV3 pmV3 anV3 cdV3 ctV3),slV3⟩)
  (cV3:PySem.W.codeIn K cdV3 "Woven.at"=true)
  (kV3:PySem.W.keepIn K (.ref fV3)=true)
  (nV3:PySem.W.isFn K (.ref fV3)=true)
  (qV4:PySem.W.findIn K (.ref CW) "to"=some (some (.ref fV4)))
  (lV4:K.lookup fV4=some ⟨ocV4,odV4,.func (PySem.W.fnOf "to" "Woven.to" (aG wTo) (aF wTo) (aB wTo) .none kVV4 dcV4 pmV4 anV4 cdV4 ctV4),slV4⟩)
  (cV4:PySem.W.codeIn K cdV4 "Woven.to"=true)
  (kV4:PySem.W.keepIn K (.ref fV4)=true)
  (nV4:PySem.W.isFn K (.ref fV4)=true)
  (qV5:PySem.W.findIn K (.ref CW) "ways"=some (some (.ref fV5)))
  (lV5:K.lookup fV5=some ⟨ocV5,odV5,.func (PySem.W.fnOf "ways" "Woven.ways" (aG qS) (aF qS) (aB qS) .none kVV5 dcV5 pmV5 anV5 cdV5 ctV5),slV5⟩)
  (cV5:PySem.W.codeIn K cdV5 "Woven.ways"=true)
  (kV5:PySem.W.keepIn K (.ref fV5)=true)
  (nV5:PySem.W.isFn K (.ref fV5)=true)
  (qV6:PySem.W.findIn K (.ref CW) "__init__"=some (some (.ref fV6)))
  (lV6:K.lookup fV6=some ⟨ocV6,odV6,.func (PySem.W.fnOf "__init__" "Woven.__init__" (aG sX) (aF sX) (aB sX) .none kVV6 dcV6 pmV6 anV6 cdV6 ctV6),slV6⟩)
  (cV6:PySem.W.codeIn K cdV6 "Woven.__init__"=true)
  (kV6:PySem.W.keepIn K (.ref fV6)=true)
  (nV6:PySem.W.isFn K (.ref fV6)=true)
  (qV7:PySem.W.findIn K (.ref CW) "rooms"=some (some (.ref fV7)))
  (lV7:K.lookup fV7=some ⟨ocV7,odV7,.func (PySem.W.fnOf "rooms" "Woven.rooms" (aG gD) (aF gD) (aB gD) .none kVV7 dcV7 pmV7 anV7 (.ref cR) ctV7),slV7⟩)
  (cV7:PySem.W.codeIn K (.ref cR) "Woven.rooms"=true)
  (kV7:PySem.W.keepIn K (.ref fV7)=true)
  (nV7:PySem.W.isFn K (.ref fV7)=true)
  (qV8:PySem.W.findIn K (.ref CW) "is_end"=some (some (.ref fV8)))
  (lV8:K.lookup fV8=some ⟨ocV8,odV8,.func (PySem.W.fnOf "is_end" "Woven.is_end" (aG oI) (aF oI) (aB oI) .none kVV8 dcV8 pmV8 anV8 cdV8 ctV8),slV8⟩)
  (cV8:PySem.W.codeIn K cdV8 "Woven.is_end"=true)
  (kV8:PySem.W.keepIn K (.ref fV8)=true)
  (nV8:PySem.W.isFn K (.ref fV8)=true)
  (mkV:PySem.W.makesIn K CW=true)
  (kpV:PySem.W.keepIn K (.ref CW)=true)
  (pgV:PySem.W.plainGet K CW Str.empty=true)
  (hdV:PySem.W.hasDictIn K CW=true)
  (poV:PySem.W.plainOver K CW=true)
  (saV:PySem.W.findIn K (.ref CW) "__setattr__" = some (some (.builtin "object.__setattr__")))
  (nV0_:PySem.W.findIn K (.ref CW) "machines"=some none)
  (nV1_:PySem.W.findIn K (.ref CW) "known_marks"=some none)
  (qMI:PySem.W.findIn K (.ref CM) "__init__"=some (some (.ref fMI)))
  (lMI:K.lookup fMI=some ⟨ocMI,odMI,.func (PySem.W.fnOf "__init__" "Machine.__init__" (aG lO) (aF lO) (aB lO) (.ref Te) kVMI dcMI pmMI anMI cdMI ctMI),slMI⟩)
  (cMI:PySem.W.codeIn K cdMI "Machine.__init__"=true)
  (kMI:PySem.W.keepIn K (.ref fMI)=true)
  (nMI:PySem.W.isFn K (.ref fMI)=true)
  (lE:K.lookup Te=some ⟨ocE,odE,.seq #[.none] nE,slE⟩)
  (mkM:PySem.W.makesIn K CM=true)
  (kpM:PySem.W.keepIn K (.ref CM)=true)
  (pgM:PySem.W.plainGet K CM Str.empty=true)
  (hdM:PySem.W.hasDictIn K CM=true)
  (poM:PySem.W.plainOver K CM=true)
  (saM:PySem.W.findIn K (.ref CM) "__setattr__" = some (some (.builtin "object.__setattr__")))
  (nM0_:PySem.W.findIn K (.ref CM) "leads"=some none)
  (nM1_:PySem.W.findIn K (.ref CM) "deeds_made_of"=some none)
  (nM2_:PySem.W.findIn K (.ref CM) "first_room"=some none)
  (nM3_:PySem.W.findIn K (.ref CM) "end_marks"=some none)
  (nM4_:PySem.W.findIn K (.ref CM) "known_marks"=some none)
  (qI:PySem.W.findIn K (.ref C) "__init__"=some (some (.ref fI)))
  (lI:K.lookup fI=some ⟨ocI,odI,.func (PySem.W.fnOf "__init__" "Deeds.__init__" (aG nJ) (aF nJ) (aB nJ) (.ref Td) kVI dcI pmI anI cdI ctI),slI⟩)
  (cI:PySem.W.codeIn K cdI "Deeds.__init__"=true)
  (kI:PySem.W.keepIn K (.ref fI)=true)
  (nI:PySem.W.isFn K (.ref fI)=true)
  (lT:K.lookup Td=some ⟨ocT,odT,.seq #[.none] nT,slT⟩)
  (mkC:PySem.W.makesIn K C=true)
  (kpC:PySem.W.keepIn K (.ref C)=true)
  (pgC:PySem.W.plainGet K C Str.empty=true)
  (hdC:PySem.W.hasDictIn K C=true)
  (poC:PySem.W.plainOver K C=true)
  (saC:PySem.W.findIn K (.ref C) "__setattr__" = some (some (.builtin "object.__setattr__")))
  (nwC:PySem.W.findIn K (.ref C) "weights"=some none)
  (nfC:PySem.W.findIn K (.ref C) "free_marks"=some none)
  (e0:PySem.W.nsIn K mainGlobals "NoName"=some (some (.ref d0)))
  (e1:PySem.W.nsIn K mainGlobals "NoDeed"=some (some (.ref d1)))
  (e2:PySem.W.nsIn K mainGlobals "NoRoom"=some (some (.ref d2)))
  (e3:PySem.W.nsIn K mainGlobals "TwiceTold"=some (some (.ref d3)))
  (e4:PySem.W.nsIn K mainGlobals "TooMany"=some (some (.ref d4)))
  (xa0:PySem.W.excIn K d0 qT "ValueError.__new__"=true)
  (xa1:PySem.W.excIn K d1 qT "ValueError.__new__"=true)
  (xa2:PySem.W.excIn K d2 qT "ValueError.__new__"=true)
  (xa3:PySem.W.excIn K d3 qT "ValueError.__new__"=true)
  (xa4:PySem.W.excIn K d4 qT "ValueError.__new__"=true)
  (kw:PySem.W.exmOne K (.ref d4) (.ref d4)=some true)
  (hh2:PySem.W.codeHdIn K cR Pr=true)
  (cst0:PySem.W.nsIn K mainGlobals "LETTERS"=some (some (.str iI t0)))
  (cst1:PySem.W.nsIn K mainGlobals "FIGURES"=some (some (.str jJ t1)))
  (cst2:PySem.W.nsIn K mainGlobals "MOST_SIGNS"=some (some (.int 8 t2)))
  (cst3:PySem.W.nsIn K mainGlobals "MOST_DEEDS"=some (some (.int 12 t3)))
  (cst4:PySem.W.nsIn K mainGlobals "MOST_ROOMS"=some (some (.int 60 t4)))
  (cst5:PySem.W.nsIn K mainGlobals "MOST_WOVEN"=some (some (.int 7 t5)))
  (z0:PySem.W.nsIn K mainGlobals "isinstance"=some none)
  (z1:PySem.W.nsIn K mainGlobals "str"=some none)
  (z2:PySem.W.nsIn K mainGlobals "bool"=some none)
  (z3:PySem.W.nsIn K mainGlobals "int"=some none)
  (z4:PySem.W.nsIn K mainGlobals "len"=some none)
  (z5:PySem.W.nsIn K mainGlobals "all"=some none)
  (z6:PySem.W.nsIn K mainGlobals "range"=some none)
  (z7:PySem.W.nsIn K mainGlobals "sorted"=some none)
  (z8:PySem.W.nsIn K mainGlobals "list"=some none)
  (z9:PySem.W.nsIn K mainGlobals "enumerate"=some none)
  (z10:PySem.W.nsIn K mainGlobals "tuple"=some none)
  (z11:PySem.W.nsIn K mainGlobals "zip"=some none) :
  ∃ fd:FuncData,(∀ (s:Shared) (v:Value),BindsTo s fd ⟨[v],[]⟩ [("_law_script",v)])∧∀ base:Heap,K.In base->base.Ns mainGlobals mg->oG mg base->aS l.prog w K mg base CX0 13 fa fd ["_law_script"] (aAa K Pr):=by
 have e:=hfa.symm.trans (PySem.W.mg_of X G a26);cases e;have T:Txt K mg:=⟨⟨_,PySem.W.mg_of X G cst0⟩,⟨_,PySem.W.mg_of X G cst1⟩,⟨_,PySem.W.mg_of X G cst2⟩,⟨_,PySem.W.mg_of X G cst3⟩,PySem.W.mg_none_of X G z0,PySem.W.mg_none_of X G z1,PySem.W.mg_none_of X G z2,PySem.W.mg_none_of X G z3,PySem.W.mg_none_of X G z4,PySem.W.mg_none_of X G z5,PySem.W.mg_none_of X G z6,PySem.W.mg_none_of X G z7,PySem.W.mg_none_of X G z8,PySem.W.mg_none_of X G z9⟩;have F1:=bV (st:=jW) l1 c1 k1;have b1:=F1.binds (ps:=["_law_cell","_law_k"]) fun _ _ _ _ _ _=>jO (fun _ _=>rfl);have F2:=bV (st:=tT) l2 c2 k2;have b2:=F2.binds (ps:=["_law_script","_law_k"]) fun _ _ _ _ _ _=>jO (fun _ _=>rfl);have F3:=bV (st:=jM) l3 c3 k3;have b3:=F3.binds (ps:=["thing"]) fun _ _ _ _ _ _=>kE (fun _=>rfl);have F4:=bV (st:=lA) l4 c4 k4;have b4:=F4.binds (ps:=["names"]) fun _ _ _ _ _ _=>kE (fun _=>rfl);have F5:=bV (st:=iO) l5 c5 k5;have b5:=F5.binds (ps:=["names"]) fun _ _ _ _ _ _=>kE (fun _=>rfl);have F6:=bV (st:=oU) l6 c6 k6;have b6:=F6.binds (ps:=["names"]) fun _ _ _ _ _ _=>kE (fun _=>rfl);have F7:=bV (st:=gL) l7 c7 k7;have b7:=F7.binds (ps:=["_law_cell","_law_many"]) fun _ _ _ _ _ _=>jO (fun _ _=>rfl);have F8:=bV (st:=gZ) l8 c8 k8;have b8:=F8.binds (ps:=["_law_cell"]) fun _ _ _ _ _ _=>kE (fun _=>rfl);have F9:=bV (st:=gY) l9 c9 k9;have b9:=F9.binds (ps:=["woven"]) fun _ _ _ _ _ _=>kE (fun _=>rfl);have F10:=bV (st:=aBj) l10 c10 k10;have b10:=F10.binds (ps:=["_law_woven"]) fun _ _ _ _ _ _=>kE (fun _=>rfl);have F11:=bV (st:=oT) l11 c11 k11;have b11:=F11.binds (ps:=["begin","ends","doors"]) fun _ _ _ _ _ _=>vG (fun _ _ _=>rfl);have F12:=bV (st:=gR) l12 c12 k12;have b12:=F12.binds (ps:=["rooms"]) fun _ _ _ _ _ _=>kE (fun _=>rfl);have F13:=bV (st:=oW) l13 c13 k13;have b13:=F13.binds (ps:=["rooms","doors"]) fun _ _ _ _ _ _=>jO (fun _ _=>rfl);have F14:=bV (st:=gW) l14 c14 k14;have b14:=F14.binds (ps:=["_law_cell","_law_many"]) fun _ _ _ _ _ _=>jO (fun _ _=>rfl);have F15:=bV (st:=dR) l15 c15 k15;have b15:=F15.binds (ps:=["_law_cell","_law_names","_law_many"]) fun _ _ _ _ _ _=>vG (fun _ _ _=>rfl);have F16:=bV (st:=gX) l16 c16 k16;have b16:=F16.binds (ps:=["_law_cells","_law_names"]) fun _ _ _ _ _ _=>jO (fun _ _=>rfl);have F17:=bV (st:=tS) l17 c17 k17;have b17:=F17.binds (ps:=["_law_plant","_law_cell","_law_names"]) fun _ _ _ _ _ _=>vG (fun _ _ _=>rfl);have F18:=bV (st:=gF) l18 c18 k18;have b18:=F18.binds (ps:=["_law_deeds","_law_plant"]) fun _ _ _ _ _ _=>jO (fun _ _=>rfl);have F19:=bV (st:=jV) l19 c19 k19;have b19:=F19.binds (ps:=["_law_woven","_law_cells"]) fun _ _ _ _ _ _=>jO (fun _ _=>rfl);have F20:=bV (st:=hJ) l20 c20 k20;have b20:=F20.binds (ps:=["machines","room"]) fun _ _ _ _ _ _=>jO (fun _ _=>rfl);have F21:=bV (st:=hG) l21 c21 k21;have b21:=F21.binds (ps:=["machines"]) fun _ _ _ _ _ _=>kE (fun _=>rfl);have F22:=bV (st:=lX) l22 c22 k22;have b22:=F22.binds (ps:=["machines","room","deed"]) fun _ _ _ _ _ _=>vG (fun _ _ _=>rfl);have F23:=bV (st:=kZ) l23 c23 k23;have b23:=F23.binds (ps:=["begin","doors","most"]) fun _ _ _ _ _ _=>vG (fun _ _ _=>rfl);have F24:=bV (st:=lB) l24 c24 k24;have b24:=F24.binds (ps:=["begin","doors","most"]) fun _ _ _ _ _ _=>vG (fun _ _ _=>rfl);have F25:=bV (st:=iQ) l25 c25 k25;have b25:=F25.binds (ps:=["machines"]) fun _ _ _ _ _ _=>kE (fun _=>rfl);have Fm0:=bV (st:=yE) lm0 cm0 km0;have bm0:=Fm0.binds (ps:=["self","thing"]) fun _ _ _ _ _ _=>jO (fun _ _=>rfl);have Mm0:cU K C "has" fm0:=⟨qm0,nm0,km0⟩;have Fm1:=bV (st:=iP) lm1 cm1 km1;have bm1:=Fm1.binds (ps:=["self","row"]) fun _ _ _ _ _ _=>jO (fun _ _=>rfl);have Mm1:cU K C "require" fm1:=⟨qm1,nm1,km1⟩;have FM0:=bV (st:=pH) lM0 cM0 kM0;have bM0:=FM0.binds (ps:=["self"]) fun _ _ _ _ _ _=>kE (fun _=>rfl);have MM0:cU K CM "deeds" fM0:=⟨qM0,nM0,kM0⟩;have FM1:=bV (st:=pI) lM1 cM1 kM1;have bM1:=FM1.binds (ps:=["self"]) fun _ _ _ _ _ _=>kE (fun _=>rfl);have MM1:cU K CM "begin" fM1:=⟨qM1,nM1,kM1⟩;have FM2:=bV (st:=pF) lM2 cM2 kM2;have bM2:=FM2.binds (ps:=["self"]) fun _ _ _ _ _ _=>kE (fun _=>rfl);have MM2:cU K CM "knows" fM2:=⟨qM2,nM2,kM2⟩;have FM3:=bV (st:=uB) lM3 cM3 kM3;have bM3:=FM3.binds (ps:=["self","room","deed"]) fun _ _ _ _ _ _=>vG (fun _ _ _=>rfl);have MM3:cU K CM "goes" fM3:=⟨qM3,nM3,kM3⟩;have FM4:=bV (st:=iR) lM4 cM4 kM4;have bM4:=FM4.binds (ps:=["self","room"]) fun _ _ _ _ _ _=>jO (fun _ _=>rfl);have MM4:cU K CM "require_room" fM4:=⟨qM4,nM4,kM4⟩;have FM5:=bV (st:=pG) lM5 cM5 kM5;have bM5:=FM5.binds (ps:=["self","room"]) fun _ _ _ _ _ _=>jO (fun _ _=>rfl);have MM5:cU K CM "is_end" fM5:=⟨qM5,nM5,kM5⟩;have FM6:=bV (st:=lF) lM6 cM6 kM6;have bM6:=FM6.binds (ps:=["self","row"]) fun _ _ _ _ _ _=>jO (fun _ _=>rfl);have MM6:cU K CM "behind" fM6:=⟨qM6,nM6,kM6⟩;have FV0:=bV (st:=oJ) lV0 cV0 kV0;have bV0:=FV0.binds (ps:=["self"]) fun _ _ _ _ _ _=>kE (fun _=>rfl);have MV0:cU K CW "deeds" fV0:=⟨qV0,nV0,kV0⟩;have FV1:=bV (st:=oK) lV1 cV1 kV1;have bV1:=FV1.binds (ps:=["self"]) fun _ _ _ _ _ _=>kE (fun _=>rfl);have MV1:cU K CW "begin" fV1:=⟨qV1,nV1,kV1⟩;have FV2:=bV (st:=oH) lV2 cV2 kV2;have bV2:=FV2.binds (ps:=["self"]) fun _ _ _ _ _ _=>kE (fun _=>rfl);have MV2:cU K CW "knows" fV2:=⟨qV2,nV2,kV2⟩;have FV3:=bV (st:=wAt) lV3 cV3 kV3;have bV3:=FV3.binds (ps:=["self","room"]) fun _ _ _ _ _ _=>jO (fun _ _=>rfl);have MV3:cU K CW "at" fV3:=⟨qV3,nV3,kV3⟩;have FV4:=bV (st:=wTo) lV4 cV4 kV4;have bV4:=FV4.binds (ps:=["self","room","deed"]) fun _ _ _ _ _ _=>vG (fun _ _ _=>rfl);have MV4:cU K CW "to" fV4:=⟨qV4,nV4,kV4⟩;have FV5:=bV (st:=qS) lV5 cV5 kV5;have bV5:=FV5.binds (ps:=["self","room"]) fun _ _ _ _ _ _=>jO (fun _ _=>rfl);have MV5:cU K CW "ways" fV5:=⟨qV5,nV5,kV5⟩;have FV6:=bV (st:=sX) lV6 cV6 kV6;have bV6:=FV6.binds (ps:=["self","machines"]) fun _ _ _ _ _ _=>jO (fun _ _=>rfl);have FV7:=bV (st:=gD) lV7 cV7 kV7;have bV7:=FV7.binds (ps:=["self"]) fun _ _ _ _ _ _=>kE (fun _=>rfl);have MV7:cU K CW "rooms" fV7:=⟨qV7,nV7,kV7⟩;have FV8:=bV (st:=oI) lV8 cV8 kV8;have bV8:=FV8.binds (ps:=["self","room"]) fun _ _ _ _ _ _=>jO (fun _ _=>rfl);have MV8:cU K CW "is_end" fV8:=⟨qV8,nV8,kV8⟩;have FI:aGf K "__init__" "Deeds.__init__" nJ fI _:=⟨⟨_,_,_,_,_,_,_,_,_,_,rfl,lI,cI⟩,kI⟩
 have bI:aU K _ ["self","names","free"] []:=fun s us KX hl=>by
  rw[List.append_nil] at hl ⊢;revert us;exact vG fun _ _ _=>BindsTo.of_defaults (fd:=PySem.W.fnOf "__init__" "Deeds.__init__" (aG nJ) (aF nJ) (aB nJ) (.ref Td) kVI dcI pmI anI cdI ctI) rfl (KX _ _ lT) rfl rfl rfl
 have FMI:aGf K "__init__" "Machine.__init__" lO fMI _:=⟨⟨_,_,_,_,_,_,_,_,_,_,rfl,lMI,cMI⟩,kMI⟩
 have bMI:aU K _ ["self","deeds","begin","ends","doors","more"] []:=fun s us KX hl=>by
  rw[List.append_nil] at hl ⊢;revert us;exact aOy fun _ _ _ _ _ _=>BindsTo.of_defaults (fd:=PySem.W.fnOf "__init__" "Machine.__init__" (aG lO) (aF lO) (aB lO) (.ref Te) kVMI dcMI pmMI anMI cdMI ctMI) rfl (KX _ _ lE) rfl rfl rfl
 have MC:mV K CM:=⟨⟨pgM,hdM,poM,saM⟩,nM0_,nM1_,nM2_,nM3_,nM4_⟩;have MMk:Mk K CM fMI:=⟨mkM,qMI,nMI,kpM⟩;have DC:zP K C:=⟨⟨pgC,hdC,poC,saC⟩,nwC,nfC⟩;have MI:Mk K C fI:=⟨mkC,qI,nI,kpC⟩;have Ex:Exc K mg (fun k=>([d0,d1,d2,d3,d4]:List Addr).getD (ix k) 0):=⟨PySem.W.mg_of X G e0,PySem.W.mg_of X G e1,PySem.W.mg_of X G e3,PySem.W.mg_of X G e4,fun k=>match k with | .noName=>xa0 | .noDeed=>xa1 | .twice=>xa3 | .tooMany=>xa4⟩
 have WC:pP K CW:=⟨⟨pgV,hdV,poV,saV⟩,nV0_,nV1_⟩;have WMk:Mk K CW fV6:=⟨mkV,qV6,nV6,kpV⟩;have FL:=bV (st:=lH) l26 c26 k26;refine⟨PySem.W.fnOf "law" "law" (aG lH) (aF lH) (aB lH) .none kV26 dc26 pm26 an26 cd26 ct26,fun s v=>.of_eq rfl,fun base _ _ bm=>?_⟩;have GQ:=yN (P:=l.prog) (w:=w) (mg:=mg) (base:=base) Fm1 T Ex DC F3 b3 (PySem.W.mg_of X G a3) Fm0 bm0 Mm0;have GK:=aEu (P:=l.prog) (w:=w) (mg:=mg) (base:=base) F6 T;have GC:=aHg (P:=l.prog) (w:=w) (mg:=mg) (base:=base) F2 T F1 b1 (PySem.W.mg_of X G a1);have zT:mg "tuple"=none:=PySem.W.mg_none_of X G z10;have zZ:mg "zip"=none:=PySem.W.mg_none_of X G z11;have GB:=aCc (P:=l.prog) (w:=w) (mg:=mg) (base:=base) FM1 MC;have GKn:=aCa (P:=l.prog) (w:=w) (mg:=mg) (base:=base) FM2 T MC;have GGo:=aEx (P:=l.prog) (w:=w) (mg:=mg) (base:=base) FM3 MC;have GMD:=aCb (P:=l.prog) (w:=w) (mg:=mg) (base:=base) FM0 MC;have GRq:=aEv (P:=l.prog) (w:=w) (mg:=mg) (base:=base) FM4 T MC (PySem.W.mg_of X G e2) xa2 F3 b3 (PySem.W.mg_of X G a3);have GEd:=yQ (P:=l.prog) (w:=w) (mg:=mg) (base:=base) FM5 MC GRq bM4 MM4;have GBh:=yR (P:=l.prog) (w:=w) (mg:=mg) (base:=base) FM6 T DC MC GGo bM3 MM3 GQ bm1 Mm1;have GBO:=yU (P:=l.prog) (w:=w) (mg:=mg) (base:=base) F21 zT MC GB bM1 MM1;have GFO:=aEz (P:=l.prog) (w:=w) (mg:=mg) (base:=base) F22 zT zZ MC GGo bM3 MM3;have GAE:=yV (P:=l.prog) (w:=w) (mg:=mg) (base:=base) F20 T zZ MC GEd bM5 MM5;have GKO:=yS (P:=l.prog) (w:=w) (mg:=mg) (base:=base) F25 MC GKn bM2 MM2 GK k6 b6 (PySem.W.mg_of X G a6);have GWI:aS l.prog w K mg base (CXE l.prog w) 3 fV6 _ ["self","machines"] (uR CM CW d4):=aEr FV6 T WC ⟨_,PySem.W.mg_of X G cst5⟩ (PySem.W.mg_of X G e4) xa4 GKO k25 b25 (PySem.W.mg_of X G a25);have GWD:=aBw (P:=l.prog) (w:=w) (mg:=mg) (base:=base) FV0 WC MC GMD bM0 MM0;have GWB:=aBx (P:=l.prog) (w:=w) (mg:=mg) (base:=base) FV1 WC GBO k21 b21 (PySem.W.mg_of X G a21);have GWK:=aBu (P:=l.prog) (w:=w) (mg:=mg) (base:=base) (CM:=CM) FV2 T WC;have GWT:aS l.prog w K mg base (CXE l.prog w) 4 fV4 _ ["self","room","deed"] (tJ K C CM CW d1):=aKh (cl:=(fun k=>([d0,d1,d2,d3,d4]:List Addr).getD (ix k) 0)) FV4 DC WC GWD bV0 MV0 GQ bm1 Mm1 GFO k22 b22 (PySem.W.mg_of X G a22);have GWA:=aKi (P:=l.prog) (w:=w) (mg:=mg) (base:=base) FV3 WC GWK bV2 MV2 GWT bV4 MV4;have GWY:=aEq (P:=l.prog) (w:=w) (mg:=mg) (base:=base) FV5 WC GWA bV3 MV3 GWT bV4 MV4;have GWE:=aBv (P:=l.prog) (w:=w) (mg:=mg) (base:=base) FV8 WC GAE k20 b20 (PySem.W.mg_of X G a20);have GRT:=aBy (P:=l.prog) (w:=w) (mg:=mg) (base:=base) (kd:=7) (cT:=d4) F23 T (PySem.W.mg_of X G e4) xa4;have GCT:=aCd (P:=l.prog) (w:=w) (mg:=mg) (base:=base) (kd:=7) (cT:=d4) F24 T GRT k23 b23 (PySem.W.mg_of X G a23);have GWR:=aBt (P:=l.prog) (w:=w) (mg:=mg) (base:=base) (C:=C) (CM:=CM) (CW:=CW) (cT:=d4) (Pr:=Pr) lV7 cV7 hh2 bm WC ⟨_,PySem.W.mg_of X G cst4⟩ GWB bV1 MV1 GWY bV5 MV5 GCT k24 b24 (PySem.W.mg_of X G a24);have GMB:=vB (P:=l.prog) (w:=w) (mg:=mg) (base:=base) F15 T (nL F1) k1 b1 (PySem.W.mg_of X G a1) (yM F14 T) k14 b14 (PySem.W.mg_of X G a14);have GMI:=aEw (P:=l.prog) (w:=w) (mg:=mg) (base:=base) FMI T DC MC ⟨_,PySem.W.mg_of X G cst4⟩ (aEt F11) k11 b11 (PySem.W.mg_of X G a11) (wX F12 T Ex F3 b3 (PySem.W.mg_of X G a3)) k12 b12 (PySem.W.mg_of X G a12) (aEy F13) k13 b13 (PySem.W.mg_of X G a13) GK k6 b6 (PySem.W.mg_of X G a6) GQ bm1 Mm1;have GMO:=aHe (P:=l.prog) (w:=w) (mg:=mg) (base:=base) (C:=C) (CM:=CM) (CW:=CW) (cT:=d4) (Pr:=Pr) F9 T WC GWR bV7 MV7 GWY bV5 MV5 GWE bV8 MV8 GWD bV0 MV0 GWB bV1 MV1 GWK bV2 MV2 GMI MMk bMI (PySem.W.mg_of X G aM);have GMs:=wY (P:=l.prog) (w:=w) (mg:=mg) (base:=base) (C:=C) (CM:=CM) F18 GMI MMk bMI (PySem.W.mg_of X G aM)
 exact aKk FL T WC MC zT
  GC k2 b2 (PySem.W.mg_of X G a2)
  (yT F8 T F1 b1 (PySem.W.mg_of X G a1) F7 b7 (PySem.W.mg_of X G a7)) k8 b8 (PySem.W.mg_of X G a8)
  (aHf FI T DC (aBz F4 T Ex F3 b3 (PySem.W.mg_of X G a3)) k4 b4 (PySem.W.mg_of X G a4) (yL F5 T) k5 b5 (PySem.W.mg_of X G a5) GK k6 b6 (PySem.W.mg_of X G a6) GQ bm1 Mm1) MI bI (PySem.W.mg_of X G aC)
  (yO F16 T GMB k15 b15 (PySem.W.mg_of X G a15)) k16 b16 (PySem.W.mg_of X G a16)
  (aHd F17 T (nL F1) k1 b1 (PySem.W.mg_of X G a1) GMB k15 b15 (PySem.W.mg_of X G a15)) k17 b17 (PySem.W.mg_of X G a17)
  GMs k18 b18 (PySem.W.mg_of X G a18)
  GWI WMk bV6 (PySem.W.mg_of X G aV)
  (aKj F10 (PySem.W.mg_of X G e4) kw GMO k9 b9 (PySem.W.mg_of X G a9)) k10 b10 (PySem.W.mg_of X G a10)
  (aEs F19 T WC GWB bV1 MV1 GWK bV2 MV2 GWA bV3 MV3 GWT bV4 MV4) k19 b19 (PySem.W.mg_of X G a19)
  GWB bV1 MV1 GWT bV4 MV4 GWE bV8 MV8 GBh bM6 MM6 GEd bM5 MM5
theorem walk {l:PySem.W.OpenLaw}{q:Program}{loose:List Str}{XP:(Str->Option Value)->Heap->Prop}{YP:World->Heap->Prop}{d:DefRec}{K:Params->PySem.W.Frag}{cR:Addr}(Pr:Addr) (hn:l.most=some 63) (hdf:d.params.defaults=[])
  (hY:∀ (w:World) (h:Heap),YP w h->(K w.params).In h∧∀ p∈[Pr],h.get? p=some (PySem.W.tabObj #[]))
  (F:∀ (w:World) (mg:Str->Option Value) (fa:Addr) (h:Heap),(K w.params).In h->h.Ns mainGlobals mg->mg d.name=some (.ref fa) ->
   ∃ fd:FuncData,(∀ (s:Shared) (u:Value),BindsTo s fd ⟨[u],[]⟩ [("_law_script",u)])∧∀ base:Heap,(K w.params).In base->base.Ns mainGlobals mg->oG mg base->aS l.prog w (K w.params) mg base CX0 13 fa fd ["_law_script"] (aAa (K w.params) Pr))
  (hK:∀ (w:World),∀ p∈[(cR,Pr)],PySem.W.codeHdIn (K w.params) p.1 p.2=true∧(K w.params).lookup p.2=none) :
  PySem.W.WalkO q loose XP YP l.row.toRowW d [] (fun f vs=>PySem.call f vs):=
 L2.walk_ofT (n:=63) (k:=13) (x:="_law_script") (sp:=fun w=>aAa (K w.params) Pr) [(cR,Pr)] hn (by decide) hdf ⟨rfl,by decide,by decide⟩
  (fun w h Y=>⟨(hY w h Y).1,fun p hp=>(hY w h Y).2 p.2 (by rw[List.mem_singleton.mp hp]; simp)⟩) hK F
  (fun w H a ns hl hT hS=>⟨a,ns,rfl,hS,hl,hT (cR,Pr) (by simp),fun _=>rfl⟩)
end K24
namespace Hd
open PySem PySem.W
abbrev aCt:=PySem.W.Fast.tw14364793385576792824
abbrev aIz:=PySem.W.Fast.tw10110043849684766642
abbrev aMp:=PySem.W.Fast.tw14374325043358763698
abbrev fGo:=PySem.W.Fast.tw15667345088766844465
abbrev aMq:=PySem.W.Fast.tw14082659384304107361
abbrev aMr:=PySem.W.Fast.tw11892475500146522536
abbrev fSeen:=PySem.W.Fast.tw4187177175401517315
theorem aHw:PySem.treeTable=aCt:=PySem.W.Fast.te14364793385576792824
theorem aMs:@PySem.W.segRunT=aIz:=PySem.W.Fast.te10110043849684766642
theorem aPd:@PySem.W.segRun=aMp:=PySem.W.Fast.te14374325043358763698
theorem eGo:@PySem.W.topGo=fGo:=PySem.W.Fast.te15667345088766844465
theorem aPe:@PySem.W.topRun=aMq:=PySem.W.Fast.te14082659384304107361
theorem aPf:@PySem.denote=aMr:=PySem.W.Fast.te11892475500146522536
theorem aMt:@PySem.W.openSeen=fSeen:=PySem.W.Fast.te4187177175401517315
abbrev an:Option Value:=some (.ref 6)
abbrev p0:Pos:=⟨0,0,0,0⟩
abbrev d0:Drawn:=⟨0,0,0,0⟩
def lf:Life:=⟨[],[],[],0,[],[],false,#[],[],0,false,false,false,0,[2000,10,10],false,0,true,[],[],0,false⟩
def St (T:Params->BT) (n k:Nat) (w:World) (os:OsState):SharedT:=⟨T w.params,n,lf,#[],d0,k,os⟩
def Sh (H:Params->Heap) (k:Nat) (w:World) (os:OsState):Shared:=⟨H w.params,#[],d0,k,os⟩
abbrev cd (p:Program) (env:Env):Code:=.body (behindTheImports p) env
abbrev B:List Frame:=[topFrame p0]
def Pre (p:Program) (env:Env) (H:Params->Heap) (k s:Nat) (a:Pos):Prop:=
 ∀ w:World,(fun os=>fGo aCt p w 11 an s ⟨boot_heap w.params,Array.mk [],boot_drawn,boot_toks,os⟩ (topStub p))=fun os=>some (Sh H k w os,⟨aMr aCt (cd p env),cd p env,a,B⟩)
def Blk (p:Program) (env:Env) (H:Params->Heap) (k:Nat) (T:Params->BT) (n k' s:Nat) (a b:Pos):Prop:=
 ∀ w:World,(fun os=>aMp aCt p w 11 an 1 s (Sh H k w os) (blockOf (behindTheImports p) env (cd p env) a B))=fun os=>some (.next,(St T n k' w os).abs,cd p env,b)
def Pc (p:Program) (env:Env) (T:Params->BT) (n k:Nat) (T':Params->BT) (n' k' s:Nat) (l:List Stmt) (a b:Pos):Prop:=
 ∀ w:World,(fun os=>aIz aCt p w 11 an 1 s (St T n k w os) (piecesOf l env (cd p env) a B))=fun os=>some (.next,St T' n' k' w os,cd p env,b)
def Fi (p:Program) (env:Env) (T:Params->BT) (n k:Nat) (H:Params->Heap) (k' s:Nat) (a:Pos):Prop:=
 ∀ w:World,(fun os=>aMq aCt p w 11 an s (St T n k w os).abs ⟨doneF .next,cd p env,a,B⟩)=fun os=>some (Sh H k' w os)
def Rn (p:Program) (env:Env) (T:Params->BT) (n k:Nat) (H:Params->Heap) (k':Nat) (l:List Stmt) (a:Pos) (N:Nat):Prop:=
 ∀ (w:World) (os:OsState),topRun treeTable p w 11 an N (St T n k w os).abs (restOf l env (cd p env) a B)=some (Sh H k' w os)
section
variable {p:Program}{env:Env}{T T':Params->BT}{H H':Params->Heap}{n k n' k' kf s N:Nat}{l r:List Stmt}{a b:Pos}
theorem Fi.run (h:Fi p env T n k H k' s a):Rn p env T n k H k' [] a s:=fun w os=>by
 refine piece_nil ?_;rw[aPe,aHw];exact congrFun (h w) os
theorem Pc.run (h:Pc p env T n k T' n' k' s l a b) (q:Rn p env T' n' k' H kf r b N):Rn p env T n k H kf (l++r) a (s+N):=fun w os=>by
 refine piece_app (segRun_of ?_) (q w os);rw[aMs,aHw];exact congrFun (h w) os
theorem top_run {s1 s2:Nat}(h1:Pre p env H' k s1 a) (h2:Blk p env H' k T n k' s2 a b) (hl:l=behindTheImports p) (q:Rn p env T n k' H kf l b N) (w:World) (os:OsState) :
  topRun treeTable p w 11 an (s1+(s2+N)) ⟨boot_heap w.params,Array.mk [],boot_drawn,boot_toks,os⟩ (topStub p)=some (Sh H kf w os):=by
 have e1:topGo treeTable p w 11 an s1 ⟨boot_heap w.params,Array.mk [],boot_drawn,boot_toks,os⟩ (topStub p)=some (Sh H' k w os,⟨denote treeTable (cd p env),cd p env,a,B⟩):=by
  rw[eGo,aHw,aPf];exact congrFun (h1 w) os
 have e2:segRun treeTable p w 11 an 1 s2 (Sh H' k w os) (blockOf (behindTheImports p) env (cd p env) a B)=some (.next,(St T n k' w os).abs,cd p env,b):=by
  rw[aPd,aHw];exact congrFun (h2 w) os
 subst hl;exact go_top e1 (piece_block e2 (q w os))
theorem aCz:∀ w:World,((boot_heap w.params).isNs mainGlobals&&(Array.mk []:Array GenState).size==0,(boot_heap w.params).objs.size,(boot_heap w.params).nsMap mainGlobals "__annotations__")=(true,11,an):=by
 intro w
 kernel_rfl
theorem left_of {q:Program}{loose:List Str}{Xt:Shared->Bool}{α:Type}{Yf:Shared->α}{Ya:World->α}{M:Nat}(e:opening p=plainProg p.main.scope.names) (f:∀ s,fenceModules? p s=some s) (hN:Nat.ble 600 N=true) (le:Nat.ble M N=true)
  (run:∀ (w:World) (os:OsState),topRun treeTable p w 11 an M ⟨boot_heap w.params,Array.mk [],boot_drawn,boot_toks,os⟩ (topStub p)=some (Sh H k w os))
  (looks:∀ w:World,(fun os=>((staticsOk (importedModules p.main.body) (boot_heap w.params) (H w.params)&&namesBound p (H w.params)&&gensDone (Sh H k w os)&&laidKept (boot_heap w.params) (H w.params)),
    fSeen q loose (importedModules p.main.body) Xt true (Sh H k w os),Yf (Sh H k w os)))=fun _=>(true,openGood q loose,Ya w)):LeftO p q loose Xt Yf Ya N true:=by
 refine LeftO.of_pieces (boot_open e hN f) aCz run le (fun w=>?_);have h:=looks w;rw[← aMt] at h;exact h
end
end Hd
namespace K24H
open PySem PySem.W
open L2 (aD aG aF aB)
open PySem.W.BT renaming node → bn, nil → bz
abbrev pp:Program:=PySem.Challenge.pw_roomward_k24_whole_woven_rows
def tp (i:Nat):Stmt:=pp.main.body.getD i (.Pass ⟨0,0,0,0⟩)
abbrev kh:=@PySem.PyData.keyHash
abbrev en (P:Params) (k:Str) (n:Nat) (v:Value):DictEntry:=⟨kh P k,.str k n,v⟩
noncomputable section
abbrev co (l:List Value):Obj:=⟨.type "code",none,.fields l.toArray,#[]⟩
abbrev nf (l:List Value):Obj:=⟨.none,none,.fields l.toArray,#[]⟩
abbrev tu (l:List Value):Obj:=⟨.type "tuple",none,.seq l.toArray 0,#[]⟩
abbrev fu (f:FuncData):Obj:=⟨.type "function",none,.func f,#[]⟩
abbrev nu (f:FuncData):Obj:=⟨.none,none,.func f,#[]⟩
abbrev i0 (n:Int):Value:=.int n 0
abbrev cp (n:Nat):Value:=.str "/claim/cut.py" n
def o0:Obj:=tu []
def o1:Obj:=nf []
def o2:Obj:=co [.str "<module>" 182,.str "<module>" 183,cp 184,i0 1,i0 0,i0 0,i0 0,i0 0,.ref 11,.bool false,i0 181,.ref 12,.none,.none,.none,.none,i0 185,i0 1,cp 186]
def o3:Obj:=⟨.type "frame",none,.plain,#[(some (.ref 13)),(some (.ref 3)),(some (.ref 3)),none,(some (.str "__main__" 164)),none,(some (.ref 0))]⟩
def Ha (P:Params):Heap:=⟨Array.mk [boot_o_0 P,boot_o_1 P,boot_o_2 P,boot_o_3 P,boot_o_4 P,boot_o_5 P,boot_o_6 P,boot_o_7 P,boot_o_8 P,boot_o_9 P,boot_o_10 P,o0,o1,o2,o3],Hd.lf⟩
def env:Env:={ scope:=pp.main.scope,locals:=mainNs,globals:=mainNs,cells:=[],code:=.ref 13,frame:=some 14 }
theorem pre:Hd.Pre pp env Ha 187 12 ⟨0,0,0,0⟩:=by
 intro w
 kernel_rfl
def ns (t:BT) (l:List (Nat×Obj)):BT:=l.foldl (fun t x=>t.ins x.1 x.2) t
abbrev be (x:Obj):BT:=bn x bz bz
def T0 (P:Params):BT:=(bn (boot_o_0 P) (bn (boot_o_1 P) (bn (boot_o_3 P) (be (boot_o_7 P)) (be o0)) (bn (boot_o_5 P) (be (boot_o_9 P)) (be o2))) (bn (boot_o_2 P) (bn (boot_o_4 P) (be (boot_o_8 P)) (be o1)) (bn (boot_o_6 P) (be (boot_o_10 P)) (be o3))))
theorem blk:Hd.Blk pp env Ha 187 T0 15 187 1 ⟨0,0,0,0⟩ ⟨0,0,0,0⟩:=by
 intro w
 kernel_rfl
def g0 (P:Params):List DictEntry:=[en P "__doc__" 166 .none,en P "__package__" 167 .none,en P "__loader__" 168 (.builtin "__main__.__loader__#opaque"),en P "__spec__" 169 .none,en P "__annotations__" 170 (.ref 6),en P "__builtins__" 171 (.ref 4),en P "__file__" 173 (.str "/claim/cut.py" 172),en P "__cached__" 174 .none,en P "_wall" 193 (.ref 21),en P "WardError" 213 (.ref 31)]
def o4 (P:Params):Obj:=⟨.type "dict",none,.dict ⟨en P "__name__" 165 (.str "roomward.errors" 194)::g0 P⟩ 11,#[]⟩
def o5:Obj:=nf [i0 1,i0 0,.ref 20,i0 5,i0 0,.ref 27]
def o6:Obj:=tu []
def o7:Obj:=nf []
def o8:Obj:=tu [.str "k" 190]
def o9:Obj:=tu []
def o10:Obj:=nu ⟨"_wall","_wall",aG (tp 0),.stmts (aF (tp 0)),aB (tp 0),0,[],.none,.none,.none,.none,none,.none,.none,0⟩
def o11:Obj:=co [.str "_wall" 187,.str "_wall" 188,cp 189,i0 1,i0 1,i0 0,i0 0,i0 3,.ref 15,.bool true,i0 181,.ref 16,.none,.ref 17,.ref 18,.ref 19,i0 191,i0 1,cp 192]
def o12:Obj:=fu ⟨"_wall","_wall",aG (tp 0),.stmts (aF (tp 0)),aB (tp 0),3,[],.none,.none,.none,.str "__main__" 164,none,.ref 20,.none,0⟩
def o13:Obj:=tu [.type "ValueError"]
def o14:Obj:=⟨.type "builtin_function_or_method",none,.fields #[.builtin "type.__prepare__",.type "type"],#[]⟩
def o15 (P:Params):Obj:=⟨.type "dict",none,.dict #[en P "__module__" 203 (.str "roomward.errors" 194),en P "__qualname__" 205 (.str "WardError" 204),en P "__firstlineno__" 207 (.int 5 206),en P "__static_attributes__" 208 (.ref 29)] 4,#[]⟩
def o16:Obj:=tu []
def o17:Obj:=nf []
def o18:Obj:=co [.str "WardError" 198,.str "WardError" 199,cp 200,i0 5,i0 0,i0 0,i0 0,i0 0,.ref 25,.bool false,i0 181,.ref 26,.none,.none,.none,.none,i0 201,i0 5,cp 202]
def o19:Obj:=⟨.type "frame",none,.plain,#[(some (.ref 27)),(some (.ref 3)),(some (.ref 24)),none,(some (.str "roomward.errors" 194)),none,(some (.ref 0))]⟩
def o20:Obj:=tu []
def o21 (P:Params):Obj:=⟨.type "dict",none,.dict #[en P "__module__" 203 (.str "roomward.errors" 194),en P "__firstlineno__" 207 (.int 5 206),en P "__static_attributes__" 208 (.ref 29),en P "__weakref__" 210 (.ref 32),en P "__doc__" 211 .none] 3,#[]⟩
def o22:Obj:=⟨.type "type",none,.cls ⟨"WardError",[.type "ValueError"],[.ref 31,.type "ValueError",.type "Exception",.type "BaseException",.type "object"],30,"WardError",true,[],[],false,none,false⟩,#[(some (.ref 22)),none,(some (.str "WardError" 196)),(some (.str "WardError" 204)),(some (.builtin "ValueError.__new__")),(some (.bool true))]⟩
def o23:Obj:=⟨.type "getset_descriptor",none,.fields #[.str "__weakref__" 209,.ref 31,.builtin "ExceptionGroup.__weakref__",.none],#[]⟩
def o24:Obj:=⟨.type "super",none,.fields #[.ref 31,.ref 31,.ref 31],#[]⟩
def o25:Obj:=⟨.type "builtin_function_or_method",none,.fields #[.builtin "object.__init_subclass__",.ref 31],#[]⟩
def T1 (P:Params):BT:=ns (T0 P) [(3,o4 P),(12,o5),(15,o6),(16,o7),(17,o8),(18,o9),(19,o10),(20,o11),(21,o12),(22,o13),(23,o14),(24,o15 P),(25,o16),(26,o17),(27,o18),(28,o19),(29,o20),(30,o21 P),(31,o22),(32,o23),(33,o24),(34,o25)]
theorem pc1:Hd.Pc pp env T0 15 187 T1 35 214 225 [tp 0,tp 1,tp 2] ⟨0,0,0,0⟩ ⟨5,0,6,8⟩:=by
 intro w
 kernel_rfl
def g1 (P:Params):List DictEntry:=g0 P++[en P "NoName" 229 (.ref 44)]
def o26 (P:Params):Obj:=⟨.type "dict",none,.dict ⟨en P "__name__" 165 (.str "roomward.errors" 194)::g1 P⟩ 12,#[]⟩
def o27:Obj:=nf [i0 1,i0 0,.ref 20,i0 5,i0 0,.ref 27,i0 7,i0 0,.ref 40]
def o28:Obj:=⟨.type "type",none,.cls ⟨"WardError",[.type "ValueError"],[.ref 31,.type "ValueError",.type "Exception",.type "BaseException",.type "object"],30,"WardError",true,[],[.ref 44],false,none,false⟩,#[(some (.ref 22)),none,(some (.str "WardError" 196)),(some (.str "WardError" 204)),(some (.builtin "ValueError.__new__")),(some (.bool true))]⟩
def o29:Obj:=tu [.ref 31]
def o30:Obj:=⟨.type "builtin_function_or_method",none,.fields #[.builtin "type.__prepare__",.type "type"],#[]⟩
def o31 (P:Params):Obj:=⟨.type "dict",none,.dict #[en P "__module__" 221 (.str "roomward.errors" 194),en P "__qualname__" 223 (.str "NoName" 222),en P "__firstlineno__" 225 (.int 7 224),en P "__static_attributes__" 226 (.ref 42)] 4,#[]⟩
def o32:Obj:=tu []
def o33:Obj:=nf []
def o34:Obj:=co [.str "NoName" 216,.str "NoName" 217,cp 218,i0 7,i0 0,i0 0,i0 0,i0 0,.ref 38,.bool false,i0 181,.ref 39,.none,.none,.none,.none,i0 219,i0 7,cp 220]
def o35:Obj:=⟨.type "frame",none,.plain,#[(some (.ref 40)),(some (.ref 3)),(some (.ref 37)),none,(some (.str "roomward.errors" 194)),none,(some (.ref 0))]⟩
def o36:Obj:=tu []
def o37 (P:Params):Obj:=⟨.type "dict",none,.dict #[en P "__module__" 221 (.str "roomward.errors" 194),en P "__firstlineno__" 225 (.int 7 224),en P "__static_attributes__" 226 (.ref 42),en P "__doc__" 227 .none] 2,#[]⟩
def o38:Obj:=⟨.type "type",none,.cls ⟨"NoName",[.ref 31],[.ref 44,.ref 31,.type "ValueError",.type "Exception",.type "BaseException",.type "object"],43,"NoName",true,[],[],false,none,false⟩,#[(some (.ref 35)),none,(some (.str "NoName" 214)),(some (.str "NoName" 222)),(some (.builtin "ValueError.__new__")),(some (.bool true))]⟩
def o39:Obj:=⟨.type "super",none,.fields #[.ref 44,.ref 44,.ref 44],#[]⟩
def o40:Obj:=⟨.type "builtin_function_or_method",none,.fields #[.builtin "object.__init_subclass__",.ref 44],#[]⟩
def T2 (P:Params):BT:=ns (T1 P) [(3,o26 P),(12,o27),(31,o28),(35,o29),(36,o30),(37,o31 P),(38,o32),(39,o33),(40,o34),(41,o35),(42,o36),(43,o37 P),(44,o38),(45,o39),(46,o40)]
theorem pc2:Hd.Pc pp env T1 35 214 T2 47 230 214 [tp 3] ⟨5,0,6,8⟩ ⟨7,0,8,8⟩:=by
 intro w
 kernel_rfl
def g2 (P:Params):List DictEntry:=g1 P++[en P "NoDeed" 245 (.ref 56)]
def o41 (P:Params):Obj:=⟨.type "dict",none,.dict ⟨en P "__name__" 165 (.str "roomward.errors" 194)::g2 P⟩ 13,#[]⟩
def o42:Obj:=nf [i0 1,i0 0,.ref 20,i0 5,i0 0,.ref 27,i0 7,i0 0,.ref 40,i0 9,i0 0,.ref 52]
def o43:Obj:=⟨.type "type",none,.cls ⟨"WardError",[.type "ValueError"],[.ref 31,.type "ValueError",.type "Exception",.type "BaseException",.type "object"],30,"WardError",true,[],[.ref 44,.ref 56],false,none,false⟩,#[(some (.ref 22)),none,(some (.str "WardError" 196)),(some (.str "WardError" 204)),(some (.builtin "ValueError.__new__")),(some (.bool true))]⟩
def o44:Obj:=tu [.ref 31]
def o45:Obj:=⟨.type "builtin_function_or_method",none,.fields #[.builtin "type.__prepare__",.type "type"],#[]⟩
def o46 (P:Params):Obj:=⟨.type "dict",none,.dict #[en P "__module__" 237 (.str "roomward.errors" 194),en P "__qualname__" 239 (.str "NoDeed" 238),en P "__firstlineno__" 241 (.int 9 240),en P "__static_attributes__" 242 (.ref 54)] 4,#[]⟩
def o47:Obj:=tu []
def o48:Obj:=nf []
def o49:Obj:=co [.str "NoDeed" 232,.str "NoDeed" 233,cp 234,i0 9,i0 0,i0 0,i0 0,i0 0,.ref 50,.bool false,i0 181,.ref 51,.none,.none,.none,.none,i0 235,i0 9,cp 236]
def o50:Obj:=⟨.type "frame",none,.plain,#[(some (.ref 52)),(some (.ref 3)),(some (.ref 49)),none,(some (.str "roomward.errors" 194)),none,(some (.ref 0))]⟩
def o51:Obj:=tu []
def o52 (P:Params):Obj:=⟨.type "dict",none,.dict #[en P "__module__" 237 (.str "roomward.errors" 194),en P "__firstlineno__" 241 (.int 9 240),en P "__static_attributes__" 242 (.ref 54),en P "__doc__" 243 .none] 2,#[]⟩
def o53:Obj:=⟨.type "type",none,.cls ⟨"NoDeed",[.ref 31],[.ref 56,.ref 31,.type "ValueError",.type "Exception",.type "BaseException",.type "object"],55,"NoDeed",true,[],[],false,none,false⟩,#[(some (.ref 47)),none,(some (.str "NoDeed" 230)),(some (.str "NoDeed" 238)),(some (.builtin "ValueError.__new__")),(some (.bool true))]⟩
def o54:Obj:=⟨.type "super",none,.fields #[.ref 56,.ref 56,.ref 56],#[]⟩
def o55:Obj:=⟨.type "builtin_function_or_method",none,.fields #[.builtin "object.__init_subclass__",.ref 56],#[]⟩
def T3 (P:Params):BT:=ns (T2 P) [(3,o41 P),(12,o42),(31,o43),(47,o44),(48,o45),(49,o46 P),(50,o47),(51,o48),(52,o49),(53,o50),(54,o51),(55,o52 P),(56,o53),(57,o54),(58,o55)]
theorem pc3:Hd.Pc pp env T2 47 230 T3 59 246 214 [tp 4] ⟨7,0,8,8⟩ ⟨9,0,10,8⟩:=by
 intro w
 kernel_rfl
def g3 (P:Params):List DictEntry:=g2 P++[en P "NoRoom" 261 (.ref 68)]
def o56 (P:Params):Obj:=⟨.type "dict",none,.dict ⟨en P "__name__" 165 (.str "roomward.errors" 194)::g3 P⟩ 14,#[]⟩
def o57:Obj:=nf [i0 1,i0 0,.ref 20,i0 5,i0 0,.ref 27,i0 7,i0 0,.ref 40,i0 9,i0 0,.ref 52,i0 11,i0 0,.ref 64]
def o58:Obj:=⟨.type "type",none,.cls ⟨"WardError",[.type "ValueError"],[.ref 31,.type "ValueError",.type "Exception",.type "BaseException",.type "object"],30,"WardError",true,[],[.ref 44,.ref 56,.ref 68],false,none,false⟩,#[(some (.ref 22)),none,(some (.str "WardError" 196)),(some (.str "WardError" 204)),(some (.builtin "ValueError.__new__")),(some (.bool true))]⟩
def o59:Obj:=tu [.ref 31]
def o60:Obj:=⟨.type "builtin_function_or_method",none,.fields #[.builtin "type.__prepare__",.type "type"],#[]⟩
def o61 (P:Params):Obj:=⟨.type "dict",none,.dict #[en P "__module__" 253 (.str "roomward.errors" 194),en P "__qualname__" 255 (.str "NoRoom" 254),en P "__firstlineno__" 257 (.int 11 256),en P "__static_attributes__" 258 (.ref 66)] 4,#[]⟩
def o62:Obj:=tu []
def o63:Obj:=nf []
def o64:Obj:=co [.str "NoRoom" 248,.str "NoRoom" 249,cp 250,i0 11,i0 0,i0 0,i0 0,i0 0,.ref 62,.bool false,i0 181,.ref 63,.none,.none,.none,.none,i0 251,i0 11,cp 252]
def o65:Obj:=⟨.type "frame",none,.plain,#[(some (.ref 64)),(some (.ref 3)),(some (.ref 61)),none,(some (.str "roomward.errors" 194)),none,(some (.ref 0))]⟩
def o66:Obj:=tu []
def o67 (P:Params):Obj:=⟨.type "dict",none,.dict #[en P "__module__" 253 (.str "roomward.errors" 194),en P "__firstlineno__" 257 (.int 11 256),en P "__static_attributes__" 258 (.ref 66),en P "__doc__" 259 .none] 2,#[]⟩
def o68:Obj:=⟨.type "type",none,.cls ⟨"NoRoom",[.ref 31],[.ref 68,.ref 31,.type "ValueError",.type "Exception",.type "BaseException",.type "object"],67,"NoRoom",true,[],[],false,none,false⟩,#[(some (.ref 59)),none,(some (.str "NoRoom" 246)),(some (.str "NoRoom" 254)),(some (.builtin "ValueError.__new__")),(some (.bool true))]⟩
def o69:Obj:=⟨.type "super",none,.fields #[.ref 68,.ref 68,.ref 68],#[]⟩
def o70:Obj:=⟨.type "builtin_function_or_method",none,.fields #[.builtin "object.__init_subclass__",.ref 68],#[]⟩
def T4 (P:Params):BT:=ns (T3 P) [(3,o56 P),(12,o57),(31,o58),(59,o59),(60,o60),(61,o61 P),(62,o62),(63,o63),(64,o64),(65,o65),(66,o66),(67,o67 P),(68,o68),(69,o69),(70,o70)]
theorem pc4:Hd.Pc pp env T3 59 246 T4 71 262 214 [tp 5] ⟨9,0,10,8⟩ ⟨11,0,12,8⟩:=by
 intro w
 kernel_rfl
def g4 (P:Params):List DictEntry:=g3 P++[en P "TwiceTold" 277 (.ref 80)]
def o71 (P:Params):Obj:=⟨.type "dict",none,.dict ⟨en P "__name__" 165 (.str "roomward.errors" 194)::g4 P⟩ 15,#[]⟩
def o72:Obj:=nf [i0 1,i0 0,.ref 20,i0 5,i0 0,.ref 27,i0 7,i0 0,.ref 40,i0 9,i0 0,.ref 52,i0 11,i0 0,.ref 64,i0 13,i0 0,.ref 76]
def o73:Obj:=⟨.type "type",none,.cls ⟨"WardError",[.type "ValueError"],[.ref 31,.type "ValueError",.type "Exception",.type "BaseException",.type "object"],30,"WardError",true,[],[.ref 44,.ref 56,.ref 68,.ref 80],false,none,false⟩,#[(some (.ref 22)),none,(some (.str "WardError" 196)),(some (.str "WardError" 204)),(some (.builtin "ValueError.__new__")),(some (.bool true))]⟩
def o74:Obj:=tu [.ref 31]
def o75:Obj:=⟨.type "builtin_function_or_method",none,.fields #[.builtin "type.__prepare__",.type "type"],#[]⟩
def o76 (P:Params):Obj:=⟨.type "dict",none,.dict #[en P "__module__" 269 (.str "roomward.errors" 194),en P "__qualname__" 271 (.str "TwiceTold" 270),en P "__firstlineno__" 273 (.int 13 272),en P "__static_attributes__" 274 (.ref 78)] 4,#[]⟩
def o77:Obj:=tu []
def o78:Obj:=nf []
def o79:Obj:=co [.str "TwiceTold" 264,.str "TwiceTold" 265,cp 266,i0 13,i0 0,i0 0,i0 0,i0 0,.ref 74,.bool false,i0 181,.ref 75,.none,.none,.none,.none,i0 267,i0 13,cp 268]
def o80:Obj:=⟨.type "frame",none,.plain,#[(some (.ref 76)),(some (.ref 3)),(some (.ref 73)),none,(some (.str "roomward.errors" 194)),none,(some (.ref 0))]⟩
def o81:Obj:=tu []
def o82 (P:Params):Obj:=⟨.type "dict",none,.dict #[en P "__module__" 269 (.str "roomward.errors" 194),en P "__firstlineno__" 273 (.int 13 272),en P "__static_attributes__" 274 (.ref 78),en P "__doc__" 275 .none] 2,#[]⟩
def o83:Obj:=⟨.type "type",none,.cls ⟨"TwiceTold",[.ref 31],[.ref 80,.ref 31,.type "ValueError",.type "Exception",.type "BaseException",.type "object"],79,"TwiceTold",true,[],[],false,none,false⟩,#[(some (.ref 71)),none,(some (.str "TwiceTold" 262)),(some (.str "TwiceTold" 270)),(some (.builtin "ValueError.__new__")),(some (.bool true))]⟩
def o84:Obj:=⟨.type "super",none,.fields #[.ref 80,.ref 80,.ref 80],#[]⟩
def o85:Obj:=⟨.type "builtin_function_or_method",none,.fields #[.builtin "object.__init_subclass__",.ref 80],#[]⟩
def T5 (P:Params):BT:=ns (T4 P) [(3,o71 P),(12,o72),(31,o73),(71,o74),(72,o75),(73,o76 P),(74,o77),(75,o78),(76,o79),(77,o80),(78,o81),(79,o82 P),(80,o83),(81,o84),(82,o85)]
theorem pc5:Hd.Pc pp env T4 71 262 T5 83 278 214 [tp 6] ⟨11,0,12,8⟩ ⟨13,0,14,8⟩:=by
 intro w
 kernel_rfl
def g5 (P:Params):List DictEntry:=g4 P++[en P "TooMany" 293 (.ref 92),en P "rows_to" 310 (.ref 101),en P "come_to" 319 (.ref 108),en P "LETTERS" 323 (.str "abcdefghijklmnopqrstuvwxyz" 322),en P "FIGURES" 325 (.str "0123456789" 324),en P "MOST_SIGNS" 327 (.int 8 326),en P "MOST_DEEDS" 329 (.int 12 328),en P "is_name" 335 (.ref 113),en P "refuse_names" 344 (.ref 120)]
def o86 (P:Params):Obj:=⟨.type "dict",none,.dict ⟨en P "__name__" 165 (.str "roomward.deeds" 320)::g5 P⟩ 24,#[]⟩
def o87:Obj:=nf [i0 1,i0 0,.ref 20,i0 5,i0 0,.ref 27,i0 7,i0 0,.ref 40,i0 9,i0 0,.ref 52,i0 11,i0 0,.ref 64,i0 13,i0 0,.ref 76,i0 15,i0 0,.ref 88,i0 18,i0 0,.ref 100,i0 32,i0 0,.ref 107,i0 39,i0 0,.ref 112,i0 44,i0 0,.ref 119]
def o88:Obj:=⟨.type "type",none,.cls ⟨"WardError",[.type "ValueError"],[.ref 31,.type "ValueError",.type "Exception",.type "BaseException",.type "object"],30,"WardError",true,[],[.ref 44,.ref 56,.ref 68,.ref 80,.ref 92],false,none,false⟩,#[(some (.ref 22)),none,(some (.str "WardError" 196)),(some (.str "WardError" 204)),(some (.builtin "ValueError.__new__")),(some (.bool true))]⟩
def o89:Obj:=tu [.ref 31]
def o90:Obj:=⟨.type "builtin_function_or_method",none,.fields #[.builtin "type.__prepare__",.type "type"],#[]⟩
def o91 (P:Params):Obj:=⟨.type "dict",none,.dict #[en P "__module__" 285 (.str "roomward.errors" 194),en P "__qualname__" 287 (.str "TooMany" 286),en P "__firstlineno__" 289 (.int 15 288),en P "__static_attributes__" 290 (.ref 90)] 4,#[]⟩
def o92:Obj:=tu []
def o93:Obj:=nf []
def o94:Obj:=co [.str "TooMany" 280,.str "TooMany" 281,cp 282,i0 15,i0 0,i0 0,i0 0,i0 0,.ref 86,.bool false,i0 181,.ref 87,.none,.none,.none,.none,i0 283,i0 15,cp 284]
def o95:Obj:=⟨.type "frame",none,.plain,#[(some (.ref 88)),(some (.ref 3)),(some (.ref 85)),none,(some (.str "roomward.errors" 194)),none,(some (.ref 0))]⟩
def o96:Obj:=tu []
def o97 (P:Params):Obj:=⟨.type "dict",none,.dict #[en P "__module__" 285 (.str "roomward.errors" 194),en P "__firstlineno__" 289 (.int 15 288),en P "__static_attributes__" 290 (.ref 90),en P "__doc__" 291 .none] 2,#[]⟩
def o98:Obj:=⟨.type "type",none,.cls ⟨"TooMany",[.ref 31],[.ref 92,.ref 31,.type "ValueError",.type "Exception",.type "BaseException",.type "object"],91,"TooMany",true,[],[],false,none,false⟩,#[(some (.ref 83)),none,(some (.str "TooMany" 278)),(some (.str "TooMany" 286)),(some (.builtin "ValueError.__new__")),(some (.bool true))]⟩
def o99:Obj:=⟨.type "super",none,.fields #[.ref 92,.ref 92,.ref 92],#[]⟩
def o100:Obj:=⟨.type "builtin_function_or_method",none,.fields #[.builtin "object.__init_subclass__",.ref 92],#[]⟩
def o101:Obj:=tu []
def o102:Obj:=nf []
def o103:Obj:=tu [.str "begin" 299,.str "doors" 300,.str "most" 301,.str "rows" 302,.str "rooms" 303,.str "place" 304,.str "room" 305,.str "deed" 306,.str "far" 307]
def o104:Obj:=tu []
def o105:Obj:=nu ⟨"rows_to","rows_to",aG (tp 9),.stmts (aF (tp 9)),aB (tp 9),0,[],.none,.none,.none,.none,none,.none,.none,0⟩
def o106:Obj:=co [.str "rows_to" 296,.str "rows_to" 297,cp 298,i0 18,i0 3,i0 0,i0 0,i0 3,.ref 95,.bool true,i0 181,.ref 96,.none,.ref 97,.ref 98,.ref 99,i0 308,i0 18,cp 309]
def o107:Obj:=fu ⟨"rows_to","rows_to",aG (tp 9),.stmts (aF (tp 9)),aB (tp 9),3,[],.none,.none,.none,.str "roomward.coming" 294,none,.ref 100,.none,0⟩
def o108:Obj:=tu []
def o109:Obj:=nf []
def o110:Obj:=tu [.str "begin" 314,.str "doors" 315,.str "most" 316]
def o111:Obj:=tu []
def o112:Obj:=nu ⟨"come_to","come_to",aG (tp 10),.stmts (aF (tp 10)),aB (tp 10),0,[],.none,.none,.none,.none,none,.none,.none,0⟩
def o113:Obj:=co [.str "come_to" 311,.str "come_to" 312,cp 313,i0 32,i0 3,i0 0,i0 0,i0 3,.ref 102,.bool true,i0 181,.ref 103,.none,.ref 104,.ref 105,.ref 106,i0 317,i0 32,cp 318]
def o114:Obj:=fu ⟨"come_to","come_to",aG (tp 10),.stmts (aF (tp 10)),aB (tp 10),3,[],.none,.none,.none,.str "roomward.coming" 294,none,.ref 107,.none,0⟩
def o115:Obj:=tu []
def o116:Obj:=nf []
def o117:Obj:=nu ⟨"is_name","is_name",aG (tp 16),.stmts (aF (tp 16)),aB (tp 16),0,[],.none,.none,.none,.none,none,.none,.none,0⟩
def o118:Obj:=co [.str "is_name" 330,.str "is_name" 331,cp 332,i0 39,i0 1,i0 0,i0 0,i0 3,.ref 109,.bool true,i0 181,.ref 110,.none,.none,.none,.ref 111,i0 333,i0 39,cp 334]
def o119:Obj:=fu ⟨"is_name","is_name",aG (tp 16),.stmts (aF (tp 16)),aB (tp 16),3,[],.none,.none,.none,.str "roomward.deeds" 320,none,.ref 112,.none,0⟩
def o120:Obj:=tu []
def o121:Obj:=nf []
def o122:Obj:=tu [.str "names" 339,.str "ahead" 340,.str "name" 341]
def o123:Obj:=tu []
def o124:Obj:=nu ⟨"refuse_names","refuse_names",aG (tp 17),.stmts (aF (tp 17)),aB (tp 17),0,[],.none,.none,.none,.none,none,.none,.none,0⟩
def o125:Obj:=co [.str "refuse_names" 336,.str "refuse_names" 337,cp 338,i0 44,i0 1,i0 0,i0 0,i0 3,.ref 114,.bool true,i0 181,.ref 115,.none,.ref 116,.ref 117,.ref 118,i0 342,i0 44,cp 343]
def o126:Obj:=fu ⟨"refuse_names","refuse_names",aG (tp 17),.stmts (aF (tp 17)),aB (tp 17),3,[],.none,.none,.none,.str "roomward.deeds" 320,none,.ref 119,.none,0⟩
def T6 (P:Params):BT:=ns (T5 P) [(3,o86 P),(12,o87),(31,o88),(83,o89),(84,o90),(85,o91 P),(86,o92),(87,o93),(88,o94),(89,o95),(90,o96),(91,o97 P),(92,o98),(93,o99),(94,o100),(95,o101),(96,o102),(97,o103),(98,o104),(99,o105),(100,o106),(101,o107),(102,o108),(103,o109),(104,o110),(105,o111),(106,o112),(107,o113),(108,o114),(109,o115),(110,o116),(111,o117),(112,o118),(113,o119),(114,o120),(115,o121),(116,o122),(117,o123),(118,o124),(119,o125),(120,o126)]
theorem pc6:Hd.Pc pp env T5 83 278 T6 121 345 393 [tp 7,tp 8,tp 9,tp 10,tp 11,tp 12,tp 13,tp 14,tp 15,tp 16,tp 17] ⟨13,0,14,8⟩ ⟨44,0,53,26⟩:=by
 intro w
 kernel_rfl
def g6 (P:Params):List DictEntry:=g5 P++[en P "weights_of" 354 (.ref 127),en P "marks_of" 363 (.ref 134)]
def o127 (P:Params):Obj:=⟨.type "dict",none,.dict ⟨en P "__name__" 165 (.str "roomward.deeds" 320)::g6 P⟩ 26,#[]⟩
def o128:Obj:=nf [i0 1,i0 0,.ref 20,i0 5,i0 0,.ref 27,i0 7,i0 0,.ref 40,i0 9,i0 0,.ref 52,i0 11,i0 0,.ref 64,i0 13,i0 0,.ref 76,i0 15,i0 0,.ref 88,i0 18,i0 0,.ref 100,i0 32,i0 0,.ref 107,i0 39,i0 0,.ref 112,i0 44,i0 0,.ref 119,i0 54,i0 0,.ref 126,i0 61,i0 0,.ref 133]
def o129:Obj:=tu []
def o130:Obj:=nf []
def o131:Obj:=tu [.str "names" 348,.str "weights" 349,.str "weight" 350,.str "name" 351]
def o132:Obj:=tu []
def o133:Obj:=nu ⟨"weights_of","weights_of",aG (tp 18),.stmts (aF (tp 18)),aB (tp 18),0,[],.none,.none,.none,.none,none,.none,.none,0⟩
def o134:Obj:=co [.str "weights_of" 345,.str "weights_of" 346,cp 347,i0 54,i0 1,i0 0,i0 0,i0 3,.ref 121,.bool true,i0 181,.ref 122,.none,.ref 123,.ref 124,.ref 125,i0 352,i0 54,cp 353]
def o135:Obj:=fu ⟨"weights_of","weights_of",aG (tp 18),.stmts (aF (tp 18)),aB (tp 18),3,[],.none,.none,.none,.str "roomward.deeds" 320,none,.ref 126,.none,0⟩
def o136:Obj:=tu []
def o137:Obj:=nf []
def o138:Obj:=tu [.str "names" 358,.str "marks" 359,.str "name" 360]
def o139:Obj:=tu []
def o140:Obj:=nu ⟨"marks_of","marks_of",aG (tp 19),.stmts (aF (tp 19)),aB (tp 19),0,[],.none,.none,.none,.none,none,.none,.none,0⟩
def o141:Obj:=co [.str "marks_of" 355,.str "marks_of" 356,cp 357,i0 61,i0 1,i0 0,i0 0,i0 3,.ref 128,.bool true,i0 181,.ref 129,.none,.ref 130,.ref 131,.ref 132,i0 361,i0 61,cp 362]
def o142:Obj:=fu ⟨"marks_of","marks_of",aG (tp 19),.stmts (aF (tp 19)),aB (tp 19),3,[],.none,.none,.none,.str "roomward.deeds" 320,none,.ref 133,.none,0⟩
def T7 (P:Params):BT:=ns (T6 P) [(3,o127 P),(12,o128),(121,o129),(122,o130),(123,o131),(124,o132),(125,o133),(126,o134),(127,o135),(128,o136),(129,o137),(130,o138),(131,o139),(132,o140),(133,o141),(134,o142)]
theorem pc7:Hd.Pc pp env T6 121 345 T7 135 364 64 [tp 18,tp 19] ⟨44,0,53,26⟩ ⟨61,0,65,16⟩:=by
 intro w
 kernel_rfl
def g7 (P:Params):List DictEntry:=g6 P++[en P "Deeds" 450 (.ref 201)]
def o143 (P:Params):Obj:=⟨.type "dict",none,.dict ⟨en P "__name__" 165 (.str "roomward.deeds" 320)::g7 P⟩ 27,#[]⟩
def o144:Obj:=nf [i0 1,i0 0,.ref 20,i0 5,i0 0,.ref 27,i0 7,i0 0,.ref 40,i0 9,i0 0,.ref 52,i0 11,i0 0,.ref 64,i0 13,i0 0,.ref 76,i0 15,i0 0,.ref 88,i0 18,i0 0,.ref 100,i0 32,i0 0,.ref 107,i0 39,i0 0,.ref 112,i0 44,i0 0,.ref 119,i0 54,i0 0,.ref 126,i0 61,i0 0,.ref 133,i0 66,i0 0,.ref 140]
def o145:Obj:=tu []
def o146:Obj:=⟨.type "builtin_function_or_method",none,.fields #[.builtin "type.__prepare__",.type "type"],#[]⟩
def g8 (P:Params):List DictEntry:=[en P "__qualname__" 373 (.str "Deeds" 372),en P "__firstlineno__" 375 (.int 66 374),en P "__init__" 385 (.ref 149),en P "names" 392 (.ref 156),en P "free" 399 (.ref 163),en P "has" 407 (.ref 170),en P "require" 416 (.ref 177),en P "is_free" 424 (.ref 184),en P "bits" 432 (.ref 191),en P "names_of" 440 (.ref 198),en P "__static_attributes__" 443 (.ref 199)]
def o147 (P:Params):Obj:=⟨.type "dict",none,.dict ⟨en P "__module__" 371 (.str "roomward.deeds" 320)::g8 P⟩ 12,#[]⟩
def o148:Obj:=tu []
def o149:Obj:=nf [i0 68,i0 4,.ref 148,i0 75,i0 4,.ref 155,i0 78,i0 4,.ref 162,i0 81,i0 4,.ref 169,i0 84,i0 4,.ref 176,i0 89,i0 4,.ref 183,i0 92,i0 4,.ref 190,i0 95,i0 4,.ref 197]
def o150:Obj:=co [.str "Deeds" 366,.str "Deeds" 367,cp 368,i0 66,i0 0,i0 0,i0 0,i0 0,.ref 138,.bool false,i0 181,.ref 139,.none,.none,.none,.none,i0 369,i0 66,cp 370]
def o151:Obj:=⟨.type "frame",none,.plain,#[(some (.ref 140)),(some (.ref 3)),(some (.ref 137)),none,(some (.str "roomward.deeds" 320)),none,(some (.ref 0))]⟩
def o152:Obj:=tu [.none]
def o153:Obj:=tu []
def o154:Obj:=nf []
def o155:Obj:=tu [.str "self" 379,.str "names" 380,.str "free" 381,.str "free_names" 382]
def o156:Obj:=tu []
def o157:Obj:=nu ⟨"__init__","Deeds.__init__",aG (aD (tp 20) 0),.stmts (aF (aD (tp 20) 0)),aB (aD (tp 20) 0),0,[],.none,.none,.none,.none,none,.none,.none,0⟩
def o158:Obj:=co [.str "__init__" 376,.str "Deeds.__init__" 377,cp 378,i0 68,i0 3,i0 0,i0 0,i0 3,.ref 143,.bool true,i0 181,.ref 144,.none,.ref 145,.ref 146,.ref 147,i0 383,i0 68,cp 384]
def o159:Obj:=fu ⟨"__init__","Deeds.__init__",aG (aD (tp 20) 0),.stmts (aF (aD (tp 20) 0)),aB (aD (tp 20) 0),3,[],.ref 142,.none,.none,.str "roomward.deeds" 320,none,.ref 148,.none,0⟩
def o160:Obj:=tu []
def o161:Obj:=nf []
def o162:Obj:=tu [.str "self" 389]
def o163:Obj:=tu []
def o164:Obj:=nu ⟨"names","Deeds.names",aG (aD (tp 20) 1),.stmts (aF (aD (tp 20) 1)),aB (aD (tp 20) 1),0,[],.none,.none,.none,.none,none,.none,.none,0⟩
def o165:Obj:=co [.str "names" 386,.str "Deeds.names" 387,cp 388,i0 75,i0 1,i0 0,i0 0,i0 3,.ref 150,.bool true,i0 181,.ref 151,.none,.ref 152,.ref 153,.ref 154,i0 390,i0 75,cp 391]
def o166:Obj:=fu ⟨"names","Deeds.names",aG (aD (tp 20) 1),.stmts (aF (aD (tp 20) 1)),aB (aD (tp 20) 1),3,[],.none,.none,.none,.str "roomward.deeds" 320,none,.ref 155,.none,0⟩
def o167:Obj:=tu []
def o168:Obj:=nf []
def o169:Obj:=tu [.str "self" 396]
def o170:Obj:=tu []
def o171:Obj:=nu ⟨"free","Deeds.free",aG (aD (tp 20) 2),.stmts (aF (aD (tp 20) 2)),aB (aD (tp 20) 2),0,[],.none,.none,.none,.none,none,.none,.none,0⟩
def o172:Obj:=co [.str "free" 393,.str "Deeds.free" 394,cp 395,i0 78,i0 1,i0 0,i0 0,i0 3,.ref 157,.bool true,i0 181,.ref 158,.none,.ref 159,.ref 160,.ref 161,i0 397,i0 78,cp 398]
def o173:Obj:=fu ⟨"free","Deeds.free",aG (aD (tp 20) 2),.stmts (aF (aD (tp 20) 2)),aB (aD (tp 20) 2),3,[],.none,.none,.none,.str "roomward.deeds" 320,none,.ref 162,.none,0⟩
def o174:Obj:=tu []
def o175:Obj:=nf []
def o176:Obj:=tu [.str "self" 403,.str "thing" 404]
def o177:Obj:=tu []
def o178:Obj:=nu ⟨"has","Deeds.has",aG (aD (tp 20) 3),.stmts (aF (aD (tp 20) 3)),aB (aD (tp 20) 3),0,[],.none,.none,.none,.none,none,.none,.none,0⟩
def o179:Obj:=co [.str "has" 400,.str "Deeds.has" 401,cp 402,i0 81,i0 2,i0 0,i0 0,i0 3,.ref 164,.bool true,i0 181,.ref 165,.none,.ref 166,.ref 167,.ref 168,i0 405,i0 81,cp 406]
def o180:Obj:=fu ⟨"has","Deeds.has",aG (aD (tp 20) 3),.stmts (aF (aD (tp 20) 3)),aB (aD (tp 20) 3),3,[],.none,.none,.none,.str "roomward.deeds" 320,none,.ref 169,.none,0⟩
def o181:Obj:=tu []
def o182:Obj:=nf []
def o183:Obj:=tu [.str "self" 411,.str "row" 412,.str "deed" 413]
def o184:Obj:=tu []
def o185:Obj:=nu ⟨"require","Deeds.require",aG (aD (tp 20) 4),.stmts (aF (aD (tp 20) 4)),aB (aD (tp 20) 4),0,[],.none,.none,.none,.none,none,.none,.none,0⟩
def o186:Obj:=co [.str "require" 408,.str "Deeds.require" 409,cp 410,i0 84,i0 2,i0 0,i0 0,i0 3,.ref 171,.bool true,i0 181,.ref 172,.none,.ref 173,.ref 174,.ref 175,i0 414,i0 84,cp 415]
def o187:Obj:=fu ⟨"require","Deeds.require",aG (aD (tp 20) 4),.stmts (aF (aD (tp 20) 4)),aB (aD (tp 20) 4),3,[],.none,.none,.none,.str "roomward.deeds" 320,none,.ref 176,.none,0⟩
def o188:Obj:=tu []
def o189:Obj:=nf []
def o190:Obj:=tu [.str "self" 420,.str "deed" 421]
def o191:Obj:=tu []
def o192:Obj:=nu ⟨"is_free","Deeds.is_free",aG (aD (tp 20) 5),.stmts (aF (aD (tp 20) 5)),aB (aD (tp 20) 5),0,[],.none,.none,.none,.none,none,.none,.none,0⟩
def o193:Obj:=co [.str "is_free" 417,.str "Deeds.is_free" 418,cp 419,i0 89,i0 2,i0 0,i0 0,i0 3,.ref 178,.bool true,i0 181,.ref 179,.none,.ref 180,.ref 181,.ref 182,i0 422,i0 89,cp 423]
def o194:Obj:=fu ⟨"is_free","Deeds.is_free",aG (aD (tp 20) 5),.stmts (aF (aD (tp 20) 5)),aB (aD (tp 20) 5),3,[],.none,.none,.none,.str "roomward.deeds" 320,none,.ref 183,.none,0⟩
def o195:Obj:=tu []
def o196:Obj:=nf []
def o197:Obj:=tu [.str "self" 428,.str "names" 429]
def o198:Obj:=tu []
def o199:Obj:=nu ⟨"bits","Deeds.bits",aG (aD (tp 20) 6),.stmts (aF (aD (tp 20) 6)),aB (aD (tp 20) 6),0,[],.none,.none,.none,.none,none,.none,.none,0⟩
def o200:Obj:=co [.str "bits" 425,.str "Deeds.bits" 426,cp 427,i0 92,i0 2,i0 0,i0 0,i0 3,.ref 185,.bool true,i0 181,.ref 186,.none,.ref 187,.ref 188,.ref 189,i0 430,i0 92,cp 431]
def o201:Obj:=fu ⟨"bits","Deeds.bits",aG (aD (tp 20) 6),.stmts (aF (aD (tp 20) 6)),aB (aD (tp 20) 6),3,[],.none,.none,.none,.str "roomward.deeds" 320,none,.ref 190,.none,0⟩
def o202:Obj:=tu []
def o203:Obj:=nf []
def o204:Obj:=tu [.str "self" 436,.str "bits" 437]
def o205:Obj:=tu []
def o206:Obj:=nu ⟨"names_of","Deeds.names_of",aG (aD (tp 20) 7),.stmts (aF (aD (tp 20) 7)),aB (aD (tp 20) 7),0,[],.none,.none,.none,.none,none,.none,.none,0⟩
def o207:Obj:=co [.str "names_of" 433,.str "Deeds.names_of" 434,cp 435,i0 95,i0 2,i0 0,i0 0,i0 3,.ref 192,.bool true,i0 181,.ref 193,.none,.ref 194,.ref 195,.ref 196,i0 438,i0 95,cp 439]
def o208:Obj:=fu ⟨"names_of","Deeds.names_of",aG (aD (tp 20) 7),.stmts (aF (aD (tp 20) 7)),aB (aD (tp 20) 7),3,[],.none,.none,.none,.str "roomward.deeds" 320,none,.ref 197,.none,0⟩
def o209:Obj:=tu [.str "free_marks" 441,.str "weights" 442]
def g9 (P:Params):List DictEntry:=[en P "__firstlineno__" 375 (.int 66 374),en P "__init__" 385 (.ref 149),en P "names" 392 (.ref 156),en P "free" 399 (.ref 163),en P "has" 407 (.ref 170),en P "require" 416 (.ref 177),en P "is_free" 424 (.ref 184),en P "bits" 432 (.ref 191),en P "names_of" 440 (.ref 198),en P "__static_attributes__" 443 (.ref 199),en P "__dict__" 445 (.ref 202),en P "__weakref__" 447 (.ref 203),en P "__doc__" 448 .none]
def o210 (P:Params):Obj:=⟨.type "dict",none,.dict ⟨en P "__module__" 371 (.str "roomward.deeds" 320)::g9 P⟩ 4,#[]⟩
def o211:Obj:=⟨.type "type",none,.cls ⟨"Deeds",[.type "object"],[.ref 201,.type "object"],200,"Deeds",true,[],[],false,none,false⟩,#[none,none,(some (.str "Deeds" 364)),(some (.str "Deeds" 372)),(some (.builtin "object.__new__")),(some (.bool true))]⟩
def o212:Obj:=⟨.type "getset_descriptor",none,.fields #[.str "__dict__" 444,.ref 201,.builtin "function.__dict__",.builtin "function.__dict__#set"],#[]⟩
def o213:Obj:=⟨.type "getset_descriptor",none,.fields #[.str "__weakref__" 446,.ref 201,.builtin "ExceptionGroup.__weakref__",.none],#[]⟩
def o214:Obj:=⟨.type "super",none,.fields #[.ref 201,.ref 201,.ref 201],#[]⟩
def o215:Obj:=⟨.type "builtin_function_or_method",none,.fields #[.builtin "object.__init_subclass__",.ref 201],#[]⟩
def T8 (P:Params):BT:=ns (T7 P) [(3,o143 P),(12,o144),(135,o145),(136,o146),(137,o147 P),(138,o148),(139,o149),(140,o150),(141,o151),(142,o152),(143,o153),(144,o154),(145,o155),(146,o156),(147,o157),(148,o158),(149,o159),(150,o160),(151,o161),(152,o162),(153,o163),(154,o164),(155,o165),(156,o166),(157,o167),(158,o168),(159,o169),(160,o170),(161,o171),(162,o172),(163,o173),(164,o174),(165,o175),(166,o176),(167,o177),(168,o178),(169,o179),(170,o180),(171,o181),(172,o182),(173,o183),(174,o184),(175,o185),(176,o186),(177,o187),(178,o188),(179,o189),(180,o190),(181,o191),(182,o192),(183,o193),(184,o194),(185,o195),(186,o196),(187,o197),(188,o198),(189,o199),(190,o200),(191,o201),(192,o202),(193,o203),(194,o204),(195,o205),(196,o206),(197,o207),(198,o208),(199,o209),(200,o210 P),(201,o211),(202,o212),(203,o213),(204,o214),(205,o215)]
theorem pc8:Hd.Pc pp env T7 135 364 T8 206 451 450 [tp 20] ⟨61,0,65,16⟩ ⟨66,0,96,16⟩:=by
 intro w
 kernel_rfl
def g10 (P:Params):List DictEntry:=g7 P++[en P "MOST_ROOMS" 454 (.int 60 453),en P "named_rooms" 467 (.ref 212),en P "refuse_rooms" 475 (.ref 219),en P "leads_of" 487 (.ref 226)]
def o216 (P:Params):Obj:=⟨.type "dict",none,.dict ⟨en P "__name__" 165 (.str "roomward.machines" 451)::g10 P⟩ 31,#[]⟩
def o217:Obj:=nf [i0 1,i0 0,.ref 20,i0 5,i0 0,.ref 27,i0 7,i0 0,.ref 40,i0 9,i0 0,.ref 52,i0 11,i0 0,.ref 64,i0 13,i0 0,.ref 76,i0 15,i0 0,.ref 88,i0 18,i0 0,.ref 100,i0 32,i0 0,.ref 107,i0 39,i0 0,.ref 112,i0 44,i0 0,.ref 119,i0 54,i0 0,.ref 126,i0 61,i0 0,.ref 133,i0 66,i0 0,.ref 140,i0 99,i0 0,.ref 211,i0 106,i0 0,.ref 218,i0 110,i0 0,.ref 225]
def o218:Obj:=tu []
def o219:Obj:=nf []
def o220:Obj:=tu [.str "begin" 458,.str "ends" 459,.str "doors" 460,.str "rooms" 461,.str "room" 462,.str "deed" 463,.str "far" 464]
def o221:Obj:=tu []
def o222:Obj:=nu ⟨"named_rooms","named_rooms",aG (tp 23),.stmts (aF (tp 23)),aB (tp 23),0,[],.none,.none,.none,.none,none,.none,.none,0⟩
def o223:Obj:=co [.str "named_rooms" 455,.str "named_rooms" 456,cp 457,i0 99,i0 3,i0 0,i0 0,i0 3,.ref 206,.bool true,i0 181,.ref 207,.none,.ref 208,.ref 209,.ref 210,i0 465,i0 99,cp 466]
def o224:Obj:=fu ⟨"named_rooms","named_rooms",aG (tp 23),.stmts (aF (tp 23)),aB (tp 23),3,[],.none,.none,.none,.str "roomward.machines" 451,none,.ref 211,.none,0⟩
def o225:Obj:=tu []
def o226:Obj:=nf []
def o227:Obj:=tu [.str "rooms" 471,.str "room" 472]
def o228:Obj:=tu []
def o229:Obj:=nu ⟨"refuse_rooms","refuse_rooms",aG (tp 24),.stmts (aF (tp 24)),aB (tp 24),0,[],.none,.none,.none,.none,none,.none,.none,0⟩
def o230:Obj:=co [.str "refuse_rooms" 468,.str "refuse_rooms" 469,cp 470,i0 106,i0 1,i0 0,i0 0,i0 3,.ref 213,.bool true,i0 181,.ref 214,.none,.ref 215,.ref 216,.ref 217,i0 473,i0 106,cp 474]
def o231:Obj:=fu ⟨"refuse_rooms","refuse_rooms",aG (tp 24),.stmts (aF (tp 24)),aB (tp 24),3,[],.none,.none,.none,.str "roomward.machines" 451,none,.ref 218,.none,0⟩
def o232:Obj:=tu []
def o233:Obj:=nf []
def o234:Obj:=tu [.str "rooms" 479,.str "doors" 480,.str "leads" 481,.str "room" 482,.str "deed" 483,.str "far" 484]
def o235:Obj:=tu []
def o236:Obj:=nu ⟨"leads_of","leads_of",aG (tp 25),.stmts (aF (tp 25)),aB (tp 25),0,[],.none,.none,.none,.none,none,.none,.none,0⟩
def o237:Obj:=co [.str "leads_of" 476,.str "leads_of" 477,cp 478,i0 110,i0 2,i0 0,i0 0,i0 3,.ref 220,.bool true,i0 181,.ref 221,.none,.ref 222,.ref 223,.ref 224,i0 485,i0 110,cp 486]
def o238:Obj:=fu ⟨"leads_of","leads_of",aG (tp 25),.stmts (aF (tp 25)),aB (tp 25),3,[],.none,.none,.none,.str "roomward.machines" 451,none,.ref 225,.none,0⟩
def T9 (P:Params):BT:=ns (T8 P) [(3,o216 P),(12,o217),(206,o218),(207,o219),(208,o220),(209,o221),(210,o222),(211,o223),(212,o224),(213,o225),(214,o226),(215,o227),(216,o228),(217,o229),(218,o230),(219,o231),(220,o232),(221,o233),(222,o234),(223,o235),(224,o236),(225,o237),(226,o238)]
theorem pc9:Hd.Pc pp env T8 206 451 T9 227 488 118 [tp 21,tp 22,tp 23,tp 24,tp 25] ⟨66,0,96,16⟩ ⟨110,0,118,16⟩:=by
 intro w
 kernel_rfl
def g11 (P:Params):List DictEntry:=g10 P++[en P "Machine" 605 (.ref 319)]
def o239 (P:Params):Obj:=⟨.type "dict",none,.dict ⟨en P "__name__" 165 (.str "roomward.machines" 451)::g11 P⟩ 32,#[]⟩
def o240:Obj:=nf [i0 1,i0 0,.ref 20,i0 5,i0 0,.ref 27,i0 7,i0 0,.ref 40,i0 9,i0 0,.ref 52,i0 11,i0 0,.ref 64,i0 13,i0 0,.ref 76,i0 15,i0 0,.ref 88,i0 18,i0 0,.ref 100,i0 32,i0 0,.ref 107,i0 39,i0 0,.ref 112,i0 44,i0 0,.ref 119,i0 54,i0 0,.ref 126,i0 61,i0 0,.ref 133,i0 66,i0 0,.ref 140,i0 99,i0 0,.ref 211,i0 106,i0 0,.ref 218,i0 110,i0 0,.ref 225,i0 119,i0 0,.ref 232]
def o241:Obj:=tu []
def o242:Obj:=⟨.type "builtin_function_or_method",none,.fields #[.builtin "type.__prepare__",.type "type"],#[]⟩
def g12 (P:Params):List DictEntry:=[en P "__qualname__" 497 (.str "Machine" 496),en P "__firstlineno__" 499 (.int 119 498),en P "__init__" 505 (.ref 239),en P "deeds" 512 (.ref 246),en P "begin" 519 (.ref 253),en P "rooms" 526 (.ref 260),en P "ends" 533 (.ref 267),en P "knows" 540 (.ref 274),en P "require_room" 548 (.ref 281),en P "at" 556 (.ref 288),en P "to" 565 (.ref 295),en P "is_end" 573 (.ref 302),en P "goes" 582 (.ref 309),en P "behind" 592 (.ref 316),en P "__static_attributes__" 598 (.ref 317)]
def o243 (P:Params):Obj:=⟨.type "dict",none,.dict ⟨en P "__module__" 495 (.str "roomward.machines" 451)::g12 P⟩ 16,#[]⟩
def o244:Obj:=tu []
def o245:Obj:=nf [i0 121,i0 4,.ref 238,i0 136,i0 4,.ref 245,i0 139,i0 4,.ref 252,i0 142,i0 4,.ref 259,i0 145,i0 4,.ref 266,i0 148,i0 4,.ref 273,i0 151,i0 4,.ref 280,i0 155,i0 4,.ref 287,i0 159,i0 4,.ref 294,i0 164,i0 4,.ref 301,i0 168,i0 4,.ref 308,i0 173,i0 4,.ref 315]
def o246:Obj:=co [.str "Machine" 490,.str "Machine" 491,cp 492,i0 119,i0 0,i0 0,i0 0,i0 0,.ref 230,.bool false,i0 181,.ref 231,.none,.none,.none,.none,i0 493,i0 119,cp 494]
def o247:Obj:=⟨.type "frame",none,.plain,#[(some (.ref 232)),(some (.ref 3)),(some (.ref 229)),none,(some (.str "roomward.machines" 451)),none,(some (.ref 0))]⟩
def o248:Obj:=tu [.none]
def o249:Obj:=tu []
def o250:Obj:=nf []
def o251:Obj:=nu ⟨"__init__","Machine.__init__",aG (aD (tp 26) 0),.stmts (aF (aD (tp 26) 0)),aB (aD (tp 26) 0),0,[],.none,.none,.none,.none,none,.none,.none,0⟩
def o252:Obj:=co [.str "__init__" 500,.str "Machine.__init__" 501,cp 502,i0 121,i0 6,i0 0,i0 0,i0 3,.ref 235,.bool true,i0 181,.ref 236,.none,.none,.none,.ref 237,i0 503,i0 121,cp 504]
def o253:Obj:=fu ⟨"__init__","Machine.__init__",aG (aD (tp 26) 0),.stmts (aF (aD (tp 26) 0)),aB (aD (tp 26) 0),3,[],.ref 234,.none,.none,.str "roomward.machines" 451,none,.ref 238,.none,0⟩
def o254:Obj:=tu []
def o255:Obj:=nf []
def o256:Obj:=tu [.str "self" 509]
def o257:Obj:=tu []
def o258:Obj:=nu ⟨"deeds","Machine.deeds",aG (aD (tp 26) 1),.stmts (aF (aD (tp 26) 1)),aB (aD (tp 26) 1),0,[],.none,.none,.none,.none,none,.none,.none,0⟩
def o259:Obj:=co [.str "deeds" 506,.str "Machine.deeds" 507,cp 508,i0 136,i0 1,i0 0,i0 0,i0 3,.ref 240,.bool true,i0 181,.ref 241,.none,.ref 242,.ref 243,.ref 244,i0 510,i0 136,cp 511]
def o260:Obj:=fu ⟨"deeds","Machine.deeds",aG (aD (tp 26) 1),.stmts (aF (aD (tp 26) 1)),aB (aD (tp 26) 1),3,[],.none,.none,.none,.str "roomward.machines" 451,none,.ref 245,.none,0⟩
def o261:Obj:=tu []
def o262:Obj:=nf []
def o263:Obj:=tu [.str "self" 516]
def o264:Obj:=tu []
def o265:Obj:=nu ⟨"begin","Machine.begin",aG (aD (tp 26) 2),.stmts (aF (aD (tp 26) 2)),aB (aD (tp 26) 2),0,[],.none,.none,.none,.none,none,.none,.none,0⟩
def o266:Obj:=co [.str "begin" 513,.str "Machine.begin" 514,cp 515,i0 139,i0 1,i0 0,i0 0,i0 3,.ref 247,.bool true,i0 181,.ref 248,.none,.ref 249,.ref 250,.ref 251,i0 517,i0 139,cp 518]
def o267:Obj:=fu ⟨"begin","Machine.begin",aG (aD (tp 26) 2),.stmts (aF (aD (tp 26) 2)),aB (aD (tp 26) 2),3,[],.none,.none,.none,.str "roomward.machines" 451,none,.ref 252,.none,0⟩
def o268:Obj:=tu []
def o269:Obj:=nf []
def o270:Obj:=tu [.str "self" 523]
def o271:Obj:=tu []
def o272:Obj:=nu ⟨"rooms","Machine.rooms",aG (aD (tp 26) 3),.stmts (aF (aD (tp 26) 3)),aB (aD (tp 26) 3),0,[],.none,.none,.none,.none,none,.none,.none,0⟩
def o273:Obj:=co [.str "rooms" 520,.str "Machine.rooms" 521,cp 522,i0 142,i0 1,i0 0,i0 0,i0 3,.ref 254,.bool true,i0 181,.ref 255,.none,.ref 256,.ref 257,.ref 258,i0 524,i0 142,cp 525]
def o274:Obj:=fu ⟨"rooms","Machine.rooms",aG (aD (tp 26) 3),.stmts (aF (aD (tp 26) 3)),aB (aD (tp 26) 3),3,[],.none,.none,.none,.str "roomward.machines" 451,none,.ref 259,.none,0⟩
def o275:Obj:=tu []
def o276:Obj:=nf []
def o277:Obj:=tu [.str "self" 530]
def o278:Obj:=tu []
def o279:Obj:=nu ⟨"ends","Machine.ends",aG (aD (tp 26) 4),.stmts (aF (aD (tp 26) 4)),aB (aD (tp 26) 4),0,[],.none,.none,.none,.none,none,.none,.none,0⟩
def o280:Obj:=co [.str "ends" 527,.str "Machine.ends" 528,cp 529,i0 145,i0 1,i0 0,i0 0,i0 3,.ref 261,.bool true,i0 181,.ref 262,.none,.ref 263,.ref 264,.ref 265,i0 531,i0 145,cp 532]
def o281:Obj:=fu ⟨"ends","Machine.ends",aG (aD (tp 26) 4),.stmts (aF (aD (tp 26) 4)),aB (aD (tp 26) 4),3,[],.none,.none,.none,.str "roomward.machines" 451,none,.ref 266,.none,0⟩
def o282:Obj:=tu []
def o283:Obj:=nf []
def o284:Obj:=tu [.str "self" 537]
def o285:Obj:=tu []
def o286:Obj:=nu ⟨"knows","Machine.knows",aG (aD (tp 26) 5),.stmts (aF (aD (tp 26) 5)),aB (aD (tp 26) 5),0,[],.none,.none,.none,.none,none,.none,.none,0⟩
def o287:Obj:=co [.str "knows" 534,.str "Machine.knows" 535,cp 536,i0 148,i0 1,i0 0,i0 0,i0 3,.ref 268,.bool true,i0 181,.ref 269,.none,.ref 270,.ref 271,.ref 272,i0 538,i0 148,cp 539]
def o288:Obj:=fu ⟨"knows","Machine.knows",aG (aD (tp 26) 5),.stmts (aF (aD (tp 26) 5)),aB (aD (tp 26) 5),3,[],.none,.none,.none,.str "roomward.machines" 451,none,.ref 273,.none,0⟩
def o289:Obj:=tu []
def o290:Obj:=nf []
def o291:Obj:=tu [.str "self" 544,.str "room" 545]
def o292:Obj:=tu []
def o293:Obj:=nu ⟨"require_room","Machine.require_room",aG (aD (tp 26) 6),.stmts (aF (aD (tp 26) 6)),aB (aD (tp 26) 6),0,[],.none,.none,.none,.none,none,.none,.none,0⟩
def o294:Obj:=co [.str "require_room" 541,.str "Machine.require_room" 542,cp 543,i0 151,i0 2,i0 0,i0 0,i0 3,.ref 275,.bool true,i0 181,.ref 276,.none,.ref 277,.ref 278,.ref 279,i0 546,i0 151,cp 547]
def o295:Obj:=fu ⟨"require_room","Machine.require_room",aG (aD (tp 26) 6),.stmts (aF (aD (tp 26) 6)),aB (aD (tp 26) 6),3,[],.none,.none,.none,.str "roomward.machines" 451,none,.ref 280,.none,0⟩
def o296:Obj:=tu []
def o297:Obj:=nf []
def o298:Obj:=tu [.str "self" 552,.str "room" 553]
def o299:Obj:=tu []
def o300:Obj:=nu ⟨"at","Machine.at",aG (aD (tp 26) 7),.stmts (aF (aD (tp 26) 7)),aB (aD (tp 26) 7),0,[],.none,.none,.none,.none,none,.none,.none,0⟩
def o301:Obj:=co [.str "at" 549,.str "Machine.at" 550,cp 551,i0 155,i0 2,i0 0,i0 0,i0 3,.ref 282,.bool true,i0 181,.ref 283,.none,.ref 284,.ref 285,.ref 286,i0 554,i0 155,cp 555]
def o302:Obj:=fu ⟨"at","Machine.at",aG (aD (tp 26) 7),.stmts (aF (aD (tp 26) 7)),aB (aD (tp 26) 7),3,[],.none,.none,.none,.str "roomward.machines" 451,none,.ref 287,.none,0⟩
def o303:Obj:=tu []
def o304:Obj:=nf []
def o305:Obj:=tu [.str "self" 560,.str "room" 561,.str "deed" 562]
def o306:Obj:=tu []
def o307:Obj:=nu ⟨"to","Machine.to",aG (aD (tp 26) 8),.stmts (aF (aD (tp 26) 8)),aB (aD (tp 26) 8),0,[],.none,.none,.none,.none,none,.none,.none,0⟩
def o308:Obj:=co [.str "to" 557,.str "Machine.to" 558,cp 559,i0 159,i0 3,i0 0,i0 0,i0 3,.ref 289,.bool true,i0 181,.ref 290,.none,.ref 291,.ref 292,.ref 293,i0 563,i0 159,cp 564]
def o309:Obj:=fu ⟨"to","Machine.to",aG (aD (tp 26) 8),.stmts (aF (aD (tp 26) 8)),aB (aD (tp 26) 8),3,[],.none,.none,.none,.str "roomward.machines" 451,none,.ref 294,.none,0⟩
def o310:Obj:=tu []
def o311:Obj:=nf []
def o312:Obj:=tu [.str "self" 569,.str "room" 570]
def o313:Obj:=tu []
def o314:Obj:=nu ⟨"is_end","Machine.is_end",aG (aD (tp 26) 9),.stmts (aF (aD (tp 26) 9)),aB (aD (tp 26) 9),0,[],.none,.none,.none,.none,none,.none,.none,0⟩
def o315:Obj:=co [.str "is_end" 566,.str "Machine.is_end" 567,cp 568,i0 164,i0 2,i0 0,i0 0,i0 3,.ref 296,.bool true,i0 181,.ref 297,.none,.ref 298,.ref 299,.ref 300,i0 571,i0 164,cp 572]
def o316:Obj:=fu ⟨"is_end","Machine.is_end",aG (aD (tp 26) 9),.stmts (aF (aD (tp 26) 9)),aB (aD (tp 26) 9),3,[],.none,.none,.none,.str "roomward.machines" 451,none,.ref 301,.none,0⟩
def o317:Obj:=tu []
def o318:Obj:=nf []
def o319:Obj:=tu [.str "self" 577,.str "room" 578,.str "deed" 579]
def o320:Obj:=tu []
def o321:Obj:=nu ⟨"goes","Machine.goes",aG (aD (tp 26) 10),.stmts (aF (aD (tp 26) 10)),aB (aD (tp 26) 10),0,[],.none,.none,.none,.none,none,.none,.none,0⟩
def o322:Obj:=co [.str "goes" 574,.str "Machine.goes" 575,cp 576,i0 168,i0 3,i0 0,i0 0,i0 3,.ref 303,.bool true,i0 181,.ref 304,.none,.ref 305,.ref 306,.ref 307,i0 580,i0 168,cp 581]
def o323:Obj:=fu ⟨"goes","Machine.goes",aG (aD (tp 26) 10),.stmts (aF (aD (tp 26) 10)),aB (aD (tp 26) 10),3,[],.none,.none,.none,.str "roomward.machines" 451,none,.ref 308,.none,0⟩
def o324:Obj:=tu []
def o325:Obj:=nf []
def o326:Obj:=tu [.str "self" 586,.str "row" 587,.str "room" 588,.str "deed" 589]
def o327:Obj:=tu []
def o328:Obj:=nu ⟨"behind","Machine.behind",aG (aD (tp 26) 11),.stmts (aF (aD (tp 26) 11)),aB (aD (tp 26) 11),0,[],.none,.none,.none,.none,none,.none,.none,0⟩
def o329:Obj:=co [.str "behind" 583,.str "Machine.behind" 584,cp 585,i0 173,i0 2,i0 0,i0 0,i0 3,.ref 310,.bool true,i0 181,.ref 311,.none,.ref 312,.ref 313,.ref 314,i0 590,i0 173,cp 591]
def o330:Obj:=fu ⟨"behind","Machine.behind",aG (aD (tp 26) 11),.stmts (aF (aD (tp 26) 11)),aB (aD (tp 26) 11),3,[],.none,.none,.none,.str "roomward.machines" 451,none,.ref 315,.none,0⟩
def o331:Obj:=tu [.str "deeds_made_of" 593,.str "end_marks" 594,.str "first_room" 595,.str "known_marks" 596,.str "leads" 597]
def g13 (P:Params):List DictEntry:=[en P "__firstlineno__" 499 (.int 119 498),en P "__init__" 505 (.ref 239),en P "deeds" 512 (.ref 246),en P "begin" 519 (.ref 253),en P "rooms" 526 (.ref 260),en P "ends" 533 (.ref 267),en P "knows" 540 (.ref 274),en P "require_room" 548 (.ref 281),en P "at" 556 (.ref 288),en P "to" 565 (.ref 295),en P "is_end" 573 (.ref 302),en P "goes" 582 (.ref 309),en P "behind" 592 (.ref 316),en P "__static_attributes__" 598 (.ref 317),en P "__dict__" 600 (.ref 320),en P "__weakref__" 602 (.ref 321),en P "__doc__" 603 .none]
def o332 (P:Params):Obj:=⟨.type "dict",none,.dict ⟨en P "__module__" 495 (.str "roomward.machines" 451)::g13 P⟩ 4,#[]⟩
def o333:Obj:=⟨.type "type",none,.cls ⟨"Machine",[.type "object"],[.ref 319,.type "object"],318,"Machine",true,[],[],false,none,false⟩,#[none,none,(some (.str "Machine" 488)),(some (.str "Machine" 496)),(some (.builtin "object.__new__")),(some (.bool true))]⟩
def o334:Obj:=⟨.type "getset_descriptor",none,.fields #[.str "__dict__" 599,.ref 319,.builtin "function.__dict__",.builtin "function.__dict__#set"],#[]⟩
def o335:Obj:=⟨.type "getset_descriptor",none,.fields #[.str "__weakref__" 601,.ref 319,.builtin "ExceptionGroup.__weakref__",.none],#[]⟩
def o336:Obj:=⟨.type "super",none,.fields #[.ref 319,.ref 319,.ref 319],#[]⟩
def o337:Obj:=⟨.type "builtin_function_or_method",none,.fields #[.builtin "object.__init_subclass__",.ref 319],#[]⟩
def T10 (P:Params):BT:=ns (T9 P) [(3,o239 P),(12,o240),(227,o241),(228,o242),(229,o243 P),(230,o244),(231,o245),(232,o246),(233,o247),(234,o248),(235,o249),(236,o250),(237,o251),(238,o252),(239,o253),(240,o254),(241,o255),(242,o256),(243,o257),(244,o258),(245,o259),(246,o260),(247,o261),(248,o262),(249,o263),(250,o264),(251,o265),(252,o266),(253,o267),(254,o268),(255,o269),(256,o270),(257,o271),(258,o272),(259,o273),(260,o274),(261,o275),(262,o276),(263,o277),(264,o278),(265,o279),(266,o280),(267,o281),(268,o282),(269,o283),(270,o284),(271,o285),(272,o286),(273,o287),(274,o288),(275,o289),(276,o290),(277,o291),(278,o292),(279,o293),(280,o294),(281,o295),(282,o296),(283,o297),(284,o298),(285,o299),(286,o300),(287,o301),(288,o302),(289,o303),(290,o304),(291,o305),(292,o306),(293,o307),(294,o308),(295,o309),(296,o310),(297,o311),(298,o312),(299,o313),(300,o314),(301,o315),(302,o316),(303,o317),(304,o318),(305,o319),(306,o320),(307,o321),(308,o322),(309,o323),(310,o324),(311,o325),(312,o326),(313,o327),(314,o328),(315,o329),(316,o330),(317,o331),(318,o332 P),(319,o333),(320,o334),(321,o335),(322,o336),(323,o337)]
theorem pc10:Hd.Pc pp env T9 227 488 T10 324 606 575 [tp 26] ⟨110,0,118,16⟩ ⟨119,0,180,19⟩:=by
 intro w
 kernel_rfl
def g14 (P:Params):List DictEntry:=g11 P++[en P "MOST_WOVEN" 609 (.int 7 608),en P "begin_of" 615 (.ref 328),en P "far_of" 621 (.ref 333),en P "all_at_ends" 627 (.ref 338),en P "known_of" 636 (.ref 345)]
def o338 (P:Params):Obj:=⟨.type "dict",none,.dict ⟨en P "__name__" 165 (.str "roomward.weaving" 606)::g14 P⟩ 37,#[]⟩
def o339:Obj:=nf [i0 1,i0 0,.ref 20,i0 5,i0 0,.ref 27,i0 7,i0 0,.ref 40,i0 9,i0 0,.ref 52,i0 11,i0 0,.ref 64,i0 13,i0 0,.ref 76,i0 15,i0 0,.ref 88,i0 18,i0 0,.ref 100,i0 32,i0 0,.ref 107,i0 39,i0 0,.ref 112,i0 44,i0 0,.ref 119,i0 54,i0 0,.ref 126,i0 61,i0 0,.ref 133,i0 66,i0 0,.ref 140,i0 99,i0 0,.ref 211,i0 106,i0 0,.ref 218,i0 110,i0 0,.ref 225,i0 119,i0 0,.ref 232,i0 183,i0 0,.ref 327,i0 185,i0 0,.ref 332,i0 188,i0 0,.ref 337,i0 190,i0 0,.ref 344]
def o340:Obj:=tu []
def o341:Obj:=nf []
def o342:Obj:=nu ⟨"begin_of","begin_of",aG (tp 29),.stmts (aF (tp 29)),aB (tp 29),0,[],.none,.none,.none,.none,none,.none,.none,0⟩
def o343:Obj:=co [.str "begin_of" 610,.str "begin_of" 611,cp 612,i0 183,i0 1,i0 0,i0 0,i0 3,.ref 324,.bool true,i0 181,.ref 325,.none,.none,.none,.ref 326,i0 613,i0 183,cp 614]
def o344:Obj:=fu ⟨"begin_of","begin_of",aG (tp 29),.stmts (aF (tp 29)),aB (tp 29),3,[],.none,.none,.none,.str "roomward.weaving" 606,none,.ref 327,.none,0⟩
def o345:Obj:=tu []
def o346:Obj:=nf []
def o347:Obj:=nu ⟨"far_of","far_of",aG (tp 30),.stmts (aF (tp 30)),aB (tp 30),0,[],.none,.none,.none,.none,none,.none,.none,0⟩
def o348:Obj:=co [.str "far_of" 616,.str "far_of" 617,cp 618,i0 185,i0 3,i0 0,i0 0,i0 3,.ref 329,.bool true,i0 181,.ref 330,.none,.none,.none,.ref 331,i0 619,i0 185,cp 620]
def o349:Obj:=fu ⟨"far_of","far_of",aG (tp 30),.stmts (aF (tp 30)),aB (tp 30),3,[],.none,.none,.none,.str "roomward.weaving" 606,none,.ref 332,.none,0⟩
def o350:Obj:=tu []
def o351:Obj:=nf []
def o352:Obj:=nu ⟨"all_at_ends","all_at_ends",aG (tp 31),.stmts (aF (tp 31)),aB (tp 31),0,[],.none,.none,.none,.none,none,.none,.none,0⟩
def o353:Obj:=co [.str "all_at_ends" 622,.str "all_at_ends" 623,cp 624,i0 188,i0 2,i0 0,i0 0,i0 3,.ref 334,.bool true,i0 181,.ref 335,.none,.none,.none,.ref 336,i0 625,i0 188,cp 626]
def o354:Obj:=fu ⟨"all_at_ends","all_at_ends",aG (tp 31),.stmts (aF (tp 31)),aB (tp 31),3,[],.none,.none,.none,.str "roomward.weaving" 606,none,.ref 337,.none,0⟩
def o355:Obj:=tu []
def o356:Obj:=nf []
def o357:Obj:=tu [.str "machines" 631,.str "known" 632,.str "machine" 633]
def o358:Obj:=tu []
def o359:Obj:=nu ⟨"known_of","known_of",aG (tp 32),.stmts (aF (tp 32)),aB (tp 32),0,[],.none,.none,.none,.none,none,.none,.none,0⟩
def o360:Obj:=co [.str "known_of" 628,.str "known_of" 629,cp 630,i0 190,i0 1,i0 0,i0 0,i0 3,.ref 339,.bool true,i0 181,.ref 340,.none,.ref 341,.ref 342,.ref 343,i0 634,i0 190,cp 635]
def o361:Obj:=fu ⟨"known_of","known_of",aG (tp 32),.stmts (aF (tp 32)),aB (tp 32),3,[],.none,.none,.none,.str "roomward.weaving" 606,none,.ref 344,.none,0⟩
def T11 (P:Params):BT:=ns (T10 P) [(3,o338 P),(12,o339),(324,o340),(325,o341),(326,o342),(327,o343),(328,o344),(329,o345),(330,o346),(331,o347),(332,o348),(333,o349),(334,o350),(335,o351),(336,o352),(337,o353),(338,o354),(339,o355),(340,o356),(341,o357),(342,o358),(343,o359),(344,o360),(345,o361)]
theorem pc11:Hd.Pc pp env T10 324 606 T11 346 637 128 [tp 27,tp 28,tp 29,tp 30,tp 31,tp 32] ⟨119,0,180,19⟩ ⟨190,0,194,26⟩:=by
 intro w
 kernel_rfl
def g15 (P:Params):List DictEntry:=g14 P++[en P "Woven" 724 (.ref 414)]
def o362 (P:Params):Obj:=⟨.type "dict",none,.dict ⟨en P "__name__" 165 (.str "roomward.weaving" 606)::g15 P⟩ 38,#[]⟩
def o363:Obj:=nf [i0 1,i0 0,.ref 20,i0 5,i0 0,.ref 27,i0 7,i0 0,.ref 40,i0 9,i0 0,.ref 52,i0 11,i0 0,.ref 64,i0 13,i0 0,.ref 76,i0 15,i0 0,.ref 88,i0 18,i0 0,.ref 100,i0 32,i0 0,.ref 107,i0 39,i0 0,.ref 112,i0 44,i0 0,.ref 119,i0 54,i0 0,.ref 126,i0 61,i0 0,.ref 133,i0 66,i0 0,.ref 140,i0 99,i0 0,.ref 211,i0 106,i0 0,.ref 218,i0 110,i0 0,.ref 225,i0 119,i0 0,.ref 232,i0 183,i0 0,.ref 327,i0 185,i0 0,.ref 332,i0 188,i0 0,.ref 337,i0 190,i0 0,.ref 344,i0 195,i0 0,.ref 351]
def o364:Obj:=tu []
def o365:Obj:=⟨.type "builtin_function_or_method",none,.fields #[.builtin "type.__prepare__",.type "type"],#[]⟩
def g16 (P:Params):List DictEntry:=[en P "__qualname__" 646 (.str "Woven" 645),en P "__firstlineno__" 648 (.int 195 647),en P "__init__" 656 (.ref 359),en P "deeds" 663 (.ref 366),en P "begin" 670 (.ref 373),en P "knows" 677 (.ref 380),en P "at" 683 (.ref 385),en P "to" 692 (.ref 392),en P "is_end" 700 (.ref 399),en P "ways" 706 (.ref 404),en P "rooms" 714 (.ref 411),en P "__static_attributes__" 717 (.ref 412)]
def o366 (P:Params):Obj:=⟨.type "dict",none,.dict ⟨en P "__module__" 644 (.str "roomward.weaving" 606)::g16 P⟩ 13,#[]⟩
def o367:Obj:=tu []
def o368:Obj:=nf [i0 197,i0 4,.ref 358,i0 203,i0 4,.ref 365,i0 206,i0 4,.ref 372,i0 209,i0 4,.ref 379,i0 212,i0 4,.ref 384,i0 215,i0 4,.ref 391,i0 221,i0 4,.ref 398,i0 224,i0 4,.ref 403,i0 227,i0 4,.ref 410]
def o369:Obj:=co [.str "Woven" 639,.str "Woven" 640,cp 641,i0 195,i0 0,i0 0,i0 0,i0 0,.ref 349,.bool false,i0 181,.ref 350,.none,.none,.none,.none,i0 642,i0 195,cp 643]
def o370:Obj:=⟨.type "frame",none,.plain,#[(some (.ref 351)),(some (.ref 3)),(some (.ref 348)),none,(some (.str "roomward.weaving" 606)),none,(some (.ref 0))]⟩
def o371:Obj:=tu []
def o372:Obj:=nf []
def o373:Obj:=tu [.str "self" 652,.str "machines" 653]
def o374:Obj:=tu []
def o375:Obj:=nu ⟨"__init__","Woven.__init__",aG (aD (tp 33) 0),.stmts (aF (aD (tp 33) 0)),aB (aD (tp 33) 0),0,[],.none,.none,.none,.none,none,.none,.none,0⟩
def o376:Obj:=co [.str "__init__" 649,.str "Woven.__init__" 650,cp 651,i0 197,i0 2,i0 0,i0 0,i0 3,.ref 353,.bool true,i0 181,.ref 354,.none,.ref 355,.ref 356,.ref 357,i0 654,i0 197,cp 655]
def o377:Obj:=fu ⟨"__init__","Woven.__init__",aG (aD (tp 33) 0),.stmts (aF (aD (tp 33) 0)),aB (aD (tp 33) 0),3,[],.none,.none,.none,.str "roomward.weaving" 606,none,.ref 358,.none,0⟩
def o378:Obj:=tu []
def o379:Obj:=nf []
def o380:Obj:=tu [.str "self" 660]
def o381:Obj:=tu []
def o382:Obj:=nu ⟨"deeds","Woven.deeds",aG (aD (tp 33) 1),.stmts (aF (aD (tp 33) 1)),aB (aD (tp 33) 1),0,[],.none,.none,.none,.none,none,.none,.none,0⟩
def o383:Obj:=co [.str "deeds" 657,.str "Woven.deeds" 658,cp 659,i0 203,i0 1,i0 0,i0 0,i0 3,.ref 360,.bool true,i0 181,.ref 361,.none,.ref 362,.ref 363,.ref 364,i0 661,i0 203,cp 662]
def o384:Obj:=fu ⟨"deeds","Woven.deeds",aG (aD (tp 33) 1),.stmts (aF (aD (tp 33) 1)),aB (aD (tp 33) 1),3,[],.none,.none,.none,.str "roomward.weaving" 606,none,.ref 365,.none,0⟩
def o385:Obj:=tu []
def o386:Obj:=nf []
def o387:Obj:=tu [.str "self" 667]
def o388:Obj:=tu []
def o389:Obj:=nu ⟨"begin","Woven.begin",aG (aD (tp 33) 2),.stmts (aF (aD (tp 33) 2)),aB (aD (tp 33) 2),0,[],.none,.none,.none,.none,none,.none,.none,0⟩
def o390:Obj:=co [.str "begin" 664,.str "Woven.begin" 665,cp 666,i0 206,i0 1,i0 0,i0 0,i0 3,.ref 367,.bool true,i0 181,.ref 368,.none,.ref 369,.ref 370,.ref 371,i0 668,i0 206,cp 669]
def o391:Obj:=fu ⟨"begin","Woven.begin",aG (aD (tp 33) 2),.stmts (aF (aD (tp 33) 2)),aB (aD (tp 33) 2),3,[],.none,.none,.none,.str "roomward.weaving" 606,none,.ref 372,.none,0⟩
def o392:Obj:=tu []
def o393:Obj:=nf []
def o394:Obj:=tu [.str "self" 674]
def o395:Obj:=tu []
def o396:Obj:=nu ⟨"knows","Woven.knows",aG (aD (tp 33) 3),.stmts (aF (aD (tp 33) 3)),aB (aD (tp 33) 3),0,[],.none,.none,.none,.none,none,.none,.none,0⟩
def o397:Obj:=co [.str "knows" 671,.str "Woven.knows" 672,cp 673,i0 209,i0 1,i0 0,i0 0,i0 3,.ref 374,.bool true,i0 181,.ref 375,.none,.ref 376,.ref 377,.ref 378,i0 675,i0 209,cp 676]
def o398:Obj:=fu ⟨"knows","Woven.knows",aG (aD (tp 33) 3),.stmts (aF (aD (tp 33) 3)),aB (aD (tp 33) 3),3,[],.none,.none,.none,.str "roomward.weaving" 606,none,.ref 379,.none,0⟩
def o399:Obj:=tu []
def o400:Obj:=nf []
def o401:Obj:=nu ⟨"at","Woven.at",aG (aD (tp 33) 4),.stmts (aF (aD (tp 33) 4)),aB (aD (tp 33) 4),0,[],.none,.none,.none,.none,none,.none,.none,0⟩
def o402:Obj:=co [.str "at" 678,.str "Woven.at" 679,cp 680,i0 212,i0 2,i0 0,i0 0,i0 3,.ref 381,.bool true,i0 181,.ref 382,.none,.none,.none,.ref 383,i0 681,i0 212,cp 682]
def o403:Obj:=fu ⟨"at","Woven.at",aG (aD (tp 33) 4),.stmts (aF (aD (tp 33) 4)),aB (aD (tp 33) 4),3,[],.none,.none,.none,.str "roomward.weaving" 606,none,.ref 384,.none,0⟩
def o404:Obj:=tu []
def o405:Obj:=nf []
def o406:Obj:=tu [.str "self" 687,.str "room" 688,.str "deed" 689]
def o407:Obj:=tu []
def o408:Obj:=nu ⟨"to","Woven.to",aG (aD (tp 33) 5),.stmts (aF (aD (tp 33) 5)),aB (aD (tp 33) 5),0,[],.none,.none,.none,.none,none,.none,.none,0⟩
def o409:Obj:=co [.str "to" 684,.str "Woven.to" 685,cp 686,i0 215,i0 3,i0 0,i0 0,i0 3,.ref 386,.bool true,i0 181,.ref 387,.none,.ref 388,.ref 389,.ref 390,i0 690,i0 215,cp 691]
def o410:Obj:=fu ⟨"to","Woven.to",aG (aD (tp 33) 5),.stmts (aF (aD (tp 33) 5)),aB (aD (tp 33) 5),3,[],.none,.none,.none,.str "roomward.weaving" 606,none,.ref 391,.none,0⟩
def o411:Obj:=tu []
def o412:Obj:=nf []
def o413:Obj:=tu [.str "self" 696,.str "room" 697]
def o414:Obj:=tu []
def o415:Obj:=nu ⟨"is_end","Woven.is_end",aG (aD (tp 33) 6),.stmts (aF (aD (tp 33) 6)),aB (aD (tp 33) 6),0,[],.none,.none,.none,.none,none,.none,.none,0⟩
def o416:Obj:=co [.str "is_end" 693,.str "Woven.is_end" 694,cp 695,i0 221,i0 2,i0 0,i0 0,i0 3,.ref 393,.bool true,i0 181,.ref 394,.none,.ref 395,.ref 396,.ref 397,i0 698,i0 221,cp 699]
def o417:Obj:=fu ⟨"is_end","Woven.is_end",aG (aD (tp 33) 6),.stmts (aF (aD (tp 33) 6)),aB (aD (tp 33) 6),3,[],.none,.none,.none,.str "roomward.weaving" 606,none,.ref 398,.none,0⟩
def o418:Obj:=tu []
def o419:Obj:=nf []
def o420:Obj:=nu ⟨"ways","Woven.ways",aG (aD (tp 33) 7),.stmts (aF (aD (tp 33) 7)),aB (aD (tp 33) 7),0,[],.none,.none,.none,.none,none,.none,.none,0⟩
def o421:Obj:=co [.str "ways" 701,.str "Woven.ways" 702,cp 703,i0 224,i0 2,i0 0,i0 0,i0 3,.ref 400,.bool true,i0 181,.ref 401,.none,.none,.none,.ref 402,i0 704,i0 224,cp 705]
def o422:Obj:=fu ⟨"ways","Woven.ways",aG (aD (tp 33) 7),.stmts (aF (aD (tp 33) 7)),aB (aD (tp 33) 7),3,[],.none,.none,.none,.str "roomward.weaving" 606,none,.ref 403,.none,0⟩
def o423:Obj:=tu []
def o424:Obj:=nf []
def o425:Obj:=tu [.str "self" 710]
def o426:Obj:=tu [.str "self" 711]
def o427:Obj:=nu ⟨"rooms","Woven.rooms",aG (aD (tp 33) 8),.stmts (aF (aD (tp 33) 8)),aB (aD (tp 33) 8),0,[],.none,.none,.none,.none,none,.none,.none,0⟩
def o428:Obj:=co [.str "rooms" 707,.str "Woven.rooms" 708,cp 709,i0 227,i0 1,i0 0,i0 0,i0 3,.ref 405,.bool true,i0 181,.ref 406,.none,.ref 407,.ref 408,.ref 409,i0 712,i0 227,cp 713]
def o429:Obj:=fu ⟨"rooms","Woven.rooms",aG (aD (tp 33) 8),.stmts (aF (aD (tp 33) 8)),aB (aD (tp 33) 8),3,[],.none,.none,.none,.str "roomward.weaving" 606,none,.ref 410,.none,0⟩
def o430:Obj:=tu [.str "known_marks" 715,.str "machines" 716]
def g17 (P:Params):List DictEntry:=[en P "__firstlineno__" 648 (.int 195 647),en P "__init__" 656 (.ref 359),en P "deeds" 663 (.ref 366),en P "begin" 670 (.ref 373),en P "knows" 677 (.ref 380),en P "at" 683 (.ref 385),en P "to" 692 (.ref 392),en P "is_end" 700 (.ref 399),en P "ways" 706 (.ref 404),en P "rooms" 714 (.ref 411),en P "__static_attributes__" 717 (.ref 412),en P "__dict__" 719 (.ref 415),en P "__weakref__" 721 (.ref 416),en P "__doc__" 722 .none]
def o431 (P:Params):Obj:=⟨.type "dict",none,.dict ⟨en P "__module__" 644 (.str "roomward.weaving" 606)::g17 P⟩ 4,#[]⟩
def o432:Obj:=⟨.type "type",none,.cls ⟨"Woven",[.type "object"],[.ref 414,.type "object"],413,"Woven",true,[],[],false,none,false⟩,#[none,none,(some (.str "Woven" 637)),(some (.str "Woven" 645)),(some (.builtin "object.__new__")),(some (.bool true))]⟩
def o433:Obj:=⟨.type "getset_descriptor",none,.fields #[.str "__dict__" 718,.ref 414,.builtin "function.__dict__",.builtin "function.__dict__#set"],#[]⟩
def o434:Obj:=⟨.type "getset_descriptor",none,.fields #[.str "__weakref__" 720,.ref 414,.builtin "ExceptionGroup.__weakref__",.none],#[]⟩
def o435:Obj:=⟨.type "super",none,.fields #[.ref 414,.ref 414,.ref 414],#[]⟩
def o436:Obj:=⟨.type "builtin_function_or_method",none,.fields #[.builtin "object.__init_subclass__",.ref 414],#[]⟩
def T12 (P:Params):BT:=ns (T11 P) [(3,o362 P),(12,o363),(346,o364),(347,o365),(348,o366 P),(349,o367),(350,o368),(351,o369),(352,o370),(353,o371),(354,o372),(355,o373),(356,o374),(357,o375),(358,o376),(359,o377),(360,o378),(361,o379),(362,o380),(363,o381),(364,o382),(365,o383),(366,o384),(367,o385),(368,o386),(369,o387),(370,o388),(371,o389),(372,o390),(373,o391),(374,o392),(375,o393),(376,o394),(377,o395),(378,o396),(379,o397),(380,o398),(381,o399),(382,o400),(383,o401),(384,o402),(385,o403),(386,o404),(387,o405),(388,o406),(389,o407),(390,o408),(391,o409),(392,o410),(393,o411),(394,o412),(395,o413),(396,o414),(397,o415),(398,o416),(399,o417),(400,o418),(401,o419),(402,o420),(403,o421),(404,o422),(405,o423),(406,o424),(407,o425),(408,o426),(409,o427),(410,o428),(411,o429),(412,o430),(413,o431 P),(414,o432),(415,o433),(416,o434),(417,o435),(418,o436)]
theorem pc12:Hd.Pc pp env T11 346 637 T12 419 725 470 [tp 33] ⟨190,0,194,26⟩ ⟨195,0,228,78⟩:=by
 intro w
 kernel_rfl
def g18 (P:Params):List DictEntry:=g15 P++[en P "made_one" 730 (.ref 423),en P "_law_mixed" 741 (.ref 430),en P "_law_cell_at" 749 (.ref 437),en P "_law_names_by" 755 (.ref 442),en P "_law_deeds_by" 761 (.ref 447),en P "_law_rooms_by" 767 (.ref 452),en P "_law_machine_by" 773 (.ref 457),en P "_law_plant_by" 779 (.ref 462),en P "_law_more" 790 (.ref 469),en P "_law_machines" 796 (.ref 474),en P "_law_row_by" 808 (.ref 481),en P "_law_one" 815 (.ref 488),en P "law" 821 (.ref 493)]
def o437 (P:Params):Obj:=⟨.type "dict",none,.dict ⟨en P "__name__" 165 (.str "law_roomward_k24_whole_woven_rows" 731)::g18 P⟩ 51,#[]⟩
def o438:Obj:=nf [i0 1,i0 0,.ref 20,i0 5,i0 0,.ref 27,i0 7,i0 0,.ref 40,i0 9,i0 0,.ref 52,i0 11,i0 0,.ref 64,i0 13,i0 0,.ref 76,i0 15,i0 0,.ref 88,i0 18,i0 0,.ref 100,i0 32,i0 0,.ref 107,i0 39,i0 0,.ref 112,i0 44,i0 0,.ref 119,i0 54,i0 0,.ref 126,i0 61,i0 0,.ref 133,i0 66,i0 0,.ref 140,i0 99,i0 0,.ref 211,i0 106,i0 0,.ref 218,i0 110,i0 0,.ref 225,i0 119,i0 0,.ref 232,i0 183,i0 0,.ref 327,i0 185,i0 0,.ref 332,i0 188,i0 0,.ref 337,i0 190,i0 0,.ref 344,i0 195,i0 0,.ref 351,i0 229,i0 0,.ref 422,i0 240,i0 0,.ref 429,i0 243,i0 0,.ref 436,i0 247,i0 0,.ref 441,i0 251,i0 0,.ref 446,i0 257,i0 0,.ref 451,i0 261,i0 0,.ref 456,i0 275,i0 0,.ref 461,i0 278,i0 0,.ref 468,i0 284,i0 0,.ref 473,i0 286,i0 0,.ref 480,i0 298,i0 0,.ref 487,i0 303,i0 0,.ref 492]
def o439:Obj:=tu []
def o440:Obj:=nf []
def o441:Obj:=nu ⟨"made_one","made_one",aG (tp 34),.stmts (aF (tp 34)),aB (tp 34),0,[],.none,.none,.none,.none,none,.none,.none,0⟩
def o442:Obj:=co [.str "made_one" 725,.str "made_one" 726,cp 727,i0 229,i0 1,i0 0,i0 0,i0 3,.ref 419,.bool true,i0 181,.ref 420,.none,.none,.none,.ref 421,i0 728,i0 229,cp 729]
def o443:Obj:=fu ⟨"made_one","made_one",aG (tp 34),.stmts (aF (tp 34)),aB (tp 34),3,[],.none,.none,.none,.str "roomward.weaving" 606,none,.ref 422,.none,0⟩
def o444:Obj:=tu []
def o445:Obj:=nf []
def o446:Obj:=tu [.str "_law_cell" 736,.str "_law_k" 737,.str "_law_one_here" 738]
def o447:Obj:=tu []
def o448:Obj:=nu ⟨"_law_mixed","_law_mixed",aG (tp 36),.stmts (aF (tp 36)),aB (tp 36),0,[],.none,.none,.none,.none,none,.none,.none,0⟩
def o449:Obj:=co [.str "_law_mixed" 733,.str "_law_mixed" 734,cp 735,i0 240,i0 2,i0 0,i0 0,i0 3,.ref 424,.bool true,i0 181,.ref 425,.none,.ref 426,.ref 427,.ref 428,i0 739,i0 240,cp 740]
def o450:Obj:=fu ⟨"_law_mixed","_law_mixed",aG (tp 36),.stmts (aF (tp 36)),aB (tp 36),3,[],.none,.none,.none,.str "law_roomward_k24_whole_woven_rows" 731,none,.ref 429,.none,0⟩
def o451:Obj:=tu []
def o452:Obj:=nf []
def o453:Obj:=tu [.str "_law_script" 745,.str "_law_k" 746]
def o454:Obj:=tu []
def o455:Obj:=nu ⟨"_law_cell_at","_law_cell_at",aG (tp 37),.stmts (aF (tp 37)),aB (tp 37),0,[],.none,.none,.none,.none,none,.none,.none,0⟩
def o456:Obj:=co [.str "_law_cell_at" 742,.str "_law_cell_at" 743,cp 744,i0 243,i0 2,i0 0,i0 0,i0 3,.ref 431,.bool true,i0 181,.ref 432,.none,.ref 433,.ref 434,.ref 435,i0 747,i0 243,cp 748]
def o457:Obj:=fu ⟨"_law_cell_at","_law_cell_at",aG (tp 37),.stmts (aF (tp 37)),aB (tp 37),3,[],.none,.none,.none,.str "law_roomward_k24_whole_woven_rows" 731,none,.ref 436,.none,0⟩
def o458:Obj:=tu []
def o459:Obj:=nf []
def o460:Obj:=nu ⟨"_law_names_by","_law_names_by",aG (tp 38),.stmts (aF (tp 38)),aB (tp 38),0,[],.none,.none,.none,.none,none,.none,.none,0⟩
def o461:Obj:=co [.str "_law_names_by" 750,.str "_law_names_by" 751,cp 752,i0 247,i0 2,i0 0,i0 0,i0 3,.ref 438,.bool true,i0 181,.ref 439,.none,.none,.none,.ref 440,i0 753,i0 247,cp 754]
def o462:Obj:=fu ⟨"_law_names_by","_law_names_by",aG (tp 38),.stmts (aF (tp 38)),aB (tp 38),3,[],.none,.none,.none,.str "law_roomward_k24_whole_woven_rows" 731,none,.ref 441,.none,0⟩
def o463:Obj:=tu []
def o464:Obj:=nf []
def o465:Obj:=nu ⟨"_law_deeds_by","_law_deeds_by",aG (tp 39),.stmts (aF (tp 39)),aB (tp 39),0,[],.none,.none,.none,.none,none,.none,.none,0⟩
def o466:Obj:=co [.str "_law_deeds_by" 756,.str "_law_deeds_by" 757,cp 758,i0 251,i0 1,i0 0,i0 0,i0 3,.ref 443,.bool true,i0 181,.ref 444,.none,.none,.none,.ref 445,i0 759,i0 251,cp 760]
def o467:Obj:=fu ⟨"_law_deeds_by","_law_deeds_by",aG (tp 39),.stmts (aF (tp 39)),aB (tp 39),3,[],.none,.none,.none,.str "law_roomward_k24_whole_woven_rows" 731,none,.ref 446,.none,0⟩
def o468:Obj:=tu []
def o469:Obj:=nf []
def o470:Obj:=nu ⟨"_law_rooms_by","_law_rooms_by",aG (tp 40),.stmts (aF (tp 40)),aB (tp 40),0,[],.none,.none,.none,.none,none,.none,.none,0⟩
def o471:Obj:=co [.str "_law_rooms_by" 762,.str "_law_rooms_by" 763,cp 764,i0 257,i0 2,i0 0,i0 0,i0 3,.ref 448,.bool true,i0 181,.ref 449,.none,.none,.none,.ref 450,i0 765,i0 257,cp 766]
def o472:Obj:=fu ⟨"_law_rooms_by","_law_rooms_by",aG (tp 40),.stmts (aF (tp 40)),aB (tp 40),3,[],.none,.none,.none,.str "law_roomward_k24_whole_woven_rows" 731,none,.ref 451,.none,0⟩
def o473:Obj:=tu []
def o474:Obj:=nf []
def o475:Obj:=nu ⟨"_law_machine_by","_law_machine_by",aG (tp 41),.stmts (aF (tp 41)),aB (tp 41),0,[],.none,.none,.none,.none,none,.none,.none,0⟩
def o476:Obj:=co [.str "_law_machine_by" 768,.str "_law_machine_by" 769,cp 770,i0 261,i0 3,i0 0,i0 0,i0 3,.ref 453,.bool true,i0 181,.ref 454,.none,.none,.none,.ref 455,i0 771,i0 261,cp 772]
def o477:Obj:=fu ⟨"_law_machine_by","_law_machine_by",aG (tp 41),.stmts (aF (tp 41)),aB (tp 41),3,[],.none,.none,.none,.str "law_roomward_k24_whole_woven_rows" 731,none,.ref 456,.none,0⟩
def o478:Obj:=tu []
def o479:Obj:=nf []
def o480:Obj:=nu ⟨"_law_plant_by","_law_plant_by",aG (tp 42),.stmts (aF (tp 42)),aB (tp 42),0,[],.none,.none,.none,.none,none,.none,.none,0⟩
def o481:Obj:=co [.str "_law_plant_by" 774,.str "_law_plant_by" 775,cp 776,i0 275,i0 2,i0 0,i0 0,i0 3,.ref 458,.bool true,i0 181,.ref 459,.none,.none,.none,.ref 460,i0 777,i0 275,cp 778]
def o482:Obj:=fu ⟨"_law_plant_by","_law_plant_by",aG (tp 42),.stmts (aF (tp 42)),aB (tp 42),3,[],.none,.none,.none,.str "law_roomward_k24_whole_woven_rows" 731,none,.ref 461,.none,0⟩
def o483:Obj:=tu []
def o484:Obj:=nf []
def o485:Obj:=tu [.str "_law_plant" 783,.str "_law_cell" 784,.str "_law_names" 785,.str "_law_found" 786,.str "_law_k" 787]
def o486:Obj:=tu []
def o487:Obj:=nu ⟨"_law_more","_law_more",aG (tp 43),.stmts (aF (tp 43)),aB (tp 43),0,[],.none,.none,.none,.none,none,.none,.none,0⟩
def o488:Obj:=co [.str "_law_more" 780,.str "_law_more" 781,cp 782,i0 278,i0 3,i0 0,i0 0,i0 3,.ref 463,.bool true,i0 181,.ref 464,.none,.ref 465,.ref 466,.ref 467,i0 788,i0 278,cp 789]
def o489:Obj:=fu ⟨"_law_more","_law_more",aG (tp 43),.stmts (aF (tp 43)),aB (tp 43),3,[],.none,.none,.none,.str "law_roomward_k24_whole_woven_rows" 731,none,.ref 468,.none,0⟩
def o490:Obj:=tu []
def o491:Obj:=nf []
def o492:Obj:=nu ⟨"_law_machines","_law_machines",aG (tp 44),.stmts (aF (tp 44)),aB (tp 44),0,[],.none,.none,.none,.none,none,.none,.none,0⟩
def o493:Obj:=co [.str "_law_machines" 791,.str "_law_machines" 792,cp 793,i0 284,i0 2,i0 0,i0 0,i0 3,.ref 470,.bool true,i0 181,.ref 471,.none,.none,.none,.ref 472,i0 794,i0 284,cp 795]
def o494:Obj:=fu ⟨"_law_machines","_law_machines",aG (tp 44),.stmts (aF (tp 44)),aB (tp 44),3,[],.none,.none,.none,.str "law_roomward_k24_whole_woven_rows" 731,none,.ref 473,.none,0⟩
def o495:Obj:=tu []
def o496:Obj:=nf []
def o497:Obj:=tu [.str "_law_woven" 800,.str "_law_cells" 801,.str "_law_row" 802,.str "_law_room" 803,.str "_law_cell" 804,.str "_law_some" 805]
def o498:Obj:=tu []
def o499:Obj:=nu ⟨"_law_row_by","_law_row_by",aG (tp 45),.stmts (aF (tp 45)),aB (tp 45),0,[],.none,.none,.none,.none,none,.none,.none,0⟩
def o500:Obj:=co [.str "_law_row_by" 797,.str "_law_row_by" 798,cp 799,i0 286,i0 2,i0 0,i0 0,i0 3,.ref 475,.bool true,i0 181,.ref 476,.none,.ref 477,.ref 478,.ref 479,i0 806,i0 286,cp 807]
def o501:Obj:=fu ⟨"_law_row_by","_law_row_by",aG (tp 45),.stmts (aF (tp 45)),aB (tp 45),3,[],.none,.none,.none,.str "law_roomward_k24_whole_woven_rows" 731,none,.ref 480,.none,0⟩
def o502:Obj:=tu []
def o503:Obj:=nf []
def o504:Obj:=tu [.str "_law_woven" 812]
def o505:Obj:=tu []
def o506:Obj:=nu ⟨"_law_one","_law_one",aG (tp 46),.stmts (aF (tp 46)),aB (tp 46),0,[],.none,.none,.none,.none,none,.none,.none,0⟩
def o507:Obj:=co [.str "_law_one" 809,.str "_law_one" 810,cp 811,i0 298,i0 1,i0 0,i0 0,i0 3,.ref 482,.bool true,i0 181,.ref 483,.none,.ref 484,.ref 485,.ref 486,i0 813,i0 298,cp 814]
def o508:Obj:=fu ⟨"_law_one","_law_one",aG (tp 46),.stmts (aF (tp 46)),aB (tp 46),3,[],.none,.none,.none,.str "law_roomward_k24_whole_woven_rows" 731,none,.ref 487,.none,0⟩
def o509:Obj:=tu []
def o510:Obj:=nf []
def o511:Obj:=nu ⟨"law","law",aG (tp 47),.stmts (aF (tp 47)),aB (tp 47),0,[],.none,.none,.none,.none,none,.none,.none,0⟩
def o512:Obj:=co [.str "law" 816,.str "law" 817,cp 818,i0 303,i0 1,i0 0,i0 0,i0 3,.ref 489,.bool true,i0 181,.ref 490,.none,.none,.none,.ref 491,i0 819,i0 303,cp 820]
def o513:Obj:=fu ⟨"law","law",aG (tp 47),.stmts (aF (tp 47)),aB (tp 47),3,[],.none,.none,.none,.str "law_roomward_k24_whole_woven_rows" 731,none,.ref 492,.none,0⟩
def T13 (P:Params):BT:=ns (T12 P) [(3,o437 P),(12,o438),(419,o439),(420,o440),(421,o441),(422,o442),(423,o443),(424,o444),(425,o445),(426,o446),(427,o447),(428,o448),(429,o449),(430,o450),(431,o451),(432,o452),(433,o453),(434,o454),(435,o455),(436,o456),(437,o457),(438,o458),(439,o459),(440,o460),(441,o461),(442,o462),(443,o463),(444,o464),(445,o465),(446,o466),(447,o467),(448,o468),(449,o469),(450,o470),(451,o471),(452,o472),(453,o473),(454,o474),(455,o475),(456,o476),(457,o477),(458,o478),(459,o479),(460,o480),(461,o481),(462,o482),(463,o483),(464,o484),(465,o485),(466,o486),(467,o487),(468,o488),(469,o489),(470,o490),(471,o491),(472,o492),(473,o493),(474,o494),(475,o495),(476,o496),(477,o497),(478,o498),(479,o499),(480,o500),(481,o501),(482,o502),(483,o503),(484,o504),(485,o505),(486,o506),(487,o507),(488,o508),(489,o509),(490,o510),(491,o511),(492,o512),(493,o513)]
theorem pc13:Hd.Pc pp env T12 419 725 T13 494 822 375 [tp 34,tp 35,tp 36,tp 37,tp 38,tp 39,tp 40,tp 41,tp 42,tp 43,tp 44,tp 45,tp 46,tp 47] ⟨195,0,228,78⟩ ⟨303,0,327,15⟩:=by
 intro w
 kernel_rfl
def Hf (P:Params):Heap:=⟨Array.mk [boot_o_0 P,boot_o_1 P,boot_o_2 P,o437 P,boot_o_4 P,boot_o_5 P,boot_o_6 P,boot_o_7 P,boot_o_8 P,boot_o_9 P,boot_o_10 P,o0,o438,o2,o3,o6,o7,o8,o9,o10,o11,o12,o13,o14,o15 P,o16,o17,o18,o19,o20,o21 P,o88,o23,o24,o25,o29,o30,o31 P,o32,o33,o34,o35,o36,o37 P,o38,o39,o40,o44,o45,o46 P,o47,o48,o49,o50,o51,o52 P,o53,o54,o55,o59,o60,o61 P,o62,o63,o64,o65,o66,o67 P,o68,o69,o70,o74,o75,o76 P,o77,o78,o79,o80,o81,o82 P,o83,o84,o85,o89,o90,o91 P,o92,o93,o94,o95,o96,o97 P,o98,o99,o100,o101,o102,o103,o104,o105,o106,o107,o108,o109,o110,o111,o112,o113,o114,o115,o116,o117,o118,o119,o120,o121,o122,o123,o124,o125,o126,o129,o130,o131,o132,o133,o134,o135,o136,o137,o138,o139,o140,o141,o142,o145,o146,o147 P,o148,o149,o150,o151,o152,o153,o154,o155,o156,o157,o158,o159,o160,o161,o162,o163,o164,o165,o166,o167,o168,o169,o170,o171,o172,o173,o174,o175,o176,o177,o178,o179,o180,o181,o182,o183,o184,o185,o186,o187,o188,o189,o190,o191,o192,o193,o194,o195,o196,o197,o198,o199,o200,o201,o202,o203,o204,o205,o206,o207,o208,o209,o210 P,o211,o212,o213,o214,o215,o218,o219,o220,o221,o222,o223,o224,o225,o226,o227,o228,o229,o230,o231,o232,o233,o234,o235,o236,o237,o238,o241,o242,o243 P,o244,o245,o246,o247,o248,o249,o250,o251,o252,o253,o254,o255,o256,o257,o258,o259,o260,o261,o262,o263,o264,o265,o266,o267,o268,o269,o270,o271,o272,o273,o274,o275,o276,o277,o278,o279,o280,o281,o282,o283,o284,o285,o286,o287,o288,o289,o290,o291,o292,o293,o294,o295,o296,o297,o298,o299,o300,o301,o302,o303,o304,o305,o306,o307,o308,o309,o310,o311,o312,o313,o314,o315,o316,o317,o318,o319,o320,o321,o322,o323,o324,o325,o326,o327,o328,o329,o330,o331,o332 P,o333,o334,o335,o336,o337,o340,o341,o342,o343,o344,o345,o346,o347,o348,o349,o350,o351,o352,o353,o354,o355,o356,o357,o358,o359,o360,o361,o364,o365,o366 P,o367,o368,o369,o370,o371,o372,o373,o374,o375,o376,o377,o378,o379,o380,o381,o382,o383,o384,o385,o386,o387,o388,o389,o390,o391,o392,o393,o394,o395,o396,o397,o398,o399,o400,o401,o402,o403,o404,o405,o406,o407,o408,o409,o410,o411,o412,o413,o414,o415,o416,o417,o418,o419,o420,o421,o422,o423,o424,o425,o426,o427,o428,o429,o430,o431 P,o432,o433,o434,o435,o436,o439,o440,o441,o442,o443,o444,o445,o446,o447,o448,o449,o450,o451,o452,o453,o454,o455,o456,o457,o458,o459,o460,o461,o462,o463,o464,o465,o466,o467,o468,o469,o470,o471,o472,o473,o474,o475,o476,o477,o478,o479,o480,o481,o482,o483,o484,o485,o486,o487,o488,o489,o490,o491,o492,o493,o494,o495,o496,o497,o498,o499,o500,o501,o502,o503,o504,o505,o506,o507,o508,o509,o510,o511,o512,o513],Hd.lf⟩
theorem fin:Hd.Fi pp env T13 494 822 Hf 822 2 ⟨303,0,327,15⟩:=by
 intro w
 kernel_rfl
def vw:Program:={ pp with main:={ pp.main with body:=[tp 0,tp 2,tp 3,tp 4,tp 5,tp 6,tp 7,tp 9,tp 10,tp 12,tp 13,tp 14,tp 15,tp 16,tp 17,tp 18,tp 19,tp 20,tp 22,tp 23,tp 24,tp 25,tp 26,tp 28,tp 29,tp 30,tp 31,tp 32,tp 33,tp 34,tp 36,tp 37,tp 38,tp 39,tp 40,tp 41,tp 42,tp 43,tp 44,tp 45,tp 46,tp 47] } }
def kk (P:Params):Frag:=
 (nat_lit 2,boot_o_2 P)::(nat_lit 3,o437 P)::(nat_lit 15,o6)::(nat_lit 17,o8)::(nat_lit 18,o9)::(nat_lit 20,o11)::(nat_lit 21,o12)::(nat_lit 22,o13)::(nat_lit 29,o20)::(nat_lit 30,o21 P)::(nat_lit 31,o88)::(nat_lit 32,o23)::(nat_lit 35,o29)::(nat_lit 42,o36)::(nat_lit 43,o37 P)::(nat_lit 44,o38)::(nat_lit 47,o44)::(nat_lit 54,o51)::(nat_lit 55,o52 P)::(nat_lit 56,o53)::(nat_lit 59,o59)::(nat_lit 66,o66)::(nat_lit 67,o67 P)::(nat_lit 68,o68)::(nat_lit 71,o74)::(nat_lit 78,o81)::(nat_lit 79,o82 P)::(nat_lit 80,o83)::(nat_lit 83,o89)::(nat_lit 90,o96)::(nat_lit 91,o97 P)::(nat_lit 92,o98)::(nat_lit 95,o101)::(nat_lit 97,o103)::(nat_lit 98,o104)::(nat_lit 100,o106)::(nat_lit 101,o107)::(nat_lit 102,o108)::(nat_lit 104,o110)::(nat_lit 105,o111)::(nat_lit 107,o113)::(nat_lit 108,o114)::(nat_lit 109,o115)::(nat_lit 112,o118)::(nat_lit 113,o119)::(nat_lit 114,o120)::(nat_lit 116,o122)::(nat_lit 117,o123)::(nat_lit 119,o125)::(nat_lit 120,o126)::(nat_lit 121,o129)::(nat_lit 123,o131)::(nat_lit 124,o132)::(nat_lit 126,o134)::(nat_lit 127,o135)::(nat_lit 128,o136)::(nat_lit 130,o138)::(nat_lit 131,o139)::(nat_lit 133,o141)::(nat_lit 134,o142)::(nat_lit 142,o152)::(nat_lit 143,o153)::(nat_lit 145,o155)::(nat_lit 146,o156)::(nat_lit 148,o158)::(nat_lit 149,o159)::(nat_lit 150,o160)::(nat_lit 152,o162)::(nat_lit 153,o163)::(nat_lit 155,o165)::(nat_lit 156,o166)::(nat_lit 157,o167)::(nat_lit 159,o169)::(nat_lit 160,o170)::(nat_lit 162,o172)::(nat_lit 163,o173)::(nat_lit 164,o174)::(nat_lit 166,o176)::(nat_lit 167,o177)::(nat_lit 169,o179)::(nat_lit 170,o180)::(nat_lit 171,o181)::(nat_lit 173,o183)::(nat_lit 174,o184)::(nat_lit 176,o186)::(nat_lit 177,o187)::(nat_lit 178,o188)::(nat_lit 180,o190)::(nat_lit 181,o191)::(nat_lit 183,o193)::(nat_lit 184,o194)::(nat_lit 185,o195)::(nat_lit 187,o197)::(nat_lit 188,o198)::(nat_lit 190,o200)::(nat_lit 191,o201)::(nat_lit 192,o202)::(nat_lit 194,o204)::(nat_lit 195,o205)::(nat_lit 197,o207)::(nat_lit 198,o208)::(nat_lit 199,o209)::(nat_lit 200,o210 P)::(nat_lit 201,o211)::(nat_lit 202,o212)::(nat_lit 203,o213)::(nat_lit 206,o218)::(nat_lit 208,o220)::(nat_lit 209,o221)::(nat_lit 211,o223)::(nat_lit 212,o224)::(nat_lit 213,o225)::(nat_lit 215,o227)::(nat_lit 216,o228)::(nat_lit 218,o230)::(nat_lit 219,o231)::(nat_lit 220,o232)::(nat_lit 222,o234)::(nat_lit 223,o235)::(nat_lit 225,o237)::(nat_lit 226,o238)::(nat_lit 234,o248)::(nat_lit 235,o249)::(nat_lit 238,o252)::(nat_lit 239,o253)::(nat_lit 240,o254)::(nat_lit 242,o256)::(nat_lit 243,o257)::(nat_lit 245,o259)::(nat_lit 246,o260)::(nat_lit 247,o261)::(nat_lit 249,o263)::(nat_lit 250,o264)::(nat_lit 252,o266)::(nat_lit 253,o267)::(nat_lit 254,o268)::(nat_lit 256,o270)::(nat_lit 257,o271)::(nat_lit 259,o273)::(nat_lit 260,o274)::(nat_lit 261,o275)::(nat_lit 263,o277)::(nat_lit 264,o278)::(nat_lit 266,o280)::(nat_lit 267,o281)::(nat_lit 268,o282)::(nat_lit 270,o284)::(nat_lit 271,o285)::(nat_lit 273,o287)::(nat_lit 274,o288)::(nat_lit 275,o289)::(nat_lit 277,o291)::(nat_lit 278,o292)::(nat_lit 280,o294)::(nat_lit 281,o295)::(nat_lit 282,o296)::(nat_lit 284,o298)::(nat_lit 285,o299)::(nat_lit 287,o301)::(nat_lit 288,o302)::(nat_lit 289,o303)::(nat_lit 291,o305)::(nat_lit 292,o306)::(nat_lit 294,o308)::(nat_lit 295,o309)::(nat_lit 296,o310)::(nat_lit 298,o312)::(nat_lit 299,o313)::(nat_lit 301,o315)::(nat_lit 302,o316)::(nat_lit 303,o317)::(nat_lit 305,o319)::(nat_lit 306,o320)::(nat_lit 308,o322)::(nat_lit 309,o323)::(nat_lit 310,o324)::(nat_lit 312,o326)::(nat_lit 313,o327)::(nat_lit 315,o329)::(nat_lit 316,o330)::(nat_lit 317,o331)::(nat_lit 318,o332 P)::(nat_lit 319,o333)::(nat_lit 320,o334)::(nat_lit 321,o335)::(nat_lit 324,o340)::(nat_lit 327,o343)::(nat_lit 328,o344)::(nat_lit 329,o345)::(nat_lit 332,o348)::(nat_lit 333,o349)::(nat_lit 334,o350)::(nat_lit 337,o353)::(nat_lit 338,o354)::(nat_lit 339,o355)::(nat_lit 341,o357)::(nat_lit 342,o358)::(nat_lit 344,o360)::(nat_lit 345,o361)::(nat_lit 353,o371)::(nat_lit 355,o373)::(nat_lit 356,o374)::(nat_lit 358,o376)::(nat_lit 359,o377)::(nat_lit 360,o378)::(nat_lit 362,o380)::(nat_lit 363,o381)::(nat_lit 365,o383)::(nat_lit 366,o384)::(nat_lit 367,o385)::(nat_lit 369,o387)::(nat_lit 370,o388)::(nat_lit 372,o390)::(nat_lit 373,o391)::(nat_lit 374,o392)::(nat_lit 376,o394)::(nat_lit 377,o395)::(nat_lit 379,o397)::(nat_lit 380,o398)::(nat_lit 381,o399)::(nat_lit 384,o402)::(nat_lit 385,o403)::(nat_lit 386,o404)::(nat_lit 388,o406)::(nat_lit 389,o407)::(nat_lit 391,o409)::(nat_lit 392,o410)::(nat_lit 393,o411)::(nat_lit 395,o413)::(nat_lit 396,o414)::(nat_lit 398,o416)::(nat_lit 399,o417)::(nat_lit 400,o418)::(nat_lit 403,o421)::(nat_lit 404,o422)::(nat_lit 405,o423)::(nat_lit 407,o425)::(nat_lit 408,o426)::(nat_lit 410,o428)::(nat_lit 411,o429)::(nat_lit 412,o430)::(nat_lit 413,o431 P)::(nat_lit 414,o432)::(nat_lit 415,o433)::(nat_lit 416,o434)::(nat_lit 419,o439)::(nat_lit 422,o442)::(nat_lit 423,o443)::(nat_lit 424,o444)::(nat_lit 426,o446)::(nat_lit 427,o447)::(nat_lit 429,o449)::(nat_lit 430,o450)::(nat_lit 431,o451)::(nat_lit 433,o453)::(nat_lit 434,o454)::(nat_lit 436,o456)::(nat_lit 437,o457)::(nat_lit 438,o458)::(nat_lit 441,o461)::(nat_lit 442,o462)::(nat_lit 443,o463)::(nat_lit 446,o466)::(nat_lit 447,o467)::(nat_lit 448,o468)::(nat_lit 451,o471)::(nat_lit 452,o472)::(nat_lit 453,o473)::(nat_lit 456,o476)::(nat_lit 457,o477)::(nat_lit 458,o478)::(nat_lit 461,o481)::(nat_lit 462,o482)::(nat_lit 463,o483)::(nat_lit 465,o485)::(nat_lit 466,o486)::(nat_lit 468,o488)::(nat_lit 469,o489)::(nat_lit 470,o490)::(nat_lit 473,o493)::(nat_lit 474,o494)::(nat_lit 475,o495)::(nat_lit 477,o497)::(nat_lit 478,o498)::(nat_lit 480,o500)::(nat_lit 481,o501)::(nat_lit 482,o502)::(nat_lit 484,o504)::(nat_lit 485,o505)::(nat_lit 487,o507)::(nat_lit 488,o508)::(nat_lit 489,o509)::(nat_lit 492,o512)::(nat_lit 493,o513)::[]
def kl:List Addr:=[2,3,15,17,18,20,21,22,29,30,31,32,35,42,43,44,47,54,55,56,59,66,67,68,71,78,79,80,83,90,91,92,95,97,98,100,101,102,104,105,107,108,109,112,113,114,116,117,119,120,121,123,124,126,127,128,130,131,133,134,142,143,145,146,148,149,150,152,153,155,156,157,159,160,162,163,164,166,167,169,170,171,173,174,176,177,178,180,181,183,184,185,187,188,190,191,192,194,195,197,198,199,200,201,202,203,206,208,209,211,212,213,215,216,218,219,220,222,223,225,226,234,235,238,239,240,242,243,245,246,247,249,250,252,253,254,256,257,259,260,261,263,264,266,267,268,270,271,273,274,275,277,278,280,281,282,284,285,287,288,289,291,292,294,295,296,298,299,301,302,303,305,306,308,309,310,312,313,315,316,317,318,319,320,321,324,327,328,329,332,333,334,337,338,339,341,342,344,345,353,355,356,358,359,360,362,363,365,366,367,369,370,372,373,374,376,377,379,380,381,384,385,386,388,389,391,392,393,395,396,398,399,400,403,404,405,407,408,410,411,412,413,414,415,416,419,422,423,424,426,427,429,430,431,433,434,436,437,438,441,442,443,446,447,448,451,452,453,456,457,458,461,462,463,465,466,468,469,470,473,474,475,477,478,480,481,482,484,485,487,488,489,492,493]
theorem kl_eq:∀ P,kl=(kk P).map (·.1):=by
 intro P
 kernel_rfl
abbrev hk:Hook:=kmHook kk kl kl_eq [406]
def xt (s:Shared):Bool:=xlAt vw [] s&&recOk (RowW.records (OpenRow.toRowW (OpenLaw.row PySem.Challenge.rw_roomward_k24_whole_woven_rows))) s
theorem looks:∀ w:World,(fun os=>((staticsOk (importedModules pp.main.body) (boot_heap w.params) (Hf w.params)&&namesBound pp (Hf w.params)&&gensDone (Hd.Sh Hf 822 w os)&&laidKept (boot_heap w.params) (Hf w.params)),
  Hd.fSeen vw [] (importedModules pp.main.body) xt true (Hd.Sh Hf 822 w os),hk.obs (Hd.Sh Hf 822 w os)))=fun _=>(true,openGood vw [],hk.val w):=by
 intro w
 kernel_rfl
theorem aIa:[tp 0,tp 1,tp 2]++([tp 3]++([tp 4]++([tp 5]++([tp 6]++([tp 7,tp 8,tp 9,tp 10,tp 11,tp 12,tp 13,tp 14,tp 15,tp 16,tp 17]++([tp 18,tp 19]++([tp 20]++([tp 21,tp 22,tp 23,tp 24,tp 25]++([tp 26]++([tp 27,tp 28,tp 29,tp 30,tp 31,tp 32]++([tp 33]++([tp 34,tp 35,tp 36,tp 37,tp 38,tp 39,tp 40,tp 41,tp 42,tp 43,tp 44,tp 45,tp 46,tp 47]++[]))))))))))))=behindTheImports pp:=by
 kernel_rfl
theorem left:LeftO pp vw [] xt hk.obs hk.val 7408 true:=
 Hd.left_of (by kernel_rfl) (fun s=>by kernel_rfl) (by decide) (by decide) (Hd.top_run pre blk aIa (pc1.run (pc2.run (pc3.run (pc4.run (pc5.run (pc6.run (pc7.run (pc8.run (pc9.run (pc10.run (pc11.run (pc12.run (pc13.run fin.run)))))))))))))) looks
end
end K24H
open PySem PySem.W PyProof.Rows
set_option maxRecDepth 100000 in
set_option maxHeartbeats 0 in
theorem PySem.Challenge.cw_roomward_k24_whole_woven_rows_holds : PySem.Challenge.rw_roomward_k24_whole_woven_rows.Holds := by
 w_on; o_law
 refine holds_open (q:=K24H.vw) (loose:=[]) (Xt:=K24H.xt) (XP:=XL K24H.vw [])
  (Yf:=Hook.obs (kmHook K24H.kk K24H.kl K24H.kl_eq [406])) (Ya:=Hook.val (kmHook K24H.kk K24H.kl K24H.kl_eq [406])) (YP:=Hook.says (kmHook K24H.kk K24H.kl K24H.kl_eq [406]))
  (N:=7408) K24H.left (Hook.of (kmHook K24H.kk K24H.kl K24H.kl_eq [406])) (Hook.keeps (kmHook K24H.kk K24H.kl K24H.kl_eq [406])) ?x XL.keeps (by rfl) (by rfl) (by rfl) ?f ?wr ?k1 ?ok ?b ?hw ?hc
 case x=>exact fun s e=>xl_of s (Bool.and_eq_true_iff.mp e).1
 case f=>exact fun s e=>recFacts_of (Bool.and_eq_true_iff.mp e).2
 case wr=>rfl
 case k1=>first
  | assumption
  | decide +kernel
 case ok=>decide +kernel
 case b=>exact⟨rfl,rfl,rfl,rfl,rfl,by decide +kernel⟩
 case hw=>w_witness2
 k_fill
 refine' K24.walk (cR:=410) (l:=PySem.Challenge.rw_roomward_k24_whole_woven_rows) 406 rfl rfl (fun w h Y=>⟨PySem.W.km_in_of Y,fun p hp=>PySem.W.km_tabs_of Y p hp⟩) ?F ?hK
 case F=>
  intro w mg fa h KX G hmg
  refine' K24.all_mk KX G hmg ?a1 ?l1 ?c1 ?k1 ?a2 ?l2 ?c2 ?k2 ?a3 ?l3 ?c3 ?k3 ?a4 ?l4 ?c4 ?k4 ?a5 ?l5 ?c5 ?k5 ?a6 ?l6 ?c6 ?k6 ?a7 ?l7 ?c7 ?k7 ?a8 ?l8 ?c8 ?k8 ?a9 ?l9 ?c9 ?k9 ?a10 ?l10 ?c10 ?k10 ?a11 ?l11 ?c11 ?k11 ?a12 ?l12 ?c12 ?k12 ?a13 ?l13 ?c13 ?k13 ?a14 ?l14 ?c14 ?k14 ?a15 ?l15 ?c15 ?k15 ?a16 ?l16 ?c16 ?k16 ?a17 ?l17 ?c17 ?k17 ?a18 ?l18 ?c18 ?k18 ?a19 ?l19 ?c19 ?k19 ?a20 ?l20 ?c20 ?k20 ?a21 ?l21 ?c21 ?k21 ?a22 ?l22 ?c22 ?k22 ?a23 ?l23 ?c23 ?k23 ?a24 ?l24 ?c24 ?k24 ?a25 ?l25 ?c25 ?k25 ?a26 ?l26 ?c26 ?k26 ?aC ?qm0 ?lm0 ?cm0 ?km0 ?nm0 ?qm1 ?lm1 ?cm1 ?km1 ?nm1 ?aM ?qM0 ?lM0 ?cM0 ?kM0 ?nM0 ?qM1 ?lM1 ?cM1 ?kM1 ?nM1 ?qM2 ?lM2 ?cM2 ?kM2 ?nM2 ?qM3 ?lM3 ?cM3 ?kM3 ?nM3 ?qM4 ?lM4 ?cM4 ?kM4 ?nM4 ?qM5 ?lM5 ?cM5 ?kM5 ?nM5 ?qM6 ?lM6 ?cM6 ?kM6 ?nM6 ?aV ?qV0 ?lV0 ?cV0 ?kV0 ?nV0 ?qV1 ?lV1 ?cV1 ?kV1 ?nV1 ?qV2 ?lV2 ?cV2 ?kV2 ?nV2 ?qV3 ?lV3 ?cV3 ?kV3 ?nV3 ?qV4 ?lV4 ?cV4 ?kV4 ?nV4 ?qV5 ?lV5 ?cV5 ?kV5 ?nV5 ?qV6 ?lV6 ?cV6 ?kV6 ?nV6 ?qV7 ?lV7 ?cV7 ?kV7 ?nV7 ?qV8 ?lV8 ?cV8 ?kV8 ?nV8 ?mkV ?kpV ?pgV ?hdV ?poV ?saV ?nV0_ ?nV1_ ?qMI ?lMI ?cMI ?kMI ?nMI ?lE ?mkM ?kpM ?pgM ?hdM ?poM ?saM ?nM0_ ?nM1_ ?nM2_ ?nM3_ ?nM4_ ?qI ?lI ?cI ?kI ?nI ?lT ?mkC ?kpC ?pgC ?hdC ?poC ?saC ?nwC ?nfC ?e0 ?e1 ?e2 ?e3 ?e4 ?xa0 ?xa1 ?xa2 ?xa3 ?xa4 ?kw ?hh2 ?cst0 ?cst1 ?cst2 ?cst3 ?cst4 ?cst5 ?z0 ?z1 ?z2 ?z3 ?z4 ?z5 ?z6 ?z7 ?z8 ?z9 ?z10 ?z11
  (case a1=>k_is)
  (case l1=>k_is)
  (case c1=>k_is)
  (case k1=>k_is)
  (case a2=>k_is)
  (case l2=>k_is)
  (case c2=>k_is)
  (case k2=>k_is)
  (case a3=>k_is)
  (case l3=>k_is)
  (case c3=>k_is)
  (case k3=>k_is)
  (case a4=>k_is)
  (case l4=>k_is)
  (case c4=>k_is)
  (case k4=>k_is)
  (case a5=>k_is)
  (case l5=>k_is)
  (case c5=>k_is)
  (case k5=>k_is)
  (case a6=>k_is)
  (case l6=>k_is)
  (case c6=>k_is)
  (case k6=>k_is)
  (case a7=>k_is)
  (case l7=>k_is)
  (case c7=>k_is)
  (case k7=>k_is)
  (case a8=>k_is)
  (case l8=>k_is)
  (case c8=>k_is)
  (case k8=>k_is)
  (case a9=>k_is)
  (case l9=>k_is)
  (case c9=>k_is)
  (case k9=>k_is)
  (case a10=>k_is)
  (case l10=>k_is)
  (case c10=>k_is)
  (case k10=>k_is)
  (case a11=>k_is)
  (case l11=>k_is)
  (case c11=>k_is)
  (case k11=>k_is)
  (case a12=>k_is)
  (case l12=>k_is)
  (case c12=>k_is)
  (case k12=>k_is)
  (case a13=>k_is)
  (case l13=>k_is)
  (case c13=>k_is)
  (case k13=>k_is)
  (case a14=>k_is)
  (case l14=>k_is)
  (case c14=>k_is)
  (case k14=>k_is)
  (case a15=>k_is)
  (case l15=>k_is)
  (case c15=>k_is)
  (case k15=>k_is)
  (case a16=>k_is)
  (case l16=>k_is)
  (case c16=>k_is)
  (case k16=>k_is)
  (case a17=>k_is)
  (case l17=>k_is)
  (case c17=>k_is)
  (case k17=>k_is)
  (case a18=>k_is)
  (case l18=>k_is)
  (case c18=>k_is)
  (case k18=>k_is)
  (case a19=>k_is)
  (case l19=>k_is)
  (case c19=>k_is)
  (case k19=>k_is)
  (case a20=>k_is)
  (case l20=>k_is)
  (case c20=>k_is)
  (case k20=>k_is)
  (case a21=>k_is)
  (case l21=>k_is)
  (case c21=>k_is)
  (case k21=>k_is)
  (case a22=>k_is)
  (case l22=>k_is)
  (case c22=>k_is)
  (case k22=>k_is)
  (case a23=>k_is)
  (case l23=>k_is)
  (case c23=>k_is)
  (case k23=>k_is)
  (case a24=>k_is)
  (case l24=>k_is)
  (case c24=>k_is)
  (case k24=>k_is)
  (case a25=>k_is)
  (case l25=>k_is)
  (case c25=>k_is)
  (case k25=>k_is)
  (case a26=>k_is)
  (case l26=>k_is)
  (case c26=>k_is)
  (case k26=>k_is)
  (case aC=>k_is)
  (case qm0=>k_is)
  (case lm0=>k_is)
  (case cm0=>k_is)
  (case km0=>k_is)
  (case nm0=>k_is)
  (case qm1=>k_is)
  (case lm1=>k_is)
  (case cm1=>k_is)
  (case km1=>k_is)
  (case nm1=>k_is)
  (case aM=>k_is)
  (case qM0=>k_is)
  (case lM0=>k_is)
  (case cM0=>k_is)
  (case kM0=>k_is)
  (case nM0=>k_is)
  (case qM1=>k_is)
  (case lM1=>k_is)
  (case cM1=>k_is)
  (case kM1=>k_is)
  (case nM1=>k_is)
  (case qM2=>k_is)
  (case lM2=>k_is)
  (case cM2=>k_is)
  (case kM2=>k_is)
  (case nM2=>k_is)
  (case qM3=>k_is)
  (case lM3=>k_is)
  (case cM3=>k_is)
  (case kM3=>k_is)
  (case nM3=>k_is)
  (case qM4=>k_is)
  (case lM4=>k_is)
  (case cM4=>k_is)
  (case kM4=>k_is)
  (case nM4=>k_is)
  (case qM5=>k_is)
  (case lM5=>k_is)
  (case cM5=>k_is)
  (case kM5=>k_is)
  (case nM5=>k_is)
  (case qM6=>k_is)
  (case lM6=>k_is)
  (case cM6=>k_is)
  (case kM6=>k_is)
  (case nM6=>k_is)
  (case aV=>k_is)
  (case qV0=>k_is)
  (case lV0=>k_is)
  (case cV0=>k_is)
  (case kV0=>k_is)
  (case nV0=>k_is)
  (case qV1=>k_is)
  (case lV1=>k_is)
  (case cV1=>k_is)
  (case kV1=>k_is)
  (case nV1=>k_is)
  (case qV2=>k_is)
  (case lV2=>k_is)
  (case cV2=>k_is)
  (case kV2=>k_is)
  (case nV2=>k_is)
  (case qV3=>k_is)
  (case lV3=>k_is)
  (case cV3=>k_is)
  (case kV3=>k_is)
  (case nV3=>k_is)
  (case qV4=>k_is)
  (case lV4=>k_is)
  (case cV4=>k_is)
  (case kV4=>k_is)
  (case nV4=>k_is)
  (case qV5=>k_is)
  (case lV5=>k_is)
  (case cV5=>k_is)
  (case kV5=>k_is)
  (case nV5=>k_is)
  (case qV6=>k_is)
  (case lV6=>k_is)
  (case cV6=>k_is)
  (case kV6=>k_is)
  (case nV6=>k_is)
  (case qV7=>k_is)
  (case lV7=>k_is)
  (case cV7=>k_is)
  (case kV7=>k_is)
  (case nV7=>k_is)
  (case qV8=>k_is)
  (case lV8=>k_is)
  (case cV8=>k_is)
  (case kV8=>k_is)
  (case nV8=>k_is)
  (case mkV=>k_is)
  (case kpV=>k_is)
  (case pgV=>k_is)
  (case hdV=>k_is)
  (case poV=>k_is)
  (case saV=>k_is)
  (case nV0_=>k_is)
  (case nV1_=>k_is)
  (case qMI=>k_is)
  (case lMI=>k_is)
  (case cMI=>k_is)
  (case kMI=>k_is)
  (case nMI=>k_is)
  (case lE=>k_is)
  (case mkM=>k_is)
  (case kpM=>k_is)
  (case pgM=>k_is)
  (case hdM=>k_is)
  (case poM=>k_is)
  (case saM=>k_is)
  (case nM0_=>k_is)
  (case nM1_=>k_is)
  (case nM2_=>k_is)
  (case nM3_=>k_is)
  (case nM4_=>k_is)
  (case qI=>k_is)
  (case lI=>k_is)
  (case cI=>k_is)
  (case kI=>k_is)
  (case nI=>k_is)
  (case lT=>k_is)
  (case mkC=>k_is)
  (case kpC=>k_is)
  (case pgC=>k_is)
  (case hdC=>k_is)
  (case poC=>k_is)
  (case saC=>k_is)
  (case nwC=>k_is)
  (case nfC=>k_is)
  (case e0=>k_is)
  (case e1=>k_is)
  (case e2=>k_is)
  (case e3=>k_is)
  (case e4=>k_is)
  (case xa0=>kernel_rfl)
  (case xa1=>kernel_rfl)
  (case xa2=>kernel_rfl)
  (case xa3=>kernel_rfl)
  (case xa4=>kernel_rfl)
  (case kw=>kernel_rfl)
  (case hh2=>kernel_rfl)
  (case cst0=>k_is)
  (case cst1=>k_is)
  (case cst2=>k_is)
  (case cst3=>k_is)
  (case cst4=>k_is)
  (case cst5=>k_is)
  (case z0=>k_is)
  (case z1=>k_is)
  (case z2=>k_is)
  (case z3=>k_is)
  (case z4=>k_is)
  (case z5=>k_is)
  (case z6=>k_is)
  (case z7=>k_is)
  (case z8=>k_is)
  (case z9=>k_is)
  (case z10=>k_is)
  (case z11=>k_is)
 case hK=>
  intro w p hp;rw[List.mem_singleton.mp hp];exact⟨by kernel_rfl,by kernel_rfl⟩

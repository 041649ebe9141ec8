import PyProof.Rows.All
import Wide.All
import OpenK.AllK
import Wide.FinOn
import Lean
import PyProof.EqAt
import PyProof.EqKinds
import PyProof.TupleCall
import PyProof.NeKinds
import PyProof.Rows.SetFrom
import PyProof.SetRoads
import PyProof.FactsAll.dict_keyiterator
import PyProof.DictIter
import PyProof.DictWalks
import KE.KDictSum
import PyProof.InstEq
import KE.KFmtOwn
import PyProof.ZipIter
import PyProof.Rows.ZipGen
import KE.KRevSl
import PyProof.SumWalk
import PySem.Challenge.RW_roomward_k21_woven_told
set_option Elab.async false
set_option linter.all false
set_option maxRecDepth 100000
set_option maxHeartbeats 4000000
noncomputable section
namespace L2
open PySem PySem.Spec PyProof.Rows

abbrev Key:=Sum Int Str
def pT:Key->Value->Bool
 | .inl k,v=>Value.isInt k v
 | .inr x,v=>Value.isStrOf x v
def aPu (w:World):Key->Int
 | .inl k=>hashInt k
 | .inr x=>hashStr w x
theorem dG:∀ {k:Key}{v:Value},pT k v=true->(∃ i t,k=Sum.inl i∧v=Value.int i t)∨(∃ x t,k=Sum.inr x∧v=Value.str x t)
 | .inl i,v,h=>by
  obtain⟨t,e⟩:=Value.isInt_shape (k:=i) (v:=v) h;exact .inl ⟨i,t,rfl,e⟩
 | .inr x,v,h=>by
  obtain⟨t,e⟩:=Value.isStrOf_shape (x:=x) (v:=v) h;exact .inr ⟨x,t,rfl,e⟩
theorem aCy (i:Int) (t:Tok):pT (.inl i) (.int i t)=true:=by simp[pT,Value.isInt]
theorem aCx (x:Str) (t:Tok):pT (.inr x) (.str x t)=true:=by simp[pT,Value.isStrOf]
theorem aLl (a b:Int):decide ((Sum.inl a:Key)=Sum.inl b)=(a==b):=by
 by_cases e:a=b
 ·subst e; simp
 ·have h:¬ (Sum.inl a:Key)=Sum.inl b:=fun q=>e (Sum.inl.inj q);rw[decide_eq_false h];exact (beq_eq_false_iff_ne.mpr e).symm
theorem aLi (a b:Str):decide ((Sum.inr a:Key)=Sum.inr b)=decide (a=b):=by
 by_cases e:a=b
 ·subst e; simp
 ·have h:¬ (Sum.inr a:Key)=Sum.inr b:=fun q=>e (Sum.inr.inj q);rw[decide_eq_false h,decide_eq_false e]
theorem aLk (a:Int) (b:Str):decide ((Sum.inl a:Key)=Sum.inr b)=false:=decide_eq_false (fun q=>nomatch q)
theorem aLj (a:Str) (b:Int):decide ((Sum.inr a:Key)=Sum.inl b)=false:=decide_eq_false (fun q=>nomatch q)

def dE (prog:Program) (w:World):PySem.KeyKind prog w Key where
 is:=pT
 hash:=aPu w
 inj:=fun v a b ha hb=>by
  rcases dG ha with⟨i,t,rfl,rfl⟩ | ⟨x,t,rfl,rfl⟩
  ·rcases dG hb with⟨j,u,rfl,e⟩ | ⟨y,u,rfl,e⟩
   ·injection e with e1 _; rw[e1]
   ·exact nomatch e
  ·rcases dG hb with⟨j,u,rfl,e⟩ | ⟨y,u,rfl,e⟩
   ·exact nomatch e
   ·injection e with e1 _; rw[e1]
 byValue:=fun k v h=>by
  rcases dG h with⟨i,t,rfl,rfl⟩ | ⟨x,t,rfl,rfl⟩ <;> rfl
 pyHash:=fun hv h=>by
  rcases dG hv with⟨i,t,rfl,rfl⟩ | ⟨x,t,rfl,rfl⟩
  ·exact wpAny_pyHash_int h
  ·exact wpAny_pyHash_str h
 eqBool:=fun hu hv h=>by
  rcases dG hu with⟨i,t,rfl,rfl⟩ | ⟨x,t,rfl,rfl⟩
  ·rcases dG hv with⟨j,u,rfl,rfl⟩ | ⟨y,u,rfl,rfl⟩
   ·rw[aLl] at h; exact wpAny_eqBool_int h
   ·rw[aLk] at h; exact SeqAt.EqAt.int_str i t y u _ _ _ _ h
  ·rcases dG hv with⟨j,u,rfl,rfl⟩ | ⟨y,u,rfl,rfl⟩
   ·rw[aLj] at h; exact SeqAt.EqAt.str_int x t j u _ _ _ _ h
   ·rw[aLi] at h; exact wpAny_eqBool_str h
 «strs»:=fun k x t v h=>by
  rcases dG h with⟨i,u,rfl,e⟩ | ⟨y,u,rfl,e⟩
  ·exact nomatch e
  ·injection e with e1 _;subst e1;cases v <;> rfl

theorem xE (prog:Program) (w:World) (i:Int) (t:Tok):(dE prog w).is (.inl i) (.int i t)=true:=aCy i t
theorem xD (prog:Program) (w:World) (x:Str) (t:Tok):(dE prog w).is (.inr x) (.str x t)=true:=aCx x t
end L2

namespace L2
open PySem PySem.Spec PyProof.Rows

inductive V where
 | non | bl (b:Bool) | int (i:Int) | str (x:Str) | byt (b:Array UInt8) | flt (b:UInt64) | ref (a:Addr) | ty (n:String)
 deriving DecidableEq

def cH:V->Value->Prop
 | .non,u=>u=Value.none
 | .bl b,u=>u=Value.bool b
 | .int i,u=>∃ t,u=Value.int i t
 | .str x,u=>∃ t,u=Value.str x t
 | .byt b,u=>∃ t,u=Value.bytes b t
 | .flt b,u=>∃ t,u=Value.float b t
 | .ref a,u=>u=Value.ref a
 | .ty n,u=>u=Value.type n

abbrev cB:List V->List Value->Prop:=Paired cH
theorem cB.length {xs:List V}{us:List Value}(r:cB xs us):xs.length=us.length:=Paired.length r
theorem cB.get:∀ {xs:List V}{us:List Value}{i:Nat}{x:V},cB xs us->xs[i]?=some x->∃ u,us[i]?=some u∧cH x u
 | _,_,_,_,.nil,e=>by simp at e
 | _,_,0,_,.cons r _,e=>by simp at e; subst e; exact⟨_,rfl,r⟩
 | _,_,i+1,x,.cons _ t,e=>by
  obtain⟨u,h1,h2⟩:=cB.get (i:=i) (x:=x) t (by simpa using e);exact⟨u,by simpa using h1,h2⟩
theorem cB.append:∀ {xs ys:List V}{us ws:List Value},cB xs us->cB ys ws->cB (xs++ys) (us++ws)
 | _,_,_,_,.nil,s=>s
 | _,_,_,_,.cons r t,s=>.cons r (cB.append t s)

def jR:Option V->Option Value->Prop
 | some v,some u=>cH v u
 | none,none=>True
 | _,_=>False
def KV {κ:Type}:List (κ×V)->List (κ×Value)->Prop:=Paired fun (p:κ×V) (q:κ×Value)=>p.1=q.1∧cH p.2 q.2

def kV:Key->V
 | .inl i=>.int i
 | .inr x=>.str x

inductive HO where
  | lst (xs:List V)
  | tup (xs:List V)
  | dK (kvs:List (Key×V)) | dT (kvs:List (List Key×V))
  | set (S:Int->Bool) (n:Nat)
  | ins (C dx:Addr) (fs:List (Str×V))
  | own (x:Addr)
  | xd (fs:List (Str×V))
  | met (f x:Addr)
  | rng (lo hi:Int)
  | frz (o:Obj) (u:HO)
  | tbl (ps:Array Value)
  | ext (φ:Heap->Prop)

abbrev Hp:=Addr->Option HO
def upd (H:Hp) (a:Addr) (o:HO):Hp:=fun b=>if b=a then some o else H b
theorem aD {H:Hp}{a:Addr}{o:HO}:upd H a o a=some o:=by unfold upd; rw[if_pos rfl]
theorem aI {H:Hp}{a b:Addr}{o:HO}(h:b≠a):upd H a o b=H b:=by unfold upd; rw[if_neg h]
theorem aMz {H:Hp}{a b:Addr}{o u:HO}(h:H a=some o) (h':H b=some u) (d:o≠u):a≠b:=by
 intro e; subst e; rw[h] at h'; exact d (Option.some.inj h')
theorem aG {H:Hp}{a b:Addr}{o:HO}(h:H a=some o) (h':H b=none):a≠b:=by
 intro e; subst e; rw[h] at h'; cases h'

section
variable (P:Program) (w:World)
def dD (H:Hp) (h:Heap) (a:Addr):HO->Prop
 | .lst xs=>xs.length<=sizeLine∧∃ (its:List Value) (n:Nat),cB xs its∧h.get? a=some { cls:=.type "list",data:=.seq its.toArray n }
 | .tup xs=>xs.length<=sizeLine∧∃ its:List Value,cB xs its∧IsTup h a its.toArray
 | .dK kvs=>kvs.length<=sizeLine∧(a==sysModules)=false∧∃ vs,KV kvs vs∧h.DictOf (dE P w) a vs
 | .dT kvs=>kvs.length<=sizeLine∧(a==sysModules)=false∧∃ xs:List (List Key×Addr×Value),
   Paired (fun (p:List Key×V) (q:List Key×Addr×Value)=>p.1=q.1∧H q.2.1=some (.tup (p.1.map kV))∧cH p.2 q.2.2) kvs xs ∧
   ∃ o es ep,h.get? a=some o∧o.ExactDict∧o.data=.dict es ep∧es.toList=xs.map (entryOfKey (tupleKind (dE P w)))∧(xs.map (·.1)).Nodup
 | .set S n=>h.SetOf (intKind P w) a S n
 | .ins C dx fs=>H dx=some (.own a)∧fs.length<=1000∧dx≠a∧h.get? a=some (PySem.W.instObj C dx) ∧
   ∃ mA,h.Ns1 dx mA∧(∀ f,jR (fs.lookup f) (mA f))∧PySem.Within mA (fs.map (·.1))
 | .own _=>∃ o,h.get? a=some o
 | .xd fs=>∃ mA,h.Ns1 a mA∧∀ f,jR (fs.lookup f) (mA f)
 | .rng lo hi=>∃ t u v,h.get? a=some { cls:=.type "range",data:=.fields #[.int lo t,.int hi u,.int 1 v] }
 | .frz o u=>h.get? a=some o∧dD H h a u
 | .tbl ps=>h.get? a=some { cls:=.none,data:=.fields ps }
 | .met f x=>h.get? a=some (PySem.W.methodObj (.ref f) (.ref x))
 | .ext φ=>φ h∧(∃ o,h.get? a=some o)∧∀ h1 h2:Heap,φ h1->(∀ o,h1.get? a=some o->h2.get? a=some o)->φ h2
def HOk (H:Hp) (h:Heap):Prop:=∀ a o,H a=some o->dD P w H h a o
end

section
variable {P:Program}{w:World}{H H':Hp}{h h':Heap}{a:Addr}{o:HO}
theorem dD.lt (x:dD P w H h a o):a<h.objs.size:=by
 cases o with
 | lst xs=>obtain⟨_,_,_,_,e⟩:=x; exact Heap.lt_size e
 | tup xs=>obtain⟨_,_,_,p⟩:=x; exact p.lt
 | dK kvs=>obtain⟨_,_,_,_,o,_,_,e,_⟩:=x; exact Heap.lt_size e
 | dT kvs=>obtain⟨_,_,_,_,o,_,_,e,_⟩:=x; exact Heap.lt_size e
 | set S n=>obtain⟨o,_,_,_,e,_⟩:=x; exact Heap.lt_size e
 | ins C dx fs=>obtain⟨_,_,_,e,_⟩:=x; exact Heap.lt_size e
 | own y=>obtain⟨_,e⟩:=x; exact Heap.lt_size e
 | xd fs=>obtain⟨_,⟨_,_,_,e,_⟩,_⟩:=x; exact Heap.lt_size e
 | rng lo hi=>obtain⟨_,_,_,e⟩:=x; exact Heap.lt_size e
 | frz ob u=>obtain⟨e,_⟩:=x; exact Heap.lt_size e
 | tbl ps=>exact Heap.lt_size (show h.get? a=some _ from x)
 | met f y=>exact Heap.lt_size (show h.get? a=some _ from x)
 | ext φ=>obtain⟨_,⟨_,e⟩,_⟩:=x; exact Heap.lt_size e
theorem Paired.mapP {α β:Type}{F G:α->β->Prop}:∀ {l₁:List α}{l₂:List β},Paired F l₁ l₂->(∀ a b,F a b->G a b)->Paired G l₁ l₂
 | _,_,.nil,_=>.nil
 | _,_,.cons r t,f=>.cons (f _ _ r) (Paired.mapP t f)
theorem dD.stay (x:dD P w H h a o) (k:∀ b u,(b=a∨H b=some (.own a))->h.get? b=some u->h'.get? b=some u)
  (ho:∀ b,H b=some (.own a)->H' b=some (.own a)) (ht:∀ b xs,H b=some (.tup xs)->H' b=some (.tup xs)):dD P w H' h' a o:=by
 induction o with
 | lst xs=>obtain⟨z,its,n,r,e⟩:=x; exact⟨z,its,n,r,k _ _ (.inl rfl) e⟩
 | tup xs=>obtain⟨z,its,r,ob,e,c⟩:=x; exact⟨z,its,r,ob,k _ _ (.inl rfl) e,c⟩
 | dK kvs=>obtain⟨z,y,vs,r,ob,es,ep,e,c⟩:=x; exact⟨z,y,vs,r,ob,es,ep,k _ _ (.inl rfl) e,c⟩
 | dT kvs=>
  obtain⟨z,y,xs,r,ob,es,ep,e,c⟩:=x;exact⟨z,y,xs,Paired.mapP r fun p q z=>⟨z.1,ht _ _ z.2.1,z.2.2⟩,ob,es,ep,k _ _ (.inl rfl) e,c⟩
 | set S n=>obtain⟨ob,es,ep,t,e,c⟩:=x; exact⟨ob,es,ep,t,k _ _ (.inl rfl) e,c⟩
 | ins C dx fs=>
  obtain⟨d,z,ne,e,mA,⟨od,es,ep,e2,c⟩,r⟩:=x;exact⟨ho _ d,z,ne,k _ _ (.inl rfl) e,mA,⟨od,es,ep,k _ _ (.inr d) e2,c⟩,r⟩
 | own y=>obtain⟨ob,e⟩:=x; exact⟨ob,k _ _ (.inl rfl) e⟩
 | xd fs=>obtain⟨mA,⟨od,es,ep,e,c⟩,r⟩:=x; exact⟨mA,⟨od,es,ep,k _ _ (.inl rfl) e,c⟩,r⟩
 | rng lo hi=>obtain⟨t,u,v,e⟩:=x; exact⟨t,u,v,k _ _ (.inl rfl) e⟩
 | frz ob u ih=>obtain⟨e,q⟩:=x; exact⟨k _ _ (.inl rfl) e,ih q⟩
 | tbl ps=>
  have e:h.get? a=some { cls:=.none,data:=.fields ps }:=x;show h'.get? a=some { cls:=.none,data:=.fields ps };exact k a _ (.inl rfl) e
 | met f y=>
  have e:h.get? a=some (PySem.W.methodObj (.ref f) (.ref y)):=x;show h'.get? a=some (PySem.W.methodObj (.ref f) (.ref y));exact k a _ (.inl rfl) e
 | ext φ=>obtain⟨p,⟨o,e⟩,st⟩:=x; exact⟨st _ _ p fun o q=>k _ _ (.inl rfl) q,⟨o,k _ _ (.inl rfl) e⟩,st⟩
theorem HOk.lt (x:HOk P w H h) (e:H a=some o):a<h.objs.size:=(x a o e).lt
theorem HOk.fresh (x:HOk P w H h) (e:h.objs.size<=a):H a=none:=by
 cases q:H a with
 | none=>rfl
 | some u=>exact absurd (Nat.lt_of_lt_of_le (x.lt q) e) (Nat.lt_irrefl _)
theorem HOk.kept (x:HOk P w H h) (k:∀ b u,h.get? b=some u->h'.get? b=some u):HOk P w H h':=fun a o e=>
 (x a o e).stay (fun b u _ q=>k b u q) (fun _ q=>q) fun _ _ q=>q
theorem HOk.laid (x:HOk P w H h) (k:∀ b u,h.get? b=some u->h'.get? b=some u) (hp:h.objs.size<=a) (new:dD P w (upd H a o) h' a o):HOk P w (upd H a o) h':=fun b u e=>by
 have hn:=x.fresh hp
 by_cases hb:b=a
 ·subst hb; rw[aD] at e; cases e; exact new
 ·rw[aI hb] at e;exact (x b u e).stay (fun c v _ q=>k c v q) (fun c q=>by rw[aI (aG q hn)]; exact q) fun c xs q=>by rw[aI (aG q hn)]; exact q
end

def Rd (H:Hp) (a:Addr) (u:HO):Prop:=H a=some u∨∃ o,H a=some (.frz o u)
theorem Rd.ok {P:Program}{w:World}{H:Hp}{h:Heap}{a:Addr}{u:HO}(r:Rd H a u) (x:HOk P w H h):dD P w H h a u:=by
 rcases r with r | ⟨o,r⟩
 ·exact x a u r
 ·obtain⟨_,q⟩:=x a _ r;exact q
def Mut:Option HO->Prop
 | some (.lst _)=>True
 | some (.dK _)=>True
 | some (.dT _)=>True
 | some (.set _ _)=>True
 | some (.ins _ _ _)=>True
 | some (.ext _)=>True
 | _=>False
section
variable {P:Program}{w:World}{H:Hp}{h h':Heap}{x e:Addr}{o':HO}
theorem HOk.write (ok:HOk P w H h) (mu:Mut (H x)) (he:e=x∨H e=some (.own x)) (k:∀ b u,b≠e->h.get? b=some u->h'.get? b=some u) (heo:∃ u,h'.get? e=some u)
  (new:dD P w (upd H x o') h' x o'):HOk P w (upd H x o') h':=fun b u q=>by
 have nown:∀ c y,H c=some (.own y)->c≠x:=fun c y r z=>by subst z; rw[r] at mu; exact mu
 have ntup:∀ c xs,H c=some (.tup xs)->c≠x:=fun c xs r z=>by subst z; rw[r] at mu; exact mu
 by_cases hb:b=x
 ·subst hb; rw[aD] at q; cases q; exact new
 ·rw[aI hb] at q
  by_cases hbe:b=e
  ·have q':H b=some (.own x):=by
    rcases he with z | z
    ·exact absurd (hbe.trans z) hb
    ·rw[hbe]; exact z
   rw[q] at q'; cases q';obtain⟨v,hv⟩:=heo;exact⟨v,by rw[hbe]; exact hv⟩
  ·refine (ok b u q).stay (fun c v hc r=>k c v ?_ r) (fun c r=>by rw[aI (nown c b r)]; exact r) fun c xs r=>by rw[aI (ntup c xs r)]; exact r
   rcases hc with rfl | hc
   ·exact hbe
   ·rintro rfl;rcases he with z | z
    ·exact nown c b hc z
    ·rw[hc] at z; cases z; exact hb rfl
end

structure Un (fs ex:List Addr) (H H':Hp) (h h':Heap):Prop where
 keep:∀ b o,h.get? b=some o->H b=none->b∉fs->b∉ex->h'.get? b=some o
 slot:∀ b o,h.get? b=some o->H b=none->b∈fs->b∉ex->∃ sl,h'.get? b=some { o with slots:=sl }
 free:∀ b o,h.get? b=some o->H b=none->b∉ex->H' b=none
 there:∀ b o,h.get? b=some o->b∉ex->∃ o',h'.get? b=some o'
 tups:∀ b xs,H b=some (.tup xs)->H' b=some (.tup xs)
 frzs:∀ b o u,H b=some (.frz o u)->H' b=some (.frz o u)
 tbls:∀ b ps,H b=some (.tbl ps)->∃ more,H' b=some (.tbl (ps++more))
section
variable {fs fs' ex ex':List Addr}{H H1 H2:Hp}{h h1 h2 h':Heap}{a x e:Addr}{o:HO}
theorem Un.any (u:Un fs ex H H1 h h1){b:Addr}{ob:Obj}(q:h.get? b=some ob) (n:H b=none) (hx:b∉ex):∃ sl,h1.get? b=some { ob with slots:=sl }:=by
 by_cases hb:b∈fs
 ·exact u.slot b ob q n hb hx
 ·exact⟨ob.slots,u.keep b ob q n hb hx⟩
theorem Un.kept (k:∀ b u,h.get? b=some u->h'.get? b=some u):Un fs ex H H h h':=
 ⟨fun b ob q _ _ _=>k b ob q,fun b ob q _ _ _=>⟨ob.slots,k b ob q⟩,fun _ _ _ n _=>n,fun b ob q _=>⟨ob,k b ob q⟩,fun _ _ q=>q,fun _ _ _ q=>q,fun _ ps q=>⟨#[],by rw[q]; simp⟩⟩
theorem Un.refl:Un fs ex H H h h:=Un.kept fun _ _ q=>q
theorem Un.laid (k:∀ b u,h.get? b=some u->h'.get? b=some u) (hp:h.objs.size<=a) (hn:H a=none):Un fs ex H (upd H a o) h h' where
 keep:=fun b u q _ _ _=>k b u q
 slot:=fun b u q _ _ _=>⟨u.slots,k b u q⟩
 free:=fun b u q n _=>by rw[aI (Nat.ne_of_lt (Nat.lt_of_lt_of_le (Heap.lt_size q) hp))]; exact n
 there:=fun b u q _=>⟨u,k b u q⟩
 tups:=fun b xs q=>by rw[aI (aG q hn)]; exact q
 frzs:=fun b u xs q=>by rw[aI (aG q hn)]; exact q
 tbls:=fun b ps q=>⟨#[],by rw[aI (aG q hn),q]; simp⟩
theorem Un.write (mu:Mut (H x)) (he:e=x∨H e=some (.own x)) (k:∀ b u,b≠e->h.get? b=some u->h'.get? b=some u) (heo:∃ u,h'.get? e=some u):Un fs ex H (upd H x o) h h':=by
 have hx:∀ b,H b=none->b≠x:=fun b n z=>by subst z; rw[n] at mu; exact mu
 have hb:∀ b,H b=none->b≠e:=fun b n z=>by
  subst z;rcases he with r | r
  ·exact hx b n r
  ·rw[n] at r; cases r
 have hm:∀ b u,H b=some u->¬ Mut (some u)->b≠x:=fun b u q nm z=>by subst z; rw[q] at mu; exact nm mu
 refine⟨fun b u q n _ _=>k b u (hb b n) q,fun b u q n _ _=>⟨u.slots,k b u (hb b n) q⟩,fun b u q n _=>by rw[aI (hx b n)]; exact n,fun b u q _=>?_,
  fun b xs q=>by rw[aI (hm b _ q fun z=>z)]; exact q,fun b u xs q=>by rw[aI (hm b _ q fun z=>z)]; exact q,fun b ps q=>⟨#[],by rw[aI (hm b _ q fun z=>z),q]; simp⟩⟩
 by_cases hbe:b=e
 ·subst hbe; exact heo
 ·exact⟨u,k b u hbe q⟩
end

def trk (h:Heap) (H:Hp):List Addr:=(List.range h.objs.size).filter fun a=>(H a).isSome
def vA (h:Heap) (H:Hp):Heap:=PySem.W.hideAll h (trk h H)
theorem aDc (h:Heap) (H:Hp):(vA h H).objs.size=h.objs.size:=PySem.W.hideAll_size _ _
theorem rL {h:Heap}{H:Hp}{b:Addr}{o:Obj}(e:h.get? b=some o) (n:H b=none):(vA h H).get? b=some o:=
 PySem.W.hideAll_get _ e fun hm=>by
  have q:(H b).isSome=true:=(List.mem_filter.mp hm).2;rw[n] at q; simp at q
theorem aIk {h:Heap}{H:Hp}{b:Addr}{o:Obj}(e:(vA h H).get? b=some o):h.get? b=some o∧H b=none:=by
 have e':h.get? b=some o:=PySem.W.of_hideAll (trk h H) e;refine⟨e',?_⟩;cases q:H b with
 | none=>rfl
 | some x=>
  have hm:b∈trk h H:=List.mem_filter.mpr ⟨List.mem_range.mpr (Heap.lt_size e'),by simp[q]⟩;have z:(vA h H).get? b=none:=PySem.W.hideAll_none (trk h H) hm;rw[z] at e; cases e

end L2

namespace L2
open PySem PySem.Spec PyProof.Rows

structure Mod (K:PySem.W.Frag) (mg:Str->Option Value) (base:Heap):Prop where
 kin:K.In base
 glob:base.Ns mainGlobals mg
 blt:∃ mb,base.Ns builtinsNs mb∧∀ x:Str,x≠"__name__" -> mb x=bootBuiltins x
 nolimit:base.NoLimit

structure Cx where
 prog:Program
 w:World
 K:PySem.W.Frag
 mg:Str->Option Value
 base:Heap
 A:Around
 N:List Str
 s₀:Shared
 H₀:Hp
 env:Env
 outer:List Env
 stack:List Env
 ex:List Addr
 fn:Str->Bool
 calm:Bool
 pn:List (Addr×Obj)
 xe:Value->Shared->Prop
def frs (l:List Env):List Addr:=l.filterMap (·.frame)
abbrev Cx.fs (X:Cx):List Addr:=frs X.outer

def Vis (sc:Scope) (x:Str):Prop:=sc.names.lookup x=some .local∨sc.names.lookup x=some .cell∨sc.names.lookup x=some .free
def Loc (sc:Scope) (x:Str):Prop:=sc.names.lookup x=some .local∨sc.names.lookup x=some .cell
def aQg (env:Env) (h:Heap) (m:Str->Option Value) (x:Str) (u:Value):Prop:=
 (env.kindOf x=some .local∧m x=some u)∨((env.kindOf x=some .cell∨env.kindOf x=some .free)∧∃ c,env.cells.lookup x=some c∧h.IsCell c (some u))

structure Cx.Ok (X:Cx):Prop where
 mod:Mod X.K X.mg X.base
 kind:X.env.scope.kind=.function
 glob:X.env.globals=mainGlobals
 blt:X.env.builtins=builtinsNs
 above:X.s₀.heap.objs.size<=X.env.locals
 inj:∀ x y c,X.env.cells.lookup x=some c->X.env.cells.lookup y=some c->x=y
 has:∀ x,(X.env.kindOf x=some .cell∨X.env.kindOf x=some .free)->∃ c,X.env.cells.lookup x=some c
 cab:∀ x c,X.fn x=true->X.env.cells.lookup x=some c->X.s₀.heap.objs.size<=c
 hd:X.calm=true->X.A.handled=none
 frames:X.A.frames=some X.stack
 stk:X.stack=X.outer∨(X.stack=X.env::X.outer∧X.env.frame=some X.env.locals)
 exf:∀ b∈X.ex,b≠X.env.locals∧∀ x c,X.env.cells.lookup x=some c->c≠b
 bs:∀ b o,X.base.get? b=some o->X.s₀.heap.get? b=some o∧X.H₀ b=none
 bsz:X.base.objs.size<=X.s₀.heap.objs.size
 noex:∀ b o,X.base.get? b=some o->b∉X.ex
 exfs:∀ b∈X.ex,b∉X.fs
 funs:X.s₀.heap.FunFrames X.base X.outer
 frf:∀ b∈X.fs,X.H₀ b=none

structure Inv (X:Cx) (pins:List (Addr×Obj)) (σ:List (Option V)) (H:Hp) (s:Shared):Prop where
 ok:X.Ok
 os:s.os=X.s₀.os
 bare:AllBare s.gens
 base:Un X.fs X.ex X.H₀ H X.s₀.heap s.heap
 loc:∃ m,s.heap.Ns X.env.locals m∧∀ (i:Nat) (x:Str) (v:V),X.N[i]?=some x->σ[i]?=some (some v)->Vis X.env.scope x->∃ u,cH v u∧aQg X.env s.heap m x u
 cell:∀ x c,X.env.cells.lookup x=some c->∃ v,s.heap.IsCell c v
 free:H X.env.locals=none
 freeC:∀ x c,X.env.cells.lookup x=some c->H c=none
 pin:∀ p∈X.pn++pins,s.heap.get? p.1=some p.2∧H p.1=none∧p.1≠X.env.locals∧p.1∉X.fs∧∀ v,p.2.data≠.cell v
 hok:HOk X.prog X.w H s.heap
 len:σ.length=X.N.length

section
variable {X:Cx}{pins:List (Addr×Obj)}{σ:List (Option V)}{H H':Hp}{s:Shared}{h':Heap}

theorem Cx.Ok.nofr (ok:X.Ok){b:Addr}{o:Obj}(e:X.base.get? b=some o):b∉X.fs:=fun hb=>by
 have:=(ok.funs.mem hb).1
 rw[e] at this; cases this
theorem Inv.bs (I:Inv X pins σ H s):∀ b o,X.base.get? b=some o->s.heap.get? b=some o∧H b=none:=fun b o e=>
 ⟨I.base.keep b o (I.ok.bs b o e).1 (I.ok.bs b o e).2 (I.ok.nofr e) (I.ok.noex b o e),I.base.free b o (I.ok.bs b o e).1 (I.ok.bs b o e).2 (I.ok.noex b o e)⟩
theorem Inv.bk (I:Inv X pins σ H s):∀ b o,X.base.get? b=some o->s.heap.get? b=some o:=fun b o e=>(I.bs b o e).1
theorem Inv.mod (I:Inv X pins σ H s):Mod X.K X.mg X.base:=I.ok.mod
theorem Inv.kIn (I:Inv X pins σ H s):X.K.In s.heap:=I.ok.mod.kin.keeps I.bk
theorem Inv.nolimit (I:Inv X pins σ H s):s.heap.NoLimit:=I.ok.mod.nolimit.keeps I.bk
theorem Inv.lt (I:Inv X pins σ H s):X.env.locals<s.heap.objs.size:=let ⟨_,hn,_⟩:=I.loc; hn.lt
theorem Inv.sz (I:Inv X pins σ H s):X.s₀.heap.objs.size<=s.heap.objs.size:=Nat.le_trans I.ok.above (Nat.le_of_lt I.lt)
theorem Inv.nofs (I:Inv X pins σ H s){a:Addr}(h:s.heap.objs.size<=a):a∉X.fs:=fun hb=>by
 obtain⟨_,o,ho,_⟩:=I.ok.funs.mem hb;exact absurd (Nat.lt_of_lt_of_le (Heap.lt_size ho) (Nat.le_trans I.sz h)) (Nat.lt_irrefl _)
theorem Inv.cne (I:Inv X pins σ H s):∀ x c,X.env.cells.lookup x=some c->c≠X.env.locals:=fun x c e z=>by
 obtain⟨v,o,ho,hd⟩:=I.cell x c e;obtain⟨m,⟨o',es,ep,ho',hd',_⟩,_⟩:=I.loc;rw[z,ho'] at ho; cases ho; rw[hd'] at hd; cases hd
theorem Inv.funs (I:Inv X pins σ H s):s.heap.FunFrames X.base X.outer:=by
 have all:∀ (l:List Env),(∀ b∈frs l,b∈X.fs)->X.s₀.heap.FunFrames X.base l->s.heap.FunFrames X.base l:=by
  intro l
  induction l with
  | nil=>intro _ _; trivial
  | cons env r ih=>
   intro hs hl;obtain⟨hk,⟨L,o,hf,hn,ho,hd⟩,hr⟩:=hl;have hL:L∈X.fs:=hs L (by unfold frs; rw[List.filterMap_cons,hf]; exact List.mem_cons_self);obtain⟨sl,e⟩:=I.base.slot L o ho (I.ok.frf L hL) hL fun z=>I.ok.exfs L z hL;exact⟨hk,⟨L,_,hf,hn,e,hd⟩,ih (fun b hb=>hs b (by unfold frs; rw[List.filterMap_cons,hf]; exact List.mem_cons_of_mem _ hb)) hr⟩
 exact all X.outer (fun _ hb=>hb) I.ok.funs

theorem Inv.stack (I:Inv X pins σ H s):s.heap.FunFrames X.base X.stack:=by
 rcases I.ok.stk with e | ⟨e,hf⟩
 ·rw[e]; exact I.funs
 ·rw[e];obtain⟨m,hn,_⟩:=I.loc;refine .cons (by rw[I.ok.kind]; decide) hf hn ?_ I.funs;exact Heap.get?_none_of_le (Nat.le_trans I.ok.bsz I.ok.above)
theorem Inv.stkSub (I:Inv X pins σ H s):∀ b∈frs X.stack,b∈X.env.locals::X.fs:=fun b hb=>by
 rcases I.ok.stk with e | ⟨e,hf⟩
 ·rw[e] at hb; exact List.mem_cons_of_mem _ hb
 ·rw[e] at hb;unfold frs at hb;rw[List.filterMap_cons,hf] at hb;exact hb
theorem Inv.stkFree (I:Inv X pins σ H s):∀ b∈frs X.stack,H b=none:=fun b hb=>by
 rcases List.mem_cons.mp (I.stkSub b hb) with e | hb
 ·rw[e]; exact I.free
 ·obtain⟨_,o,ho,_⟩:=I.ok.funs.mem hb;exact I.base.free b o ho (I.ok.frf b hb) fun z=>I.ok.exfs b z hb

theorem Inv.step {g':Array GenState}{t':Nat}{d':Drawn}{ch:List Addr}(I:Inv X pins σ H s)
  (hch:∀ b∈ch,(b∈X.ex∨X.s₀.heap.objs.size<=b)∧b≠X.env.locals∧(∀ x c,X.env.cells.lookup x=some c->c≠b)∧∀ p∈X.pn++pins,p.1≠b)
  (keep:∀ b o,b≠X.env.locals->b∉X.fs->b∉ch->s.heap.get? b=some o->H b=none->h'.get? b=some o)
  (slot:∀ b o,b≠X.env.locals->b∈X.fs->b∉ch->s.heap.get? b=some o->H b=none->∃ sl,h'.get? b=some { o with slots:=sl }) (free:∀ b o,b∉ch->s.heap.get? b=some o->H b=none->H' b=none)
  (there:∀ b o,b∉ch->s.heap.get? b=some o->∃ o',h'.get? b=some o')
  (tups:∀ b xs,H b=some (.tup xs)->H' b=some (.tup xs)) (frzs:∀ b o u,H b=some (.frz o u)->H' b=some (.frz o u)) (tbls:∀ b ps,H b=some (.tbl ps)->∃ more,H' b=some (.tbl (ps++more)))
  (ns:∀ m,s.heap.Ns X.env.locals m->h'.Ns X.env.locals m) (hok:HOk X.prog X.w H' h') (hg:AllBare g') :
  Inv X pins σ H' { s with heap:=h',gens:=g',drawn:=d',toks:=t' }:=by
 have neL:∀ b o,X.s₀.heap.get? b=some o->b≠X.env.locals:=fun b o e=>Nat.ne_of_lt (Nat.lt_of_lt_of_le (Heap.lt_size e) I.ok.above)
 have neC:∀ b o,X.s₀.heap.get? b=some o->b∉X.ex->b∉ch:=fun b o e hx hb=>by
  rcases (hch b hb).1 with z | z
  ·exact hx z
  ·exact absurd (Nat.lt_of_lt_of_le (Heap.lt_size e) z) (Nat.lt_irrefl _)
 have cellK:∀ x c,X.env.cells.lookup x=some c->∀ v,s.heap.IsCell c v->h'.IsCell c v:=fun x c e v ⟨o,ho,hd⟩=>by
  have nch:c∉ch:=fun z=>(hch c z).2.2.1 x c e rfl
  by_cases hc:c∈X.fs
  ·obtain⟨sl,q⟩:=slot c o (I.cne x c e) hc nch ho (I.freeC x c e);exact⟨_,q,hd⟩
  ·exact⟨o,keep c o (I.cne x c e) hc nch ho (I.freeC x c e),hd⟩
 refine⟨I.ok,I.os,hg,⟨fun b o e n hb hx=>?_,fun b o e n hb hx=>?_,fun b o e n hx=>?_,fun b o e hx=>?_,fun b xs e=>tups b xs (I.base.tups b xs e),fun b o xs e=>frzs b o xs (I.base.frzs b o xs e),fun b ps e=>?_⟩,?_,fun x c e=>?_,?_,fun x c e=>?_,fun p hp=>?_,hok,I.len⟩
 ·exact keep b o (neL b o e) hb (neC b o e hx) (I.base.keep b o e n hb hx) (I.base.free b o e n hx)
 ·obtain⟨sl,e1⟩:=I.base.slot b o e n hb hx;obtain⟨sl',e2⟩:=slot b _ (neL b o e) hb (neC b o e hx) e1 (I.base.free b o e n hx);exact⟨sl',e2⟩
 ·obtain⟨o',e1⟩:=I.base.there b o e hx;exact free b o' (neC b o e hx) e1 (I.base.free b o e n hx)
 ·obtain⟨o',e1⟩:=I.base.there b o e hx;exact there b o' (neC b o e hx) e1
 ·obtain⟨m1,e1⟩:=I.base.tbls b ps e;obtain⟨m2,e2⟩:=tbls b _ e1;exact⟨m1++m2,by rw[e2,Array.append_assoc]⟩
 ·obtain⟨m,hn,hl⟩:=I.loc;refine⟨m,ns m hn,fun i x v e1 e2 e3=>?_⟩;obtain⟨u,r,l⟩:=hl i x v e1 e2 e3;refine⟨u,r,?_⟩;rcases l with l | ⟨k,c,e,z⟩
  ·exact .inl l
  ·exact .inr ⟨k,c,e,cellK x c e _ z⟩
 ·obtain⟨v,z⟩:=I.cell x c e;exact⟨v,cellK x c e v z⟩
 ·obtain⟨m,⟨o,_,_,ho,_⟩,_⟩:=I.loc;exact free _ o (fun z=>(hch _ z).2.1 rfl) ho I.free
 ·obtain⟨v,o,ho,hd⟩:=I.cell x c e;exact free c o (fun z=>(hch c z).2.2.1 x c e rfl) ho (I.freeC x c e)
 ·obtain⟨e,n,ne,nf,d⟩:=I.pin p hp;have nch:p.1∉ch:=fun z=>(hch p.1 z).2.2.2 p hp rfl;exact⟨keep p.1 p.2 ne nf nch e n,free p.1 p.2 nch e n,ne,nf,d⟩
theorem Inv.un {t':Nat}(I:Inv X pins σ H s) (u:Un X.fs [] H H' s.heap h') (hok:HOk X.prog X.w H' h'):Inv X pins σ H' { s with heap:=h',toks:=t' }:=by
 obtain⟨m,⟨o,es,ep,ho,r⟩,_⟩:=id I.loc;obtain⟨sl,hL⟩:=u.any ho I.free (by simp)
 exact I.step (g':=s.gens) (d':=s.drawn) (ch:=[]) (fun _ z=>nomatch z) (fun b o _ hb _ e n=>u.keep b o e n hb (by simp)) (fun b o _ hb _ e n=>u.slot b o e n hb (by simp)) (fun b o _ e n=>u.free b o e n (by simp)) (fun b o _ e=>u.there b o e (by simp)) u.tups u.frzs u.tbls (fun m' hm=>by
  obtain⟨o',es',ep',ho',r'⟩:=hm;rw[ho] at ho'; cases ho';exact⟨_,es',ep',hL,r'⟩) hok I.bare
theorem Inv.call {g':Array GenState}{t':Nat}{d':Drawn}{ch:List Addr}(I:Inv X pins σ H s) (u:Un (frs X.stack) ch H H' s.heap h') (hok:HOk X.prog X.w H' h') (hg:AllBare g')
  (hch:∀ b∈ch,(b∈X.ex∨X.s₀.heap.objs.size<=b)∧b≠X.env.locals∧(∀ x c,X.env.cells.lookup x=some c->c≠b)∧∀ p∈X.pn++pins,p.1≠b) :
  Inv X pins σ H' { s with heap:=h',gens:=g',drawn:=d',toks:=t' }:=by
 obtain⟨m,⟨o,es,ep,ho,r⟩,_⟩:=id I.loc;obtain⟨sl,hL⟩:=u.any ho I.free fun z=>(hch _ z).2.1 rfl
 exact I.step (ch:=ch) hch (fun b o hL hb hc e n=>u.keep b o e n (fun z=>(List.mem_cons.mp (I.stkSub b z)).elim hL hb) hc) (fun b o _ _ hc e n=>u.any e n hc) (fun b o hc e n=>u.free b o e n hc) (fun b o hc e=>u.there b o e hc) u.tups u.frzs u.tbls (fun m' hm=>by
  obtain⟨o',es',ep',ho',r'⟩:=hm;rw[ho] at ho'; cases ho';exact⟨_,es',ep',hL,r'⟩) hok hg
theorem Inv.turned {t':Nat}{it:Addr}(I:Inv X pins σ H s) (k:∀ b o,b≠it->s.heap.get? b=some o->h'.get? b=some o) (hn:H it=none) (hL:it≠X.env.locals)
  (h1:it∈X.ex∨X.s₀.heap.objs.size<=it) (h2:∀ x c,X.env.cells.lookup x=some c->c≠it) (h3:∀ p∈X.pn++pins,p.1≠it):Inv X pins σ H { s with heap:=h',toks:=t' }:=by
 have nit:∀ b u,H b=some u->b≠it:=fun b u e z=>by rw[z,hn] at e; cases e
 refine I.step (g':=s.gens) (d':=s.drawn) (ch:=[it]) (fun b hb=>?_) (fun b o _ _ hc e _=>k b o (fun z=>hc (by simp[z])) e) (fun b o _ _ hc e _=>⟨o.slots,k b o (fun z=>hc (by simp[z])) e⟩) (fun _ _ _ _ n=>n)
  (fun b o hc e=>⟨o,k b o (fun z=>hc (by simp[z])) e⟩) (fun _ _ e=>e) (fun _ _ _ e=>e) (fun b ps e=>⟨#[],by rw[e]; simp⟩) (fun m hm=>?_) (fun b u e=>?_) I.bare
 ·have e:b=it:=by simpa using hb
  subst e;exact⟨h1,hL,h2,h3⟩
 ·obtain⟨o,es,ep,ho,r⟩:=hm;exact⟨o,es,ep,k _ o (Ne.symm hL) ho,r⟩
 ·refine (I.hok b u e).stay (fun c v hc q=>k c v ?_ q) (fun _ q=>q) fun _ _ q=>q;rcases hc with z | z
  ·rw[z]; exact nit b u e
  ·exact nit c _ z
theorem Inv.tok (I:Inv X pins σ H s) (t:Nat):Inv X pins σ H { s with toks:=t }:=I.un (h':=s.heap) (t':=t) Un.refl I.hok
theorem Inv.kept {t':Nat}(I:Inv X pins σ H s) (k:∀ b u,s.heap.get? b=some u->h'.get? b=some u):Inv X pins σ H { s with heap:=h',toks:=t' }:=I.un (Un.kept k) (I.hok.kept k)
theorem Inv.laid {a:Addr}{o:HO}{t':Nat}(I:Inv X pins σ H s) (k:∀ b u,s.heap.get? b=some u->h'.get? b=some u) (hp:s.heap.objs.size<=a) (new:dD X.prog X.w (upd H a o) h' a o) :
  Inv X pins σ (upd H a o) { s with heap:=h',toks:=t' }:=I.un (Un.laid k hp (I.hok.fresh hp)) (I.hok.laid k hp new)
theorem Inv.write {x e:Addr}{o:HO}{t':Nat}(I:Inv X pins σ H s) (mu:Mut (H x)) (he:e=x∨H e=some (.own x)) (k:∀ b u,b≠e->s.heap.get? b=some u->h'.get? b=some u) (heo:∃ u,h'.get? e=some u)
  (new:dD X.prog X.w (upd H x o) h' x o):Inv X pins σ (upd H x o) { s with heap:=h',toks:=t' }:=I.un (Un.write mu he k heo) (I.hok.write mu he k heo new)
theorem Inv.pins_of {pins':List (Addr×Obj)}(I:Inv X pins σ H s) (h:∀ p∈pins',s.heap.get? p.1=some p.2∧H p.1=none∧p.1≠X.env.locals∧p.1∉X.fs∧∀ v,p.2.data≠.cell v):Inv X pins' σ H s:=
 ⟨I.ok,I.os,I.bare,I.base,I.loc,I.cell,I.free,I.freeC,fun p hp=>(List.mem_append.mp hp).elim (fun z=>I.pin p (List.mem_append_left _ z)) (h p),I.hok,I.len⟩

theorem wZ {N:List Str}(hN:N.Nodup){i j:Nat}{x:Str}(a:N[i]?=some x) (b:N[j]?=some x):i=j:=by
 obtain⟨h1,e1⟩:=List.getElem?_eq_some_iff.mp a;obtain⟨h2,e2⟩:=List.getElem?_eq_some_iff.mp b;exact (List.getElem_inj hN).mp (e1.trans e2.symm)

theorem sW {M:Model}{A:Around}{E:Value->Shared->Prop}{i:Nat}{x:Str}{v:V}{u:Value}{Q:Unit->Shared->Prop}(I:Inv X pins σ H s) (hN:X.N.Nodup) (hi:X.N[i]?=some x) (hx:Loc X.env.scope x) (r:cH v u)
  (h:∀ s',Inv X pins (σ.set i (some v)) H s'->(∃ a,Heap.SameBut a s.heap s'.heap∧(a=X.env.locals∨X.env.cells.lookup x=some a))->Q () s') (hf:X.fn x=true∨X.env.scope.names.lookup x=some .local:=by first | exact .inl rfl | exact .inr rfl | assumption):wpAny M A (storeName X.env x u) Q E s:=by
 obtain⟨m,hn,hl⟩:=id I.loc;have hcls:(X.env.scope.kind==.class||(X.env.scope.kind==.module&&X.env.locals != X.env.globals))=false:=by rw[I.ok.kind]; rfl
 have hiσ:i<σ.length:=by rw[I.len]; exact (List.getElem?_eq_some_iff.mp hi).1
 have cne:=I.cne
 have tracked:∀ {a:Addr}{h':Heap},(∃ o,s.heap.get? a=some o∧H a=none)->Heap.SameBut a s.heap h'->HOk X.prog X.w H h':=fun {a h'} ha hs b ob e=>by
  obtain⟨_,_,hfree⟩:=ha;refine (I.hok b ob e).stay (fun c w' hc q=>(hs.2 c ?_).trans q) (fun _ q=>q) fun _ _ q=>q;rintro rfl;rcases hc with rfl | hc
  ·rw[hfree] at e; cases e
  ·rw[hfree] at hc; cases hc
 rcases hx with hk | hk
 ·refine wpAny_storeName_local hk hn (fun h' hn' hs=>?_) hcls;obtain⟨oL,_,_,hoL,_⟩:=id hn;refine h _ ⟨I.ok,I.os,I.bare,⟨fun b o e n hb hx=>?_,fun b o e n hb hx=>?_,I.base.free,fun b o e hx=>?_,I.base.tups,I.base.frzs,I.base.tbls⟩,⟨_,hn',fun j y v' e1 e2 e3=>?_⟩,fun y c e=>?_,I.free,I.freeC,fun p hp=>?_,tracked ⟨oL,hoL,I.free⟩ hs,by simpa using I.len⟩ ⟨_,hs,.inl rfl⟩
  ·exact (hs.2 b (Nat.ne_of_lt (Nat.lt_of_lt_of_le (Heap.lt_size e) I.ok.above))).trans (I.base.keep b o e n hb hx)
  ·obtain⟨sl,e1⟩:=I.base.slot b o e n hb hx;exact⟨sl,(hs.2 b (Nat.ne_of_lt (Nat.lt_of_lt_of_le (Heap.lt_size e) I.ok.above))).trans e1⟩
  ·obtain⟨o',e1⟩:=I.base.there b o e hx;exact⟨o',(hs.2 b (Nat.ne_of_lt (Nat.lt_of_lt_of_le (Heap.lt_size e) I.ok.above))).trans e1⟩
  ·by_cases hj:j=i
   ·subst hj;rw[hi] at e1; cases e1;rw[List.getElem?_set_self hiσ] at e2;cases e2;exact⟨u,r,.inl ⟨hk,by simp⟩⟩
   ·rw[List.getElem?_set_ne (Ne.symm hj)] at e2;obtain⟨u',r',q⟩:=hl j y v' e1 e2 e3;refine⟨u',r',?_⟩;rcases q with⟨k,e⟩ | ⟨k,c,e,z⟩
    ·refine .inl ⟨k,?_⟩
     have:y≠x:=fun e=>hj (wZ hN e1 (e▸hi))
     simp[this,e]
    ·exact .inr ⟨k,c,e,z.sameBut hs (cne y c e)⟩
  ·obtain⟨w',z⟩:=I.cell y c e;exact⟨w',z.sameBut hs (cne y c e)⟩
  ·obtain⟨e,n,ne,nf,d⟩:=I.pin p hp;exact⟨(hs.2 p.1 ne).trans e,n,ne,nf,d⟩
 ·have hfn:X.fn x=true:=by
   rcases hf with z | z
   ·exact z
   ·rw[z] at hk; cases hk
  obtain⟨c,hc⟩:=I.ok.has x (.inl hk);obtain⟨w',z⟩:=I.cell x c hc;refine wpAny_storeName_cell I.ok.kind hk hc z (fun h' hc' hs=>?_);obtain⟨oc,hoc,hocd⟩:=id z;refine h { s with heap:=h' } ⟨I.ok,I.os,I.bare,⟨fun b o e n hb hx=>?_,fun b o e n hb hx=>?_,I.base.free,fun b o e hx=>?_,I.base.tups,I.base.frzs,I.base.tbls⟩,⟨m,hn.sameBut hs (Ne.symm (cne x c hc)),fun j y v' e1 e2 e3=>?_⟩,fun y c' e=>?_,I.free,I.freeC,fun p hp=>?_,tracked ⟨oc,hoc,I.freeC x c hc⟩ hs,by simpa using I.len⟩ ⟨c,hs,.inr hc⟩
  ·exact (hs.2 b (Nat.ne_of_lt (Nat.lt_of_lt_of_le (Heap.lt_size e) (I.ok.cab x c hfn hc)))).trans (I.base.keep b o e n hb hx)
  ·obtain⟨sl,e1⟩:=I.base.slot b o e n hb hx;exact⟨sl,(hs.2 b (Nat.ne_of_lt (Nat.lt_of_lt_of_le (Heap.lt_size e) (I.ok.cab x c hfn hc)))).trans e1⟩
  ·obtain⟨o',e1⟩:=I.base.there b o e hx;exact⟨o',(hs.2 b (Nat.ne_of_lt (Nat.lt_of_lt_of_le (Heap.lt_size e) (I.ok.cab x c hfn hc)))).trans e1⟩
  ·by_cases hj:j=i
   ·subst hj;rw[hi] at e1; cases e1;rw[List.getElem?_set_self hiσ] at e2;cases e2;exact⟨u,r,.inr ⟨.inl hk,c,hc,hc'⟩⟩
   ·rw[List.getElem?_set_ne (Ne.symm hj)] at e2;obtain⟨u',r',q⟩:=hl j y v' e1 e2 e3;refine⟨u',r',?_⟩;rcases q with q | ⟨k,c',e,z'⟩
    ·exact .inl q
    ·refine .inr ⟨k,c',e,z'.sameBut hs ?_⟩;rintro rfl;exact hj (wZ hN e1 (I.ok.inj _ _ _ e hc▸hi))
  ·by_cases hcc:c'=c
   ·subst hcc; exact⟨_,hc'⟩
   ·obtain⟨w2,z2⟩:=I.cell y c' e;exact⟨w2,z2.sameBut hs hcc⟩
  ·obtain⟨e,n,ne,nf,d⟩:=I.pin p hp;refine⟨(hs.2 p.1 ?_).trans e,n,ne,nf,d⟩;intro q;rw[q,hoc] at e;have q':oc=p.2:=Option.some.inj e;exact d w' (by rw[← q']; exact hocd)
theorem qL {M:Model}{A:Around}{E:Value->Shared->Prop}{i:Nat}{x:Str}{v:V}{u:Value}{Q:Unit->Shared->Prop}(I:Inv X pins σ H s) (hN:X.N.Nodup) (hi:X.N[i]?=some x) (hx:Loc X.env.scope x) (r:cH v u)
  (h:∀ s',Inv X pins (σ.set i (some v)) H s'->Q () s') (hf:X.fn x=true∨X.env.scope.names.lookup x=some .local:=by first | exact .inl rfl | exact .inr rfl | assumption):wpAny M A (storeName X.env x u) Q E s:=
 sW I hN hi hx r (fun s' I' _=>h s' I') hf
theorem Inv.call' {s':Shared}{ch:List Addr}(I:Inv X pins σ H s) (ho:s'.os=s.os) (u:Un (frs X.stack) ch H H' s.heap s'.heap) (hok:HOk X.prog X.w H' s'.heap) (hg:AllBare s'.gens)
  (hch:∀ b∈ch,(b∈X.ex∨X.s₀.heap.objs.size<=b)∧b≠X.env.locals∧(∀ x c,X.env.cells.lookup x=some c->c≠b)∧∀ p∈X.pn++pins,p.1≠b):Inv X pins σ H' s':=by
 obtain⟨h',g',d',t',o'⟩:=s';have e:o'=s.os:=ho;subst e;exact I.call (g':=g') (t':=t') (d':=d') u hok hg hch
end

abbrev XK:=Value->Option Addr->Hp->Prop
abbrev St:=List (Option V)
abbrev VK:=V->Hp->Prop
abbrev TE:=St->Hp->VK->Prop
abbrev TT:=St->Hp->(Bool->Hp->Prop)->Prop
abbrev TA:=St->Hp->(List V->Hp->Prop)->Prop
structure rY where
 nx:St->Hp->Prop
 rt:VK
 bk:St->Hp->Prop:=fun _ _=>False
 ct:St->Hp->Prop:=fun _ _=>False
abbrev TS:=rY->St->Hp->Prop

inductive EP (X:Cx) (pins:List (Addr×Obj)) (σ:St) (Q:VK) (u:Value) (s':Shared):Prop
 | mk (v:_) (H':_) (h0_:Inv X pins σ H' s') (h1_:cH v u) (h2_:Q v H')
inductive TP (X:Cx) (pins:List (Addr×Obj)) (σ:St) (Q:Bool->Hp->Prop) (b:Bool) (s':Shared):Prop
 | mk (H':_) (h0_:Inv X pins σ H' s') (h1_:Q b H')
inductive AP (X:Cx) (pins:List (Addr×Obj)) (σ:St) (Q:List V->Hp->Prop) (us:List Value) (s':Shared):Prop
 | mk (vs:_) (H':_) (h0_:Inv X pins σ H' s') (h1_:cB vs us) (h2_:Q vs H')
def SP (X:Cx) (pins:List (Addr×Obj)) (D:rY) (f:Flow) (s':Shared):Prop:=
 match f with
 | .next=>∃ σ' H',Inv X pins σ' H' s'∧D.nx σ' H'
 | .brk=>∃ σ' H',Inv X pins σ' H' s'∧D.bk σ' H'
 | .cont=>∃ σ' H',Inv X pins σ' H' s'∧D.ct σ' H'
 | .ret u=>∃ v σ' H',Inv X pins σ' H' s'∧cH v u∧D.rt v H'

def PE (X:Cx) (e:Expr) (t:TE):Prop:=
 ∀ (pins:List (Addr×Obj)) (s:Shared) (σ:St) (H:Hp) (Q:VK),Inv X pins σ H s->t σ H Q->wpAny (model X.prog X.w) X.A (eval e X.env) (EP X pins σ Q) X.xe s
def PT (X:Cx) (e:Expr) (t:TT):Prop:=
 ∀ (pins:List (Addr×Obj)) (s:Shared) (σ:St) (H:Hp) (Q:Bool->Hp->Prop),Inv X pins σ H s->t σ H Q->wpAny (model X.prog X.w) X.A (isTrue e X.env (eval e X.env)) (TP X pins σ Q) X.xe s
def PW (X:Cx) (e:Expr) (t:TT):Prop:=
 ∀ (whole:Sem Value) (pins:List (Addr×Obj)) (s:Shared) (σ:St) (H:Hp) (Q:Bool->Hp->Prop),Inv X pins σ H s->t σ H Q->wpAny (model X.prog X.w) X.A (isTrue e X.env whole) (TP X pins σ Q) X.xe s
theorem PW.pt {X:Cx}{e:Expr}{t:TT}(h:PW X e t):PT X e t:=h _
def PA (X:Cx) (es:List Expr) (t:TA):Prop:=
 ∀ (pos:Pos) (pins:List (Addr×Obj)) (s:Shared) (σ:St) (H:Hp) (Q:List V->Hp->Prop),Inv X pins σ H s->t σ H Q->wpAny (model X.prog X.w) X.A (spliced (backTo pos (starEach es X.env))) (AP X pins σ Q) X.xe s
def PS (X:Cx) (st:Stmt) (t:TS):Prop:=
 ∀ (pins:List (Addr×Obj)) (s:Shared) (σ:St) (H:Hp) (D:rY),Inv X pins σ H s->t D σ H->wpAny (model X.prog X.w) X.A (exec st X.env) (SP X pins D) X.xe s
def PSs (X:Cx) (st:List Stmt) (t:TS):Prop:=
 ∀ (pins:List (Addr×Obj)) (s:Shared) (σ:St) (H:Hp) (D:rY),Inv X pins σ H s->t D σ H->wpAny (model X.prog X.w) X.A (execs st X.env) (SP X pins D) X.xe s
theorem thn {α:Type}{t:Sem α}{Q Q':α->Shared->Prop}{M:Model}{A:Around}{E:Value->Shared->Prop}{s:Shared}(h:wpAny M A t Q E s) (hQ:∀ a s,Q a s->Q' a s):wpAny M A t Q' E s:=wpAny_mono h hQ fun _ _ x=>x
end L2

namespace L2
open PySem PySem.Spec PyProof.Rows
section
variable {X:Cx}


inductive aBp (i:Nat) (σ:St) (H:Hp) (Q:VK):Prop
 | mk (v:_) (h0_:σ[i]?=some (some v)) (h1_:Q v H)
def tC (v:V):TE:=fun _ H Q=>Q v H
theorem qY {i:Nat}{x:Str}{pos:Pos}(hN:X.N[i]?=some x) (hv:Vis X.env.scope x) (hd:(x==("__debug__" : Str))=false:=by decide) (hcd:(x==("__classdict__" : Str))=false:=by decide):PE X (.Name x pos) (aBp i):=by
 intro pins s σ H Q I h;obtain⟨v,e,h⟩:=h;obtain⟨m,hn,hl⟩:=I.loc;obtain⟨u,r,l⟩:=hl i x v hN e hv;have fin:EP X pins σ Q u s:=⟨v,H,I,r,h⟩;rcases l with⟨hk,hm⟩ | ⟨hk,c,hc,hcell⟩
 ·exact wpAny_Name (wpAny_loadName_local I.ok.kind hk hn hm fin) hd
 ·rcases hk with hk | hk
  ·exact wpAny_Name (wpAny_loadName_cell I.ok.kind hk hc hcell fin) hd
  ·exact wpAny_Name (wpAny_loadName_free I.ok.kind hk hc hcell fin hcd) hd
theorem aN {i j pos}:PE X (.Constant (.int i) j pos) (tC (.int i)):=fun _ _ _ H _ I h=>wpAny_Constant_int ⟨.int i,H,I.tok _,⟨_,rfl⟩,h⟩
theorem lV {b j pos}:PE X (.Constant (.bool b) j pos) (tC (.bl b)):=fun _ _ _ H _ I h=>Constant_bool ⟨.bl b,H,I,rfl,h⟩
theorem iA {j pos}:PE X (.Constant .none j pos) (tC .non):=fun _ _ _ H _ I h=>Constant_none ⟨.non,H,I,rfl,h⟩
theorem aY {x j pos}:PE X (.Constant (.str x) j pos) (tC (.str x)):=fun _ _ _ H _ I h=>Calls.Constant_str ⟨.str x,H,I.tok _,⟨_,rfl⟩,h⟩

def Gl (X:Cx) (x:Str):Prop:=X.env.kindOf x=some .globalImplicit
theorem iP {E:Value->Shared->Prop}{pins:List (Addr×Obj)}{s:Shared}{σ:St}{H:Hp}{x:Str}{u:Value}{pos:Pos}{Q:Value->Shared->Prop}(I:Inv X pins σ H s) (hg:Gl X x) (hm:X.mg x=some u) (h:Q u s)
  (hd:(x==("__debug__" : Str))=false:=by decide):wpAny (model X.prog X.w) X.A (eval (.Name x pos) X.env) Q E s:=
 Calls.Name_function_global I.ok.kind hg (Calls.loadGlobal_global (by rw[I.ok.glob]; exact I.mod.glob.keeps I.bk) hm h) hd
theorem kJ {E:Value->Shared->Prop}{pins:List (Addr×Obj)}{s:Shared}{σ:St}{H:Hp}{x:Str}{u:Value}{pos:Pos}{Q:Value->Shared->Prop}(I:Inv X pins σ H s) (hg:Gl X x) (hm:X.mg x=none) (hv:bootBuiltins x=some u) (h:Q u s)
  (hn:x≠"__name__" := by decide) (hd:(x==("__debug__" : Str))=false:=by decide):wpAny (model X.prog X.w) X.A (eval (.Name x pos) X.env) Q E s:=by
 obtain⟨mb,h1,h2⟩:=I.mod.blt;exact Calls.Name_function_global I.ok.kind hg (Calls.loadGlobal_builtin (by rw[I.ok.glob]; exact I.mod.glob.keeps I.bk) hm (by rw[I.ok.blt]; exact h1.keeps I.bk) ((h2 x hn).trans hv) h) hd
theorem iM {x:Str}{v:V}{u:Value}{pos:Pos}(hg:Gl X x) (hm:X.mg x=some u) (r:cH v u) (hd:(x==("__debug__" : Str))=false:=by decide):PE X (.Name x pos) (tC v):=
 fun _ _ _ H _ I h=>iP I hg hm ⟨v,H,I,r,h⟩ hd
theorem uU {x:Str}{v:V}{u:Value}{pos:Pos}(hg:Gl X x) (hm:X.mg x=none) (hv:bootBuiltins x=some u) (r:cH v u) (hn:x≠"__name__" := by decide) (hd:(x==("__debug__" : Str))=false:=by decide):PE X (.Name x pos) (tC v):=
 fun _ _ _ H _ I h=>kJ I hg hm hv ⟨v,H,I,r,h⟩ hn hd

variable {a b:Expr}{ta tb:TE}{pos:Pos}

def PC (X:Cx) (op:CmpOp) (a b:Expr) (t:TE):Prop:=
 ∀ (pins:List (Addr×Obj)) (s:Shared) (σ:St) (H:Hp) (Q:VK),Inv X pins σ H s->t σ H Q ->
  wpAny (model X.prog X.w) X.A (eval a X.env) (fun v s₁=>wpAny (model X.prog X.w) X.A (eval b X.env) (fun u s₂=>wpAny (model X.prog X.w) X.A (compareOp op v u) (EP X pins σ Q) X.xe s₂) X.xe s₁) X.xe s
def tB (t:TE):TT:=fun σ H Q=>t σ H fun x H1=>∃ c,x=.bl c∧Q c H1
theorem aFg {op:CmpOp}{t:TE}(h:PC X op a b t) (h1:behindInMarks op b=false:=by first | exact nobehind _ (by decide) (by decide) | rfl):PE X (.Compare a [op] [b] pos) t:=fun pins s σ H Q I hw=>wpAny_Compare1 (h pins s σ H Q I hw) h1
theorem qV {op:CmpOp}{t:TE}(h:PC X op a b t) (h1:behindInMarks op b=false:=by first | exact nobehind _ (by decide) (by decide) | rfl):PT X (.Compare a [op] [b] pos) (tB t):=by
 intro pins s σ H Q I hw;refine wpAny_isTrue_Compare1 (thn (h pins s σ H _ I hw) fun v s1 h1=>thn h1 fun u s2 h2=>thn h2 fun c s3 ⟨x,H1,I1,r1,q1⟩=>?_) h1;obtain⟨d,rfl,q⟩:=q1;cases r1;exact wpAny_truthy_bool ⟨H1,I1,q⟩
theorem jH {e:Expr}{t:TE}(h:PE X e t) (he:∀ whole,isTrue e X.env whole=(do let v ← whole; standAt e.pos; holding [v] (truthy v)):=by intro _; rfl):PT X e (tB t):=by
 intro pins s σ H Q I hw;refine isTrue_plain (thn (h pins s σ H _ I hw) fun v s1 ⟨x,H1,I1,r1,q1⟩=>?_) (he _);obtain⟨d,rfl,q⟩:=q1;cases r1;exact wpAny_truthy_bool ⟨H1,I1,q⟩

variable {tA tB':TT}{rest:List Expr}
def aOp (t u:TT):TT:=fun σ H Q=>t σ H fun c H1=>if c=true then u σ H1 Q else Q false H1
def tOr (t u:TT):TT:=fun σ H Q=>t σ H fun c H1=>if c=true then Q true H1 else u σ H1 Q
def aOh (t:TT):TT:=fun σ H Q=>t σ H fun c H1=>Q (!c) H1
theorem aHz (ha:PT X a tA):PW X (.BoolOp .And [a] pos) tA:=by
 intro wh pins s σ H Q I h;refine isTrue_and (thn (ha pins s σ H Q I h) fun c s1 e=>?_);cases c with
 | true=>exact isTrue_and_nil e
 | false=>exact e
theorem mO (ha:PT X a tA):PW X (.BoolOp .Or [a] pos) tA:=by
 intro wh pins s σ H Q I h;refine isTrue_or (thn (ha pins s σ H Q I h) fun c s1 e=>?_);cases c with
 | false=>exact isTrue_or_nil e
 | true=>exact e
theorem aKr (ha:PT X a tA) (hb:PW X (.BoolOp .And (b::rest) pos) tB'):PW X (.BoolOp .And (a::b::rest) pos) (aOp tA tB'):=by
 intro wh pins s σ H Q I h;refine isTrue_and (thn (ha pins s σ H _ I h) fun c s1 ⟨H1,I1,q1⟩=>?_);cases c with
 | true=>exact hb wh pins s1 σ H1 Q I1 q1
 | false=>exact⟨H1,I1,q1⟩
theorem nM (ha:PT X a tA) (hb:PW X (.BoolOp .Or (b::rest) pos) tB'):PW X (.BoolOp .Or (a::b::rest) pos) (tOr tA tB'):=by
 intro wh pins s σ H Q I h;refine isTrue_or (thn (ha pins s σ H _ I h) fun c s1 ⟨H1,I1,q1⟩=>?_);cases c with
 | true=>exact⟨H1,I1,q1⟩
 | false=>exact hb wh pins s1 σ H1 Q I1 q1
theorem hZ (ha:PT X a tA):PT X (.UnaryOp .Not a pos) (aOh tA):=by
 intro pins s σ H Q I h;exact isTrue_not (thn (ha pins s σ H (fun c H1=>Q (!c) H1) I h) fun c s1 ⟨H',I',q⟩=>⟨H',I',q⟩)
inductive aNy (x:V) (H:Hp) (Q:Bool->Hp->Prop):Prop
 | mk (k:Bool) (h:x=.bl k) (q:Q k H)
def aMm (ta tb:TE):TE:=fun σ H Q=>ta σ H fun x H1=>aNy x H1 fun c H1=>if c=true then tb σ H1 Q else Q (.bl false) H1
theorem yQ {op} {t:TE}(h:PE X a t):PE X (.BoolOp op [a] pos) t:=fun pins s σ H Q I hw=>BoolOp_one (h pins s σ H Q I hw)
theorem yR (ha:PE X a ta) (hb:PE X (.BoolOp .And (b::rest) pos) tb):PE X (.BoolOp .And (a::b::rest) pos) (aMm ta tb):=by
 intro pins s σ H Q I h;refine BoolOp_and (thn (ha pins s σ H _ I h) fun v s1 ⟨x,H1,I1,r1,q1⟩=>?_);obtain⟨c,rfl,q1⟩:=q1;cases r1;refine wpAny_truthy_bool ?_;cases c with
 | true=>exact hb pins s1 σ H1 Q I1 q1
 | false=>exact⟨.bl false,H1,I1,rfl,q1⟩
def tIf (t:TT) (ta tb:TE):TE:=fun σ H Q=>t σ H fun c H1=>if c=true then ta σ H1 Q else tb σ H1 Q
theorem wO {c:Expr}(hc:PT X c tA) (ha:PE X a ta) (hb:PE X b tb):PE X (.IfExp c a b pos) (tIf tA ta tb):=by
 intro pins s σ H Q I h;refine wpAny_IfExp (thn (hc pins s σ H _ I h) fun d s1 ⟨H1,I1,q1⟩=>?_);cases d with
 | true=>exact ha pins s1 σ H1 Q I1 q1
 | false=>exact hb pins s1 σ H1 Q I1 q1
end
end L2

namespace L2
open PySem PySem.Spec PyProof.Rows

def SqL (K:PySem.W.Frag) (H:Hp) (a:Addr) (xs:List V):Prop:=
 Rd H a (.lst xs) ∨
  ∃ (o:Obj) (its:Array Value) (n:Nat),K.lookup a=some o∧o.cls=.type "list" ∧ o.dict=none∧o.data=.seq its n∧its.size<=sizeLine∧cB xs its.toList
def SqT (K:PySem.W.Frag) (H:Hp) (a:Addr) (xs:List V):Prop:=
 Rd H a (.tup xs) ∨
  ∃ (o:Obj) (its:Array Value) (n:Nat),K.lookup a=some o∧o.cls=.type "tuple" ∧ o.data=.seq its n∧its.size<=sizeLine∧cB xs its.toList
def aQc:Value->Option V
 | .none=>some .non
 | .bool b=>some (.bl b)
 | .int i _=>some (.int i)
 | .str x _=>some (.str x)
 | .bytes b _=>some (.byt b)
 | .float b _=>some (.flt b)
 | .ref a=>some (.ref a)
 | .type n=>some (.ty n)
 | _=>none
theorem cH.abs {x:V}{u:Value}(r:cH x u):aQc u=some x:=by
 cases x with
 | non=>cases r; rfl
 | bl _=>cases r; rfl
 | int _=>obtain⟨t,rfl⟩:=r; rfl
 | str _=>obtain⟨t,rfl⟩:=r; rfl
 | byt _=>obtain⟨t,rfl⟩:=r; rfl
 | flt _=>obtain⟨t,rfl⟩:=r; rfl
 | ref _=>cases r; rfl
 | ty _=>cases r; rfl
theorem cH.inj {x y:V}{u:Value}(r:cH x u) (q:cH y u):x=y:=Option.some.inj (r.abs.symm.trans q.abs)
theorem cB.inj:∀ {xs ys:List V}{us:List Value},cB xs us->cB ys us->xs=ys
 | _,_,_,.nil,.nil=>rfl
 | _,_,_,.cons r t,.cons r' t'=>by rw[r.inj r',cB.inj t t']
section
variable {X:Cx}{pins:List (Addr×Obj)}{σ:St}{H:Hp}{s:Shared}{a:Addr}{xs ys:List V}
theorem SqL.of {K:PySem.W.Frag}(h:H a=some (.lst xs)):SqL K H a xs:=.inl (.inl h)
theorem SqT.of {K:PySem.W.Frag}(h:H a=some (.tup xs)):SqT K H a xs:=.inl (.inl h)
theorem Inv.list (I:Inv X pins σ H s) (h:SqL X.K H a xs):∃ its:List Value,cB xs its∧PlainL s.heap a its.toArray∧xs.length<=sizeLine:=by
 rcases h with h | ⟨o,its,n,hk,hc,hd,hs,hz,r⟩
 ·obtain⟨z,its,n,r,e⟩:=h.ok I.hok;exact⟨its,r,⟨_,n,e,rfl,rfl,rfl⟩,z⟩
 ·refine⟨its.toList,r,⟨o,n,I.kIn a o hk,hc,hd,by simpa using hs⟩,?_⟩;have e:=r.length;simp only[Array.length_toList] at e;omega
theorem Inv.tuple (I:Inv X pins σ H s) (h:SqT X.K H a xs):∃ its:List Value,cB xs its∧IsTup s.heap a its.toArray∧xs.length<=sizeLine:=by
 rcases h with h | ⟨o,its,n,hk,hc,hs,hz,r⟩
 ·obtain⟨z,its,r,p⟩:=h.ok I.hok;exact⟨its,r,p,z⟩
 ·refine⟨its.toList,r,⟨o,I.kIn a o hk,hc,n,by simpa using hs⟩,?_⟩;have e:=r.length;simp only[Array.length_toList] at e;omega
theorem Inv.list_inj (I:Inv X pins σ H s) (h:SqL X.K H a xs) (h':SqL X.K H a ys):xs=ys:=by
 obtain⟨its,r,⟨o,n,e,_,_,d⟩,_⟩:=I.list h;obtain⟨its',r',⟨o',n',e',_,_,d'⟩,_⟩:=I.list h';rw[e] at e'; cases e';rw[d] at d';injection d' with d1 _
 have:its=its':=by simpa using congrArg Array.toList d1
 subst this;exact r.inj r'
theorem Inv.tuple_inj (I:Inv X pins σ H s) (h:SqT X.K H a xs) (h':SqT X.K H a ys):xs=ys:=by
 obtain⟨its,r,⟨o,e,_,n,d⟩,_⟩:=I.tuple h;obtain⟨its',r',⟨o',e',_,n',d'⟩,_⟩:=I.tuple h';rw[e] at e'; cases e';rw[d] at d';injection d' with d1 _
 have:its=its':=by simpa using congrArg Array.toList d1
 subst this;exact r.inj r'
end

abbrev Cx.wish (X:Cx) (E:Value->Shared->Prop):Cx:={ X with xe:=E }
abbrev Cx.nox (X:Cx):Cx:=X.wish fun _ _=>False
theorem Cx.Ok.wish {X:Cx}(ok:X.Ok) (E:Value->Shared->Prop):(X.wish E).Ok:=
 ⟨ok.mod,ok.kind,ok.glob,ok.blt,ok.above,ok.inj,ok.has,ok.cab,ok.hd,ok.frames,ok.stk,ok.exf,ok.bs,ok.bsz,ok.noex,ok.exfs,ok.funs,ok.frf⟩
theorem Cx.Ok.unwish {X:Cx}{E:Value->Shared->Prop}(ok:(X.wish E).Ok):X.Ok:=
 ⟨ok.mod,ok.kind,ok.glob,ok.blt,ok.above,ok.inj,ok.has,ok.cab,ok.hd,ok.frames,ok.stk,ok.exf,ok.bs,ok.bsz,ok.noex,ok.exfs,ok.funs,ok.frf⟩
section
variable {X:Cx}{pins:List (Addr×Obj)}{σ:St}{H:Hp}{s:Shared}{E:Value->Shared->Prop}
theorem Inv.wish (I:Inv X pins σ H s) (E:Value->Shared->Prop):Inv (X.wish E) pins σ H s:=⟨I.ok.wish E,I.os,I.bare,I.base,I.loc,I.cell,I.free,I.freeC,I.pin,I.hok,I.len⟩
theorem Inv.unwish (I:Inv (X.wish E) pins σ H s):Inv X pins σ H s:=⟨I.ok.unwish,I.os,I.bare,I.base,I.loc,I.cell,I.free,I.freeC,I.pin,I.hok,I.len⟩
theorem SP.unwish {D:rY}{f:Flow}{s':Shared}(h:SP (X.wish E) pins D f s'):SP X pins D f s':=by
 cases f with
 | next=>obtain⟨σ',H',I,q⟩:=h; exact⟨σ',H',I.unwish,q⟩
 | brk=>obtain⟨σ',H',I,q⟩:=h; exact⟨σ',H',I.unwish,q⟩
 | cont=>obtain⟨σ',H',I,q⟩:=h; exact⟨σ',H',I.unwish,q⟩
 | ret u=>obtain⟨v,σ',H',I,r,q⟩:=h; exact⟨v,σ',H',I.unwish,r,q⟩
theorem PSs.nox {st:List Stmt}{t:TS}(h:PSs X.nox st t):PSs X st t:=fun pins s σ H D I hw=>
 wpAny_mono (h pins s σ H D (I.wish _) hw) (fun _ _ q=>q.unwish) fun _ _ z=>False.elim z
end

section
variable {X:Cx}{st:Stmt}{rest:List Stmt}{t u:TS}{e:Expr}{te:TE}{pos:Pos}
def aMh:TS:=fun D σ H=>D.nx σ H
def aOf (t u:TS):TS:=fun D σ H=>t { D with nx:=u D } σ H
theorem cF:PSs X [] aMh:=fun _ _ σ H _ I h=>wpAny_execs_nil ⟨σ,H,I,h⟩
theorem aK (h1:PS X st t) (h2:PSs X rest u):PSs X (st::rest) (aOf t u):=by
 intro pins s σ H D I h;refine wpAny_execs_cons (thn (h1 pins s σ H { D with nx:=u D } I h) fun f s1 q=>?_);cases f with
 | next=>
  obtain⟨σ',H',I',q⟩:=q;exact h2 pins s1 σ' H' D I' q
 | ret v=>exact q
 | brk=>exact q
 | cont=>exact q
theorem aL (h1:PS X st t):PSs X [st] t:=by
 intro pins s σ H D I h;refine wpAny_execs_cons (thn (h1 pins s σ H D I h) fun f s1 q=>?_);cases f with
 | next=>exact wpAny_execs_nil q
 | ret v=>exact q
 | brk=>exact q
 | cont=>exact q
theorem Inv.quiet {pins:List (Addr×Obj)}{σ:St}{H:Hp}{s:Shared}(I:Inv X pins σ H s):interactive X.env=false:=by simp[interactive,I.ok.kind]
def aMj (te:TE):TS:=fun D σ H=>te σ H fun _ H1=>D.nx σ H1
theorem cW (he:PE X e te) (hs:swapsWith e none pos.line X.env=pure false:=by rfl):PS X (.Expr e pos) (aMj te):=by
 intro pins s σ H D I h;exact wpAny_Expr_any (thn (he pins s σ H _ I h) fun v s1 ⟨x,H1,I1,r1,q1⟩=>⟨σ,H1,I1,q1⟩) I.quiet hs
def aOg (te:TE):TS:=fun D σ H=>te σ H D.rt
theorem bV (he:PE X e te):PS X (.Return (some e) pos) (aOg te):=by
 intro pins s σ H D I h;exact wpAny_Return_some (thn (he pins s σ H _ I h) fun v s1 ⟨x,H1,I1,r1,q1⟩=>⟨x,σ,H1,I1,r1,q1⟩)
def aOj (c:TT) (t u:TS):TS:=fun D σ H=>c σ H fun b H1=>if b=true then t D σ H1 else u D σ H1
theorem dL {c:Expr}{a b:List Stmt}{tc:TT}(hc:PT X c tc) (ha:PSs X a t) (hb:PSs X b u):PS X (.If c a b pos) (aOj tc t u):=by
 intro pins s σ H D I h;refine wpAny_If (thn (hc pins s σ H _ I h) fun d s1 ⟨H1,I1,q1⟩=>?_);cases d with
 | true=>exact ha pins s1 σ H1 D I1 q1
 | false=>exact hb pins s1 σ H1 D I1 q1
end

abbrev TG:=V->St->Hp->(St->Hp->Prop)->Prop
abbrev TGs:=List V->St->Hp->(St->Hp->Prop)->Prop
def PG (X:Cx) (target:Expr) (t:TG):Prop:=
 ∀ (pins:List (Addr×Obj)) (s:Shared) (σ:St) (H:Hp) (v:V) (u:Value) (Q:St->Hp->Prop),Inv X pins σ H s->cH v u->t v σ H Q ->
  wpAny (model X.prog X.w) X.A (assign target X.env u) (fun _ s'=>∃ σ' H',Inv X pins σ' H' s'∧Q σ' H') X.xe s
def PGs (X:Cx) (ts:List Expr) (t:TGs):Prop:=
 ∀ (pins:List (Addr×Obj)) (s:Shared) (σ:St) (H:Hp) (vs:List V) (us:List Value) (Q:St->Hp->Prop),Inv X pins σ H s->cB vs us->t vs σ H Q ->
  wpAny (model X.prog X.w) X.A (assignInOrder ((assignEach ts X.env).map (·.2)) us) (fun _ s'=>∃ σ' H',Inv X pins σ' H' s'∧Q σ' H') X.xe s
section
variable {X:Cx}{pos:Pos}
def dU (i:Nat):TG:=fun v σ H Q=>Q (σ.set i (some v)) H
theorem aO {i:Nat}{x:Str}(hN:X.N.Nodup) (hi:X.N[i]?=some x) (hx:Loc X.env.scope x) (hf:X.fn x=true∨X.env.scope.names.lookup x=some .local:=by first | exact .inl rfl | exact .inr rfl | assumption):PG X (.Name x pos) (dU i):=by
 intro pins s σ H v u Q I r h;exact wpAny_assign_Name (qL I hN hi hx r (fun s' I'=>⟨_,H,I',h⟩) hf)
def sJ:TGs:=fun vs σ H Q=>vs=[]∧Q σ H
inductive eV (t:TG) (u:TGs) (vs:List V) (σ:St) (H:Hp) (Q:St->Hp->Prop):Prop
 | mk (v:V) (r:List V) (h1:vs=v::r) (q:t v σ H fun σ' H'=>u r σ' H' Q)

theorem dM:PGs X [] sJ:=by
 intro pins s σ H vs us Q I r h;obtain⟨e,h⟩:=h;subst e;cases r;exact assignInOrder_nil ⟨σ,H,I,h⟩
theorem aW {e:Expr}{es:List Expr}{t:TG}{u:TGs}(h1:PG X e t) (h2:PGs X es u)
  (hs:(assignEach (e::es) X.env).map (·.2)=assign e X.env::(assignEach es X.env).map (·.2):=by rfl):PGs X (e::es) (eV t u):=by
 intro pins s σ H vs us Q I r h;obtain⟨v,vr,e1,h⟩:=h;subst e1;cases r with
 | cons r rr=>
  rw[hs];refine assignInOrder_cons (thn (h1 pins s σ H _ _ _ I r h) fun _ s1 ⟨σ1,H1,I1,q1⟩=>?_);exact h2 pins s1 σ1 H1 _ _ Q I1 rr q1
inductive sI (K:PySem.W.Frag) (n:Nat) (t:TGs) (v:V) (σ:St) (H:Hp) (Q:St->Hp->Prop):Prop
 | mk (a:Addr) (xs:List V) (h1:v=.ref a) (h2:SqT K H a xs) (h3:xs.length=n) (q:t xs σ H Q)

theorem eQ {es:List Expr}{k:Nat}{t:TGs}{n:Nat}(hc:X.calm=true) (h:PGs X es t)
  (hn:(assignEach es X.env).length=n:=by rfl) (hst:(assignEach es X.env).findIdx? (·.1)=none:=by rfl):PG X (.Tuple es k pos) (sI X.K n t):=by
 intro pins s σ H v u Q I r hw;obtain⟨a,xs,e1,hq,hl,hw⟩:=hw;subst e1;cases r;obtain⟨its,rv,ht,hz⟩:=I.tuple hq;refine assign_Tuple_tuple (I.ok.hd hc) ht (by simp[hn,← hl,rv.length]) hst fun h' hx=>?_;have I1:Inv X pins σ H { s with heap:=h' }:=I.kept (t':=s.toks) fun b o e=>hx b o (Nat.ne_of_lt (Heap.lt_size e)) e;exact h pins _ σ H xs _ Q I1 (by simpa using rv) hw
def aEc (te:TE) (g:TG):TS:=fun D σ H=>te σ H fun x H1=>g x σ H1 D.nx
theorem aKs {tg e:Expr}{te:TE}{g:TG}(he:PE X e te) (hg:PG X tg g) (hs:swapsWithSole [tg] e pos.line X.env=pure false:=by rfl) (hw:swappedStores [tg] e X.env=pure none:=by rfl)
  (h1:(assignEach [tg] X.env).map (·.2)=[assign tg X.env]:=by rfl):PS X (.Assign [tg] e pos) (aEc te g):=by
 intro pins s σ H D I h;refine wpAny_Assign_stores (thn (he pins s σ H _ I h) fun v s1 ⟨x,H1,I1,r1,q1⟩=>?_) hs hw;rw[h1];exact thn (hg pins s1 σ H1 x v _ I1 r1 q1) fun _ s2 q=>q
theorem bU {i:Nat}{x:Str}{e:Expr}{te:TE}{pos':Pos}(hN:X.N.Nodup) (hi:X.N[i]?=some x) (hx:Loc X.env.scope x) (he:PE X e te) (hs:swapsWith e (some (.Name x pos')) pos.line X.env=pure false:=by rfl) (hf:X.fn x=true∨X.env.scope.names.lookup x=some .local:=by first | exact .inl rfl | exact .inr rfl | assumption) :
  PS X (.Assign [.Name x pos'] e pos) (aEc te (dU i)):=by
 intro pins s σ H D I h;refine wpAny_Assign_Name (thn (he pins s σ H _ I h) fun v s1 ⟨y,H1,I1,r1,q1⟩=>?_) hs;exact qL I1 hN hi hx r1 (fun s2 I2=>⟨_,H1,I2,q1⟩) hf
end

section
variable {X:Cx}{pos:Pos}
end

structure It where
 go:Nat->Hp->Prop
 yld:Nat->Hp->V->Hp->Prop
 stop:Nat->Hp->Prop
def kZ (X:Cx) (pins:List (Addr×Obj)) (H:Hp) (b:Addr):Prop:=
 H b=none∧b≠X.env.locals∧b∉X.fs∧(b∈X.ex∨X.s₀.heap.objs.size<=b)∧(∀ x c,X.env.cells.lookup x=some c->c≠b)∧∀ p∈X.pn++pins,p.1≠b
theorem Inv.fpOk {X:Cx}{pins:List (Addr×Obj)}{σ:St}{H H':Hp}{s:Shared}{b:Addr}(I:Inv X pins σ H s) (hb:s.heap.objs.size<=b) (hn:H' b=none):kZ X pins H' b:=by
 refine⟨hn,Nat.ne_of_gt (Nat.lt_of_lt_of_le I.lt hb),I.nofs hb,.inr (Nat.le_trans I.sz hb),fun x c e z=>?_,fun p hp z=>?_⟩
 ·obtain⟨v,q⟩:=I.cell x c e;exact absurd (Nat.lt_of_lt_of_le q.lt (by rw[z]; exact hb)) (Nat.lt_irrefl _)
 ·exact absurd (Nat.lt_of_lt_of_le (Heap.lt_size (I.pin p hp).1) (by rw[z]; exact hb)) (Nat.lt_irrefl _)
structure zX (P:Program) (w:World) (K:PySem.W.Frag) (tg:Expr) (J:It) (fp:List Addr) (it:Addr) (tn:Nat->Heap->Prop):Prop where
 mem:it∈fp
 obj:∀ i h,tn i h->∀ b∈fp,∃ o,h.get? b=some o∧∀ v,o.data≠.cell v
 keep:∀ i h h',tn i h->(∀ b∈fp,∀ o,h.get? b=some o->h'.get? b=some o)->tn i h'
 item:∀ (X:Cx),X.prog=P->X.w=w->X.K=K->X.calm=true->∀ (i:Nat) (pins:List (Addr×Obj)) (s:Shared) (σ:St) (H:Hp) (E:Value->Shared->Prop),Inv X pins σ H s->(∀ b∈fp,kZ X pins H b)->tn i s.heap->J.go i H ->
  wpAny (model P w) X.A (pyNext (.ref it)) (fun r s1=>∃ u,r=some u ∧
   wpAny (model P w) X.A (letOwnedTupleGo tg (.ref it) u) (fun _ s2=>∃ x H',Inv X pins σ H' s2∧cH x u∧J.yld i H x H'∧tn (i+1) s2.heap∧∀ b∈fp,H' b=none) E s1) E s
 done:∀ (X:Cx),X.prog=P->X.w=w->X.K=K->X.calm=true->∀ (i:Nat) (pins:List (Addr×Obj)) (s:Shared) (σ:St) (H:Hp) (E:Value->Shared->Prop),Inv X pins σ H s->(∀ b∈fp,kZ X pins H b)->tn i s.heap->J.stop i H ->
  wpAny (model P w) X.A (pyNext (.ref it)) (fun r s1=>r=none∧Inv X pins σ H s1) E s
 self:∀ (A:Around) (i:Nat) (s:Shared) (Q:Value->Shared->Prop) (E:Value->Shared->Prop),tn i s.heap->Q (.ref it) s->wpAny (model P w) A (pyIter (.ref it)) Q E s
abbrev TI:=St->Hp->(It->Hp->Prop)->Prop
def PIE (X:Cx) (pins:List (Addr×Obj)) (σ:St) (tg:Expr) (R:It->Hp->Prop) (itv:Value) (s2:Shared):Prop:=
 ∃ (it:Addr) (fp:List Addr) (tn:Nat->Heap->Prop) (J:It) (H':Hp),itv=.ref it∧Inv X pins σ H' s2∧zX X.prog X.w X.K tg J fp it tn∧tn 0 s2.heap∧(∀ b∈fp,kZ X pins H' b)∧R J H'
def PI (X:Cx) (tg iter:Expr) (wi:TI):Prop:=
 ∀ (pins:List (Addr×Obj)) (s:Shared) (σ:St) (H:Hp) (R:It->Hp->Prop),Inv X pins σ H s->wi σ H R ->
  wpAny (model X.prog X.w) X.A (eval iter X.env) (fun v s1=>wpAny (model X.prog X.w) X.A (pyIter v) (PIE X pins σ tg R) X.xe s1) X.xe s

theorem aGn {M:Model}{A:Around}{E:Value->Shared->Prop}{s:Shared}{tg:Expr}{it:Addr}{u:Value}{o:Obj}{n:String}{vs:Array Value}{Q:Unit->Shared->Prop}(ho:s.heap.get? it=some o) (hc:o.cls=.type n) (hd:o.data=.fields vs)
  (hn:["enumerate","zip","dict_itemiterator","dict_reverseitemiterator","odict_iterator","itertools.zip_longest","itertools.pairwise"].contains n=false) (hQ:Q () s):wpAny M A (letOwnedTupleGo tg (.ref it) u) Q E s:=by
 unfold letOwnedTupleGo
 cases tg <;> first
  | exact wpAny_pure hQ
  | (cases u <;> first
    | exact wpAny_pure hQ
    | (refine wpAny_bind (wpAny_load ho ?_)
       rw[hc,hd];show wpAny M A (if (["enumerate","zip","dict_itemiterator","dict_reverseitemiterator","odict_iterator","itertools.zip_longest","itertools.pairwise"].contains n&&vs[0]?==some (rawInt _))=true then _ else _) Q E s
       rw[if_neg (by intro h; rw[hn,Bool.false_and] at h; cases h)];exact wpAny_pure hQ))

def Itl (K:PySem.W.Frag) (a:Addr):It:=
 ⟨fun i H=>∃ xs x,SqL K H a xs∧xs[i]?=some x,fun i H x H'=>H'=H∧∀ xs,SqL K H a xs->xs[i]?=some x,fun i H=>∃ xs,SqL K H a xs∧xs.length<=i⟩
def Itr (lo:Int) (n:Nat):It:=⟨fun i _=>i<n,fun i H x H'=>H'=H∧x=.int (lo+i),fun i _=>n<=i⟩
theorem aBn {P:Program}{w:World}{K:PySem.W.Frag}{tg:Expr}(a it:Addr):zX P w K tg (Itl K a) [it] it (fun i h=>h.IsListIter it a i) where
 mem:=by simp
 obj:=fun i h st b hb=>by
  have e:b=it:=by simpa using hb
  subst e;obtain⟨o,e,c,d⟩:=st;exact⟨o,e,fun v z=>by rw[d] at z; cases z⟩
 keep:=fun i h h' st k=>st.at fun o e=>k it (by simp) o e
 item:=by
  intro X hP hw hK hc i pins s σ H E I hf st hg;subst hP hw hK;obtain⟨xs,x,hq,hx⟩:=hg;obtain⟨its,rv,p,hz⟩:=I.list hq;obtain⟨u,hu,ru⟩:=rv.get hx;obtain⟨f0,f1,f2,f3,f4,f5⟩:=hf it (by simp);refine wpAny_pyNext_list_item st p.isList (x:=u) (by simpa using hu) fun h' st' sb=>?_;have I1:Inv X pins σ H { s with heap:=h' }:=I.turned (t':=s.toks) (fun b o hb e=>(sb.2 b hb).trans e) f0 f1 f3 f4 f5;obtain⟨o,e,c,d⟩:=id st';exact⟨u,rfl,aGn (s:={ s with heap:=h' }) e c d (by decide) ⟨x,H,I1,ru,⟨rfl,fun ys hy=>by rw[I.list_inj hy hq]; exact hx⟩,st',fun b hb=>(hf b hb).1⟩⟩
 done:=by
  intro X hP hw hK hc i pins s σ H E I hf st hg;subst hP hw hK;obtain⟨xs,hq,hx⟩:=hg;obtain⟨its,rv,p,hz⟩:=I.list hq;obtain⟨f0,f1,f2,f3,f4,f5⟩:=hf it (by simp);have hl:=rv.length;exact wpAny_pyNext_list_end (I.ok.hd hc) st p.isList (by simp; omega) fun h' eb=>⟨rfl,I.turned (t':=s.toks) (fun b o hb e=>eb b o hb e) f0 f1 f3 f4 f5⟩
 self:=fun _ _ _ _ _ st h=>wpAny_pyIter_listiter st h
theorem yC {P:Program}{w:World}{K:PySem.W.Frag}{tg:Expr}(it:Addr) (lo:Int) (n:Nat):zX P w K tg (Itr lo n) [it] it (fun i h=>IsRangeIter h it (lo+(i:Nat)*1) ((n:Int)-(i:Nat)) 1) where
 mem:=by simp
 obj:=fun i h st b hb=>by
  have e:b=it:=by simpa using hb
  subst e
  exact⟨_,st,fun v z=>by
   have z':Data.fields _=Data.cell v:=z;cases z'⟩
 keep:=fun i h h' st k=>k it (by simp) _ st
 item:=by
  intro X hP hw hK hc i pins s σ H E I hf st hg;subst hP hw hK;obtain⟨f0,f1,f2,f3,f4,f5⟩:=hf it (by simp);have W:=Walks.range (prog:=X.prog) (w:=X.w) (I.ok.hd hc) it lo 1 n;refine W.item i s _ _ hg st fun v h' tk hv st' kk=>?_;obtain⟨t,rfl⟩:=hv;have I1:Inv X pins σ H { s with heap:=h',toks:=tk }:=I.turned (fun b o hb e=>kk b o (by simpa using hb) e) f0 f1 f3 f4 f5;refine⟨_,rfl,aGn (s:={ s with heap:=h',toks:=tk }) (n:="range_iterator") st' rfl rfl (by decide) ⟨.int (lo+i),H,I1,⟨t,?_⟩,⟨rfl,rfl⟩,st',fun b hb=>(hf b hb).1⟩⟩;rw[Int.mul_one]
 done:=by
  intro X hP hw hK hc i pins s σ H E I hf st hg;subst hP hw hK;obtain⟨f0,f1,f2,f3,f4,f5⟩:=hf it (by simp);exact wpAny_pyNext_range_end (I.ok.hd hc) st (by have:n<=i:=hg; omega) fun h' eb=>⟨rfl,I.turned (t':=s.toks) (fun b o hb e=>eb b o hb e) f0 f1 f3 f4 f5⟩
 self:=fun _ _ _ _ _ st h=>wpAny_pyIter_rangeiter st h
end L2

namespace L2
open PySem PySem.Spec PyProof.Rows
section
variable {X:Cx}{tg:Expr}
inductive aQk (K:PySem.W.Frag) (x:V) (H1:Hp) (R:It->Hp->Prop):Prop
 | mk (a:Addr) (h1:x=.ref a) (h2:∃ xs,SqL K H1 a xs) (r:R (Itl K a) H1)
def aNe (K:PySem.W.Frag) (tl:TE):TI:=fun σ H R=>tl σ H fun x H1=>aQk K x H1 R
theorem cS {l:Expr}{tl:TE}(hl:PE X l tl):PI X tg l (aNe X.K tl):=by
 intro pins s σ H R I h;refine thn (hl pins s σ H _ I h) fun v s1 ⟨x,H1,I1,r1,q1⟩=>?_;obtain⟨a,e,⟨xs,hq⟩,q⟩:=q1;subst e;cases r1;obtain⟨its,rv,p,hz⟩:=I1.list hq;refine wpAny_pyIter_list p.isList ?_;refine⟨s1.heap.objs.size,[s1.heap.objs.size],_,_,H1,rfl,I1.kept (t':=s1.toks) fun b o e=>Heap.get?_push_of_some _ e,aBn a _,⟨_,Heap.get?_push_size _ rfl,rfl,rfl⟩,fun b hb=>?_,q⟩;have e:b=s1.heap.objs.size:=by simpa using hb
 subst e;exact I1.fpOk (Nat.le_refl _) (I1.hok.fresh (Nat.le_refl _))
theorem wJ {pins:List (Addr×Obj)}{σ:St}{H:Hp}{s:Shared}{R:It->Hp->Prop}{E:Value->Shared->Prop}{lo hi:Int}{t u v:Tok}{tk:Nat}(I:Inv X pins σ H s) (h1:-(2^62)<=lo) (h2:lo<2^62) (h3:-(2^62)<=hi) (h4:hi<2^62)
  (q:R (Itr lo (hi-lo).toNat) H):wpAny (model X.prog X.w) X.A (pyIter (.ref s.heap.objs.size)) (PIE X pins σ tg R) E { s with heap:=s.heap.push { cls:=.type "range",data:=.fields #[.int lo t,.int hi u,.int 1 v] },toks:=tk }:=by
 refine wpAny_pyIter_range (IsRange.new ..) (small_one h1 h2 h3 h4) ?_;have I1:Inv X pins σ H { s with heap:=s.heap.push { cls:=.type "range",data:=.fields #[.int lo t,.int hi u,.int 1 v] },toks:=tk }:=I.kept fun b o e=>Heap.get?_push_of_some _ e
 refine⟨(s.heap.push { cls:=.type "range",data:=.fields #[.int lo t,.int hi u,.int 1 v] }).objs.size,[(s.heap.push { cls:=.type "range",data:=.fields #[.int lo t,.int hi u,.int 1 v] }).objs.size],_,_,H,rfl,
  I1.kept (t':=tk) fun b o e=>Heap.get?_push_of_some _ e,yC _ lo (hi-lo).toNat,?_,fun b hb=>?_,q⟩
 ·have e1:lo+((0:Nat):Int)*1=lo:=by simp
  have e2:(((hi-lo).toNat:Nat):Int)-((0:Nat):Int)=Builtin.Range.rangeSize lo hi 1:=by rw[rangeSize_one]; split <;> omega
  show IsRangeIter _ _ (lo+((0:Nat):Int)*1) ((((hi-lo).toNat:Nat):Int)-((0:Nat):Int)) 1;rw[e1,e2];exact Heap.get?_push_size _ rfl
 ·have e:b=(s.heap.push { cls:=.type "range",data:=.fields #[.int lo t,.int hi u,.int 1 v] }).objs.size:=by simpa using hb
  subst e;exact I1.fpOk (Nat.le_refl _) (I1.hok.fresh (Nat.le_refl _))
inductive aQj (vs:List V) (H1:Hp) (R:It->Hp->Prop):Prop
 | mk (j:Int) (h1:vs=[.int j]) (h2:-(2^62)<=j) (h3:j<2^62) (r:R (Itr 0 j.toNat) H1)
def aNd (ta:TA):TI:=fun σ H R=>ta σ H fun vs H1=>aQj vs H1 R
def aNc (ta:TA):TI:=fun σ H R=>ta σ H fun vs H1=>∃ i j:Int,vs=[.int i,.int j]∧(-(2^62)<=i∧i<2^62∧-(2^62)<=j∧j<2^62)∧R (Itr i (j-i).toNat) H1
theorem gS {a:Expr}{ta:TA}{p pos:Pos}(hg:Gl X "range") (hm:X.mg "range" = none) (ha:PA X [a] ta) (hs:starEach [a] X.env=[(false,eval a X.env)]:=by rfl):PI X tg (.Call (.Name "range" p) [a] [] pos) (aNd ta):=by
 intro pins s σ H R I h;refine Call_ (kJ I hg hm boot_range (PyProof.Rows.callWith_type1 (thn (ha pos pins s σ H _ I h) fun us s1 ⟨vs,H1,I1,r1,q1⟩=>?_) hs rfl));obtain⟨j,e,q1,q2,q⟩:=q1;subst e;cases r1 with
 | cons r rr=>
  cases rr;obtain⟨t,rfl⟩:=r;exact call_range_1 (wJ I1 (by omega) (by omega) q1 q2 (by simpa using q))
theorem aCd {a b:Expr}{ta:TA}{p pos:Pos}(hg:Gl X "range") (hm:X.mg "range" = none) (ha:PA X [a,b] ta) (hs:starEach [a,b] X.env=[(false,eval a X.env),(false,eval b X.env)]:=by rfl) (hs2:starEach [b] X.env=[(false,eval b X.env)]:=by rfl) :
  PI X tg (.Call (.Name "range" p) [a,b] [] pos) (aNc ta):=by
 intro pins s σ H R I h;refine Call_ (kJ I hg hm boot_range (PyProof.Rows.callWith_type1 (thn (ha pos pins s σ H _ I h) fun us s1 ⟨vs,H1,I1,r1,q1⟩=>?_) (by rw[hs,hs2]) (by rw[hs2]; rfl)));obtain⟨i,j,e,⟨q1,q2,q3,q4⟩,q⟩:=q1;subst e;cases r1 with
 | cons r rr=>
  cases rr with
  | cons r' rr=>
   cases rr;obtain⟨t,rfl⟩:=r;obtain⟨t',rfl⟩:=r';exact call_range_2 (wJ I1 q1 q2 q3 q4 q)

def aOk (wi:TI) (g:TG) (tb:TS):TS:=fun D σ H=>wi σ H fun J H1=>∃ W:Nat->Nat->St->Hp->Prop,(∃ m,W 0 m σ H1)∧∀ i m σ H,W i m σ H ->
 (J.stop i H∧D.nx σ H)∨(J.go i H∧∃ N:St->Hp->Prop,(∀ σ' H',N σ' H'->∃ m',m'<m∧W (i+1) m' σ' H')∧∀ x H',J.yld i H x H'->g x σ H' fun σ2 H2=>tb { D with nx:=N,ct:=N,bk:=D.nx } σ2 H2)
def qW (fp:List Addr) (h:Heap):List (Addr×Obj):=fp.filterMap fun b=>(h.get? b).map fun o=>(b,o)
theorem jM {fp:List Addr}{h:Heap}{b:Addr}{o:Obj}(hb:b∈fp) (e:h.get? b=some o):(b,o)∈qW fp h:=List.mem_filterMap.mpr ⟨b,hb,by rw[e]; rfl⟩
theorem aCq {fp:List Addr}{h:Heap}{p:Addr×Obj}(hp:p∈qW fp h):p.1∈fp∧h.get? p.1=some p.2:=by
 obtain⟨b,hb,e⟩:=List.mem_filterMap.mp hp;cases q:h.get? b with
 | none=>rw[q] at e; cases e
 | some o=>
  rw[q] at e;have e':(b,o)=p:=Option.some.inj e;subst e';exact⟨hb,q⟩
theorem Inv.pinned {pins:List (Addr×Obj)}{σ:St}{H:Hp}{s:Shared}{fp:List Addr}(I:Inv X pins σ H s) (hf:∀ b∈fp,kZ X pins H b) (ho:∀ b∈fp,∃ o,s.heap.get? b=some o∧∀ v,o.data≠.cell v):Inv X (pins++qW fp s.heap) σ H s:=
 I.pins_of fun p hp=>(List.mem_append.mp hp).elim (fun z=>I.pin p (List.mem_append_right _ z)) fun z=>by
  obtain⟨hb,e⟩:=aCq z;obtain⟨f0,f1,f2,_⟩:=hf p.1 hb;obtain⟨o,e',d⟩:=ho p.1 hb;rw[e] at e'; cases e';exact⟨e,f0,f1,f2,d⟩
theorem Inv.unpinned {pins pl:List (Addr×Obj)}{σ:St}{H:Hp}{s:Shared}(I:Inv X (pins++pl) σ H s):Inv X pins σ H s:=I.pins_of fun p hp=>I.pin p (List.mem_append_right _ (List.mem_append_left _ hp))
theorem eG {iter:Expr}{body:List Stmt}{wi:TI}{g:TG}{tb:TS}{pos:Pos}(hp:PassesOwn (model X.prog X.w) X.A X.env X.xe) (hc:X.calm=true) (hi:PI X tg iter wi) (hg:PG X tg g) (hb:PSs X body tb)
  (hs:∀ x,foldedSetIterable iter X.env x=pure x:=by intro _; rfl):PS X (.For tg iter body [] pos) (aOk wi g tb):=by
 intro pins s σ H D I h;refine wpAny_For (thn (hi pins s σ H _ I h) fun v s1 h1=>thn h1 fun itv s2 h2=>?_) hs;obtain⟨it,fp,tn,J,H2,e,I2,T,st2,f2,W,⟨m0,w0⟩,turn⟩:=h2;subst e
 -- what stays true of the iterator's objects through the loop
 have stat:∀ {H':Hp},(∀ b∈fp,H' b=none)->∀ b∈fp,kZ X pins H' b:=fun hn b hb=>⟨hn b hb,(f2 b hb).2⟩;refine codeAny_forLoop_any (fun n s'=>∃ i σ' H',Inv X pins σ' H' s'∧tn i s'.heap∧(∀ b∈fp,H' b=none)∧W i n σ' H') ?_ m0 ⟨0,σ,H2,I2,st2,fun b hb=>(f2 b hb).1,w0⟩;rintro n s3 ⟨i,σ3,H3,I3,st3,fr3,w3⟩;rcases turn i n σ3 H3 w3 with⟨stop,qn⟩ | ⟨go,N,hN,step⟩
 ·refine wpAny_passesOwn hp (thn (T.done X rfl rfl rfl hc i pins s3 σ3 H3 X.xe I3 (stat fr3) st3 stop) fun r s4 ⟨hr,I4⟩=>?_);subst hr;exact wpAny_execs_nil ⟨σ3,H3,I4,qn⟩
 ·refine wpAny_passesOwn hp (thn (T.item X rfl rfl rfl hc i pins s3 σ3 H3 X.xe I3 (stat fr3) st3 go) fun r s4 ⟨u,hr,h4⟩=>?_);subst hr;refine wpAny_passesOwn hp (thn h4 fun _ s5 ⟨x,H5,I5,r5,y5,st5,fr5⟩=>?_);have I5':=I5.pinned (stat fr5) (T.obj _ _ st5);refine wpAny_passesOwn hp (thn (hg _ s5 σ3 H5 x u _ I5' r5 (step x H5 y5)) fun _ s6 ⟨σ6,H6,I6,q6⟩=>?_);refine wpAny_passesOwn hp (thn (hb _ s6 σ6 H6 _ I6 q6) fun f s7 q7=>?_)
  have again:∀ {σ7:St}{H7:Hp},Inv X (pins++qW fp s5.heap) σ7 H7 s7->N σ7 H7->∃ m,m<n∧∃ i σ' H',Inv X pins σ' H' s7∧tn i s7.heap∧(∀ b∈fp,H' b=none)∧W i m σ' H':=fun {σ7 H7} I7 n7=>by
   obtain⟨m',hm,w7⟩:=hN σ7 H7 n7;refine⟨m',hm,i+1,σ7,H7,I7.unpinned,T.keep _ _ _ st5 fun b hb o e=>(I7.pin (b,o) (List.mem_append_right _ (List.mem_append_right _ (jM hb e)))).1,fun b hb=>?_,w7⟩;obtain⟨o,e,d⟩:=T.obj _ _ st5 b hb;exact (I7.pin (b,o) (List.mem_append_right _ (List.mem_append_right _ (jM hb e)))).2.1
  cases f with
  | next=>obtain⟨σ7,H7,I7,n7⟩:=q7; exact again I7 n7
  | cont=>obtain⟨σ7,H7,I7,n7⟩:=q7; exact again I7 n7
  | brk=>obtain⟨σ7,H7,I7,q7⟩:=q7; exact⟨σ7,H7,I7.unpinned,q7⟩
  | ret v=>obtain⟨x7,σ7,H7,I7,r7,q7⟩:=q7; exact⟨x7,σ7,H7,I7.unpinned,r7,q7⟩
end

theorem dQ {K:PySem.W.Frag}{a:Addr}{xs:List V}{g:TG}{tb:TS}{D:rY}{σ:St}{H:Hp}(Pv:Nat->St->Hp->Prop) (h0:Pv 0 σ H) (hl:∀ i σ H,i<=xs.length->Pv i σ H->SqL K H a xs)
  (hs:∀ i x σ H,xs[i]?=some x->Pv i σ H->g x σ H fun σ2 H2=>tb { D with nx:=Pv (i+1),ct:=Pv (i+1),bk:=D.nx } σ2 H2) (hd:∀ σ H,Pv xs.length σ H->D.nx σ H) :
  ∃ W:Nat->Nat->St->Hp->Prop,(∃ m,W 0 m σ H)∧∀ i m σ H,W i m σ H ->
   ((Itl K a).stop i H∧D.nx σ H)∨((Itl K a).go i H∧∃ N:St->Hp->Prop,(∀ σ' H',N σ' H'->∃ m',m'<m∧W (i+1) m' σ' H')∧∀ x H',(Itl K a).yld i H x H'->g x σ H' fun σ2 H2=>tb { D with nx:=N,ct:=N,bk:=D.nx } σ2 H2):=by
 refine⟨fun i m σ H=>m=xs.length-i∧i<=xs.length∧Pv i σ H,⟨xs.length,by simp,Nat.zero_le _,h0⟩,?_⟩;rintro i m σ H ⟨rfl,hi,p⟩;have q:=hl i σ H hi p
 by_cases hlt:i<xs.length
 ·refine .inr ⟨⟨xs,xs[i],q,by simp[hlt]⟩,Pv (i+1),fun σ' H' p'=>⟨xs.length-(i+1),by omega,rfl,hlt,p'⟩,fun x H' y=>?_⟩;obtain⟨e,y⟩:=y;subst e;exact hs i x σ _ (y xs q) p
 ·have e:i=xs.length:=by omega
  subst e;exact .inl ⟨⟨xs,q,Nat.le_refl _⟩,hd σ H p⟩
theorem tX {lo:Int}{n:Nat}{g:TG}{tb:TS}{D:rY}{σ:St}{H:Hp}(Pv:Nat->St->Hp->Prop) (h0:Pv 0 σ H)
  (hs:∀ i σ H,i<n->Pv i σ H->g (.int (lo+i)) σ H fun σ2 H2=>tb { D with nx:=Pv (i+1),ct:=Pv (i+1),bk:=D.nx } σ2 H2) (hd:∀ σ H,Pv n σ H->D.nx σ H) :
  ∃ W:Nat->Nat->St->Hp->Prop,(∃ m,W 0 m σ H)∧∀ i m σ H,W i m σ H ->
   ((Itr lo n).stop i H∧D.nx σ H)∨((Itr lo n).go i H∧∃ N:St->Hp->Prop,(∀ σ' H',N σ' H'->∃ m',m'<m∧W (i+1) m' σ' H')∧∀ x H',(Itr lo n).yld i H x H'->g x σ H' fun σ2 H2=>tb { D with nx:=N,ct:=N,bk:=D.nx } σ2 H2):=by
 refine⟨fun i m σ H=>m=n-i∧i<=n∧Pv i σ H,⟨n,by simp,Nat.zero_le _,h0⟩,?_⟩;rintro i m σ H ⟨rfl,hi,p⟩
 by_cases hlt:i<n
 ·refine .inr ⟨hlt,Pv (i+1),fun σ' H' p'=>⟨n-(i+1),by omega,rfl,hlt,p'⟩,fun x H' y=>?_⟩;obtain⟨e,y⟩:=y;subst e y;exact hs i σ _ hlt p
 ·have e:i=n:=by omega
  subst e;exact .inl ⟨Nat.le_refl _,hd σ H p⟩
end L2

namespace L2
open PySem PySem.Spec PyProof.Rows

abbrev R2:=V->V->Hp->VK->Prop
def OpR (X:Cx) (f:Value->Value->Sem Value) (r:R2):Prop:=
 ∀ (pins:List (Addr×Obj)) (s:Shared) (σ:St) (H:Hp) (x y:V) (v u:Value) (Q:VK),Inv X pins σ H s->cH x v->cH y u->r x y H Q ->
  wpAny (model X.prog X.w) X.A (f v u) (EP X pins σ Q) X.xe s
def UnR (X:Cx) (f:Value->Sem Value) (r:V->Hp->VK->Prop):Prop:=
 ∀ (pins:List (Addr×Obj)) (s:Shared) (σ:St) (H:Hp) (x:V) (v:Value) (Q:VK),Inv X pins σ H s->cH x v->r x H Q ->
  wpAny (model X.prog X.w) X.A (f v) (EP X pins σ Q) X.xe s
def CallR (X:Cx) (f:Value) (r:List V->Hp->VK->Prop):Prop:=
 ∀ (pins:List (Addr×Obj)) (s:Shared) (σ:St) (H:Hp) (xs:List V) (us:List Value) (Q:VK),Inv X pins σ H s->cB xs us->r xs H Q ->
  wpAny (model X.prog X.w) X.A (call f us) (EP X pins σ Q) X.xe s
def aQd (X:Cx) (r:V->Hp->(Bool->Hp->Prop)->Prop):Prop:=
 ∀ (pins:List (Addr×Obj)) (s:Shared) (σ:St) (H:Hp) (x:V) (v:Value) (Q:Bool->Hp->Prop),Inv X pins σ H s->cH x v->r x H Q ->
  wpAny (model X.prog X.w) X.A (truthy v) (TP X pins σ Q) X.xe s

def tOp (r:R2) (ta tb:TE):TE:=fun σ H Q=>ta σ H fun x H1=>tb σ H1 fun y H2=>r x y H2 Q
def tUn (r:V->Hp->VK->Prop) (ta:TE):TE:=fun σ H Q=>ta σ H fun x H1=>r x H1 Q
inductive rI (C:Int->Int->Prop) (g:Int->Int->V) (x:V) (y:V) (H:Hp) (Q:VK):Prop
 | mk (i:_) (j:_) (h0_:x=.int i) (h1_:y=.int j) (h2_:C i j) (h3_:Q (g i j) H)
inductive rI0 (g:Int->Int->V) (x:V) (y:V) (H:Hp) (Q:VK):Prop
 | mk (i:_) (j:_) (h0_:x=.int i) (h1_:y=.int j) (h2_:Q (g i j) H)
def rU (g:Int->V):V->Hp->VK->Prop:=fun x H Q=>∃ i,x=.int i∧Q (g i) H

section
variable {X:Cx}{a b c:Expr}{ta tb tc:TE}{pos:Pos}

theorem aLt (ha:PE X a ta) (hb:PE X b tb){pins:List (Addr×Obj)}{s:Shared}{σ:St}{H:Hp}{R:V->V->Hp->Prop}(I:Inv X pins σ H s)
  (h:ta σ H fun x H1=>tb σ H1 fun y H2=>R x y H2){Q:Value->Shared->Prop}{f:Value->Value->Sem Value}
  (hf:∀ v u s2 x y H2,Inv X pins σ H2 s2->cH x v->cH y u->R x y H2->wpAny (model X.prog X.w) X.A (f v u) Q X.xe s2) :
  wpAny (model X.prog X.w) X.A (eval a X.env) (fun v s₁=>wpAny (model X.prog X.w) X.A (eval b X.env) (fun u s₂=>wpAny (model X.prog X.w) X.A (f v u) Q X.xe s₂) X.xe s₁) X.xe s:=by
 refine thn (ha pins s σ H _ I h) fun v s1 ⟨x,H1,I1,r1,q1⟩=>?_;refine thn (hb pins s1 σ H1 _ I1 q1) fun u s2 ⟨y,H2,I2,r2,q2⟩=>?_;exact hf v u s2 x y H2 I2 r1 r2 q2

theorem aU {op:Operator}{r:R2}(ho:OpR X (binaryOp op) r) (ha:PE X a ta) (hb:PE X b tb):PE X (.BinOp a op b pos) (tOp r ta tb):=by
 intro pins s σ H Q I h;exact wpAny_BinOp (aLt ha hb I h fun v u s2 x y H2 I2 rx ry q=>ho pins s2 σ H2 x y v u Q I2 rx ry q)
theorem aFc {op:UnaryOp}{r:V->Hp->VK->Prop}(ho:UnR X (unaryOp op) r) (ha:PE X a ta):PE X (.UnaryOp op a pos) (tUn r ta):=by
 intro pins s σ H Q I h;exact UnaryOp_ (thn (ha pins s σ H _ I h) fun v s1 ⟨x,H1,I1,r1,q1⟩=>ho pins s1 σ H1 x v Q I1 r1 q1)

theorem opI {f:Value->Value->Sem Value}{C:Int->Int->Prop}{g:Int->Int->Int}
  (rule:∀ (i j:Int) (t u:Tok) (s:Shared) (Q:Value->Shared->Prop) (E:Value->Shared->Prop),C i j->Q (.int (g i j) s.toks) { s with toks:=s.toks+1 }->wpAny (model X.prog X.w) X.A (f (.int i t) (.int j u)) Q E s) :
  OpR X f (rI C fun i j=>.int (g i j)):=by
 intro pins s σ H x y v u Q I rx ry h;obtain⟨i,j,rfl,rfl,hc,q⟩:=h;obtain⟨t,rfl⟩:=rx;obtain⟨t',rfl⟩:=ry;exact rule i j t t' s _ _ hc ⟨.int (g i j),H,I.tok _,⟨_,rfl⟩,q⟩
theorem aMw {f:Value->Value->Sem Value}{g:Int->Int->Int}
  (rule:∀ (i j:Int) (t u:Tok) (s:Shared) (Q:Value->Shared->Prop) (E:Value->Shared->Prop),Q (.int (g i j) s.toks) { s with toks:=s.toks+1 }->wpAny (model X.prog X.w) X.A (f (.int i t) (.int j u)) Q E s) :
  OpR X f (rI0 fun i j=>.int (g i j)):=by
 intro pins s σ H x y v u Q I rx ry h;obtain⟨i,j,rfl,rfl,q⟩:=h;obtain⟨t,rfl⟩:=rx;obtain⟨t',rfl⟩:=ry;exact rule i j t t' s _ _ ⟨.int (g i j),H,I.tok _,⟨_,rfl⟩,q⟩
theorem aMx {f:Value->Value->Sem Value}{g:Int->Int->Bool}
  (rule:∀ (i j:Int) (t u:Tok) (s:Shared) (Q:Value->Shared->Prop) (E:Value->Shared->Prop),Q (.bool (g i j)) s->wpAny (model X.prog X.w) X.A (f (.int i t) (.int j u)) Q E s) :
  OpR X f (rI0 fun i j=>.bl (g i j)):=by
 intro pins s σ H x y v u Q I rx ry h;obtain⟨i,j,rfl,rfl,q⟩:=h;obtain⟨t,rfl⟩:=rx;obtain⟨t',rfl⟩:=ry;exact rule i j t t' s _ _ ⟨.bl (g i j),H,I,rfl,q⟩

def aQn (i j:Int):Prop:=0<j∧j<1073741824
def aMc (i j:Int):Prop:=(-(2^64)<i∧i<2^64)∨(-(2^64)<j∧j<2^64)
theorem aMc.ok {i j:Int}(h:aMc i j):IntMulOk i j:=by
 rcases h with⟨h1,h2⟩ | ⟨h1,h2⟩
 ·exact .of_left (intBits_le_64 h1 h2)
 ·exact .of_right (intBits_le_64 h1 h2)

theorem eI:OpR X (binaryOp .Add) (rI0 fun i j=>.int (i+j)):=aMw fun _ _ _ _ _ _ _ q=>add_int q
theorem aKw:OpR X (binaryOp .Sub) (rI0 fun i j=>.int (i-j)):=aMw fun _ _ _ _ _ _ _ q=>sub_int q
theorem mU:OpR X (binaryOp .Mult) (rI aMc fun i j=>.int (i*j)):=opI fun _ _ _ _ _ _ _ hc q=>mul_int q hc.ok
theorem eU:OpR X (binaryOp .FloorDiv) (rI aQn fun i j=>.int (i/j)):=opI fun i j _ _ _ _ _ hc q=>by
 have h1:(0:Int)<j:=hc.1;have h2:j<1073741824:=hc.2;exact floordiv_int (by omega) (by rw[Int.fdiv_eq_ediv_of_nonneg i (by omega)]; exact q) (.inl (PyProof.noPylong_small (by omega)))
theorem dA:OpR X (binaryOp .Mod) (rI (fun _ j=>0<j) fun i j=>.int (i%j)):=opI fun i j _ _ _ _ _ hc q=>by
 have h1:(0:Int)<j:=hc;exact mod_int' (by omega) (by rw[Int.fmod_eq_emod_of_nonneg i (by omega)]; exact q)


theorem unI {f:Value->Sem Value}{g:Int->Int}
  (rule:∀ (i:Int) (t:Tok) (s:Shared) (Q:Value->Shared->Prop) (E:Value->Shared->Prop),Q (.int (g i) s.toks) { s with toks:=s.toks+1 }->wpAny (model X.prog X.w) X.A (f (.int i t)) Q E s) :
  UnR X f (rU fun i=>.int (g i)):=by
 intro pins s σ H x v Q I rx h;obtain⟨i,rfl,q⟩:=h;obtain⟨t,rfl⟩:=rx;exact rule i t s _ _ ⟨.int (g i),H,I.tok _,⟨_,rfl⟩,q⟩
theorem yB:UnR X (unaryOp .USub) (rU fun i=>.int (-i)):=unI fun _ _ _ _ _ q=>neg_int q

end

def aMo:V->V->Bool
 | .non,.non=>true | .non,.int _=>true | .int _,.non=>true | .non,.bl _=>true | .bl _,.non=>true | .non,.str _=>true | .str _,.non=>true
 | .int _,.int _=>true | .bl _,.bl _=>true | .str _,.str _=>true | .byt _,.byt _=>true
 | .int _,.str _=>true | .str _,.int _=>true | .bl _,.str _=>true | .str _,.bl _=>true
 | _,_=>false
def rEq:R2:=fun x y H Q=>aMo x y=true∧Q (.bl (decide (x=y))) H
def rNe:R2:=fun x y H Q=>aMo x y=true∧Q (.bl (!decide (x=y))) H

theorem aBd {i j:Int}:decide (V.int i=V.int j)=(i==j):=by
 rw[Bool.eq_iff_iff]
 simp
theorem aGy {i j:Bool}:decide (V.bl i=V.bl j)=(i==j):=by
 rw[Bool.eq_iff_iff]
 simp
theorem aBc {i j:Str}:decide (V.str i=V.str j)=(i==j):=by
 rw[Bool.eq_iff_iff]
 simp
theorem aBe {i j:Array UInt8}:decide (V.byt i=V.byt j)=(i.toList==j.toList):=by
 rw[Bool.eq_iff_iff];cases i;cases j
 simp

section
variable {X:Cx}{a b c:Expr}{ta tb tc:TE}{pos:Pos}
theorem cK {pins:List (Addr×Obj)}{σ:St}{H:Hp}{s:Shared}{Q:VK}{k k':Bool}(I:Inv X pins σ H s) (q:Q (.bl k) H) (e:k=k'):EP X pins σ Q (.bool k') s:=by
 subst e;exact⟨.bl k,H,I,rfl,q⟩
theorem rD:OpR X (compareOp .Eq) rEq:=by
 intro pins s σ H x y v u Q I rx ry h;obtain⟨hs,q⟩:=h;cases x with
 | non=>
  cases rx;cases y with
  | non=>cases ry; exact PySem.EqNone.eq_none_none (cK I q (by simp))
  | bl j=>cases ry; exact PySem.EqNone.eq_none_bool (cK I q (by simp))
  | int j=>obtain⟨t',rfl⟩:=ry; exact PySem.EqNone.eq_none_int (cK I q (by simp))
  | str j=>obtain⟨t',rfl⟩:=ry; exact PySem.EqNone.eq_none_str (cK I q (by simp))
  | _=>exact absurd (show false=true from hs) Bool.false_ne_true
 | bl i=>
  cases rx;cases y with
  | non=>cases ry; exact PySem.EqNone.eq_bool_none (cK I q (by simp))
  | bl j=>cases ry; exact eq_bool (cK I q aGy)
  | str j=>obtain⟨t',rfl⟩:=ry; exact PySem.EqMixed.eq_bool_str (cK I q (by simp))
  | _=>exact absurd (show false=true from hs) Bool.false_ne_true
 | int i=>
  obtain⟨t,rfl⟩:=rx;cases y with
  | non=>cases ry; exact PySem.EqNone.eq_int_none (cK I q (by simp))
  | int j=>obtain⟨t',rfl⟩:=ry; exact eq_int (cK I q aBd)
  | str j=>obtain⟨t',rfl⟩:=ry; exact PySem.EqMixed.eq_int_str (cK I q (by simp))
  | _=>exact absurd (show false=true from hs) Bool.false_ne_true
 | str i=>
  obtain⟨t,rfl⟩:=rx;cases y with
  | non=>cases ry; exact PySem.EqNone.eq_str_none (cK I q (by simp))
  | bl j=>cases ry; exact PySem.EqMixed.eq_str_bool (cK I q (by simp))
  | int j=>obtain⟨t',rfl⟩:=ry; exact PySem.EqMixed.eq_str_int (cK I q (by simp))
  | str j=>obtain⟨t',rfl⟩:=ry; exact eq_str (cK I q aBc)
  | _=>exact absurd (show false=true from hs) Bool.false_ne_true
 | byt i=>
  obtain⟨t,rfl⟩:=rx;cases y with
  | byt j=>obtain⟨t',rfl⟩:=ry; exact PySem.W.eq_bytes (cK I q aBe)
  | _=>exact absurd (show false=true from hs) Bool.false_ne_true
 | _=>cases y <;> exact absurd (show false=true from hs) Bool.false_ne_true
theorem aFm:OpR X (compareOp .NotEq) rNe:=by
 intro pins s σ H x y v u Q I rx ry h;obtain⟨hs,q⟩:=h;cases x with
 | non=>
  cases rx;cases y with
  | non=>cases ry; exact PySem.EqNone.ne_none_none (cK I q (by simp))
  | bl j=>cases ry; exact PySem.EqNone.ne_none_bool (cK I q (by simp))
  | int j=>obtain⟨t',rfl⟩:=ry; exact PySem.EqNone.ne_none_int (cK I q (by simp))
  | str j=>obtain⟨t',rfl⟩:=ry; exact PySem.EqNone.ne_none_str (cK I q (by simp))
  | _=>exact absurd (show false=true from hs) Bool.false_ne_true
 | bl i=>
  cases rx;cases y with
  | non=>cases ry; exact PySem.EqNone.ne_bool_none (cK I q (by simp))
  | bl j=>cases ry; exact ne_bool (cK I q (congrArg not aGy))
  | str j=>obtain⟨t',rfl⟩:=ry; exact PySem.EqMixed.ne_bool_str (cK I q (by simp))
  | _=>exact absurd (show false=true from hs) Bool.false_ne_true
 | int i=>
  obtain⟨t,rfl⟩:=rx;cases y with
  | non=>cases ry; exact PySem.EqNone.ne_int_none (cK I q (by simp))
  | int j=>obtain⟨t',rfl⟩:=ry; exact ne_int (cK I q (congrArg not aBd))
  | str j=>obtain⟨t',rfl⟩:=ry; exact PySem.EqMixed.ne_int_str (cK I q (by simp))
  | _=>exact absurd (show false=true from hs) Bool.false_ne_true
 | str i=>
  obtain⟨t,rfl⟩:=rx;cases y with
  | non=>cases ry; exact PySem.EqNone.ne_str_none (cK I q (by simp))
  | bl j=>cases ry; exact PySem.EqMixed.ne_str_bool (cK I q (by simp))
  | int j=>obtain⟨t',rfl⟩:=ry; exact PySem.EqMixed.ne_str_int (cK I q (by simp))
  | str j=>obtain⟨t',rfl⟩:=ry; exact ne_str (cK I q (congrArg not aBc))
  | _=>exact absurd (show false=true from hs) Bool.false_ne_true
 | byt i=>
  obtain⟨t,rfl⟩:=rx;cases y with
  | byt j=>obtain⟨t',rfl⟩:=ry; exact PySem.W.ne_bytes (cK I q (congrArg not aBe))
  | _=>exact absurd (show false=true from hs) Bool.false_ne_true
 | _=>cases y <;> exact absurd (show false=true from hs) Bool.false_ne_true

theorem aMv:OpR X (compareOp .Lt) (rI0 fun i j=>.bl (decide (i<j))):=aMx fun _ _ _ _ _ _ _ q=>lt_int q
theorem tQ:OpR X (compareOp .Gt) (rI0 fun i j=>.bl (decide (j<i))):=aMx fun _ _ _ _ _ _ _ q=>gt_int q
theorem tP:OpR X (compareOp .In) (fun x y H Q=>∃ i j,x=.str i∧y=.str j∧Q (.bl (!(Builtin.Str.occurrences j i 0 j.length 1).isEmpty)) H):=by
 intro pins s σ H x y v u Q I rx ry h;obtain⟨i,j,rfl,rfl,q⟩:=h;obtain⟨t,rfl⟩:=rx;obtain⟨t',rfl⟩:=ry;exact in_str (cK I q rfl)

theorem aFn:OpR X (compareOp .Is) (fun x y H Q=>y=.non∧Q (.bl (decide (x=.non))) H):=by
 intro pins s σ H x y v u Q I rx ry h;obtain⟨rfl,q⟩:=h;cases ry;refine is_none_gen (cK I q ?_)
 cases x <;> first
  | (cases rx; rfl)
  | (obtain⟨t,rfl⟩:=rx; rfl)
theorem uV:OpR X (compareOp .IsNot) (fun x y H Q=>y=.non∧Q (.bl (!decide (x=.non))) H):=by
 intro pins s σ H x y v u Q I rx ry h;obtain⟨rfl,q⟩:=h;cases ry;refine isnot_none_gen (cK I q ?_)
 cases x <;> first
  | (cases rx; rfl)
  | (obtain⟨t,rfl⟩:=rx; rfl)



theorem cM (b:Expr){op:CmpOp}(h:op≠.In:=by decide) (h2:op≠.NotIn:=by decide):behindInMarks op b=false:=by
 have e1:(op==CmpOp.In)=false:=by cases op <;> first | rfl | exact absurd rfl h
 have e2:(op==CmpOp.NotIn)=false:=by cases op <;> first | rfl | exact absurd rfl h2
 cases b <;> simp[behindInMarks,e1,e2]
theorem lN {op:CmpOp}{r:R2}(ho:OpR X (compareOp op) r) (ha:PE X a ta) (hb:PE X b tb) (hm:behindInMarks op b=false):PE X (.Compare a [op] [b] pos) (tOp r ta tb):=by
 intro pins s σ H Q I h;exact wpAny_Compare1 (aLt ha hb I h fun v u s2 x y H2 I2 rx ry q=>ho pins s2 σ H2 x y v u Q I2 rx ry q) hm
def aMf (t:TE):TT:=fun σ H Q=>t σ H fun x H'=>aNy x H' Q
theorem cC {op:CmpOp}{r:R2}(ho:OpR X (compareOp op) r) (ha:PE X a ta) (hb:PE X b tb) (hm:behindInMarks op b=false):PT X (.Compare a [op] [b] pos) (aMf (tOp r ta tb)):=by
 intro pins s σ H Q I h
 refine wpAny_isTrue_Compare1 (thn (ha pins s σ H _ I h) fun v s1 ⟨x,H1,I1,r1,q1⟩=>thn (hb pins s1 σ H1 _ I1 q1) fun u s2 ⟨y,H2,I2,r2,q2⟩=>
  thn (ho pins s2 σ H2 x y v u _ I2 r1 r2 q2) fun c s3 ⟨z,H3,I3,r3,k,e,q3⟩=>?_) hm
 subst e;cases r3;exact wpAny_truthy_bool ⟨H3,I3,q3⟩

def aNo (K:PySem.W.Frag) (x:V) (H:Hp) (k:Bool):Prop:=
 match x with
 | .non=>k=false
 | .bl b=>k=b
 | .int i=>k=(i != 0)
 | .str y=>y.length<=sizeLine∧k=((y.length:Int) != 0)
 | .byt y=>y.size<=sizeLine∧k=((y.size:Int) != 0)
 | .ref p=>(∃ xs,SqL K H p xs∧k=!xs.isEmpty)∨(∃ xs,SqT K H p xs∧k=!xs.isEmpty)∨∃ kvs,H p=some (.dK kvs)∧k=!kvs.isEmpty
 | _=>False
theorem zN {κ:Type}{kvs:List (κ×V)}{vs:List (κ×Value)}(r:KV kvs vs):(!vs.isEmpty)=!kvs.isEmpty:=by
 cases r <;> rfl
theorem rK {xs:List V}{its:List Value}(r:cB xs its):(!its.toArray.isEmpty)=!xs.isEmpty:=by
 cases r <;> simp
theorem pA:(sizeLine:Nat)<2^63:=by rw[sizeLine_eq]; decide
theorem aKc:aQd X (fun x H Q=>∃ k,aNo X.K x H k∧Q k H):=by
 intro pins s σ H x v Q I rx h;obtain⟨k,e,q⟩:=h;have hl:=pA;have hs:sizeLine=16777216:=sizeLine_eq;cases x with
 | non=>
  cases rx;have e':k=false:=e;subst e';exact truthy_none ⟨H,I,q⟩
 | bl b=>
  cases rx;have e':k=b:=e;subst e';exact wpAny_truthy_bool ⟨H,I,q⟩
 | int i=>
  obtain⟨t,rfl⟩:=rx;have e':k=(i != 0):=e;subst e';exact PySem.P.truthy_int ⟨H,I,q⟩
 | str y=>
  obtain⟨t,rfl⟩:=rx;obtain⟨hy,e'⟩:y.length<=sizeLine∧k=((y.length:Int) != 0):=e;subst e';exact PySem.P.truthy_str (by omega) ⟨H,I.tok _,q⟩
 | byt y=>
  obtain⟨t,rfl⟩:=rx;obtain⟨hy,e'⟩:y.size<=sizeLine∧k=((y.size:Int) != 0):=e;subst e';exact PySem.W.truthy_bytes (by omega) ⟨H,I.tok _,q⟩
 | ref p=>
  cases rx;have e':(∃ xs,SqL X.K H p xs∧k=!xs.isEmpty)∨(∃ xs,SqT X.K H p xs∧k=!xs.isEmpty)∨∃ kvs,H p=some (.dK kvs)∧k=!kvs.isEmpty:=e;rcases e' with⟨xs,hx,e'⟩ | ⟨xs,hx,e'⟩ | ⟨kvs,hx,e'⟩
  ·subst e';obtain⟨its,r,pl,hz⟩:=I.list hx;have hlen:=r.length;exact wpAny_truthy_list pl.isList (by simp only[List.size_toArray]; omega) ⟨H,I.tok _,by rw[rK r]; exact q⟩
  ·subst e';obtain⟨its,r,pl,hz⟩:=I.tuple hx;have hlen:=r.length;exact truthy_tuple pl (by simp only[List.size_toArray]; omega) ⟨H,I.tok _,by rw[rK r]; exact q⟩
  ·subst e';obtain⟨hz,hS,vs,r,m⟩:kvs.length<=sizeLine∧(p==sysModules)=false∧∃ vs,KV kvs vs∧s.heap.DictOf (dE X.prog X.w) p vs:=I.hok p _ hx;have hlen:kvs.length=vs.length:=Paired.length r;exact wpAny_truthy_dict hS m (by omega) ⟨H,I.tok _,by rw[zN r]; exact q⟩
 | _=>exact (show False from e).elim
theorem wK (ha:PE X a ta) (he:∀ whole,isTrue a X.env whole=(do let v ← whole; standAt a.pos; holding [v] (truthy v))) :
  PT X a (fun σ H Q=>ta σ H fun x H'=>∃ k,aNo X.K x H' k∧Q k H'):=by
 intro pins s σ H Q I h;exact isTrue_plain (thn (ha pins s σ H _ I h) fun v s1 ⟨x,H1,I1,r1,q1⟩=>aKc pins s1 σ H1 x v Q I1 r1 q1) (he _)

theorem yT:OpR X (binaryOp .Add) (fun x y H Q=>∃ i j,x=.str i∧y=.str j∧i.length+j.length<=sizeLine∧Q (.str (i++j)) H):=by
 intro pins s σ H x y v u Q I rx ry h;obtain⟨i,j,rfl,rfl,hz,q⟩:=h;obtain⟨t,rfl⟩:=rx;obtain⟨t',rfl⟩:=ry;exact add_str (fun t' tk=>⟨.str (i++j),H,I.tok _,⟨_,rfl⟩,q⟩) hz


theorem iU {x:V}{us:List Value}(r:cB [x] us):∃ u,us=[u]∧cH x u:=by
 cases r with
 | cons r1 r2=>cases r2; exact⟨_,rfl,r1⟩
theorem vN {x y:V}{us:List Value}(r:cB [x,y] us):∃ u w',us=[u,w']∧cH x u∧cH y w':=by
 cases r with
 | cons r1 r2=>
  cases r2 with
  | cons r3 r4=>cases r4; exact⟨_,_,rfl,r1,r3⟩
theorem aDm:CallR X (.type "int") (fun xs H Q=>(∃ i,xs=[.int i]∧Q (.int i) H)∨∃ k,xs=[.bl k]∧Q (.int (if k then 1 else 0)) H):=by
 intro pins s σ H xs us Q I r h;rcases h with⟨i,rfl,q⟩ | ⟨k,rfl,q⟩
 ·obtain⟨u,rfl,t,rfl⟩:=iU r;exact call_int_int ⟨.int i,H,I,⟨_,rfl⟩,q⟩
 ·obtain⟨u,rfl,r1⟩:=iU r;cases r1;exact call_int_bool ⟨.int (if k then 1 else 0),H,I.tok _,⟨_,rfl⟩,q⟩
end
end L2

namespace L2
open PySem PySem.Spec PyProof.Rows

structure zY (h:Heap) (x dx C:Addr) (mA:Str->Option Value):Prop where
 obj:h.get? x=some (PySem.W.instObj C dx)
 ns:h.Ns1 dx mA
 ne:dx≠x

theorem aCv {h:Heap}{dx:Addr}{mA:Str->Option Value}(n:h.Ns1 dx mA):∃ od,h.get? dx=some od∧∀ name,PySem.W.lookIn name od=some (mA name):=by
 obtain⟨o,es,ep,ho,hd,hk,_,hm⟩:=n;refine⟨o,ho,fun name=>?_⟩;have e:=hm name;unfold nsFind findBy at e;rw[← Array.find?_toList] at e;unfold PySem.W.lookIn;rw[hd];dsimp only;split
 ·rename_i y q
  rw[q] at e;exact congrArg some e
 ·rename_i q
  rw[q] at e
  have a:es.toList.any (·.refKey)=false:=by
   rw[List.any_eq_false];intro y hy;obtain⟨z,t,hkey⟩:=hk y (Array.mem_toList_iff.mp hy);simp[DictEntry.refKey,hkey]
  have a':¬ es.toList.any (·.refKey)=true:=by rw[a]; exact Bool.false_ne_true
  rw[if_neg a'];exact congrArg some e

theorem zY.look {h:Heap}{x dx C:Addr}{mA:Str->Option Value}(I:zY h x dx C mA):∃ od,PySem.W.InstAt h x (PySem.W.instObj C dx) C (some od)∧∀ name,PySem.W.lookIn name od=some (mA name):=
 let ⟨od,ho,hl⟩:=aCv I.ns
 ⟨od,⟨I.obj,rfl,rfl,ho⟩,hl⟩

section
variable {prog:Program}{w:World}{A:Around}{E:Value->Shared->Prop}{s:Shared}{K:PySem.W.Frag}{x dx C f:Addr}{mA:Str->Option Value}{name:Str}{v:Value}

theorem aJa {expr:Bool}{Q:Value->Shared->Prop}(X:K.In s.heap) (I:zY s.heap x dx C mA) (hg:PySem.W.plainGet K C name=true) (hh:PySem.W.hasDictIn K C=true)
  (ha:PySem.W.findIn K (.ref C) name=some none) (hv:mA name=some v) (hv':PySem.W.handedIn v=true) (h:Q v { s with toks:=s.toks+1 }) :
  wpAny (model prog w) A (getAttr (.ref x) name expr) Q E s:=by
 obtain⟨od,J,hl⟩:=I.look;exact PySem.W.get_value X J (PySem.W.plainGet_of hg).1 (PySem.W.findObj_own hh ha rfl (by rw[hl,hv])) hv' h


theorem aGo {pl:Sem Bool}{Q:Value×List Value->Shared->Prop}(X:K.In s.heap) (I:zY s.heap x dx C mA) (hg:PySem.W.plainGet K C name=true)
  (hf:PySem.W.findIn K (.ref C) name=some (some (.ref f))) (ht:PySem.W.isFn K (.ref f)=true) (hv:mA name=none) (h:Q (.ref f,[.ref x]) s) :
  wpAny (model prog w) A (getMethod (.ref x) name pl) Q E s:=by
 obtain⟨od,J,hl⟩:=I.look;exact PySem.W.method_fn X J (PySem.W.plainGet_of hg).1 (PySem.W.plainGet_of hg).2 hf (beq_iff_eq.mp ht) (by show (PySem.W.lookIn name od).map (·.isSome)=some false; rw[hl,hv]; rfl) h

theorem aHt {ns:List Str}{Q:Unit->Shared->Prop}(X:K.In s.heap) (I:zY s.heap x dx C mA)
  (hs:PySem.W.findIn K (.ref C) "__setattr__" = some (some (.builtin "object.__setattr__"))) (hp:PySem.W.plainOver K C=true) (ht:PySem.W.takerIn K C name=some none) (hh:PySem.W.hasDictIn K C=true)
  (hw:PySem.Within mA ns) (hsz:ns.length<=sizeLine)
  (h:∀ h',zY h' x dx C (fun y=>if y=name then some v else mA y)->Heap.SameBut dx s.heap h'->Q () { s with heap:=h',toks:=s.toks+2 }) :
  wpAny (model prog w) A (setAttr (.ref x) name v) Q E s:=by
 obtain⟨od,J,hl⟩:=I.look;refine PySem.W.set_plain X J hs (PySem.W.osa_open (s:={ s with toks:=s.toks+1 }) (r:=none) X J hp ht fun b=>?_);obtain⟨cd,hc,hd'⟩:=PySem.W.any_some hh;have hx:s.heap.get? x=some ⟨.ref C,some dx,.plain,#[]⟩:=I.obj;refine wpAny_bind (wpAny_pure (wpAny_bind (wpAny_bind (wpAny_loadPart hx (wpAny_bind (PySem.W.Looks.here (s:={ s with toks:=s.toks+1 }) (PySem.W.looks_clsIn X hc) ?_))))));rw[hd'];refine wpAny_pure (a:=some dx) (wpAny_bind (wpAny_pure (wpAny_bind ?_)));refine wpAny_nsSet1 (s:={ s with toks:=s.toks+1 }) I.ns fun h' hn2 hs2=>?_;obtain⟨oD,esD,epD,hoD,hdD,hcD⟩:=hn2.count (PySem.Within.cons name v hw);refine wpAny_bind (wpAny_lookBehind hoD (by rw[hdD]; exact pastItsLine_dict (Nat.le_trans hcD (by rw[List.length_cons]; omega))) ?_);exact wpAny_pure (h _ ⟨(hs2.2 _ (Ne.symm I.ne)).trans I.obj,hn2,I.ne⟩ hs2)

theorem aGd {R:Result->Shared->Prop}{vs:List Value}{kw:List (Str×Value)}(X:K.In s.heap) (hm:PySem.W.makesIn K C=true)
  (hi:PySem.W.findIn K (.ref C) "__init__" = some (some (.ref f))) (hf:PySem.W.typeIn K (.ref f)=some (.type "function"))
  (h:codeAny (model prog w) (A.under (.builtin "type.__call__" ⟨.ref C::vs,kw⟩)) (.call (.ref f) ⟨.ref (s.heap.objs.size+1)::vs,kw⟩) (PySem.W.InitBack (s.heap.objs.size+1) R)
   { s with heap:=(s.heap.push PySem.W.emptyDict).push (PySem.W.instObj C s.heap.objs.size) }) :
  codeAny (model prog w) A (.call (.ref C) ⟨vs,kw⟩) R s:=by
 obtain⟨hh,g,d,t,os⟩:=s;exact PySem.W.make_core (PySem.W.makes_of X hm) (PySem.W.looks_findIn X hi) (fun self=>PySem.W.bind_fn X self hf) (.inl rfl) h
end

def gA (f:Str) (v:V):List (Str×V)->List (Str×V)
 | []=>[(f,v)]
 | (g,x)::r=>if g=f then (g,v)::r else (g,x)::gA f v r
theorem pR (f g:Str) (v:V):∀ fs:List (Str×V),(gA f v fs).lookup g=if g=f then some v else fs.lookup g
 | []=>by
  show List.lookup g [(f,v)]=_
  by_cases h:g=f
  ·have hb:(g==f)=true:=beq_iff_eq.mpr h;simp only[List.lookup,hb,if_pos h]
  ·have hb:(g==f)=false:=beq_eq_false_iff_ne.mpr h;simp only[List.lookup,hb,if_neg h]
 | (k,x)::r=>by
  have ih:=pR f g v r;rw[show gA f v ((k,x)::r)=(if k=f then (k,v)::r else (k,x)::gA f v r) from rfl]
  by_cases hk:k=f
  ·rw[if_pos hk]
   by_cases h:g=k
   ·have hb:(g==k)=true:=beq_iff_eq.mpr h;simp only[List.lookup,hb,if_pos (h.trans hk)]
   ·have hb:(g==k)=false:=beq_eq_false_iff_ne.mpr h;simp only[List.lookup,hb,if_neg (fun e:g=f=>h (e.trans hk.symm))]
  ·rw[if_neg hk]
   by_cases h:g=k
   ·have hb:(g==k)=true:=beq_iff_eq.mpr h;simp only[List.lookup,hb,if_neg (fun e:g=f=>hk (h.symm.trans e))]
   ·have hb:(g==k)=false:=beq_eq_false_iff_ne.mpr h;simp only[List.lookup,hb];exact ih
theorem pC (f:Str) (v:V):∀ fs:List (Str×V),f∈(gA f v fs).map (·.1)∧∀ g,g∈fs.map (·.1)->g∈(gA f v fs).map (·.1)
 | []=>⟨by simp[gA],fun g h=>by simp at h⟩
 | (k,x)::r=>by
  obtain⟨i1,i2⟩:=pC f v r;rw[show gA f v ((k,x)::r)=(if k=f then (k,v)::r else (k,x)::gA f v r) from rfl]
  by_cases hk:k=f
  ·rw[if_pos hk];subst hk;exact⟨by simp,fun g h=>by simpa using h⟩
  ·rw[if_neg hk];refine⟨?_,fun g h=>?_⟩
   ·rw[List.map_cons];exact List.mem_cons_of_mem _ i1
   ·rw[List.map_cons] at h ⊢;rcases List.mem_cons.mp h with e | e
    ·exact List.mem_cons.mpr (.inl e)
    ·exact List.mem_cons_of_mem _ (i2 g e)
theorem pS (f:Str) (v:V):∀ fs:List (Str×V),(gA f v fs).length<=fs.length+1
 | []=>by simp[gA]
 | (k,x)::r=>by
  have ih:=pS f v r;rw[show gA f v ((k,x)::r)=(if k=f then (k,v)::r else (k,x)::gA f v r) from rfl]
  by_cases hk:k=f
  ·rw[if_pos hk,List.length_cons,List.length_cons]; omega
  ·rw[if_neg hk,List.length_cons,List.length_cons]; omega

theorem jR.some_of {v:V}{o:Option Value}(r:jR (some v) o):∃ u,o=some u∧cH v u:=by
 cases o with
 | none=>exact (show False from r).elim
 | some u=>exact⟨u,rfl,r⟩
theorem jR.none_of {o:Option Value}(r:jR none o):o=none:=by
 cases o with
 | none=>rfl
 | some u=>exact (show False from r).elim
theorem aDd {v:V}{u:Value}(r:cH v u):PySem.W.handedIn u=true:=by
 cases v with
 | non=>cases (show u=Value.none from r); rfl
 | bl b=>cases (show u=Value.bool b from r); rfl
 | int i=>obtain⟨t,e⟩:=(show ∃ t,u=Value.int i t from r); cases e; rfl
 | str x=>obtain⟨t,e⟩:=(show ∃ t,u=Value.str x t from r); cases e; rfl
 | byt b=>obtain⟨t,e⟩:=(show ∃ t,u=Value.bytes b t from r); cases e; rfl
 | flt b=>obtain⟨t,e⟩:=(show ∃ t,u=Value.float b t from r); cases e; rfl
 | ref a=>cases (show u=Value.ref a from r); rfl
 | ty n=>cases (show u=Value.type n from r); rfl

section
variable {P:Program}{w:World}{H H':Hp}{h h':Heap}{a C dx:Addr}{fs fs':List (Str×V)}
theorem qF (hok:HOk P w H h) (e:H a=some (.ins C dx fs)):∃ mA,zY h a dx C mA∧(∀ f,jR (fs.lookup f) (mA f))∧PySem.Within mA (fs.map (·.1))∧fs.length<=1000∧H dx=some (.own a):=by
 obtain⟨d,z,ne,ob,mA,n,r,q⟩:=(show dD P w H h a (.ins C dx fs) from hok a _ e)
 exact⟨mA,⟨ob,n,ne⟩,r,q,z,d⟩
end

structure Cls (K:PySem.W.Frag) (C:Addr):Prop where
 pg:PySem.W.plainGet K C Str.empty=true
 hd:PySem.W.hasDictIn K C=true
 po:PySem.W.plainOver K C=true
 sa:PySem.W.findIn K (.ref C) "__setattr__" = some (some (.builtin "object.__setattr__"))
theorem Cls.get {K:PySem.W.Frag}{C:Addr}(c:Cls K C) (f:Str):PySem.W.plainGet K C f=true:=c.pg
def fU (K:PySem.W.Frag) (C:Addr) (f:Str):Prop:=PySem.W.findIn K (.ref C) f=some none
theorem fU.taker {K:PySem.W.Frag}{C:Addr}{f:Str}(n:fU K C f):PySem.W.takerIn K C f=some none:=by
 unfold PySem.W.takerIn;rw[show PySem.W.findIn K (.ref C) f=some none from n]
 rfl
structure eJ (K:PySem.W.Frag) (C:Addr) (m:Str) (f:Addr):Prop where
 at_:PySem.W.findIn K (.ref C) m=some (some (.ref f))
 fn:PySem.W.isFn K (.ref f)=true
 kp:PySem.W.keepIn K (.ref f)=true

section
variable {X:Cx}{pins:List (Addr×Obj)}{σ:St}{H:Hp}{s:Shared}{a C dx:Addr}{fs:List (Str×V)}{f:Str}{v:V}{A:Around}{E:Value->Shared->Prop}

theorem zP {b:Bool}{Q:Value->Shared->Prop}(I:Inv X pins σ H s) (e:H a=some (.ins C dx fs)) (c:Cls X.K C) (n:fU X.K C f) (l:fs.lookup f=some v)
  (h:∀ u s',Inv X pins σ H s'->cH v u->Q u s'):wpAny (model X.prog X.w) A (getAttr (.ref a) f b) Q E s:=by
 obtain⟨mA,O,r,_,_,_⟩:=qF I.hok e;obtain⟨u,hu,ru⟩:=jR.some_of (v:=v) (o:=mA f) (by rw[← l]; exact r f);exact aJa I.kIn O (c.get f) c.hd n hu (aDd ru) (h u _ (I.tok _) ru)


theorem rM {m:Str}{g:Addr}{pl:Sem Bool}{Q:Value×List Value->Shared->Prop}(I:Inv X pins σ H s) (e:H a=some (.ins C dx fs)) (c:Cls X.K C) (k:eJ X.K C m g) (l:fs.lookup m=none)
  (h:Q (.ref g,[.ref a]) s):wpAny (model X.prog X.w) A (getMethod (.ref a) m pl) Q E s:=by
 obtain⟨mA,O,r,_,_,_⟩:=qF I.hok e;have hn:mA m=none:=jR.none_of (by rw[← l]; exact r m);exact aGo I.kIn O (c.get m) k.at_ k.fn hn h

theorem yI {y:V}{u:Value}{Q:Unit->Shared->Prop}(I:Inv X pins σ H s) (e:H a=some (.ins C dx fs)) (c:Cls X.K C) (n:fU X.K C f) (hl:fs.length<1000) (ry:cH y u)
  (h:∀ s',Inv X pins σ (upd H a (.ins C dx (gA f y fs))) s'->Q () s'):wpAny (model X.prog X.w) A (setAttr (.ref a) f u) Q E s:=by
 obtain⟨mA,O,r,wi,_,ho⟩:=qF I.hok e;have hz:(fs.map (·.1)).length<=sizeLine:=by rw[List.length_map,sizeLine_eq]; omega
 refine aHt I.kIn O c.sa c.po n.taker c.hd wi hz fun h' O' sb=>h _ ?_;have hd:∃ o,h'.get? dx=some o:=let ⟨o,_,_,e',_⟩:=O'.ns; ⟨o,e'⟩;refine I.write (x:=a) (e:=dx) (by rw[e]; exact True.intro) (.inr ho) (fun b q hb z=>(sb.2 b hb).trans z) hd ?_;refine⟨by rw[aI O.ne]; exact ho,?_,O.ne,O'.obj,_,O'.ns,fun g=>?_,fun g hg=>?_⟩
 ·have:=pS f y fs; omega
 ·show jR ((gA f y fs).lookup g) (if g=f then some u else mA g)
  rw[pR]
  by_cases q:g=f
  ·rw[if_pos q,if_pos q]; exact ry
  ·rw[if_neg q,if_neg q]; exact r g
 ·by_cases q:g=f
  ·rw[q]; exact (pC f y fs).1
  ·refine (pC f y fs).2 g (wi g fun z=>hg ?_);show (if g=f then some u else mA g)=none
   rw[if_neg q]; exact z

theorem Inv.made (I:Inv X pins σ H s):Inv X pins σ (upd (upd H s.heap.objs.size (.own (s.heap.objs.size+1))) (s.heap.objs.size+1) (.ins C s.heap.objs.size []))
  { s with heap:=(s.heap.push PySem.W.emptyDict).push (PySem.W.instObj C s.heap.objs.size) }:=by
 have e1:(s.heap.push PySem.W.emptyDict).get? s.heap.objs.size=some PySem.W.emptyDict:=Heap.get?_push_size s.heap rfl
 have e2:((s.heap.push PySem.W.emptyDict).push (PySem.W.instObj C s.heap.objs.size)).get? (s.heap.objs.size+1)=some (PySem.W.instObj C s.heap.objs.size):=by
  have:=Heap.get?_push_size (s.heap.push PySem.W.emptyDict) (o:=PySem.W.instObj C s.heap.objs.size) rfl
  rwa [Heap.size_push] at this
 have e3:(s.heap.push PySem.W.emptyDict).Ns s.heap.objs.size (fun _=>none):=⟨PySem.W.emptyDict,#[],_,e1,rfl,(fun e he=>absurd he (by simp)),fun _=>rfl⟩;have I1:=I.laid (a:=s.heap.objs.size) (o:=.own (s.heap.objs.size+1)) (h':=s.heap.push PySem.W.emptyDict) (t':=s.toks) (fun b u q=>Heap.get?_push_of_some _ q) (Nat.le_refl _) ⟨_,e1⟩;refine I1.laid (a:=s.heap.objs.size+1) (o:=.ins C s.heap.objs.size []) (t':=s.toks) (fun b u q=>Heap.get?_push_of_some _ q) (Nat.le_of_eq (Heap.size_push _ _)) ?_;have ne:s.heap.objs.size≠s.heap.objs.size+1:=Nat.ne_of_lt (Nat.lt_succ_self _);refine⟨by rw[aI ne,aD],Nat.zero_le _,ne,e2,fun _=>none,(Heap.Ns1.of_empty e3).at fun o q=>Heap.get?_push_of_some _ q,fun _=>True.intro,fun y hy=>absurd rfl hy⟩

theorem aJg {prog:Program}{w:World}{env:Env}{e:Expr}{f:Str}{pos:Pos}{s:Shared}{Q:Value->Shared->Prop}(hb:attributeBase e f env (eval e env)=eval e env)
  (h:wpAny (model prog w) A (eval e env) (fun o s₁=>wpAny (model prog w) A (getAttr o f true) Q E s₁) E s):wpAny (model prog w) A (eval (.Attribute e f pos) env) Q E s:=
 Attribute_any_ h (by rw[arm_eval_Attribute,hb])
end

inductive aNx (K:PySem.W.Frag) (f:Str) (x:V) (H1:Hp) (Q:VK):Prop
 | mk (a C dx:Addr) (fs:List (Str×V)) (v:V) (h1:x=.ref a) (h2:H1 a=some (.ins C dx fs)) (h3:Cls K C) (h4:fU K C f) (h5:fs.lookup f=some v) (q:Q v H1)
def aOl (K:PySem.W.Frag) (ta:TE) (f:Str):TE:=fun σ H Q=>ta σ H fun x H1=>aNx K f x H1 Q
inductive aNu (K:PySem.W.Frag) (f:Str) (x y:V) (H2:Hp) (R:Hp->Prop):Prop
 | mk (a C dx:Addr) (fs:List (Str×V)) (h1:x=.ref a) (h2:H2 a=some (.ins C dx fs)) (h3:Cls K C) (h4:fU K C f) (h5:fs.length<1000) (q:R (upd H2 a (.ins C dx (gA f y fs))))
def aPg (K:PySem.W.Frag) (ta tv:TE) (f:Str):TS:=fun D σ H=>tv σ H fun y H1=>ta σ H1 fun x H2=>aNu K f x y H2 (D.nx σ)

section
variable {X:Cx}{o e value:Expr}{f:Str}{pos pos' tpos:Pos}{ta tv:TE}
theorem fO (he:PE X e ta) (hb:attributeBase e f X.env (eval e X.env)=eval e X.env):PE X (.Attribute e f pos) (aOl X.K ta f):=by
 intro pins s σ H Q I h;refine aJg hb (thn (he pins s σ H _ I h) fun u s1 ⟨x,H1,I1,rx,a,C,dx,fs,v,ex,ea,c,n,l,q⟩=>?_);subst ex;obtain rfl:u=Value.ref a:=rx;exact zP I1 ea c n l fun u' s2 I2 ru=>⟨v,H1,I2,ru,q⟩
theorem jI (ha:PE X o ta) (hv:PE X value tv) (hs:swapsWith value (some (.Attribute o f pos')) pos.line X.env=pure false):PS X (.Assign [.Attribute o f pos'] value pos) (aPg X.K ta tv f):=by
 intro pins s σ H D I h;refine plainObj_wpAny_Assign_Attribute (thn (hv pins s σ H _ I h) fun u s1 ⟨y,H1,I1,ry,q⟩=>thn (ha pins s1 σ H1 _ I1 q) fun ov s2 ⟨x,H2,I2,rx,a,C,dx,fs,ex,ea,c,n,l,q2⟩=>?_) hs;subst ex;obtain rfl:ov=Value.ref a:=rx;exact yI I2 ea c n l ry fun s3 I3=>⟨σ,_,I3,q2⟩

end

section
variable {X:Cx}{pins:List (Addr×Obj)}{σ:St}{H:Hp}{s:Shared}{A:Around}{E:Value->Shared->Prop}{Q:Value->Shared->Prop}{c:Value}{b:Bool}
inductive lR (K:PySem.W.Frag) (H:Hp):V->Value->Prop where
 | non:lR K H .non (.type "NoneType")
 | bl (x:Bool):lR K H (.bl x) (.type "bool")
 | int (i:Int):lR K H (.int i) (.type "int")
 | str (x:Str):lR K H (.str x) (.type "str")
 | flt (x:UInt64):lR K H (.flt x) (.type "float")
 | lst {a:Addr}{xs:List V}(e:H a=some (.lst xs)):lR K H (.ref a) (.type "list")
 | frz {a:Addr}{o:Obj}{xs:List V}(e:H a=some (.frz o (.lst xs))):lR K H (.ref a) (.type "list")
 | tup {a:Addr}{xs:List V}(e:H a=some (.tup xs)):lR K H (.ref a) (.type "tuple")
 | dK {a:Addr}{kvs:List (Key×V)}(e:H a=some (.dK kvs)):lR K H (.ref a) (.type "dict")
 | dT {a:Addr}{kvs:List (List Key×V)}(e:H a=some (.dT kvs)):lR K H (.ref a) (.type "dict")
 | ins {a C dx:Addr}{fs:List (Str×V)}(e:H a=some (.ins C dx fs)) (cl:Cls K C) (ha:PySem.W.findIn K (.ref C) "__class__" = some (some (.builtin "object.__class__")))
   (hn:PySem.W.specialIn K (.builtin "object.__class__") "__get__" = some (some (.builtin "getset_descriptor.__get__"))) (htk:PySem.W.takesIn K (.builtin "object.__class__")=some true)
   (hm:PySem.W.mroIn K C (.type "object")=some true):lR K H (.ref a) (.ref C)
theorem aDb {x:V}{u t:Value}(I:Inv X pins σ H s) (rx:cH x u) (ty:lR X.K H x t) (e:PySem.W.kitOne X.K t c=some b) (h:∀ tk,Q (.bool b) { s with toks:=tk }) :
  wpAny (model X.prog X.w) A (call (.builtin "isinstance") [u,c]) Q E s:=by
 cases ty with
 | non=>cases (show u=Value.none from rx); exact PySem.W.kia_one PySem.W.kitx_none I.kIn True.intro e (fun z=>nomatch z) h
 | bl y=>cases (show u=Value.bool y from rx); exact PySem.W.kia_one PySem.W.kitx_bool I.kIn True.intro e (fun z=>nomatch z) h
 | int i=>obtain⟨t,q⟩:=(show ∃ t,u=Value.int i t from rx); cases q; exact PySem.W.kia_one PySem.W.kitx_int I.kIn True.intro e (fun z=>nomatch z) h
 | str y=>obtain⟨t,q⟩:=(show ∃ t,u=Value.str y t from rx); cases q; exact PySem.W.kia_one PySem.W.kitx_str I.kIn True.intro e (fun z=>nomatch z) h
 | flt y=>obtain⟨t,q⟩:=(show ∃ t,u=Value.float y t from rx); cases q; exact PySem.W.kia_one PySem.W.kitx_float I.kIn True.intro e (fun z=>nomatch z) h
 | @lst a xs ea=>
  cases (show u=Value.ref a from rx)
  obtain⟨_,_,n,_,h1⟩:=(show dD X.prog X.w H s.heap a (.lst xs) from I.hok a _ ea)
  exact PySem.W.kia_one PySem.W.kitx_list I.kIn ⟨_,h1,rfl⟩ e (fun z=>nomatch z) h
 | @frz a ob xs ea=>
  cases (show u=Value.ref a from rx)
  obtain⟨_,_,_,n,_,h1⟩:=(show dD X.prog X.w H s.heap a (.frz ob (.lst xs)) from I.hok a _ ea)
  exact PySem.W.kia_one PySem.W.kitx_list I.kIn ⟨_,h1,rfl⟩ e (fun z=>nomatch z) h
 | @tup a xs ea=>
  cases (show u=Value.ref a from rx)
  obtain⟨_,_,_,p⟩:=(show dD X.prog X.w H s.heap a (.tup xs) from I.hok a _ ea)
  obtain⟨o,h1,h2,_⟩:=p;exact PySem.W.kia_one PySem.W.kitx_tuple I.kIn ⟨o,h1,h2⟩ e (fun z=>nomatch z) h
 | @dK a kvs ea=>
  cases (show u=Value.ref a from rx)
  obtain⟨_,_,vs,_,p⟩:=(show dD X.prog X.w H s.heap a (.dK kvs) from I.hok a _ ea)
  obtain⟨o,es,ep,h1,h2,_⟩:=p;exact PySem.W.kia_one PySem.W.kitx_dict I.kIn ⟨o,h1,h2.1⟩ e (fun z=>nomatch z) h
 | @dT a kvs ea=>
  cases (show u=Value.ref a from rx)
  obtain⟨_,_,xs,_,o,es,ep,h1,h2,_⟩:=(show dD X.prog X.w H s.heap a (.dT kvs) from I.hok a _ ea)
  exact PySem.W.kia_one PySem.W.kitx_dict I.kIn ⟨o,h1,h2.1⟩ e (fun z=>nomatch z) h
 | @ins a C dx fs ea cl ha hn htk hm=>
  cases (show u=Value.ref a from rx)
  obtain⟨mA,O,_⟩:=qF I.hok ea;obtain⟨od,J,_⟩:=O.look;exact PySem.W.kia_one (PySem.W.kitx_own (cl.get _) cl.hd ha hn htk hm) I.kIn J e (fun z=>nomatch z) h
end
end L2

namespace L2
open PySem PySem.Spec PyProof.Rows

structure cY (k:Nat) (A:Around):Prop where
 hd:A.handled=none
 dp:A.depth+3*k+5<recursionLimit
 un:A.units+16*k+200<cLine
theorem cY.mono {j k:Nat}{A:Around}(r:cY k A) (h:j<=k):cY j A:=⟨r.hd,by have:=r.dp; omega,by have:=r.un; omega⟩
theorem cY.deeper {k:Nat}{A:Around}(r:cY (k+1) A) (env:Env):cY k (A.deeper env):=
 ⟨r.hd,by have:=r.dp; show A.depth+1+3*k+5<_; omega,by have:=r.un; show A.units+3+16*k+200<_; omega⟩
theorem zK {A:Around}{C:Addr}{us:List Value}{kw:List (Str×Value)}:(A.under (.builtin "type.__call__" ⟨.ref C::us,kw⟩)).depth=A.depth+1:=by
 first | rfl | simp[Around.under,Code.weight,Code.isCreation,Code.isGuard,Code.isCaller,Code.frames,Code.isFrame,guardIds]
theorem zJ {A:Around}{C:Addr}{us:List Value}{kw:List (Str×Value)}:(A.under (.builtin "type.__call__" ⟨.ref C::us,kw⟩)).units=A.units+1:=by
 first | rfl | simp[Around.under,Code.cUnits,Code.frames,Code.isFrame]
theorem cY.make {k:Nat}{A:Around}(r:cY (k+1) A) (C:Addr) (us:List Value) (kw:List (Str×Value)):cY k (A.under (.builtin "type.__call__" ⟨.ref C::us,kw⟩)):=
 ⟨r.hd,by have:=r.dp; rw[zK]; omega,by have:=r.un; rw[zJ]; omega⟩
theorem cY.depth {k:Nat}{A:Around}(r:cY k A):A.depth<recursionLimit:=by have:=r.dp; omega
theorem cY.units {k:Nat}{A:Around}(r:cY k A):A.units+64<cLine:=by have:=r.un; omega

def aKe:TA:=fun _ H Q=>Q [] H
def aAf (ta:TE) (tr:TA):TA:=fun σ H Q=>ta σ H fun x H1=>tr σ H1 fun xs H2=>Q (x::xs) H2
section
variable {X:Cx}{e:Expr}{es:List Expr}{te:TE}{t:TA}{pos:Pos}
theorem aJ:PA X [] aKe:=fun _ _ _ _ H Q I h=>Calls.spliced_nil ⟨[],H,I,.nil,h⟩
theorem iN (ha:PE X e te) (hr:PA X es t) (hs:starEach (e::es) X.env=(false,eval e X.env)::starEach es X.env:=by rfl):PA X (e::es) (aAf te t):=by
 intro pos pins s σ H Q I h;rw[hs];show wpAny _ _ (spliced ((false,eval e X.env)::backTo pos (starEach es X.env))) _ _ s;refine Calls.spliced_cons (thn (ha pins s σ H _ I h) fun u s1 ⟨x,H1,I1,r1,q1⟩=>?_);exact thn (hr pos pins s1 σ H1 _ I1 q1) fun us s2 ⟨xs,H2,I2,r2,q2⟩=>⟨x::xs,H2,I2,.cons r1 r2,q2⟩

def aOd (t:TA):TE:=fun σ H Q=>t σ H fun xs H1=>xs.length<=sizeLine∧∀ p,H1 p=none->Q (.ref p) (upd H1 p (.tup xs))
def aOi (t:TA):TE:=fun σ H Q=>t σ H fun xs H1=>xs.length<=sizeLine∧∀ p,H1 p=none->Q (.ref p) (upd H1 p (.lst xs))
theorem qZ {x1} (h:PA X es t):PE X (.Tuple es x1 pos) (aOd t):=by
 intro pins s σ H Q I hq;refine wpAny_Tuple_spliced (thn (h pos pins s σ H _ I hq) fun us s1 ⟨xs,H1,I1,r,z,q⟩=>⟨by rw[← r.length]; exact z,?_⟩);have hf:H1 s1.heap.objs.size=none:=I1.hok.fresh (Nat.le_refl _);refine⟨.ref s1.heap.objs.size,upd H1 s1.heap.objs.size (.tup xs),I1.laid (t':=s1.toks) (fun b u e=>Heap.get?_push_of_some _ e) (Nat.le_refl _) ?_,rfl,q _ hf⟩;exact⟨z,us,r,⟨_,Heap.get?_push_size _ rfl,rfl,_,rfl⟩⟩
theorem dB (h:PA X es t):PE X (.List es pos) (aOi t):=by
 intro pins s σ H Q I hq;refine wpAny_List_spliced (thn (h pos pins s σ H _ I hq) fun us s1 ⟨xs,H1,I1,r,z,q⟩=>⟨by rw[← r.length]; exact z,?_⟩);have hf:H1 s1.heap.objs.size=none:=I1.hok.fresh (Nat.le_refl _);refine⟨.ref s1.heap.objs.size,upd H1 s1.heap.objs.size (.lst xs),I1.laid (t':=s1.toks) (fun b u e=>Heap.get?_push_of_some _ e) (Nat.le_refl _) ?_,rfl,q _ hf⟩;exact⟨z,us,0,r,Heap.get?_push_size _ rfl⟩
end

abbrev Sp:=List V->Hp->VK->XK->Prop
abbrev CXT:=List Env->Hp->Shared->XK->Value->Shared->Prop

structure sN (P:Program) (w:World) (K:PySem.W.Frag) (mg:Str->Option Value) (base:Heap) (A:Around) (outer:List Env) (s:Shared) (H:Hp):Prop where
 frames:A.frames=some outer
 mod:Mod K mg base
 bs:∀ b o,base.get? b=some o->s.heap.get? b=some o∧H b=none
 bsz:base.objs.size<=s.heap.objs.size
 funs:s.heap.FunFrames base outer
 frf:∀ b∈frs outer,H b=none
 hok:HOk P w H s.heap
 bare:AllBare s.gens
inductive CE (outer:List Env) (P:Program) (w:World) (H:Hp) (s:Shared) (Q:VK) (u:Value) (s':Shared):Prop
 | mk (v:_) (H':_) (h0_:s'.os=s.os) (h1_:AllBare s'.gens) (h2_:Un (frs outer) [] H H' s.heap s'.heap) (h3_:HOk P w H' s'.heap) (h4_:cH v u) (h5_:Q v H')
def CR (CX:CXT) (outer:List Env) (P:Program) (w:World) (H:Hp) (s:Shared) (Q:VK) (E:XK) (r:Result) (s':Shared):Prop:=
 match r with
 | .ok (.ret u)=>CE outer P w H s Q u s'
 | .ok _=>False
 | .error e=>CX outer H s E e s'
structure aX (P:Program) (w:World) (K:PySem.W.Frag) (mg:Str->Option Value) (base:Heap) (CX:CXT) (k:Nat) (f:Addr) (fd:FuncData) (ps:List Str) (sp:Sp):Prop where
 len:∀ vs H Q E,sp vs H Q E->vs.length=ps.length
 run:∀ (A:Around) (outer:List Env) (s:Shared) (H:Hp) (args:Args) (us:List Value) (vs:List V) (Q:VK) (E:XK),cY k A->sN P w K mg base A outer s H->BindsTo s fd args (ps.zip us)->cB vs us->sp vs H Q E ->
  codeAny (model P w) A (.call (.ref f) args) (CR CX outer P w H s Q E) s

theorem sN.make {P:Program}{w:World}{K:PySem.W.Frag}{mg:Str->Option Value}{base:Heap}{A:Around}{outer:List Env}{s:Shared}{H:Hp}(e:sN P w K mg base A outer s H) (C:Addr) (us:List Value) (kw:List (Str×Value)) :
  sN P w K mg base (A.under (.builtin "type.__call__" ⟨.ref C::us,kw⟩)) outer s H:=⟨by first | exact e.frames | (simpa [Around.under,Code.envs,Code.isFrame,pushEnvs] using e.frames),e.mod,e.bs,e.bsz,e.funs,e.frf,e.hok,e.bare⟩

section
variable {X:Cx}{pins:List (Addr×Obj)}{σ:St}{H:Hp}{s s':Shared}
theorem Inv.env0 (I:Inv X pins σ H s):sN X.prog X.w X.K X.mg X.base X.A X.stack s H:=
 ⟨I.ok.frames,I.ok.mod,I.bs,Nat.le_trans I.ok.bsz I.sz,I.stack,I.stkFree,I.hok,I.bare⟩
theorem Inv.after {Q:VK}{u:Value}(I:Inv X pins σ H s) (h:CE X.stack X.prog X.w H s Q u s'):EP X pins σ Q u s':=by
 obtain⟨v,H',os,bare,un,hok,r,q⟩:=h;obtain⟨hh,g,d,t,os'⟩:=s';obtain rfl:os'=s.os:=os;exact⟨v,H',I.call (h':=hh) (g':=g) (d':=d) (t':=t) (ch:=[]) un hok bare (fun b z=>absurd z (by simp)),r,q⟩
end

def aJq (sp:Sp) (dvs:List V) (E:XK) (t:TA):TE:=fun σ H Q=>t σ H fun vs H1=>sp (vs++dvs) H1 Q E
inductive aLy (C:Addr) (m:Str) (x:V) (H1:Hp) (R:Prop):Prop
 | mk (a dx:Addr) (fs:List (Str×V)) (h1:x=.ref a) (h2:H1 a=some (.ins C dx fs)) (h3:fs.lookup m=none) (r:R)
def aEa (C:Addr) (m:Str) (sp:Sp) (dvs:List V) (E:XK) (ta:TE) (t:TA):TE:=fun σ H Q=>ta σ H fun x H1=>aLy C m x H1 (t σ H1 fun vs H2=>sp (x::(vs++dvs)) H2 Q E)
def aMi (C:Addr) (sp:Sp) (dvs:List V) (E:XK) (t:TA):TE:=fun σ H Q=>t σ H fun vs H1=>∀ x dx,H1 x=none->H1 dx=none->dx≠x ->
 sp (.ref x::(vs++dvs)) (upd (upd H1 dx (.own x)) x (.ins C dx [])) (fun v H2=>v=.non∧Q (.ref x) H2) E

def bJ (K:PySem.W.Frag) (fd:FuncData) (ps:List Str) (ds:List Value):Prop:=
 ∀ (s:Shared) (us:List Value),K.In s.heap->(us++ds).length=ps.length->BindsTo s fd ⟨us,[]⟩ (ps.zip (us++ds))
theorem bJ.all {K:PySem.W.Frag}{fd:FuncData}{ps:List Str}(h:∀ us:List Value,us.length=ps.length->bindArgs fd ⟨us,[]⟩=pure (ps.zip us)):bJ K fd ps []:=fun s us _ hl=>by
 rw[List.append_nil] at hl ⊢;exact .of_eq (h us hl)

def gN (CX:CXT) (X:Cx) (E:XK):Prop:=∀ (pins:List (Addr×Obj)) (σ:St) (H:Hp) (s:Shared) (e:Value) (s':Shared),Inv X pins σ H s->CX X.stack H s E e s'->X.xe e s'

section
variable {X:Cx}{CX:CXT}{k:Nat}{f C:Addr}{fd:FuncData}{ps:List Str}{sp:Sp}{dvs:List V}{ds:List Value}{E:XK}{x m:Str}{p pos apos:Pos}{e o:Expr}{es:List Expr}{ta:TE}{t:TA}

theorem yM {pins:List (Addr×Obj)}{σ:St}{H:Hp}{s:Shared}{Q:VK}{us:List Value}{vs:List V}(F:aX X.prog X.w X.K X.mg X.base CX k f fd ps sp) (hr:cY k X.A) (hb:bJ X.K fd ps ds) (hd:cB dvs ds) (hx:gN CX X E)
  (I:Inv X pins σ H s) (r:cB vs us) (h:sp (vs++dvs) H Q E):wpAny (model X.prog X.w) X.A (call (.ref f) us) (EP X pins σ Q) X.xe s:=by
 have r2:cB (vs++dvs) (us++ds):=r.append hd;have hl:(us++ds).length=ps.length:=by rw[← r2.length]; exact F.len _ _ _ _ h
 refine wpAny_call (codeAny_mono (F.run X.A X.stack s H ⟨us,[]⟩ (us++ds) (vs++dvs) Q E hr I.env0 (hb s us I.kIn hl) r2 h) fun r s' hq=>?_);cases r with
 | error e=>exact hx pins σ H s e s' I hq
 | ok fl=>
  cases fl with
  | ret u=>exact I.after hq
  | next=>exact False.elim hq
  | brk=>exact False.elim hq
  | cont=>exact False.elim hq

theorem aZ (F:aX X.prog X.w X.K X.mg X.base CX k f fd ps sp) (hr:cY k X.A) (hg:Gl X x) (hm:X.mg x=some (.ref f)) (hk:PySem.W.keepIn X.K (.ref f)=true) (hb:bJ X.K fd ps ds) (hd:cB dvs ds) (hx:gN CX X E)
  (ha:PA X (e::es) t) (hdb:(x==("__debug__" : Str))=false:=by decide) (he:starEach (e::es) X.env=(false,eval e X.env)::starEach es X.env:=by rfl) (hpl:(backTo pos (starEach es X.env)).any (·.1)=false:=by rfl) :
  PE X (.Call (.Name x p) (e::es) [] pos) (aJq sp dvs E t):=by
 intro pins s σ H Q I h;refine wpAny_Call_Name_kw (iP I hg hm ?_ hdb);refine PySem.W.callWith_K (h₀:=X.base) I.ok.mod.kin hk (thn (ha pos pins s σ H _ I h) fun us s1 ⟨vs,H1,I1,r,q⟩=>⟨I1.kIn,?_⟩) he hpl;exact yM F hr hb hd hx I1 r q

theorem dO {pl:Sem Bool}(he:PE X o ta) (c:Cls X.K C) (hm:eJ X.K C m f) (F:aX X.prog X.w X.K X.mg X.base CX k f fd ps sp) (hr:cY k X.A) (hb:bJ X.K fd ps ds) (hd:cB dvs ds) (hx:gN CX X E) (ha:PA X (e::es) t)
  (hst:starEach (e::es) X.env=(false,eval e X.env)::starEach es X.env:=by rfl) (hpl:(backTo pos (starEach es X.env)).any (·.1)=false:=by rfl)
  (ht:eval (.Call (.Attribute o m apos) (e::es) [] pos) X.env=(do
   let ov ← eval o X.env
   standAt apos.atName
   let (f,first) ← holding [ov] (getMethod ov m pl)
   callWith pos f first (backTo pos (starEach (e::es) X.env)) (backToKw pos (keywordEach [] X.env))):=by rfl) :
  PE X (.Call (.Attribute o m apos) (e::es) [] pos) (aEa C m sp dvs E ta t):=by
 intro pins s σ H Q I h;refine PySem.W.methodCall_KW (pl:=pl) (thn (he pins s σ H _ I h) fun u s1 ⟨x,H1,I1,rx,a,dx,fs,ex,ea,l,q⟩=>?_) ht;subst ex;obtain rfl:u=Value.ref a:=rx;refine rM I1 ea c hm l ?_;refine PySem.W.callWith_K (first:=[.ref a]) (h₀:=X.base) I.ok.mod.kin hm.kp (thn (ha pos pins s1 σ H1 _ I1 q) fun us s2 ⟨vs,H2,I2,r,q2⟩=>⟨I2.kIn,?_⟩) hst hpl;exact yM (us:=.ref a::us) (vs:=.ref a::vs) F hr hb hd hx I2 (.cons rfl r) q2
theorem eX {pl:Sem Bool}(he:PE X o ta) (c:Cls X.K C) (hm:eJ X.K C m f) (F:aX X.prog X.w X.K X.mg X.base CX k f fd ps sp) (hr:cY k X.A) (hb:bJ X.K fd ps ds) (hd:cB dvs ds) (hx:gN CX X E)
  (ht:eval (.Call (.Attribute o m apos) [] [] pos) X.env=(do
   let ov ← eval o X.env
   standAt apos.atName
   let (f,first) ← holding [ov] (getMethod ov m pl)
   callWith pos f first (backTo pos (starEach [] X.env)) (backToKw pos (keywordEach [] X.env))):=by rfl) :
  PE X (.Call (.Attribute o m apos) [] [] pos) (aEa C m sp dvs E ta aKe):=by
 intro pins s σ H Q I h;refine PySem.W.methodCall_KW (pl:=pl) (thn (he pins s σ H _ I h) fun u s1 ⟨x,H1,I1,rx,a,dx,fs,ex,ea,l,q⟩=>?_) ht;subst ex;obtain rfl:u=Value.ref a:=rx;refine rM I1 ea c hm l ?_;exact PySem.W.callWith_K0 (first:=[.ref a]) I1.kIn hm.kp (yM (us:=[.ref a]) (vs:=[.ref a]) F hr hb hd hx I1 (.cons rfl .nil) q)

structure Mk (K:PySem.W.Frag) (C f:Addr):Prop where
 makes:PySem.W.makesIn K C=true
 init:PySem.W.findIn K (.ref C) "__init__"=some (some (.ref f))
 fn:PySem.W.isFn K (.ref f)=true
 kp:PySem.W.keepIn K (.ref C)=true

theorem aEt {pins:List (Addr×Obj)}{σ:St}{H:Hp}{s:Shared}{Q:VK}{us:List Value}{vs:List V}(M:Mk X.K C f) (F:aX X.prog X.w X.K X.mg X.base CX k f fd ps sp) (hr:cY (k+1) X.A) (hb:bJ X.K fd ps ds) (hd:cB dvs ds)
  (hx:gN CX X E) (I:Inv X pins σ H s) (r:cB vs us)
  (h:∀ x dx,H x=none->H dx=none->dx≠x->sp (.ref x::(vs++dvs)) (upd (upd H dx (.own x)) x (.ins C dx [])) (fun v H2=>v=.non∧Q (.ref x) H2) E) :
  wpAny (model X.prog X.w) X.A (call (.ref C) us) (EP X pins σ Q) X.xe s:=by
 have hq:=h (s.heap.objs.size+1) s.heap.objs.size (I.hok.fresh (Nat.le_succ _)) (I.hok.fresh (Nat.le_refl _)) (Nat.ne_of_lt (Nat.lt_succ_self _));have I2:=Inv.made (C:=C) I;have r2:cB (V.ref (s.heap.objs.size+1)::(vs++dvs)) (Value.ref (s.heap.objs.size+1)::(us++ds)):=.cons rfl (r.append hd)
 have hl:(Value.ref (s.heap.objs.size+1)::us++ds).length=ps.length:=by
  have e:=r2.length;rw[F.len _ _ _ _ hq] at e;exact e.symm
 refine wpAny_call (aGd (f:=f) I.kIn M.makes M.init (beq_iff_eq.mp M.fn) (codeAny_mono (F.run _ X.stack _ _ ⟨Value.ref (s.heap.objs.size+1)::us,[]⟩ (Value.ref (s.heap.objs.size+1)::(us++ds)) _ _ E (hr.make C us [])
  (I2.env0.make C us []) (hb _ (Value.ref (s.heap.objs.size+1)::us) I2.kIn hl) r2 hq) fun r s' hq'=>?_))
 cases r with
 | error e=>exact hx pins σ _ _ e s' I2 hq'
 | ok fl=>
  cases fl with
  | ret u=>
   obtain⟨v,H',I3,rv,ev,q3⟩:=I2.after hq';subst ev;exact⟨rv,⟨V.ref (s.heap.objs.size+1),H',I3,rfl,q3⟩⟩
  | next=>exact False.elim hq'
  | brk=>exact False.elim hq'
  | cont=>exact False.elim hq'
theorem qD (M:Mk X.K C f) (F:aX X.prog X.w X.K X.mg X.base CX k f fd ps sp) (hr:cY (k+1) X.A) (hg:Gl X x) (hm:X.mg x=some (.ref C)) (hb:bJ X.K fd ps ds) (hd:cB dvs ds) (hx:gN CX X E)
  (ha:PA X (e::es) t) (hdb:(x==("__debug__" : Str))=false:=by decide) (he:starEach (e::es) X.env=(false,eval e X.env)::starEach es X.env:=by rfl) (hpl:(backTo pos (starEach es X.env)).any (·.1)=false:=by rfl) :
  PE X (.Call (.Name x p) (e::es) [] pos) (aMi C sp dvs E t):=by
 intro pins s σ H Q I h;refine wpAny_Call_Name_kw (iP I hg hm ?_ hdb);refine PySem.W.callWith_K (h₀:=X.base) I.ok.mod.kin M.kp (thn (ha pos pins s σ H _ I h) fun us s1 ⟨vs,H1,I1,r,q⟩=>⟨I1.kIn,?_⟩) he hpl;exact aEt M F hr hb hd hx I1 r q
end

section
variable {X:Cx}{CX:CXT}{k:Nat}{f C:Addr}{fd:FuncData}{ps ks:List Str}{sp:Sp}{E:XK}{x m:Str}{p pos apos kpos:Pos}{e o:Expr}{es:List Expr}{kws:List Keyword}{te ta:TE}{t tk:TA}{nm:Option Str}

variable {g:List Value->List Value->List Value}{gV:List V->List V->List V}
end

structure aS (N P:List Str) (sc:Scope):Prop where
 kind:sc.kind=.function
 co:sc.isCoroutine=false
 gen:sc.isGenerator=false
 nd:N.Nodup
 pre:N.take P.length=P
 par:∀ x∈P,sc.names.lookup x=some .local∨sc.names.lookup x=some .cell
 nofree:∀ y∈sc.names,y.2≠.free

theorem uC {kindOf:Str->Option NameKind}{x:Str}:∀ {binds:List (Str×Value)}{m:Str->Option Value},(∀ v,(x,v)∉binds)->bindL kindOf binds m x=m x
 | [],_,_=>rfl
 | (n,v)::r,m,h=>by
  unfold bindL;rw[uC fun w hw=>h w (List.mem_cons_of_mem _ hw)];split
  ·have:x≠n:=by rintro rfl; exact h v List.mem_cons_self
   simp[this]
  ·rfl
theorem uE {kindOf:Str->Option NameKind}{x:Str}:∀ {binds:List (Str×Value)}{m:Str->Option Value},(∀ v,(x,v)∉binds)->bindC kindOf binds m x=m x
 | [],_,_=>rfl
 | (n,v)::r,m,h=>by
  unfold bindC;rw[uE fun w hw=>h w (List.mem_cons_of_mem _ hw)];split
  ·rfl
  ·have:x≠n:=by rintro rfl; exact h v List.mem_cons_self
   simp[this]
theorem uD {kindOf:Str->Option NameKind}{x:Str}{v:Value}:∀ {P:List Str}{vs:List Value}{i:Nat}{m:Str->Option Value},P.Nodup->P[i]?=some x->vs[i]?=some v->kindOf x=some .local ->
  bindL kindOf (P.zip vs) m x=some v
 | [],_,_,_,_,h,_,_=>by simp at h
 | _::_,[],_,_,_,_,h,_=>by simp at h
 | p::P,w::vs,0,m,nd,h1,h2,hk=>by
  simp at h1 h2; subst h1; subst h2;show bindL kindOf ((p,w)::P.zip vs) m p=_;unfold bindL;rw[uC fun v hv=>(List.nodup_cons.mp nd).1 (List.of_mem_zip hv).1,if_pos hk]
  simp
 | p::P,w::vs,i+1,m,nd,h1,h2,hk=>by
  show bindL kindOf ((p,w)::P.zip vs) m x=_;unfold bindL;exact uD (i:=i) (List.nodup_cons.mp nd).2 (by simpa using h1) (by simpa using h2) hk
theorem uF {kindOf:Str->Option NameKind}{x:Str}{v:Value}:∀ {P:List Str}{vs:List Value}{i:Nat}{m:Str->Option Value},P.Nodup->P[i]?=some x->vs[i]?=some v->kindOf x≠some .local ->
  bindC kindOf (P.zip vs) m x=some v
 | [],_,_,_,_,h,_,_=>by simp at h
 | _::_,[],_,_,_,_,h,_=>by simp at h
 | p::P,w::vs,0,m,nd,h1,h2,hk=>by
  simp at h1 h2; subst h1; subst h2;show bindC kindOf ((p,w)::P.zip vs) m p=_;unfold bindC;rw[uE fun v hv=>(List.nodup_cons.mp nd).1 (List.of_mem_zip hv).1,if_neg hk]
  simp
 | p::P,w::vs,i+1,m,nd,h1,h2,hk=>by
  show bindC kindOf ((p,w)::P.zip vs) m x=_;unfold bindC;exact uF (i:=i) (List.nodup_cons.mp nd).2 (by simpa using h1) (by simpa using h2) hk

def start (N:List Str) (vs:List V):St:=vs.map some++List.replicate (N.length-vs.length) none

def iH (CX:CXT) (P:Program) (w:World) (K:PySem.W.Frag) (mg:Str->Option Value) (base:Heap) (N:List Str) (qual:Str) (scope:Scope) (f:Addr) (cd:Value) (A:Around) (outer:List Env) (s:Shared) (H:Hp) (E:XK):Cx where
 prog:=P
 w:=w
 K:=K
 mg:=mg
 base:=base
 A:=A.deeper (envOfC qual scope s.heap.objs.size f cd)
 N:=N
 s₀:=s
 H₀:=H
 env:=envOfC qual scope s.heap.objs.size f cd
 outer:=outer
 stack:=envOfC qual scope s.heap.objs.size f cd::outer
 ex:=[]
 calm:=true
 fn:=fun _=>true
 pn:=[]
 xe:=fun e s'=>wpAny (model P w) (A.deeper (envOfC qual scope s.heap.objs.size f cd)) (leaving (envOfC qual scope s.heap.objs.size f cd) e) (fun _ s''=>CX outer H s E e s'') (fun e' s''=>CX outer H s E e' s'') s'

theorem xT {sc:Scope}{n:Nat}{x:Str}(h:sc.names.lookup x=some .cell):∃ c,(cellsFrom n sc.names []).lookup x=some c:=by
 have q:=PySem.W.cellsFrom_some sc.names n [] (.inl h);exact Option.isSome_iff_exists.mp q

theorem pF {CX:CXT}{P:Program}{w:World}{K:PySem.W.Frag}{mg:Str->Option Value}{base:Heap}{N ps:List Str}{qual:Str}{scope:Scope}{f:Addr}{cd:Value}{A:Around}{outer:List Env}{s s1:Shared}{H:Hp}{E:XK}{us:List Value}{vs:List V}
  (S:aS N ps scope) (hd:A.handled=none) (e0:sN P w K mg base A outer s H) (hl:vs.length=ps.length) (r:cB vs us)
  (x:InCallC s s.heap.objs.size (bindL (envOfC qual scope s.heap.objs.size f cd).kindOf (ps.zip us) fun _=>none) (cellsFrom (s.heap.objs.size+1) scope.names []) (bindC (envOfC qual scope s.heap.objs.size f cd).kindOf (ps.zip us) fun _=>none) s1) :
  Inv (iH CX P w K mg base N qual scope f cd A outer s H E) [] (start N vs) H s1:=by
 have hpl:ps.length<=N.length:=by have:=congrArg List.length S.pre; rw[List.length_take] at this; omega
 obtain⟨h1,tk,rfl,hk⟩:=x.done;have noA:∀ b:Addr,b∉(iH CX P w K mg base N qual scope f cd A outer s H E).ex:=fun b z=>absurd (show b∈([]:List Addr) from z) (by simp)
 refine⟨⟨e0.mod,S.kind,rfl,rfl,Nat.le_refl _,fun y z c h1 h2=>?_,fun y hy=>?_,fun y c _ h=>?_,fun _=>hd,Around.frames_deeper e0.frames,.inr ⟨rfl,rfl⟩,fun b z=>absurd z (noA b),e0.bs,e0.bsz,fun b _ _=>noA b,fun b z=>absurd z (noA b),e0.funs,e0.frf⟩,
  rfl,e0.bare,Un.kept hk,⟨_,x.toInCall.ns,fun i y v h1 h2 h3=>?_⟩,fun y c h=>⟨_,x.cell y c h⟩,e0.hok.fresh (Nat.le_refl _),fun y c h=>?_,fun p hp=>absurd (show p∈([]:List (Addr×Obj)) from hp) (by simp),e0.hok.kept hk,?_⟩
 ·exact name_of_addr x.apart (PySem.mem_of_lookup h1) (PySem.mem_of_lookup h2)
 ·have hy:scope.names.lookup y=some .cell∨scope.names.lookup y=some .free:=hy;rcases hy with hy | hy
  ·exact xT hy
  ·exact absurd rfl (S.nofree _ (PySem.mem_of_lookup hy))
 ·exact Nat.le_of_lt (x.above y c (PySem.mem_of_lookup h))
 ·have hi:i<vs.length:=by
   unfold start at h2
   by_cases hi:i<vs.length
   ·exact hi
   ·rw[List.getElem?_append_right (by simpa using hi)] at h2;rw[List.getElem?_replicate] at h2;split at h2 <;> cases h2
  have ha:vs[i]?=some v:=by
   unfold start at h2;rw[List.getElem?_append_left (by simpa using hi),List.getElem?_map] at h2;cases e:vs[i]? with
   | none=>rw[e] at h2; cases h2
   | some a=>rw[e] at h2; cases h2; rfl
  obtain⟨u,hu,rv⟩:=r.get ha
  have hp:ps[i]?=some y:=by
   rw[← S.pre,List.getElem?_take_of_lt (by omega)]; exact h1
  have ndP:ps.Nodup:=by rw[← S.pre]; exact S.nd.sublist (List.take_sublist _ _)
  refine⟨u,rv,?_⟩;rcases S.par y (List.mem_of_getElem? hp) with k | k
  ·exact .inl ⟨k,uD ndP hp hu k⟩
  ·obtain⟨c,e⟩:=xT (n:=s.heap.objs.size+1) k;refine .inr ⟨.inl k,c,e,?_⟩;have q:=x.cell y c e;rw[uF ndP hp hu (by show scope.names.lookup y≠_; rw[k]; decide)] at q;exact q
 ·exact e0.hok.fresh (Nat.le_of_lt (x.above y c (PySem.mem_of_lookup h)))
 ·unfold start;show _=N.length;rw[List.length_append,List.length_map,List.length_replicate];omega

theorem aBb {CX:CXT}{P:Program}{w:World}{K:PySem.W.Frag}{mg:Str->Option Value}{base:Heap}{k:Nat}{f:Addr}{name qual:Str}{params:Arguments}{body:List Stmt}{scope:Scope}{dV kV doc pm cdv ct oc:Value}{an od:Option Addr}
  {osl:Array (Option Value)}{N ps:List Str}{sp:Sp}(lk:K.lookup f=some ⟨oc,od,.func (PySem.W.fnOf name qual params body scope dV kV doc pm an cdv ct),osl⟩) (hcd:PySem.W.codeIn K cdv qual=true) (S:aS N ps scope)
  (len:∀ vs H Q E,sp vs H Q E->vs.length=ps.length)
  (hbody:∀ (A:Around) (outer:List Env) (s:Shared) (H:Hp) (vs:List V) (Q:VK) (E:XK),cY k (A.deeper (envOfC qual scope s.heap.objs.size f cdv))->sp vs H Q E ->
   ∃ t,PSs (iH CX P w K mg base N qual scope f cdv A outer s H E) body t∧t { nx:=fun _ H'=>Q .non H',rt:=Q } (start N vs) H) :
  aX P w K mg base CX (k+1) f (PySem.W.fnOf name qual params body scope dV kV doc pm an cdv ct) ps sp:=by
 refine⟨len,fun A outer s H args us vs Q E hr e0 hb r hsp=>?_⟩;have hl:=len _ _ _ _ hsp;have KX:K.In s.heap:=e0.mod.kin.keeps fun b o e=>(e0.bs b o e).1;have lim:s.heap.NoLimit:=e0.mod.nolimit.keeps fun b o e=>(e0.bs b o e).1
 have hkind:∀ y∈ps.zip us,scope.names.lookup y.1=some .local∨(scope.names.lookup y.1=some .cell∧((cellsFrom (s.heap.objs.size+1) scope.names []).lookup y.1).isSome=true):=fun ⟨n,v⟩ hy=>by
  rcases S.par n (List.of_mem_zip hy).1 with q | q
  ·exact .inl q
  ·exact .inr ⟨q,PySem.W.cellsFrom_some _ _ _ (.inl q)⟩
 refine codeAny_call_function hr.depth (KX _ _ lk) rfl S.co S.gen rfl (PySem.W.codeRec_of KX hcd) (hb _ _ _ _ ?_);refine wpAny_newFunctionEnv_cells S.kind hkind fun env he s1 x=>?_;subst he;refine⟨lim.keeps x.toInCall.keep,codeAny_func ?_⟩;obtain⟨t,ht,hq⟩:=hbody A outer s H vs Q E (hr.deeper _) hsp;have I:Inv (iH CX P w K mg base N qual scope f cdv A outer s H E) [] (start N vs) H s1:=pF S hr.hd e0 hl r x;refine wpAny_mono (ht [] s1 (start N vs) H _ I hq) (fun fl s' hs=>?_) fun e s' hs=>hs
 have fin:∀ {σ':St}{H':Hp}{v:V}{u:Value},Inv (iH CX P w K mg base N qual scope f cdv A outer s H E) [] σ' H' s'->cH v u->Q v H'->CE outer P w H s Q u s':=
  fun {σ' H' v u} J rv q=>⟨v,H',J.os,J.bare,J.base,J.hok,rv,q⟩
 cases fl with
 | ret u=>
  obtain⟨v,σ',H',J,rv,q⟩:=hs;exact fin J rv q
 | next=>
  obtain⟨σ',H',J,q⟩:=hs;exact fin (v:=V.non) (u:=Value.none) J rfl q
 | brk=>
  obtain⟨_,_,_,q⟩:=hs;exact False.elim q
 | cont=>
  obtain⟨_,_,_,q⟩:=hs;exact False.elim q
end L2

namespace L2
open PySem PySem.Spec PyProof.Rows
section
variable {X:Cx}{x:Str}{p pos:Pos}{e:Expr}{es:List Expr}{t:TA}{id T:String}{r:List V->Hp->VK->Prop}

def tCB (r:List V->Hp->VK->Prop) (t:TA):TE:=fun σ H Q=>t σ H fun vs H1=>r vs H1 Q
theorem cJ (hc:CallR X (.builtin id) r) (hg:Gl X x) (hm:X.mg x=none) (hv:bootBuiltins x=some (.builtin id)) (ha:PA X (e::es) t) (hn:x≠"__name__" := by decide) (hdb:(x==("__debug__" : Str))=false:=by decide)
  (he:starEach (e::es) X.env=(false,eval e X.env)::starEach es X.env:=by rfl) (hpl:(backTo pos (starEach es X.env)).any (·.1)=false:=by rfl):PE X (.Call (.Name x p) (e::es) [] pos) (tCB r t):=by
 intro pins s σ H Q I h;refine wpAny_Call_Name_kw (kJ I hg hm hv ?_ hn hdb);exact PyProof.Rows.callWith_builtin1 (thn (ha pos pins s σ H _ I h) fun us s1 ⟨vs,H1,I1,r1,q1⟩=>hc pins s1 σ H1 vs us Q I1 r1 q1) he hpl
theorem eS (hc:CallR X (.type T) r) (hg:Gl X x) (hm:X.mg x=none) (hv:bootBuiltins x=some (.type T)) (ha:PA X (e::es) t) (hn:x≠"__name__" := by decide) (hdb:(x==("__debug__" : Str))=false:=by decide)
  (he:starEach (e::es) X.env=(false,eval e X.env)::starEach es X.env:=by rfl) (hpl:(backTo pos (starEach es X.env)).any (·.1)=false:=by rfl):PE X (.Call (.Name x p) (e::es) [] pos) (tCB r t):=by
 intro pins s σ H Q I h;refine wpAny_Call_Name_kw (kJ I hg hm hv ?_ hn hdb);exact PyProof.Rows.callWith_type1 (thn (ha pos pins s σ H _ I h) fun us s1 ⟨vs,H1,I1,r1,q1⟩=>hc pins s1 σ H1 vs us Q I1 r1 q1) he hpl
end
end L2

namespace HT
open PySem PyProof.Rows



section
open PySem.SeqAt
open PySem.AutoSeq1 (wpAny_loadPart')
open PySem.MeetsSeq PySem.MeetsSeq2 PySem.MeetsSeq3

end

section
variable {prog:Program}{w:World}{A:Around}{E:Value->Shared->Prop}{s:Shared}



theorem slicePart_ {v:Value}{o:Option Int}{Q:Option Int->Shared->Prop}(p:IsPart v o) (h:Q o s):wpAny (model prog w) A (Builtin.Slice.slicePartIndex v) Q E s:=by
 cases p with
 | none=>exact slicePart_none h
 | int i t=>exact slicePart_int h

end
end HT

namespace L2
open PySem PySem.Spec PyProof.Rows

abbrev TO:=St->Hp->(Option Int->Hp->Prop)->Prop
def PO (X:Cx) (e:Option Expr) (t:TO):Prop:=
 ∀ (pins:List (Addr×Obj)) (s:Shared) (σ:St) (H:Hp) (Q:Option Int->Hp->Prop),Inv X pins σ H s->t σ H Q ->
  wpAny (model X.prog X.w) X.A (evalPart e X.env) (fun u s'=>∃ o H',Inv X pins σ H' s'∧IsPart u o∧Q o H') X.xe s
def aHo:TO:=fun _ H Q=>Q none H
def aMg (t:TE):TO:=fun σ H Q=>t σ H fun x H1=>∃ i,x=.int i∧Q (some i) H1


section
variable {X:Cx}{e:Expr}{te:TE}{lo hi:Option Expr}{tl th:TO}{pos p2:Pos}

theorem qC:PO X none aHo:=by
 intro pins s σ H Q I h;rw[evalPart_none];exact wpAny_pure ⟨none,H,I,.none,h⟩
theorem uS (h:PE X e te):PO X (some e) (aMg te):=by
 intro pins s σ H Q I hw;rw[evalPart_some];refine thn (h pins s σ H _ I hw) fun u s1 ⟨x,H1,I1,r1,q1⟩=>?_;obtain⟨i,rfl,q⟩:=q1;obtain⟨t,rfl⟩:=r1;exact⟨some i,H1,I1,.int i t,q⟩



end
end L2

namespace L2
open PySem PySem.Spec PyProof.Rows

def ixN (n:Nat) (i:Int):Option Nat:=if 0<=i then (if i<n then some i.toNat else none) else if -(n:Int)<=i then some (i+n).toNat else none
def atI {α:Type}(xs:List α) (i:Int):Option α:=(ixN xs.length i).bind fun j=>xs[j]?
theorem aIt {n:Nat}{i:Int}{j:Nat}(h:ixN n i=some j):seqIndex? i n=some j∧j<n∧-(n:Int)<=i∧i<n:=by
 unfold ixN at h
 by_cases h0:0<=i
 ·rw[if_pos h0] at h
  by_cases h1:i<n
  ·rw[if_pos h1] at h;have e:i.toNat=j:=Option.some.inj h;exact⟨by rw[seqIndex_of h0 h1,e],by omega,by omega,h1⟩
  ·rw[if_neg h1] at h; cases h
 ·rw[if_neg h0] at h
  by_cases h1:-(n:Int)<=i
  ·rw[if_pos h1] at h;have e:(i+n).toNat=j:=Option.some.inj h;exact⟨by rw[seqIndex_neg (by omega) h1,e],by omega,h1,by omega⟩
  ·rw[if_neg h1] at h; cases h
theorem vI {α:Type}{xs:List α}{i:Int}{v:α}(h:atI xs i=some v):∃ j,seqIndex? i xs.length=some j∧xs[j]?=some v∧j<xs.length∧-(xs.length:Int)<=i∧i<xs.length:=by
 unfold atI at h;cases e:ixN xs.length i with
 | none=>rw[e] at h; cases h
 | some j=>
  rw[e] at h;obtain⟨h1,h2,h3,h4⟩:=aIt e;exact⟨j,h1,h,h2,h3,h4⟩
theorem gH {α:Type}{xs:List α}{j:Nat}{v:α}(h:xs[j]?=some v):atI xs (j:Int)=some v:=by
 have hj:j<xs.length:=(List.getElem?_eq_some_iff.mp h).1
 have e:ixN xs.length (j:Int)=some j:=by
  unfold ixN;rw[if_pos (by omega),if_pos (by omega)]; simp
 unfold atI; rw[e]; exact h

def aJl (b:Expr):Prop:=∀ o i,subscripted b false o i=operate [o,i] (getItem o i)
def IxR (X:Cx) (r:R2):Prop:=
 ∀ (value slice:Expr) (pins:List (Addr×Obj)) (s:Shared) (σ:St) (H:Hp) (x y:V) (v u:Value) (Q:VK),Inv X pins σ H s->cH x v->cH y u->r x y H Q ->
  subscripted slice false v u=operate [v,u] (getItem v u)->wpAny (model X.prog X.w) X.A (subscriptTail value slice v u) (EP X pins σ Q) X.xe s
def MtR (X:Cx) (id:String) (r:V->List V->Hp->VK->Prop):Prop:=
 ∀ (pins:List (Addr×Obj)) (s:Shared) (σ:St) (H:Hp) (x:V) (xs:List V) (v:Value) (us:List Value) (Q:VK),Inv X pins σ H s->cH x v->cB xs us->r x xs H Q ->
  wpAny (model X.prog X.w) X.A (call (.builtin id) (v::us)) (EP X pins σ Q) X.xe s
section
variable {X:Cx}{a b:Expr}{ta tb:TE}{pos:Pos}
theorem cZ {r:R2}(hr:IxR X r) (ha:PE X a ta) (hb:PE X b tb) (hs:aJl b):PE X (.Subscript a b pos) (tOp r ta tb):=by
 intro pins s σ H Q I h;exact Subscript_ (aLt ha hb I h fun v u s2 x y H2 I2 rx ry q=>hr a b pins s2 σ H2 x y v u Q I2 rx ry q (hs _ _))

inductive aBy (K:PySem.W.Frag) (x:V) (y:V) (H:Hp) (Q:VK):Prop
 | mk (p:_) (xs:_) (i:_) (v:_) (h0_:x=.ref p) (h1_:y=.int i) (h2_:SqL K H p xs) (h3_:atI xs i=some v) (h4_:Q v H)
inductive aEy (K:PySem.W.Frag) (x:V) (y:V) (H:Hp) (Q:VK):Prop
 | mk (p:_) (xs:_) (i:_) (v:_) (h0_:x=.ref p) (h1_:y=.int i) (h2_:SqT K H p xs) (h3_:atI xs i=some v) (h4_:Q v H)
inductive aPj (x:V) (y:V) (H:Hp) (Q:VK):Prop
 | mk (z:_) (i:_) (c:_) (h0_:x=.str z) (h1_:y=.int i) (h2_:z.length<=sizeLine) (h3_:atI z.cps.toList i=some c) (h4_:Q (.str ⟨#[c]⟩) H)
theorem cQ:IxR X (aBy X.K):=by
 intro value slice pins s σ H x y v u Q I rx ry h hs;obtain⟨p,xs,i,z,rfl,rfl,hq,he,q⟩:=h;cases rx;obtain⟨t,rfl⟩:=ry;obtain⟨its,r,pl,hz⟩:=I.list hq;obtain⟨j,h1,h2,h3,h4,h5⟩:=vI he;obtain⟨w,ew,rw'⟩:=r.get h2;have hl:=r.length;have hn:=pA;have fin:EP X pins σ Q w s:=⟨z,H,I,rw',q⟩
 by_cases h0:0<=i
 ·have hj:i.toNat=j:=by
   rw[seqIndex_of h0 h5] at h1;exact Option.some.inj h1
  exact item_listR pl.isList h0 (by omega) (by rw[hj]; simpa using ew) fin hs
 ·have hj:(i+(its.toArray.size:Int)).toNat=j:=by
   rw[seqIndex_neg (by omega) h4] at h1;rw[List.size_toArray,← hl];exact Option.some.inj h1
  exact subscriptTail_builtinR (x:=w) pl.isList.typeIs slot_list_getitem.lookup
   (wpAny_getItem_list_neg (Q:=fun r s'=>r=w∧EP X pins σ Q r s') pl.isList (by omega) (by rw[List.size_toArray] <;> omega) (by omega) (by rw[hj]; simpa using ew) ⟨rfl,fin⟩) hs
theorem iS:IxR X (aEy X.K):=by
 intro value slice pins s σ H x y v u Q I rx ry h hs;obtain⟨p,xs,i,z,rfl,rfl,hq,he,q⟩:=h;cases rx;obtain⟨t,rfl⟩:=ry;obtain⟨its,r,pl,hz⟩:=I.tuple hq;obtain⟨j,h1,h2,h3,h4,h5⟩:=vI he;obtain⟨w,ew,rw'⟩:=r.get h2;have hl:=r.length;have hn:=pA;have fin:EP X pins σ Q w s:=⟨z,H,I,rw',q⟩
 exact subscriptTail_builtinR (x:=w) pl.typeIs slot_tuple_getitem.lookup
  (getItem_tuple (j:=j) (Q:=fun r s'=>r=w∧EP X pins σ Q r s') pl (by omega) (by omega) (by rw[List.size_toArray,← hl]; exact h1) (by simpa using ew) ⟨rfl,fin⟩) hs
theorem aLm:IxR X aPj:=by
 intro value slice pins s σ H x y v u Q I rx ry h hs;obtain⟨z,i,c,rfl,rfl,hz,he,q⟩:=h;obtain⟨t,rfl⟩:=rx;obtain⟨t',rfl⟩:=ry;obtain⟨j,h1,h2,h3,h4,h5⟩:=vI he;have hl:z.cps.toList.length=z.length:=by simp[Str.length]
 rw[hl] at h1 h4 h5;have hn:=pA
 exact tail_any (typeIs_str s z t) slot_str_getitem.lookup (getItem_str (c:=c) (by
  have e1:decide (i < -(2^63:Int))=false:=decide_eq_false (by omega);have e2:decide (i≥2^63)=false:=decide_eq_false (by omega);rw[e1,e2,Bool.or_false]) (by rw[h1]; simpa using h2) ⟨.str ⟨#[c]⟩,H,I.tok _,⟨_,rfl⟩,q⟩) hs



def nR:V->Bool
 | .non=>true
 | .bl _=>true
 | .int _=>true
 | .str _=>true
 | _=>false
def eqV:V->V->Bool
 | .non,.non=>true
 | .bl a,.bl b=>a==b
 | .bl a,.int b=>(if a then 1 else 0)==b
 | .int a,.bl b=>a==(if b then 1 else 0)
 | .int a,.int b=>a==b
 | .str a,.str b=>a==b
 | _,_=>false
theorem aLr {A:Around}{s:Shared}{y x:V}{u v:Value}(ry:cH y u) (rx:cH x v) (fy:nR y=true) (fx:nR x=true):SeqAt.EqAt A s u v (eqV y x):=by
 cases y with
 | non=>
  cases ry;cases x with
  | non=>cases rx; exact SeqAt.EqAt.same _
  | bl b=>cases rx; exact SeqAt.EqAt.none_bool b
  | int b=>obtain⟨t,rfl⟩:=rx; exact SeqAt.EqAt.none_int b t
  | str b=>obtain⟨t,rfl⟩:=rx; exact SeqAt.EqAt.none_str b t
  | _=>exact absurd (show false=true from fx) Bool.false_ne_true
 | bl a=>
  cases ry;cases x with
  | non=>cases rx; exact SeqAt.EqAt.bool_none a
  | bl b=>cases rx; exact SeqAt.EqAt.bool_bool a b
  | int b=>obtain⟨t,rfl⟩:=rx; exact SeqAt.EqAt.bool_int a b t
  | str b=>obtain⟨t,rfl⟩:=rx; exact SeqAt.EqAt.bool_str a b t
  | _=>exact absurd (show false=true from fx) Bool.false_ne_true
 | int a=>
  obtain⟨t',rfl⟩:=ry;cases x with
  | non=>cases rx; exact SeqAt.EqAt.int_none a t'
  | bl b=>cases rx; exact SeqAt.EqAt.int_bool a t' b
  | int b=>obtain⟨t,rfl⟩:=rx; exact SeqAt.EqAt.int_int a t' b t
  | str b=>obtain⟨t,rfl⟩:=rx; exact SeqAt.EqAt.int_str a t' b t
  | _=>exact absurd (show false=true from fx) Bool.false_ne_true
 | str a=>
  obtain⟨t',rfl⟩:=ry;cases x with
  | non=>cases rx; exact SeqAt.EqAt.str_none a t'
  | bl b=>cases rx; exact SeqAt.EqAt.str_bool a t' b
  | int b=>obtain⟨t,rfl⟩:=rx; exact SeqAt.EqAt.str_int a t' b t
  | str b=>obtain⟨t,rfl⟩:=rx; exact SeqAt.EqAt.str_str a t' b t
  | _=>exact absurd (show false=true from fx) Bool.false_ne_true
 | _=>exact absurd (show false=true from fy) Bool.false_ne_true
def eqU (x:V) (u:Value):Bool:=match u with
 | .none=>eqV .non x
 | .bool b=>eqV (.bl b) x
 | .int i _=>eqV (.int i) x
 | .str z _=>eqV (.str z) x
 | _=>false
theorem aGs {x y:V}{u:Value}(r:cH y u) (f:nR y=true):eqU x u=eqV y x:=by
 cases y with
 | non=>cases r; rfl
 | bl b=>cases r; rfl
 | int i=>obtain⟨t,rfl⟩:=r; rfl
 | str z=>obtain⟨t,rfl⟩:=r; rfl
 | _=>exact absurd (show false=true from f) Bool.false_ne_true
theorem vK {x:V}:∀ {xs:List V}{us:List Value},cB xs us->xs.all nR=true->us.any (eqU x)=xs.any fun y=>eqV y x
 | _,_,.nil,_=>rfl
 | y::xs,u::us,.cons r t,f=>by
  rw[List.all_cons,Bool.and_eq_true] at f;rw[List.any_cons,List.any_cons,aGs r f.1,vK t f.2]
theorem rG {A:Around}{s:Shared}{x:V}{v:Value}(rx:cH x v) (fx:nR x=true):∀ {xs:List V}{us:List Value},cB xs us->xs.all nR=true->∀ u∈us,SeqAt.EqAt A s u v (eqU x u)
 | _,_,.nil,_=>fun u hu=>by cases hu
 | y::xs,u::us,.cons r t,f=>fun u' hu=>by
  rw[List.all_cons,Bool.and_eq_true] at f;rcases List.mem_cons.mp hu with rfl | hu
  ·rw[aGs r f.1]; exact aLr r rx f.1 fx
  ·exact rG rx fx t f.2 u' hu
def inV (x:V) (xs:List V):Bool:=xs.any fun y=>eqV y x
inductive rIn (K:PySem.W.Frag) (neg:Bool) (x:V) (y:V) (H:Hp) (Q:VK):Prop
 | mk (p:_) (xs:_) (h0_:y=.ref p) (h1_:(SqL K H p xs∨SqT K H p xs)) (h2_:nR x=true) (h3_:xs.all nR=true) (h4_:Q (.bl (if neg then !inV x xs else inV x xs)) H)
theorem oP:OpR X (compareOp .In) (rIn X.K false):=by
 intro pins s σ H x y v u Q I rx ry h;obtain⟨p,xs,rfl,hq,fx,fs,q⟩:=h;cases ry;rcases hq with hq | hq
 ·obtain⟨its,r,pl,hz⟩:=I.list hq;refine SeqAt.in_listAt (eqU x) pl.isList (fun w hw=>rG rx fx r fs w (by simpa using hw)) ⟨.bl _,H,I,rfl,?_⟩;rw[show its.toArray.any (eqU x)=its.any (eqU x) by simp,vK r fs];exact q
 ·obtain⟨its,r,pl,hz⟩:=I.tuple hq;refine SeqAt.in_tupleAt (eqU x) pl (fun w hw=>rG rx fx r fs w (by simpa using hw)) ⟨.bl _,H,I,rfl,?_⟩;rw[show its.toArray.any (eqU x)=its.any (eqU x) by simp,vK r fs];exact q

inductive aLx (K:PySem.W.Frag) (xs:List V) (H:Hp) (Q:VK):Prop
 | mk (p:_) (ys:_) (h0_:xs=[.ref p]) (h1_:(SqL K H p ys∨SqT K H p ys)) (h2_:Q (.int ys.length) H)
theorem eA:CallR X (.builtin "len") (aLx X.K):=by
 intro pins s σ H xs us Q I r h;obtain⟨p,ys,rfl,hq,q⟩:=h;obtain⟨u,rfl,rx⟩:=iU r;cases rx;have hn:=pA;rcases hq with hq | hq
 ·obtain⟨its,r',pl,hz⟩:=I.list hq;have hlen:=r'.length;exact Calls.call_len_list pl.isList (by simp only[List.size_toArray] <;> omega) ⟨.int ys.length,H,I.tok _,⟨s.toks+1,by rw[List.size_toArray,hlen]⟩,q⟩
 ·obtain⟨its,r',pl,hz⟩:=I.tuple hq;have hlen:=r'.length;exact len_tuple pl (by simp only[List.size_toArray] <;> omega) ⟨.int ys.length,H,I.tok _,⟨s.toks+1,by rw[List.size_toArray,hlen]⟩,q⟩
theorem vG:CallR X (.builtin "len") (fun xs H Q=>∃ z,xs=[.str z]∧z.length<=sizeLine∧Q (.int z.length) H):=by
 intro pins s σ H xs us Q I r h;obtain⟨z,rfl,hz,q⟩:=h;obtain⟨u,rfl,t,rfl⟩:=iU r;have hn:=pA;exact len_str (by omega) ⟨.int z.length,H,I.tok _,⟨_,rfl⟩,q⟩
inductive aLw (K:PySem.W.Frag) (xs:List V) (H:Hp) (Q:VK):Prop
 | mk (p:_) (ys:_) (h0_:xs=[.ref p]) (h1_:(SqL K H p ys∨SqT K H p ys)) (h2_:∀ l,H l=none->Q (.ref l) (upd H l (.lst ys)))
theorem nY:CallR X (.type "list") (aLw X.K):=by
 intro pins s σ H xs us Q I r h;obtain⟨p,ys,rfl,hq,q⟩:=h;obtain⟨u,rfl,rx⟩:=iU r;cases rx
 have fin:∀ (its:List Value),cB ys its->ys.length<=sizeLine->∀ (h':Heap) (c':Nat),(∀ b o',s.heap.get? b=some o'->h'.get? b=some o') ->
   h'.get? s.heap.objs.size=some { cls:=.type "list",dict:=none,data:=.seq its.toArray c',slots:=#[] }->EP X pins σ Q (.ref s.heap.objs.size) { s with heap:=h' }:=fun its r' hz h' c' kp e=>
  ⟨.ref s.heap.objs.size,_,I.laid (t':=s.toks) kp (Nat.le_refl _) (show dD X.prog X.w _ h' _ (.lst ys) from ⟨hz,its,c',r',e⟩),rfl,q _ (I.hok.fresh (Nat.le_refl _))⟩
 rcases hq with hq | hq
 ·obtain⟨its,r',pl,hz⟩:=I.list hq;have hlen:=r'.length;obtain⟨o,ho,hc,n,hd⟩:=pl.isList;exact call_list_seq p (.inl rfl) ho hc hd (fun h' c' kp e=>fin its r' hz h' c' kp e) (by simp only[List.size_toArray] <;> omega)
 ·obtain⟨its,r',pl,hz⟩:=I.tuple hq;have hlen:=r'.length;obtain⟨o,ho,hc,n,hd⟩:=pl;exact call_list_seq p (.inr rfl) ho hc hd (fun h' c' kp e=>fin its r' hz h' c' kp e) (by simp only[List.size_toArray] <;> omega)
theorem eY:CallR X (.type "tuple") (fun xs H Q=>∃ p ys,xs=[.ref p]∧((SqL X.K H p ys∧∀ l,H l=none->Q (.ref l) (upd H l (.tup ys)))∨(SqT X.K H p ys∧Q (.ref p) H))):=by
 intro pins s σ H xs us Q I r h;obtain⟨p,ys,rfl,h⟩:=h;obtain⟨u,rfl,rx⟩:=iU r;cases rx;rcases h with⟨hq,q⟩ | ⟨hq,q⟩
 ·obtain⟨its,r',pl,hz⟩:=I.list hq;have hlen:=r'.length;refine call_tuple_list pl.isList (fun h' kp=>?_) (by simp only[List.size_toArray] <;> omega)
  have I1:Inv X pins σ H { s with heap:=h' }:=I.kept (t':=s.toks) kp
  have I2:Inv X pins σ (upd H h'.objs.size (.tup ys)) { s with heap:=h'.push { cls:=.type "tuple",data:=.seq its.toArray } }:=
   I1.laid (t':=s.toks) (fun b o e=>Heap.get?_push_of_some _ e) (Nat.le_refl _) (show dD X.prog X.w _ _ _ (.tup ys) from ⟨hz,its,r',IsTup.new _ _⟩)
  exact⟨.ref h'.objs.size,_,I2,rfl,q _ (I1.hok.fresh (Nat.le_refl _))⟩
 ·obtain⟨its,r',pl,hz⟩:=I.tuple hq;exact call_tuple_same pl ⟨.ref p,H,I,rfl,q⟩

def tyV (K:PySem.W.Frag) (T:String) (x:V) (H:Hp):Prop:=match x with
 | .str _=>T="str"
 | .int _=>T="int"
 | .ref p=>(T="list" ∧ ∃ xs,SqL K H p xs)∨(T="tuple" ∧ ∃ o,K.lookup p=some o∧o.cls=.type "tuple" ∧ o.dict=none) ∨
   (T="dict" ∧ ((∃ kvs,H p=some (.dK kvs))∨∃ kvs,H p=some (.dT kvs)))∨(T="set" ∧ ∃ S n,H p=some (.set S n))
 | _=>False
theorem aDy {pins:List (Addr×Obj)}{σ:St}{H:Hp}{s:Shared}{T:String}{x:V}{v:Value}(I:Inv X pins σ H s) (r:cH x v) (ty:tyV X.K T x H) :
  s.TypeIs v T∧∀ a,v=.ref a->∃ ob,s.heap.get? a=some ob∧ob.dict=none:=by
 cases x with
 | str z=>
  obtain⟨t,rfl⟩:=r;cases (show T="str" from ty)
  exact⟨typeIs_str s z t,fun _ e=>nomatch e⟩
 | int i=>
  obtain⟨t,rfl⟩:=r;cases (show T="int" from ty)
  exact⟨typeIs_int s i t,fun _ e=>nomatch e⟩
 | ref p=>
  cases r;rcases ty with⟨rfl,xs,hq⟩ | ⟨rfl,o,hk,hc,hd⟩ | ⟨rfl,hk⟩ | ⟨rfl,S,n,hk⟩
  ·obtain⟨its,_,pl,_⟩:=I.list hq;refine⟨pl.isList.typeIs,fun a e=>?_⟩;cases e;obtain⟨o,n,e,c,hd,_⟩:=pl;exact⟨o,e,hd⟩
  ·refine⟨⟨o,I.kIn p o hk,hc⟩,fun a e=>?_⟩;cases e;exact⟨o,I.kIn _ o hk,hd⟩
  ·have z:∃ o,s.heap.get? p=some o∧o.ExactDict:=by
    rcases hk with⟨kvs,hk⟩ | ⟨kvs,hk⟩
    ·obtain⟨_,_,_,_,o,_,_,e,ex,_⟩:=I.hok p _ hk;exact⟨o,e,ex⟩
    ·obtain⟨_,_,_,_,o,_,_,e,ex,_⟩:=I.hok p _ hk;exact⟨o,e,ex⟩
   obtain⟨o,e,ex⟩:=z;refine⟨⟨o,e,ex.1⟩,fun a e2=>?_⟩;cases e2;exact⟨o,e,ex.2.1⟩
  ·obtain⟨o,_,_,_,e,ex,_⟩:=I.hok p _ hk;refine⟨⟨o,e,ex.1⟩,fun a e2=>?_⟩;cases e2;exact⟨o,e,ex.2.1⟩
 | _=>exact False.elim ty
def aOo (K:PySem.W.Frag) (T:String) (r:V->List V->Hp->VK->Prop) (to:TE):TE:=fun σ H Q=>to σ H fun x H1=>tyV K T x H1∧r x [] H1 Q
def tBM (K:PySem.W.Frag) (T:String) (r:V->List V->Hp->VK->Prop) (to:TE) (t:TA):TE:=fun σ H Q=>to σ H fun x H1=>tyV K T x H1∧t σ H1 fun xs H2=>r x xs H2 Q
variable {o e:Expr}{es:List Expr}{to:TE}{t:TA}{name:Str}{apos cpos:Pos}{T id:String}{r:V->List V->Hp->VK->Prop}
theorem aFh (pa:PlainAttrs T) (slot:Slot T name id) (hty:typeOf (.builtin id)=pure (.type "method_descriptor")) (hm:MtR X id r) (ho:PE X o to)
  (hbase:attributeBase o name X.env (eval o X.env)=eval o X.env:=by rfl) (hline:(apos.endLine==cpos.line)=true:=by rfl):PE X (.Call (.Attribute o name apos) [] [] cpos) (aOo X.K T r to):=by
 intro pins s σ H Q I h;refine wpAny_Call_method0_late hbase hline (thn (ho pins s σ H _ I h) fun v s1 ⟨x,H1,I1,r1,ty,q1⟩=>?_);obtain⟨h1,h2⟩:=aDy I1 r1 ty;exact⟨T,id,pa,slot,hty,h1,h2,Calls.callWith_builtin rfl (PySem.evalArgs_none (hm pins s1 σ H1 x [] v [] Q I1 r1 .nil q1))⟩
theorem jQ (pa:PlainAttrs T) (slot:Slot T name id) (hty:typeOf (.builtin id)=pure (.type "method_descriptor")) (hm:MtR X id r) (ho:PE X o to) (ha:PA X (e::es) t)
  (hbase:attributeBase o name X.env (eval o X.env)=eval o X.env:=by rfl)
  (hfew:((backTo cpos (starEach (e::es) X.env)).all (fun x=>!x.1)&&(backToKw cpos (keywordEach [] X.env)).all (fun x=>x.1.isSome)
   && decide ((e::es).length+([]:List Keyword).length+(if ([]:List Keyword).isEmpty then 0 else 1)<30))=true:=by rfl)
  (hline:(apos.endLine==cpos.line)=true:=by rfl) (hs:starEach (e::es) X.env=(false,eval e X.env)::starEach es X.env:=by rfl) (hplain:(backTo cpos (starEach es X.env)).any (·.1)=false:=by rfl) :
  PE X (.Call (.Attribute o name apos) (e::es) [] cpos) (tBM X.K T r to t):=by
 intro pins s σ H Q I h;refine wpAny_Call_method_late hbase hfew hline rfl (thn (ho pins s σ H _ I h) fun v s1 ⟨x,H1,I1,r1,ty,q1⟩=>?_);obtain⟨h1,h2⟩:=aDy I1 r1 ty;refine⟨T,id,pa,slot,hty,h1,h2,?_⟩;have hA:=ha cpos pins s1 σ H1 _ I1 q1;rw[hs] at hA ⊢;refine Calls.callWith_builtin (by show (false||(backTo cpos (starEach es X.env)).any (·.1))=false; rw[hplain] <;> rfl) (Calls.evalArgs_plain ?_)
 exact thn hA fun us s2 ⟨vs,H2,I2,r2,q2⟩=>hm pins s2 σ H2 x vs v us Q I2 r1 r2 q2
/- xs.append(e),list.index on a module's tuple .. are MtR facts of 06m -/
end
end L2

namespace L2
open PySem PySem.Spec PyProof.Rows

def MtM (X:Cx) (id:String) (r:V->List V->Hp->VK->Prop):Prop:=
 ∀ (pins:List (Addr×Obj)) (s:Shared) (σ:St) (H:Hp) (x:V) (xs:List V) (v:Value) (us:List Value) (Q:VK),Inv X pins σ H s->cH x v->cB xs us->r x xs H Q ->
  wpAny (model X.prog X.w) X.A (call (.builtin id) (v::us)) (EP X pins σ Q) X.xe s

theorem cB.one:∀ {x:V}{us:List Value},cB [x] us->∃ u,us=[u]∧cH x u
 | _,_,.cons r .nil=>⟨_,rfl,r⟩
theorem cB.zero:∀ {us:List Value},cB [] us->us=[]
 | _,.nil=>rfl
theorem cB.reverse {xs:List V}{us:List Value}(h:cB xs us):cB xs.reverse us.reverse:=by
 induction h with
 | nil=>exact .nil
 | cons r t ih=>rw[List.reverse_cons,List.reverse_cons]; exact cB.append ih (.cons r .nil)
theorem cB.rep {xs:List V}{us:List Value}(h:cB xs us):∀ k:Nat,cB (List.replicate k xs).flatten (List.replicate k us).flatten
 | 0=>.nil
 | k+1=>by
  rw[List.replicate_succ,List.replicate_succ,List.flatten_cons,List.flatten_cons];exact cB.append h (cB.rep h k)
theorem tY (its:List Value):∀ (k:Nat) (acc:List Value),
  List.foldl (fun x1 x2=>x1++x2) acc.toArray (List.replicate k its.toArray)=(acc++(List.replicate k its).flatten).toArray
 | 0,acc=>by simp
 | k+1,acc=>by
  have e:acc.toArray++its.toArray=(acc++its).toArray:=by simp
  have e2:(acc++its)++(List.replicate k its).flatten=acc++(List.replicate (k+1) its).flatten:=by
   rw[List.replicate_succ,List.flatten_cons,List.append_assoc]
  rw[← e2,← tY its k (acc++its),← e,List.replicate_succ,List.foldl_cons]

section
variable {X:Cx}{pins:List (Addr×Obj)}{σ:St}{H:Hp}{s:Shared}{l b:Addr}{xs ys zs:List V}

theorem Inv.lset {its its':List Value}{n:Nat}{f:Array Value->Array Value}{t':Nat}(I:Inv X pins σ H s) (hH:H l=some (.lst xs))
  (e:s.heap.get? l=some { cls:=.type "list",data:=.seq its.toArray n }) (hf:f its.toArray=its'.toArray) (hv:cB ys its') (hz:ys.length<=sizeLine) :
  Inv X pins σ (upd H l (.lst ys)) { s with heap:=s.heap.update l (Obj.mapSeq f),toks:=t' }:=by
 have q:=PySem.IsL.update e f;rw[hf] at q;refine I.write (x:=l) (e:=l) (by rw[hH]; exact trivial) (.inl rfl) (fun b' u hb hu=>(Heap.get?_update_other s.heap (Obj.mapSeq f) (Ne.symm hb)).trans hu) ⟨_,q⟩ ?_;exact⟨hz,its',_,hv,q⟩
theorem Inv.lnew {its:List Value}{t':Nat}(I:Inv X pins σ H s) (hv:cB ys its) (hz:ys.length<=sizeLine) :
  Inv X pins σ (upd H s.heap.objs.size (.lst ys)) { s with heap:=s.heap.push { cls:=.type "list",data:=.seq its.toArray },toks:=t' }:=
 I.laid (fun _ _ q=>Heap.get?_push_of_some _ q) (Nat.le_refl _) ⟨hz,its,0,hv,Heap.get?_push_size _ rfl⟩
theorem Inv.fresh (I:Inv X pins σ H s):H s.heap.objs.size=none:=I.hok.fresh (Nat.le_refl _)
theorem Inv.lstM (I:Inv X pins σ H s) (hH:H l=some (.lst xs)):xs.length<=sizeLine∧∃ (its:List Value) (n:Nat),cB xs its∧xs.length=its.length∧s.heap.get? l=some { cls:=.type "list",data:=.seq its.toArray n }:=by
 obtain⟨z,its,n,r,e⟩:=I.hok l _ hH;exact⟨z,its,n,r,r.length,e⟩

theorem wY {n:Nat}(h:n<=sizeLine):Builtin.List.listTooLong n=false:=by
 unfold Builtin.List.listTooLong;exact decide_eq_false (by omega)
end

section
variable {X:Cx}

def aHy:V->List V->Hp->VK->Prop:=fun x vs H Q=>∃ l xs y,x=.ref l∧vs=[y]∧H l=some (.lst xs)∧xs.length<sizeLine∧Q .non (upd H l (.lst (xs++[y])))
theorem eE:MtM X "list.append" aHy:=by
 intro pins s σ H x vs v us Q I rx rv h;obtain⟨l,xs,y,rfl,rfl,hH,hz,q⟩:=h;cases rx;obtain⟨u,rfl,ru⟩:=rv.one;obtain⟨z,its,n,r,hl,e⟩:=I.lstM hH;refine call_meets F.slot_list_append ⟨_,e,rfl⟩ F.entry_list_append (F.args_list_append_2 _ _) (PySem.list_append l its.toArray n u (by rw[List.size_toArray]; omega)) ⟨e,?_⟩;refine⟨.non,_,I.lset (its':=its++[u]) hH e (by simp) (r.append (.cons ru .nil)) ?_,rfl,q⟩;rw[List.length_append,List.length_singleton];omega

def aHw:V->List V->Hp->VK->Prop:=fun x vs H Q=>∃ l b xs zs,x=.ref l∧vs=[.ref b]∧H l=some (.lst xs)∧H b=some (.lst zs)∧xs.length+zs.length<=sizeLine∧Q .non (upd H l (.lst (xs++zs)))
theorem oR:MtM X "list.extend" aHw:=by
 intro pins s σ H x vs v us Q I rx rv h;obtain⟨l,b,xs,zs,rfl,rfl,hH,hB,hz,q⟩:=h;cases rx;obtain⟨u,rfl,ru⟩:=rv.one;cases ru;obtain⟨z,its,n,r,hl,e⟩:=I.lstM hH;obtain⟨z2,its2,n2,r2,hl2,e2⟩:=I.lstM hB;have hsz:its.toArray.size+its2.toArray.size<=sizeLine:=by rw[List.size_toArray,List.size_toArray]; omega
 have hlong:¬ (!its.toArray.isEmpty&&Builtin.List.listTooLong (its.toArray.size+its2.toArray.size))=true:=by
  rw[wY hsz,Bool.and_false];exact Bool.false_ne_true
 refine call_meets F.slot_list_extend ⟨_,e,rfl⟩ F.entry_list_extend (F.args_list_extend_2 _ _)
  (AutoSeq1.list_extend_list_list_0 l its.toArray n b its2.toArray n2 hlong (by rw[List.size_toArray]; omega) (by omega)) ⟨e,e2,?_⟩
 refine⟨.non,_,I.lset (its':=its++its2) hH e (by simp) (r.append r2) ?_,rfl,q⟩;rw[List.length_append];omega



def aEx:V->List V->Hp->VK->Prop:=fun x vs H Q=>∃ l xs,x=.ref l∧vs=[]∧H l=some (.lst xs)∧Q .non (upd H l (.lst xs.reverse))
theorem zI:MtM X "list.reverse" aEx:=by
 intro pins s σ H x vs v us Q I rx rv h;obtain⟨l,xs,rfl,rfl,hH,q⟩:=h;cases rx;have hus:=rv.zero;subst hus;obtain⟨z,its,n,r,hl,e⟩:=I.lstM hH;refine call_meets F.slot_list_reverse ⟨_,e,rfl⟩ F.entry_list_reverse (F.args_list_reverse_1 _) (AutoSeq1.list_reverse_list_0 l its.toArray n (by rw[List.size_toArray]; omega)) ⟨e,?_⟩;refine⟨.non,_,I.lset (its':=its.reverse) hH e (by simp) r.reverse ?_,rfl,q⟩;rw[List.length_reverse];omega

def aKq:V->List V->Hp->VK->Prop:=fun x vs H Q=>∃ l xs,x=.ref l∧vs=[]∧H l=some (.lst xs)∧Q .non (upd H l (.lst []))
theorem aGa:MtM X "list.clear" aKq:=by
 intro pins s σ H x vs v us Q I rx rv h;obtain⟨l,xs,rfl,rfl,hH,q⟩:=h;cases rx;have hus:=rv.zero;subst hus;obtain⟨z,its,n,r,hl,e⟩:=I.lstM hH;refine call_meets F.slot_list_clear ⟨_,e,rfl⟩ F.entry_list_clear (F.args_list_clear_1 _) (AutoSeq1.list_clear_list_0 l its.toArray n (by rw[List.size_toArray]; omega)) ⟨e,?_⟩;exact⟨.non,_,I.lset (its':=[]) (ys:=[]) hH e rfl .nil (Nat.zero_le _),rfl,q⟩

inductive aHx (x:V) (y:V) (H:Hp) (Q:VK):Prop
 | mk (l:_) (b:_) (xs:_) (zs:_) (h0_:x=.ref l) (h1_:y=.ref b) (h2_:H l=some (.lst xs)) (h3_:H b=some (.lst zs)) (h4_:xs.length+zs.length<=sizeLine) (h5_:∀ p,H p=none->Q (.ref p) (upd H p (.lst (xs++zs))))
theorem dP:OpR X (binaryOp .Add) aHx:=by
 intro pins s σ H x y v u Q I rx ry h;obtain⟨l,b,xs,zs,rfl,rfl,hH,hB,hz,q⟩:=h;cases rx;cases ry;obtain⟨z,its,n,r,hl,e⟩:=I.lstM hH;obtain⟨z2,its2,n2,r2,hl2,e2⟩:=I.lstM hB;refine PySem.P.add_list e e2 ?_ (by rw[List.size_toArray,List.size_toArray]; omega);have ea:its.toArray++its2.toArray=(its++its2).toArray:=by simp
 rw[ea];exact⟨.ref _,_,I.lnew (t':=s.toks) (r.append r2) (by rw[List.length_append]; omega),rfl,q _ I.fresh⟩
inductive aPi (x:V) (y:V) (H:Hp) (Q:VK):Prop
 | mk (l:_) (k:_) (xs:_) (h0_:x=.ref l) (h1_:y=.int k) (h2_:H l=some (.lst xs)) (h3_:-(2^63)<=k) (h4_:k<2^63) (h5_:xs.length*k.toNat<=sizeLine) (h6_:∀ p,H p=none->Q (.ref p) (upd H p (.lst (List.replicate k.toNat xs).flatten)))
theorem aIq {α:Type}(xs:List α) (k:Nat):(List.replicate k xs).flatten.length=k*xs.length:=by
 induction k with
 | zero=>simp
 | succ k ih=>rw[List.replicate_succ,List.flatten_cons,List.length_append,ih,Nat.succ_mul,Nat.add_comm]
theorem aFl:OpR X (binaryOp .Mult) aPi:=by
 intro pins s σ H x y v u Q I rx ry h;obtain⟨l,k,xs,rfl,rfl,hH,h1,h2,hz,q⟩:=h;cases rx;obtain⟨t,rfl⟩:=ry;obtain⟨z,its,n,r,hl,e⟩:=I.lstM hH;have hlen:its.toArray.size*k.toNat<=sizeLine:=by rw[List.size_toArray,← hl]; exact hz
 have hcap:¬ its.toArray.size*k.toNat>(2^63-1)/8:=by
  have:(sizeLine:Nat)<=(2^63-1)/8:=by decide
  omega
 have hfit:¬ (!Builtin.List.listFitsIndex k)=true:=by
  rw[fitsIndex_both h1 h2];exact Bool.false_ne_true
 have hlong:¬ Builtin.List.listTooLong (its.toArray.size*k.toNat)=true:=by
  rw[wY hlen];exact Bool.false_ne_true
 have hnew:List.foldl (fun x1 x2=>x1++x2) #[] (List.replicate (if its.toArray.isEmpty=true then 0 else k.toNat) its.toArray)=(List.replicate k.toNat its).flatten.toArray:=by
  have f0:∀ m:Nat,List.foldl (fun x1 x2=>x1++x2) #[] (List.replicate m its.toArray)=(List.replicate m its).flatten.toArray:=fun m=>by
   have:=tY its m []
   rw[List.nil_append] at this;exact this
  rw[f0];cases its with
  | nil=>simp
  | cons a r'=>rw[if_neg (by simp)]
 refine wpAny_binaryOp_repeat_ref (T:="list") (U:="int") (by decide) ⟨_,e,rfl⟩ (fun s'=>typeIs_int s' k t) noFill_list_mul F.fills_int_mul F.slot_int_rmul repeat_list F.slot_int_index.lookup
  (call_meets F.slot_int_rmul (typeIs_int s k t) F.entry_int_rmul (F.args_int_rmul_2 _ _) (int___rmul___int_list k t l its.toArray n)
   ⟨e,rfl,⟨_,e,rfl⟩,call_meets F.slot_list_mul ⟨_,e,rfl⟩ F.entry_list_mul (F.args_list_mul_2 _ _) (AutoListH.list___mul___list_int_3 l its.toArray n k t hfit hcap hlong) ⟨e,?_⟩⟩)
 rw[hnew];exact⟨.ref _,_,I.lnew (t':=s.toks) (r.rep k.toNat) (by rw[aIq,Nat.mul_comm]; exact hz),rfl,q _ I.fresh⟩

end

section
variable {prog:Program}{w:World}{A:Around}{E:Value->Shared->Prop}{s:Shared}
set_option maxRecDepth 100000 in
end

section
variable {X:Cx}
end
end L2

namespace L2
open PySem PySem.Spec PyProof.Rows

section
variable {κ:Type} [DecidableEq κ]
def dH (kvs:List (κ×V)) (k:κ):Option V:=(kvs.find? fun kv=>decide (kv.1=k)).map (·.2)
def eP (kvs:List (κ×V)) (k:κ) (v:V):List (κ×V):=
 if (kvs.any fun kv=>decide (kv.1=k))=true then kvs.map (fun kv=>if kv.1=k then (kv.1,v) else kv) else kvs++[(k,v)]

theorem eC {p:κ×V}{r:List (κ×V)}{k:κ}(e:p.1=k):dH (p::r) k=some p.2:=by simp[dH,List.find?_cons,e]
theorem eO {p:κ×V}{r:List (κ×V)}{k:κ}(e:¬ p.1=k):dH (p::r) k=dH r k:=by simp[dH,List.find?_cons,e]
theorem gU (k:κ):∀ kvs:List (κ×V),(kvs.any fun kv=>decide (kv.1=k))=(dH kvs k).isSome
 | []=>rfl
 | p::r=>by
  rw[List.any_cons]
  by_cases e:p.1=k
  ·simp only[eC e,decide_eq_true e,Bool.true_or,Option.isSome_some]
  ·rw[eO e,decide_eq_false e,Bool.false_or]; exact gU k r
theorem vO (k j:κ) (y:V):∀ kvs:List (κ×V),dH (kvs.map fun kv=>if kv.1=k then (kv.1,y) else kv) j=(dH kvs j).map fun x=>if j=k then y else x
 | []=>rfl
 | p::r=>by
  have ih:=vO k j y r;rw[List.map_cons]
  by_cases h:p.1=k
  ·rw[if_pos h]
   by_cases e:p.1=j
   ·rw[eC (p:=(p.1,y)) e,eC e,Option.map_some,if_pos (e.symm.trans h)]
   ·rw[eO (p:=(p.1,y)) e,eO e,ih]
  ·rw[if_neg h]
   by_cases e:p.1=j
   ·rw[eC (p:=p) e,eC e,Option.map_some,if_neg (fun z=>h (e.trans z))]
   ·rw[eO (p:=p) e,eO e,ih]
theorem sS (k j:κ) (y:V):∀ kvs:List (κ×V),dH kvs k=none->dH (kvs++[(k,y)]) j=if j=k then some y else dH kvs j
 | [],_=>by
  by_cases e:k=j
  ·rw[if_pos e.symm]; exact eC (p:=(k,y)) e
  ·rw[if_neg (fun z=>e z.symm)]; exact eO (p:=(k,y)) e
 | p::r,hn=>by
  rw[List.cons_append];have hk:¬ p.1=k:=fun z=>by rw[eC z] at hn; cases hn
  rw[eO hk] at hn;have ih:=sS k j y r hn
  by_cases e:p.1=j
  ·rw[eC e,eC e,if_neg (fun z=>hk (e.trans z))]
  ·rw[eO e,eO e,ih]
theorem jU (kvs:List (κ×V)) (k j:κ) (y:V):dH (eP kvs k y) j=if j=k then some y else dH kvs j:=by
 unfold eP
 by_cases a:(kvs.any fun kv=>decide (kv.1=k))=true
 ·rw[if_pos a,vO];rw[gU] at a
  by_cases e:j=k
  ·obtain⟨x,hx⟩:=Option.isSome_iff_exists.mp a;rw[if_pos e,e,hx,Option.map_some,if_pos rfl]
  ·rw[if_neg e];cases dH kvs j with
   | none=>rfl
   | some x=>rw[Option.map_some,if_neg e]
 ·rw[if_neg a];refine sS k j y kvs ?_;rw[gU] at a;cases q:dH kvs k with
  | none=>rfl
  | some x=>rw[q] at a; exact (a rfl).elim
theorem dS (kvs:List (κ×V)) (k:κ) (v:V):(eP kvs k v).length<=kvs.length+1:=by
 unfold eP;split
 ·rw[List.length_map]; omega
 ·rw[List.length_append,List.length_cons,List.length_nil]; omega
theorem aEz {kvs:List (κ×V)}{k:κ}(v:V) (h:dH kvs k=none):eP kvs k v=kvs++[(k,v)]:=by
 unfold eP;rw[gU,h];exact if_neg (by decide)

theorem jR.isSome_eq {o:Option V}{u:Option Value}(r:jR o u):o.isSome=u.isSome:=by
 cases o with
 | none=>cases u with
  | none=>rfl
  | some _=>exact (show False from r).elim
 | some _=>cases u with
  | none=>exact (show False from r).elim
  | some _=>rfl
theorem jR.getD {o:Option V}{u:Option Value}{d:V}{d':Value}(r:jR o u) (rd:cH d d'):cH (o.getD d) (u.getD d'):=by
 cases o with
 | none=>cases u with
  | none=>exact rd
  | some _=>exact (show False from r).elim
 | some _=>cases u with
  | none=>exact (show False from r).elim
  | some _=>exact r

theorem KV.val {kvs:List (κ×V)}{vs:List (κ×Value)}(r:KV kvs vs) (k:κ):jR (dH kvs k) (valueAt vs k):=by
 unfold KV at r
 induction r with
 | nil=>exact True.intro
 | @cons p q ps qs h t ih=>
  obtain⟨h1,h2⟩:=h
  by_cases e:p.1=k
  ·have e':q.1=k:=h1.symm.trans e;have b:valueAt (q::qs) k=some q.2:=by simp[valueAt,List.find?_cons,e']
   rw[eC e,b]; exact h2
  ·have e':¬ q.1=k:=fun z=>e (h1.trans z);have b:valueAt (q::qs) k=valueAt qs k:=by simp[valueAt,List.find?_cons,e']
   rw[eO e,b]; exact ih
theorem KV.any {kvs:List (κ×V)}{vs:List (κ×Value)}(r:KV kvs vs) (k:κ):(kvs.any fun kv=>decide (kv.1=k))=vs.any fun kv=>decide (kv.1=k):=by
 unfold KV at r
 induction r with
 | nil=>rfl
 | cons h t ih=>rw[List.any_cons,List.any_cons,ih,h.1]
theorem KV.repl {kvs:List (κ×V)}{vs:List (κ×Value)}(r:KV kvs vs) (k:κ){y:V}{u:Value}(ry:cH y u) :
  KV (kvs.map fun kv=>if kv.1=k then (kv.1,y) else kv) (vs.map fun kv=>if kv.1=k then (kv.1,u) else kv):=by
 unfold KV at r ⊢
 induction r with
 | nil=>exact .nil
 | @cons p q ps qs h t ih=>
  rw[List.map_cons,List.map_cons];refine .cons ?_ ih;obtain⟨h1,h2⟩:=h
  by_cases e:p.1=k
  ·rw[if_pos e,if_pos (h1.symm.trans e)]; exact⟨h1,ry⟩
  ·rw[if_neg e,if_neg (fun z=>e (h1.trans z))]; exact⟨h1,h2⟩
theorem KV.put {kvs:List (κ×V)}{vs:List (κ×Value)}(r:KV kvs vs) (k:κ){y:V}{u:Value}(ry:cH y u):KV (eP kvs k y) (stored vs k u):=by
 unfold eP stored;rw[r.any k]
 by_cases e:(vs.any fun kv=>decide (kv.1=k))=true
 ·rw[if_pos e,if_pos e]; exact r.repl k ry
 ·rw[if_neg e,if_neg e]; exact Paired.snoc r ⟨rfl,ry⟩
theorem KV.length {kvs:List (κ×V)}{vs:List (κ×Value)}(r:KV kvs vs):kvs.length=vs.length:=Paired.length r
end


theorem rH {P:Program}{w:World}{k:Key}{u:Value}(r:cH (kV k) u):(dE P w).is k u=true:=by
 cases k with
 | inl i=>obtain⟨t,e⟩:=(show ∃ t,u=Value.int i t from r); subst e; exact xE P w i t
 | inr x=>obtain⟨t,e⟩:=(show ∃ t,u=Value.str x t from r); subst e; exact xD P w x t
theorem tW {P:Program}{w:World}:∀ {ks:List Key}{us:List Value},cB (ks.map kV) us->ItemsAre (dE P w) ks us
 | [],_,r=>by rw[List.map_nil] at r; cases r; exact .nil
 | k::ks,_,r=>by
  rw[List.map_cons] at r;cases r with
  | cons h t=>exact .cons (rH h) (tW t)

abbrev KT (H:Hp):List (List Key×V)->List (List Key×Addr×Value)->Prop:=Paired fun p q=>p.1=q.1∧H q.2.1=some (.tup (p.1.map kV))∧cH p.2 q.2.2
theorem KT.val {H:Hp}{kvs:List (List Key×V)}{xs:List (List Key×Addr×Value)}(r:KT H kvs xs) (k:List Key):jR (dH kvs k) ((atKey xs k).map (·.2)):=by
 induction r with
 | nil=>exact True.intro
 | @cons p q ps qs h t ih=>
  obtain⟨h1,_,h2⟩:=h
  by_cases e:p.1=k
  ·have e':q.1=k:=h1.symm.trans e;have b:atKey (q::qs) k=some q.2:=by simp[atKey,List.find?_cons,e']
   rw[eC e,b]; exact h2
  ·have e':¬ q.1=k:=fun z=>e (h1.trans z);have b:atKey (q::qs) k=atKey qs k:=by simp[atKey,List.find?_cons,e']
   rw[eO e,b]; exact ih
theorem KT.repl {H:Hp}{kvs:List (List Key×V)}{xs:List (List Key×Addr×Value)}(r:KT H kvs xs) (k:List Key){y:V}{u:Value}(ry:cH y u) :
  KT H (kvs.map fun kv=>if kv.1=k then (kv.1,y) else kv) (xs.map (putAt k u)):=by
 induction r with
 | nil=>exact .nil
 | @cons p q ps qs h t ih=>
  rw[List.map_cons,List.map_cons];refine .cons ?_ ih;obtain⟨h1,h2,h3⟩:=h;unfold putAt
  by_cases e:p.1=k
  ·rw[if_pos e,if_pos (h1.symm.trans e)]; exact⟨h1,h2,ry⟩
  ·rw[if_neg e,if_neg (fun z=>e (h1.trans z))]; exact⟨h1,h2,h3⟩
theorem KT.put {H:Hp}{kvs:List (List Key×V)}{xs:List (List Key×Addr×Value)}(r:KT H kvs xs) (k:List Key){b:Addr}{y:V}{u:Value}(hb:H b=some (.tup (k.map kV))) (ry:cH y u) :
  KT H (eP kvs k y) (storedH xs k b u):=by
 have e:(kvs.any fun kv=>decide (kv.1=k))=(atKey xs k).isSome:=by
  rw[gU,(r.val k).isSome_eq,Option.isSome_map]
 unfold eP storedH;rw[e]
 by_cases q:(atKey xs k).isSome=true
 ·rw[if_pos q,if_pos q]; exact r.repl k ry
 ·rw[if_neg q,if_neg q]; exact Paired.snoc r ⟨rfl,hb,ry⟩
theorem KT.keeps {H H':Hp}{kvs:List (List Key×V)}{xs:List (List Key×Addr×Value)}(r:KT H kvs xs) (ht:∀ b ys,H b=some (.tup ys)->H' b=some (.tup ys)):KT H' kvs xs:=
 Paired.mapP r fun _ _ z=>⟨z.1,ht _ _ z.2.1,z.2.2⟩

section
variable {P:Program}{w:World}{H:Hp}{h:Heap}{a:Addr}
theorem aJs {u:HO}(ok:HOk P w H h) (e:Rd H a u):dD P w H h a u:=e.ok ok
theorem pU {kvs:List (Key×V)}(ok:HOk P w H h) (e:Rd H a (.dK kvs)):kvs.length<=sizeLine∧(a==sysModules)=false∧∃ vs,KV kvs vs∧h.DictOf (dE P w) a vs:=
 show dD P w H h a (.dK kvs) from aJs ok e
theorem aGv {kvs:List (Key×V)}(ok:HOk P w H h) (e:H a=some (.dK kvs)):kvs.length<=sizeLine∧(a==sysModules)=false∧∃ vs,KV kvs vs∧h.DictOf (dE P w) a vs:=pU ok (.inl e)
theorem pD {ks:List Key}(ok:HOk P w H h) (e:H a=some (.tup (ks.map kV))):(tupleKind (dE P w)).is h ks a:=by
 obtain⟨_,its,r,o,h1,h2,n,h3⟩:=(show dD P w H h a (.tup (ks.map kV)) from ok a _ e)
 exact⟨o,its.toArray,n,h1,h2,h3,by simpa using tW r⟩
theorem rQ {kvs:List (List Key×V)}(ok:HOk P w H h) (e:Rd H a (.dT kvs)):kvs.length<=sizeLine∧(a==sysModules)=false ∧
  ∃ xs,KT H kvs xs∧h.DictOfH (tupleKind (dE P w)) a xs:=by
 obtain⟨z,y,xs,r,o,es,ep,h1,h2,h3,h4,h5⟩:=(show dD P w H h a (.dT kvs) from aJs ok e)
 refine⟨z,y,xs,r,o,es,ep,h1,h2,h3,h4,fun x hx=>?_,h5⟩
 have all:∀ {l:List (List Key×V)}{m:List (List Key×Addr×Value)},KT H l m->∀ x∈m,(tupleKind (dE P w)).is h x.1 x.2.1:=by
  intro l m q
  induction q with
  | nil=>intro x hx; exact nomatch hx
  | @cons p q ps qs hq t ih=>
   intro x hx;rcases List.mem_cons.mp hx with e | hx
   ·subst e;exact pD ok (by rw[← hq.1]; exact hq.2.1)
   ·exact ih x hx
 exact all r x hx
theorem aNm {kvs:List (List Key×V)}(ok:HOk P w H h) (e:H a=some (.dT kvs)):kvs.length<=sizeLine∧(a==sysModules)=false ∧
  ∃ xs,KT H kvs xs∧h.DictOfH (tupleKind (dE P w)) a xs:=rQ ok (.inl e)
end

def fV (H:Hp) (a:Addr) (y:V) (r:Option V):Prop:=
 (∃ kvs k,Rd H a (.dK kvs)∧y=kV k∧r=dH kvs k)∨∃ kvs k b,Rd H a (.dT kvs)∧y=.ref b∧H b=some (.tup (k.map kV))∧r=dH kvs k
def pZ (H:Hp) (a:Addr) (y v:V) (H':Hp):Prop:=
 (∃ kvs k,H a=some (.dK kvs)∧y=kV k∧kvs.length<sizeLine∧H'=upd H a (.dK (eP kvs k v))) ∨
 ∃ kvs k b,H a=some (.dT kvs)∧y=.ref b∧H b=some (.tup (k.map kV))∧kvs.length<sizeLine∧H'=upd H a (.dT (eP kvs k v))
theorem fV.k {H:Hp}{a:Addr}{kvs:List (Key×V)}{k:Key}(e:H a=some (.dK kvs)):fV H a (kV k) (dH kvs k):=.inl ⟨kvs,k,.inl e,rfl,rfl⟩
theorem fV.t {H:Hp}{a b:Addr}{kvs:List (List Key×V)}{k:List Key}(e:H a=some (.dT kvs)) (eb:H b=some (.tup (k.map kV))):fV H a (.ref b) (dH kvs k):=.inr ⟨kvs,k,b,.inl e,rfl,eb,rfl⟩
theorem pZ.k {H:Hp}{a:Addr}{kvs:List (Key×V)}{k:Key}{v:V}(e:H a=some (.dK kvs)) (hl:kvs.length<sizeLine):pZ H a (kV k) v (upd H a (.dK (eP kvs k v))):=.inl ⟨kvs,k,e,rfl,hl,rfl⟩
theorem pZ.t {H:Hp}{a b:Addr}{kvs:List (List Key×V)}{k:List Key}{v:V}(e:H a=some (.dT kvs)) (eb:H b=some (.tup (k.map kV))) (hl:kvs.length<sizeLine) :
  pZ H a (.ref b) v (upd H a (.dT (eP kvs k v))):=.inr ⟨kvs,k,b,e,rfl,eb,hl,rfl⟩


section
variable {X:Cx}{pins:List (Addr×Obj)}{σ:St}{H:Hp}{s:Shared}{a:Addr}{y v:V}{u r:Value}{o:Option V}{A:Around}{E:Value->Shared->Prop}

theorem Inv.big (I:Inv X pins σ H s):sysModules<s.heap.objs.size:=by
 have h:mainGlobals<s.heap.objs.size:=(I.mod.glob.keeps I.bk).lt;exact Nat.lt_trans (by decide) h

theorem aDh {Q:Value->Shared->Prop}(hu:A.units+1<cLine) (I:Inv X pins σ H s) (g:fV H a y (some v)) (ry:cH y u) (h:∀ w' s',Inv X pins σ H s'->cH v w'->Q w' s') :
  wpAny (model X.prog X.w) A (getItem (.ref a) u) Q E s:=by
 rcases g with⟨kvs,k,e,ey,l⟩ | ⟨kvs,k,b,e,ey,eb,l⟩
 ·subst ey;obtain⟨z,hd,vs,rel,dd⟩:=pU I.hok e;obtain⟨w',hw,rw'⟩:=jR.some_of (v:=v) (o:=valueAt vs k) (by rw[l]; exact rel.val k);exact wpAny_getItem_of (rH ry) dd.mapOf hw (h w' _ (I.tok _) rw')
 ·subst ey;cases (show u=Value.ref b from ry)
  obtain⟨z,hd,xs,rel,dd⟩:=rQ I.hok e;obtain⟨w',hw,rw'⟩:=jR.some_of (v:=v) (o:=(atKey xs k).map (·.2)) (by rw[l]; exact rel.val k);obtain⟨p,hp,hp2⟩:=Option.map_eq_some_iff.mp hw;refine wpAny_getItem_heap (tupleKind_room_in1 hu) (pD I.hok eb) dd hp ?_;rw[hp2];exact h w' _ (I.tok _) rw'
theorem aPz {Q:Value->Shared->Prop}(hu:A.units+1<cLine) (I:Inv X pins σ H s) (g:fV H a y o) (ry:cH y u) (h:∀ s',Inv X pins σ H s'->Q (.bool o.isSome) s') :
  wpAny (model X.prog X.w) A (compareOp .In u (.ref a)) Q E s:=by
 rcases g with⟨kvs,k,e,ey,l⟩ | ⟨kvs,k,b,e,ey,eb,l⟩
 ·subst ey;obtain⟨z,hd,vs,rel,dd⟩:=pU I.hok e;refine wpAny_in_of (rH ry) hd dd.mapOf ?_;rw[← (rel.val k).isSome_eq,← l];exact h _ (I.tok _)
 ·subst ey;cases (show u=Value.ref b from ry)
  obtain⟨z,hd,xs,rel,dd⟩:=rQ I.hok e;refine wpAny_in_heap (tupleKind_room_in1 hu) (pD I.hok eb) hd dd ?_;have q:=(rel.val k).isSome_eq;rw[Option.isSome_map] at q;rw[← q,← l];exact h _ (I.tok _)
theorem aJc {Q:Value->Shared->Prop}(hu:A.units+1<cLine) (I:Inv X pins σ H s) (g:fV H a y o) (ry:cH y u) (h:∀ s',Inv X pins σ H s'->Q (.bool (!o.isSome)) s') :
  wpAny (model X.prog X.w) A (compareOp .NotIn u (.ref a)) Q E s:=by
 rcases g with⟨kvs,k,e,ey,l⟩ | ⟨kvs,k,b,e,ey,eb,l⟩
 ·subst ey;obtain⟨z,hd,vs,rel,dd⟩:=pU I.hok e;refine wpAny_notIn_of (rH ry) hd dd.mapOf ?_;rw[← (rel.val k).isSome_eq,← l];exact h _ (I.tok _)
 ·subst ey;cases (show u=Value.ref b from ry)
  obtain⟨z,hd,xs,rel,dd⟩:=rQ I.hok e;refine wpAny_notIn_heap (tupleKind_room_in1 hu) (pD I.hok eb) hd dd ?_;have q:=(rel.val k).isSome_eq;rw[Option.isSome_map] at q;rw[← q,← l];exact h _ (I.tok _)
theorem vC {h':Heap}{t':Nat}{ob:HO}(I:Inv X pins σ H s) (mu:Mut (H a)) (hs:Heap.SameBut a s.heap h') (he:∃ q,h'.get? a=some q) (new:dD X.prog X.w (upd H a ob) h' a ob) :
  Inv X pins σ (upd H a ob) { s with heap:=h',toks:=t' }:=
 I.write (x:=a) (e:=a) mu (.inl rfl) (fun b q hb z=>(hs.2 b hb).trans z) he new
theorem aGw {P:Program}{w:World}{H':Hp}{h':Heap}{kvs:List (Key×V)}{vs:List (Key×Value)}(z:kvs.length<=sizeLine) (hd:(a==sysModules)=false) (rel:KV kvs vs) (dd:h'.DictOf (dE P w) a vs) :
  dD P w H' h' a (.dK kvs):=⟨z,hd,vs,rel,dd⟩
theorem aDg {H':Hp}{Q:Unit->Shared->Prop}(hu:A.units+1<cLine) (I:Inv X pins σ H s) (g:pZ H a y v H') (ry:cH y u) (rv:cH v r) (h:∀ s',Inv X pins σ H' s'->Q () s') :
  wpAny (model X.prog X.w) A (setItem (.ref a) u r) Q E s:=by
 rcases g with⟨kvs,k,e,ey,l,eH⟩ | ⟨kvs,k,b,e,ey,eb,l,eH⟩
 ·subst ey eH;obtain⟨z,hd,vs,rel,dd⟩:=aGv I.hok e;have hz:vs.length<=sizeLine:=by rw[← rel.length]; exact z
  have hl:(eP kvs k v).length<=sizeLine:=by have:=dS kvs k v; omega
  refine wpAny_setItem_pairs (hsz:=hz) (rH ry) dd fun h' dd' hs=>h _ ?_;have he:∃ q,h'.get? a=some q:=let ⟨q,_,_,hq,_⟩:=dd'; ⟨q,hq⟩;exact vC I (by rw[e]; exact True.intro) hs he (aGw hl hd (rel.put k rv) dd')
 ·subst ey eH;cases (show u=Value.ref b from ry)
  obtain⟨z,hd,xs,rel,dd⟩:=aNm I.hok e;have hz:xs.length<=sizeLine:=by rw[← Paired.length rel]; exact z
  have hl:(eP kvs k v).length<=sizeLine:=by have:=dS kvs k v; omega
  refine wpAny_setItem_heap (hsz:=hz) (tupleKind_room_in1 hu) (pD I.hok eb) dd fun h' dd' hs=>h _ ?_;obtain⟨q,es,ep,hq,h2,h3,h4,_,h5⟩:=dd';refine vC I (by rw[e]; exact True.intro) hs ⟨q,hq⟩ ⟨hl,hd,_,(rel.put k eb rv).keeps fun c ys ec=>?_,q,es,ep,hq,h2,h3,h4,h5⟩;rw[aI (aMz ec e (fun z=>nomatch z))];exact ec
end

section
variable {X:Cx}{pins:List (Addr×Obj)}{σ:St}{H:Hp}{s:Shared}{a:Addr}{kvs:List (Key×V)}{k:Key}{u:Value}{A:Around}{E:Value->Shared->Prop}
theorem aNn {Q:Value->Shared->Prop}(I:Inv X pins σ H s) (e:Rd H a (.dK kvs)) (h:∀ t s',Inv X pins σ H s'->Q (.int kvs.length t) s'):wpAny (model X.prog X.w) A (call (.builtin "len") [.ref a]) Q E s:=by
 obtain⟨z,hd,vs,rel,dd⟩:=pU I.hok e;refine call_len_dict hd dd (by rw[← rel.length]; rw[sizeLine_eq] at z; omega) ?_;rw[← rel.length];exact h _ _ (I.tok _)
end


def aNp (i:Expr):Prop:=∀ ov iv,subscripted i false ov iv=operate [ov,iv] (getItem ov iv)
theorem aHr {prog:Program}{w:World}{A:Around}{E:Value->Shared->Prop}{s:Shared}{env:Env}{value slice:Expr}{pos:Pos}{T id:String}{Q:Value->Shared->Prop}
  (hl:typeLookup (.type T) "__getitem__"=pure (some (.builtin id))) (hs:aNp slice)
  (h:wpAny (model prog w) A (eval value env) (fun o s₁=>wpAny (model prog w) A (eval slice env) (fun i s₂=>s₂.TypeIs o T∧wpAny (model prog w) A (getItem o i) Q E s₂) E s₁) E s) :
  wpAny (model prog w) A (eval (.Subscript value slice pos) env) Q E s:=by
 refine Subscript_ (wpAny_mono h (fun o s₁ h₁=>wpAny_mono h₁ (fun i s₂ h₂=>?_) fun _ _ x=>x) fun _ _ x=>x);obtain⟨hT,h₂⟩:=h₂;unfold subscriptTail;refine wpAny_bind ?_;rw[getitemInPython_of_ne hT.not_modules];refine wpAny_bind (wpAny_specialOf hT hl ?_)
 have fin:wpAny (model prog w) A (subscripted slice false o i) (fun r s₃=>wpAny (model prog w) A (letTemporaryGo value o r>>=fun _=>pure r) Q E s₃) E s₂:=by
  rw[hs o i];exact wpAny_operating (wpAny_mono h₂ (fun r s₃ h₃=>wpAny_bind (wpAny_letTemporaryGo (wpAny_pure h₃))) fun _ _ x=>x)
 first
  | exact wpAny_pure (wpAny_bind fin)
  | exact wpAny_bind (wpAny_pure (wpAny_bind fin))
  | exact wpAny_bind fin

theorem xS {X:Cx}{pins:List (Addr×Obj)}{σ:St}{H:Hp}{s:Shared}{a:Addr}{y:V}{o:Option V}(I:Inv X pins σ H s) (g:fV H a y o):s.TypeIs (.ref a) "dict":=by
 rcases g with⟨kvs,k,e,_,_⟩ | ⟨kvs,k,b,e,_,_,_⟩
 ·obtain⟨_,_,vs,_,dd⟩:=pU I.hok e;exact dd.typeIs
 ·obtain⟨_,_,xs,_,dd⟩:=rQ I.hok e;exact dd.typeIs

inductive aNw (x y:V) (H:Hp) (Q:VK):Prop
 | mk (a:Addr) (v:V) (h1:x=.ref a) (h2:fV H a y (some v)) (q:Q v H)
inductive aNv (x y:V) (H:Hp) (Q:Option V->Hp->Prop):Prop
 | mk (a:Addr) (o:Option V) (h1:x=.ref a) (h2:fV H a y o) (q:Q o H)
def aMl (td ty:TE):TE:=fun σ H Q=>td σ H fun x H1=>ty σ H1 fun y H2=>aNw x y H2 Q
def aOm (ty td:TE):TE:=fun σ H Q=>ty σ H fun y H1=>td σ H1 fun x H2=>aNv x y H2 fun o H2=>Q (.bl o.isSome) H2
def aHq (ty td:TE):TE:=fun σ H Q=>ty σ H fun y H1=>td σ H1 fun x H2=>∃ a o,x=.ref a∧fV H2 a y o∧Q (.bl (!o.isSome)) H2
inductive aLz (x y v:V) (H3:Hp) (R:Hp->Prop):Prop
 | mk (a:Addr) (H4:Hp) (h1:x=.ref a) (h2:pZ H3 a y v H4) (q:R H4)
def aMs (td ty tv:TE):TS:=fun D σ H=>tv σ H fun v H1=>td σ H1 fun x H2=>ty σ H2 fun y H3=>aLz x y v H3 (D.nx σ)

section
variable {X:Cx}{o i e value:Expr}{pos pos' tpos:Pos}{td ty tv:TE}
theorem jK (hu:X.A.units+1<cLine) (ho:PE X o td) (hi:PE X i ty) (hs:aNp i):PE X (.Subscript o i pos) (aMl td ty):=by
 intro pins s σ H Q I h;refine aHr PySem.F.slot_dict_getitem.lookup hs (thn (ho pins s σ H _ I h) fun u s1 ⟨x,H1,I1,rx,q1⟩=>thn (hi pins s1 σ H1 _ I1 q1) fun iv s2 ⟨y,H2,I2,ry,a,v,ex,g,q2⟩=>?_);subst ex;obtain rfl:u=Value.ref a:=rx;exact⟨xS I2 g,aDh hu I2 g ry fun w' s3 I3 rw'=>⟨v,H2,I3,rw',q2⟩⟩
theorem rB (hu:X.A.units+1<cLine) (hi:PE X i ty) (ho:PE X o td):PC X .In i o (aOm ty td):=by
 intro pins s σ H Q I h;refine thn (hi pins s σ H _ I h) fun iv s1 ⟨y,H1,I1,ry,q1⟩=>thn (ho pins s1 σ H1 _ I1 q1) fun u s2 ⟨x,H2,I2,rx,a,ov,ex,g,q2⟩=>?_;subst ex;obtain rfl:u=Value.ref a:=rx;exact aPz hu I2 g ry fun s3 I3=>⟨.bl ov.isSome,H2,I3,rfl,q2⟩
theorem tO (hu:X.A.units+1<cLine) (hi:PE X i ty) (ho:PE X o td):PC X .NotIn i o (aHq ty td):=by
 intro pins s σ H Q I h;refine thn (hi pins s σ H _ I h) fun iv s1 ⟨y,H1,I1,ry,q1⟩=>thn (ho pins s1 σ H1 _ I1 q1) fun u s2 ⟨x,H2,I2,rx,a,ov,ex,g,q2⟩=>?_;subst ex;obtain rfl:u=Value.ref a:=rx;exact aJc hu I2 g ry fun s3 I3=>⟨.bl (!ov.isSome),H2,I3,rfl,q2⟩
theorem lL (hu:X.A.units+1<cLine) (ho:PE X o td) (hi:PE X i ty) (hv:PE X value tv) (hs:swapsWith value (some (.Subscript o i pos')) pos.line X.env=pure false) :
  PS X (.Assign [.Subscript o i pos'] value pos) (aMs td ty tv):=by
 intro pins s σ H D I h;refine wpAny_Assign_Subscript (thn (hv pins s σ H _ I h) fun r s1 ⟨v,H1,I1,rv,q1⟩=>thn (ho pins s1 σ H1 _ I1 q1) fun u s2 ⟨x,H2,I2,rx,q2⟩=>thn (hi pins s2 σ H2 _ I2 q2) fun iv s3 ⟨y,H3,I3,ry,a,H4,ex,g,q3⟩=>?_) hs;subst ex;obtain rfl:u=Value.ref a:=rx;exact aDg hu I3 g ry rv fun s4 I4=>⟨σ,H4,I4,q3⟩
end


theorem xQ {P:Program}{w:World}{H:Hp}(h:Heap) (hb:sysModules<h.objs.size):dD P w H (h.push { cls:=.type "dict",data:=.dict #[] }) h.objs.size (.dK []):=
 ⟨Nat.zero_le _,beq_eq_false_iff_ne.mpr (Ne.symm (Nat.ne_of_lt hb)),[],.nil,Heap.DictOf.new h⟩
theorem aGt {P:Program}{w:World}{H:Hp}(h:Heap) (hb:sysModules<h.objs.size):dD P w H (h.push { cls:=.type "dict",data:=.dict #[] }) h.objs.size (.dT []):=
 ⟨Nat.zero_le _,beq_eq_false_iff_ne.mpr (Ne.symm (Nat.ne_of_lt hb)),[],.nil,_,#[],0,Heap.get?_push_size _ rfl,⟨rfl,rfl,rfl⟩,rfl,rfl,List.nodup_nil⟩
def aKg:TE:=fun _ H Q=>∀ p,H p=none->Q (.ref p) (upd H p (.dK []))
def aKf:TE:=fun _ H Q=>∀ p,H p=none->Q (.ref p) (upd H p (.dT []))
section
variable {X:Cx}{pos:Pos}
theorem kE:PE X (.Dict [] [] pos) aKg:=fun pins s σ H Q I h=>
 wpAny_Dict_empty ⟨.ref s.heap.objs.size,_,I.laid (a:=s.heap.objs.size) (o:=.dK []) (t':=s.toks) (fun _ _ q=>Heap.get?_push_of_some _ q) (Nat.le_refl _) (xQ s.heap I.big),rfl,h _ (I.hok.fresh (Nat.le_refl _))⟩
theorem aFf:PE X (.Dict [] [] pos) aKf:=fun pins s σ H Q I h=>
 wpAny_Dict_empty ⟨.ref s.heap.objs.size,_,I.laid (a:=s.heap.objs.size) (o:=.dT []) (t':=s.toks) (fun _ _ q=>Heap.get?_push_of_some _ q) (Nat.le_refl _) (aGt s.heap I.big),rfl,h _ (I.hok.fresh (Nat.le_refl _))⟩
end

def yD:List (TE×TE)->St->Hp->(List (V×V)->Hp->Prop)->Prop
 | [],_,H,Q=>Q [] H
 | (tk,tv)::r,σ,H,Q=>tk σ H fun x H1=>tv σ H1 fun y H2=>yD r σ H2 fun ps H3=>Q ((x,y)::ps) H3
abbrev VV:List (V×V)->List (Value×Value)->Prop:=Paired fun p q=>cH p.1 q.1∧cH p.2 q.2
def PPs (X:Cx) (pos:Pos) (keys:List (Option Expr)) (values:List Expr) (trs:List (TE×TE)):Prop:=
 ∀ (pins:List (Addr×Obj)) (s:Shared) (σ:St) (H:Hp) (Q:List (V×V)->Hp->Prop),Inv X pins σ H s->yD trs σ H Q ->
  wpAny (model X.prog X.w) X.A (evalPairs (pairTrees keys values X.env pos)) (fun vs s'=>∃ ps H',Inv X pins σ H' s'∧VV ps vs∧Q ps H') X.xe s
theorem aIa {X:Cx}{pos:Pos}:PPs X pos [] [] []:=fun pins s σ H Q I h=>pairTrees_nil_walk ⟨[],H,I,.nil,h⟩
theorem nN {X:Cx}{pos:Pos}{k v:Expr}{ks:List (Option Expr)}{vs:List Expr}{tk tv:TE}{trs:List (TE×TE)}(hk:PE X k tk) (hv:PE X v tv) (hr:PPs X pos ks vs trs) :
  PPs X pos (some k::ks) (v::vs) ((tk,tv)::trs):=fun pins s σ H Q I h=>
 pairTrees_cons_walk (thn (hk pins s σ H _ I h) fun u s1 ⟨x,H1,I1,rx,q1⟩=>thn (hv pins s1 σ H1 _ I1 q1) fun w2 s2 ⟨y,H2,I2,ry,q2⟩=>
  thn (hr pins s2 σ H2 _ I2 q2) fun ws s3 ⟨ps,H3,I3,rel,q3⟩=>⟨(x,y)::ps,H3,I3,.cons ⟨rx,ry⟩ rel,q3⟩)

def oU (kvs more:List (Key×V)):List (Key×V):=more.foldl (fun acc kv=>eP acc kv.1 kv.2) kvs
theorem KV.merge:∀ {more:List (Key×V)}{rs:List (Key×Value)}{kvs:List (Key×V)}{vs:List (Key×Value)},KV more rs->KV kvs vs->KV (oU kvs more) (merged vs rs):=by
 intro more rs kvs vs r;unfold KV at r
 induction r generalizing kvs vs with
 | nil=>intro q; exact q
 | @cons p q ps qs h t ih=>
  intro r0
  have e:KV (eP kvs p.1 p.2) (stored vs q.1 q.2):=by
   have:=r0.put p.1 h.2
   rw[← h.1]; exact this
  exact ih e
theorem lW:∀ (more kvs:List (Key×V)),(oU kvs more).length<=kvs.length+more.length
 | [],kvs=>by show kvs.length<=kvs.length+0; omega
 | p::r,kvs=>by
  have h1:=lW r (eP kvs p.1 p.2);have h2:=dS kvs p.1 p.2;show (oU (eP kvs p.1 p.2) r).length<=_;rw[List.length_cons]; omega
theorem rV {P:Program}{w:World}:∀ {kvs:List (Key×V)}{ws:List (Value×Value)},VV (kvs.map fun kv=>(kV kv.1,kv.2)) ws->∃ rs,Carries (dE P w) ws rs∧KV kvs rs
 | [],_,r=>by rw[List.map_nil] at r; cases r; exact⟨[],True.intro,.nil⟩
 | p::kvs,_,r=>by
  rw[List.map_cons] at r;cases r with
  | @cons a b as bs h t=>
   obtain⟨rs,c,q⟩:=rV (P:=P) (w:=w) t;obtain⟨b1,b2⟩:=b;exact⟨(p.1,b2)::rs,⟨rH h.1,rfl,c⟩,.cons ⟨rfl,h.2⟩ q⟩
def aMk (trs:List (TE×TE)):TE:=fun σ H Q=>∀ p,H p=none->yD trs σ (upd H p (.dK [])) fun ps H2=>H2 p=some (.dK [])∧∃ kvs:List (Key×V),ps=kvs.map (fun kv=>(kV kv.1,kv.2))∧kvs.length<=15∧Q (.ref p) (upd H2 p (.dK (oU [] kvs)))
theorem aIc {X:Cx}{pos:Pos}{keys:List (Option Expr)}{values:List Expr}{trs:List (TE×TE)}(h:PPs X pos keys values trs) (hall:keys.all (·.isSome)=true) (hl:keys.length=values.length) (h0:keys≠[])
  (h15:keys.length<=15):PE X (.Dict keys values pos) (aMk trs):=by
 intro pins s σ H Q I q;have hn:=I.hok.fresh (Nat.le_refl s.heap.objs.size);have I1:=I.laid (a:=s.heap.objs.size) (o:=.dK []) (h':=s.heap.push { cls:=.type "dict",data:=.dict #[] }) (t':=s.toks) (fun _ _ q=>Heap.get?_push_of_some _ q) (Nat.le_refl _) (xQ s.heap I.big);refine wpAny_Dict_walk (knd:=dE X.prog X.w) hall hl h0 h15 (thn (h pins _ σ _ _ I1 (q _ hn)) fun ws s2 ⟨ps,H2,I2,rel,e,kvs,ep,lk,q2⟩=>?_);subst ep;obtain⟨rs,c,rk⟩:=rV (P:=X.prog) (w:=X.w) rel;obtain⟨z,hd,vs0,r0,dd⟩:=aGv I2.hok e;cases r0;refine⟨rs,c,dd,fun h' dd' hs=>⟨.ref s.heap.objs.size,_,?_,rfl,q2⟩⟩
 have hz:(oU [] kvs).length<=sizeLine:=by
  have h1:=lW kvs [];rw[List.length_nil] at h1;rw[sizeLine_eq]; omega
 have he:∃ q,h'.get? s.heap.objs.size=some q:=let ⟨q,_,_,hq,_⟩:=dd'; ⟨q,hq⟩;exact vC I2 (by rw[e]; exact True.intro) hs he (aGw hz hd (rk.merge .nil) dd')


structure M1 (X:Cx) (o:Expr) (m:Str) (apos:Pos) (e:Expr) (cpos:Pos):Prop where
 base:attributeBase o m X.env (eval o X.env)=eval o X.env
 few:((backTo cpos (starEach [e] X.env)).all (fun x=>!x.1)&&(backToKw cpos (keywordEach [] X.env)).all (fun x=>x.1.isSome)
  && decide (([e]:List Expr).length+([]:List Keyword).length+(if ([]:List Keyword).isEmpty then 0 else 1)<30))=true
 line:(apos.endLine==cpos.line)=true
 trees:backTo cpos (starEach [e] X.env)=[(false,eval e X.env)]

def IsD (H:Hp) (a:Addr):Prop:=(∃ kvs,Rd H a (.dK kvs))∨∃ kvs,Rd H a (.dT kvs)
theorem aLn {X:Cx}{pins:List (Addr×Obj)}{σ:St}{H:Hp}{s:Shared}{a:Addr}(I:Inv X pins σ H s) (d:IsD H a) :
  s.TypeIs (.ref a) "dict" ∧ (∀ b,Value.ref a=.ref b->∃ ob,s.heap.get? b=some ob∧ob.dict=none)∧(a==sysModules)=false:=by
 rcases d with⟨kvs,e⟩ | ⟨kvs,e⟩
 ·obtain⟨_,hd,vs,_,dd⟩:=pU I.hok e;refine⟨dd.typeIs,fun b q=>?_,hd⟩;cases q;obtain⟨ob,_,_,h1,h2,_⟩:=dd;exact⟨ob,h1,h2.2.1⟩
 ·obtain⟨_,hd,xs,_,dd⟩:=rQ I.hok e;refine⟨dd.typeIs,fun b q=>?_,hd⟩;cases q;obtain⟨ob,_,_,h1,h2,_⟩:=dd;exact⟨ob,h1,h2.2.1⟩

section
variable {X:Cx}{pins:List (Addr×Obj)}{σ:St}{H:Hp}{s:Shared}{a:Addr}{y d:V}{u r:Value}{o:Option V}{A:Around}{E:Value->Shared->Prop}
theorem aLs {Q:Value->Shared->Prop}(hu:A.units+1<cLine) (I:Inv X pins σ H s) (g:fV H a y o) (ry:cH y u) (h:∀ w' s',Inv X pins σ H s'->cH (o.getD .non) w'->Q w' s') :
  wpAny (model X.prog X.w) A (call (.builtin "dict.get") [.ref a,u]) Q E s:=by
 rcases g with⟨kvs,k,e,ey,l⟩ | ⟨kvs,k,b,e,ey,eb,l⟩
 ·subst ey;obtain⟨z,hd,vs,rel,dd⟩:=pU I.hok e;refine call_meetsIn PySem.F.slot_dict_get dd.typeIs PySem.F.entry_dict_get (PySem.F.args_dict_get_2 _ _) (meets_dict_get (dE X.prog X.w) a (rH ry) hd) ⟨_,dd.mapOf,h _ _ (I.tok _) ?_⟩;rw[l];exact (rel.val k).getD rfl
 ·subst ey;cases (show u=Value.ref b from ry)
  obtain⟨z,hd,xs,rel,dd⟩:=rQ I.hok e;refine call_meetsIn PySem.F.slot_dict_get dd.typeIs PySem.F.entry_dict_get (PySem.F.args_dict_get_2 _ _) (meetsH_dict_get (tupleKind (dE X.prog X.w)) a b hd) ⟨tupleKind_room_in1 hu,k,xs,pD I.hok eb,dd,h _ _ (I.tok _) ?_⟩;rw[l];exact (rel.val k).getD rfl
end

def aKh (td ty:TE):TE:=fun σ H Q=>td σ H fun x H1=>∃ a,x=.ref a∧IsD H1 a∧ty σ H1 fun y H2=>∃ o,fV H2 a y o∧Q (o.getD .non) H2
section
variable {X:Cx}{o e f:Expr}{apos cpos:Pos}{td ty tx:TE}
theorem wP (hu:X.A.units+1<cLine) (ho:PE X o td) (he:PE X e ty) (m:M1 X o "get" apos e cpos):PE X (.Call (.Attribute o "get" apos) [e] [] cpos) (aKh td ty):=by
 intro pins s σ H Q I h;refine wpAny_Call_method m.base m.few m.line PySem.F.plainAttrs_dict PySem.F.slot_dict_get PySem.F.type_dict_get (thn (ho pins s σ H _ I h) fun u s1 ⟨x,H1,I1,rx,a,ex,d,q1⟩=>?_);subst ex;obtain rfl:u=Value.ref a:=rx;obtain⟨t1,t2,_⟩:=aLn I1 d;refine⟨t1,t2,?_⟩;rw[m.trees];refine Calls.callWith_builtin rfl (Calls.evalArgs_plain (Calls.spliced_cons (thn (he pins s1 σ H1 _ I1 q1) fun iv s2 ⟨y,H2,I2,ry,ov,g,q2⟩=>Calls.spliced_nil ?_)));exact aLs hu I2 g ry fun w' s3 I3 rw'=>⟨_,H2,I3,rw',q2⟩
end

section
variable {X:Cx}{pins:List (Addr×Obj)}{σ:St}{H:Hp}{s:Shared}{a:Addr}{kvs:List (Key×V)}{A:Around}{E:Value->Shared->Prop}
end


section
variable {X:Cx}{pins:List (Addr×Obj)}{σ:St}{H:Hp}{s:Shared}{a:Addr}{y:V}{u:Value}{A:Around}{E:Value->Shared->Prop}
end
end L2

namespace Att
open PySem PySem.W PySem.Calls PyProof.Rows

theorem pX {P:Params}{h:Heap}:∀ (ns:List Int) (vs:List Value),WellAll P h vs (ns.map WData.int)->IntsAre vs ns:=by
 intro ns
 induction ns with
 | nil=>
  intro vs w;rw[List.map_nil] at w;cases w;exact .nil
 | cons n ns ih=>
  intro vs w;rw[List.map_cons] at w;cases w with
  | cons a b=>
   cases a;exact .cons _ _ (ih _ b)

theorem aBv {l:OpenLaw}{n:Nat}(hn:l.most=some n){P:Params}{h:Heap}{args:List WData}{vals:List Value}
  (hpre:l.row.toRowW.claim.pre args=true) (hwl:WellAll P h vals args) :
  ∃ a vs ns,vals=[Value.ref a]∧args=[WData.list (ns.map WData.int)]∧h.get? a=some { cls:=.type "list",data:=.seq vs.toArray }∧IntsAre vs ns∧ns.length<=n:=by
 have hsh:WShape.hasAll [] args [.list .int]=true:=(pre_splitW hpre).1;have hc:l.pre.holds [] { args:=args }=true:=(pre_splitW hpre).2;obtain⟨d,r,rfl,h1,h2⟩:=hasAllW_cons hsh;obtain rfl:=hasAllW_nil h2;obtain⟨xs,rfl,h3⟩:=hasW_list h1;obtain⟨ns,rfl⟩:=items_int h3
 have hlen:ns.length<=n:=by
  unfold OpenLaw.pre at hc
  have h4:(WTm.not (.lt (.lit (.int (n:Int))) (.len (.arg 0)))).holds [] { args:=[.list (ns.map .int)] }=true:=by
   have h4:=(holds_andW hc).1;rw[hn] at h4;exact h4
  have h5:=condW_of h4 (w_not (w_lt w_lit (w_len_list (w_arg rfl))));rw[List.length_map] at h5;refine Nat.le_of_not_lt fun q=>?_;have q':(n:Int)<((ns.length:Nat):Int):=by omega
  first
   | (rw[decide_eq_true q'] at h5; exact absurd h5 (by decide))
   | (simp at h5; omega)
 cases hwl with
 | cons w1 w2=>
  cases w2;cases w1 with
  | list ho hall=>exact⟨_,_,ns,rfl,rfl,ho,pX ns _ hall,hlen⟩

theorem aCa (l:OpenLaw) (args:List WData):l.row.toRowW.claim.post args (.bool true) args=true:=
 postW_of (r:=l.row.toRowW) (X:=(true==true))
  (show WShape.has [] (.bool true) .bool=true by first | rfl | decide | simp[WShape.has,WShape.arms,WShape.armsAll])
  (show (WTm.eq .res (.lit (.bool true))).value [] { args:=args,res:=some (.bool true),after:=args }=some (.bool (true==true)) from w_eq_bool (w_res rfl) w_lit) rfl


theorem attach_call {l:OpenLaw}{n:Nat}{q:Program}{loose:List Str}{XP:(Str->Option Value)->Heap->Prop}{YP:World->Heap->Prop}{d:DefRec}
  (hn:l.most=some n) (hdf:d.params.defaults=[])
  (call:∀ (w:World) (s₀ s₁:Shared) (mg mb:Str->Option Value) (fa:Addr) (o:Obj) (pm cd doc:Value) (a:Addr) (vs:List Value) (ns:List Int),
   Ground q loose [] XP w s₀ mg mb s₁.heap->YP w s₁.heap ->
   s₁.heap.get? fa=some o->o.data=.func (docDef d.name d.params d.body d.scope pm cd doc)->s₁.heap.CodeRec cd d.name->mg d.name=some (.ref fa) ->
   s₁.heap.get? a=some { cls:=.type "list",data:=.seq vs.toArray }->IntsAre vs ns->ns.length<=n->s₁.gens=#[] ->
   codeAny (model l.prog w) callerA (.call (.ref fa) ⟨[.ref a],[]⟩) (fun r s'=>r=.ok (.ret (.bool true))∧OldK s₁.heap s'.heap∧s'.os=s₁.os∧AllBare s'.gens) s₁) :
  WalkO q loose XP YP l.row.toRowW d [] (fun f vs=>PySem.call f vs):=by
 intro w s₀ s₁ mg mb G Y fa o pm cd doc dV kV ho hd hcd hD hmg hg args vals as hpre hlay hrd hwl hlo;obtain rfl:dV=.none:=Dflts.none hD hdf;obtain rfl:kV=.none:=Dflts.noKw hD;obtain⟨a,vs,ns,rfl,rfl,hobj,hints,hlen⟩:=aBv hn hpre hwl;refine enter_call (codeAny_mono (call w s₀ s₁ mg mb fa o pm cd doc a vs ns G Y ho (fd_plain hd) hcd hmg hobj hints hlen hg) fun r s' hq=>?_);obtain⟨rfl,h2,h3,h4⟩:=hq;exact⟨.inl ⟨.bool true,.bool true,[],rfl,fun _=>rfl,.bool true,aCa l _,fun _=>⟨List.Pairwise.nil,fun _ hm=>(nomatch hm)⟩⟩,h2,h3,h4⟩


section
variable {prog:Program}{w:World}{A:Around}{E:Value->Shared->Prop}{s:Shared}{K:Frag}






end
end Att

namespace L2
open PySem PySem.Spec PyProof.Rows

theorem sQ:∀ {vs:List Value}{ns:List Int},IntsAre vs ns->cB (ns.map V.int) vs
 | _,_,.nil=>.nil
 | _,_,.cons n t h=>.cons ⟨t,rfl⟩ (sQ h)


end L2

namespace L2
open PySem PySem.Spec PyProof.Rows


end L2



namespace L2
open PySem PySem.Spec PyProof.Rows

def aE (s:Stmt) (j:Nat):Stmt:=match s with
 | .ClassDef _ _ _ body _ _ _ _ _ _ _=>body.getD j (.Pass ⟨0,0,0,0⟩)
 | _=>.Pass ⟨0,0,0,0⟩
def aH (s:Stmt):Arguments:=match s with
 | .FunctionDef _ a _ _ _ _ _ _ _ _=>a
 | _=>{ posonlyargs:=[],args:=[],vararg:=none,kwonlyargs:=[],kw_defaults:=[],kwarg:=none,defaults:=[] }
def aF (s:Stmt):List Stmt:=match s with
 | .FunctionDef _ _ b _ _ _ _ _ _ _=>b
 | _=>[]
def aB (s:Stmt):Scope:=match s with
 | .FunctionDef _ _ _ _ _ _ sc _ _ _=>sc
 | _=>{ kind:=.function,names:=[],isGenerator:=false,isCoroutine:=false }

abbrev CX0:CXT:=fun _ _ _ _ _ _=>False
abbrev E0:XK:=fun _ _ _=>False
theorem bY {X:Cx}:gN CX0 X E0:=fun _ _ _ _ _ _ _ h=>h.elim

structure Fun (K:PySem.W.Frag) (x qual:Str) (st:Stmt) (f:Addr) (fd:FuncData):Prop where
 ex:∃ (oc:Value) (od:Option Addr) (kV doc pm:Value) (an:Option Addr) (cdv ct:Value) (osl:Array (Option Value)),
  fd=PySem.W.fnOf x qual (aH st) (aF st) (aB st) .none kV doc pm an cdv ct∧K.lookup f=some ⟨oc,od,.func fd,osl⟩∧PySem.W.codeIn K cdv qual=true
 kp:PySem.W.keepIn K (.ref f)=true
section
variable {P:Program}{w:World}{K:PySem.W.Frag}{mg:Str->Option Value}{base:Heap}
theorem Fun.ok {x qual:Str}{st:Stmt}{f:Addr}{fd:FuncData}{N ps:List Str}{k:Nat}{sp:Sp}(F:Fun K x qual st f fd) (S:aS N ps (aB st)) (len:∀ vs H Q E,sp vs H Q E->vs.length=ps.length)
  (hbody:∀ (cdv:Value) (A:Around) (outer:List Env) (s:Shared) (H:Hp) (vs:List V) (Q:VK) (E:XK),cY k (A.deeper (envOfC qual (aB st) s.heap.objs.size f cdv))->sp vs H Q E ->
   ∃ t,PSs (iH CX0 P w K mg base N qual (aB st) f cdv A outer s H E).nox (aF st) t∧t { nx:=fun _ H'=>Q .non H',rt:=Q } (start N vs) H):aX P w K mg base CX0 (k+1) f fd ps sp:=by
 obtain⟨oc,od,kV,doc,pm,an,cdv,ct,osl,rfl,lk,hcd⟩:=F.ex;refine aBb lk hcd S len fun A outer s H vs Q E hr hsp=>?_;obtain⟨t,h,q⟩:=hbody cdv A outer s H vs Q E hr hsp;exact⟨t,h.nox,q⟩
theorem Fun.binds {x qual:Str}{st:Stmt}{f:Addr}{fd:FuncData}{ps:List Str}(F:Fun K x qual st f fd)
  (h:∀ (kV doc pm:Value) (an:Option Addr) (cdv ct:Value) (us:List Value),us.length=ps.length->bindArgs (PySem.W.fnOf x qual (aH st) (aF st) (aB st) .none kV doc pm an cdv ct) ⟨us,[]⟩=pure (ps.zip us)):bJ K fd ps []:=by
 obtain⟨oc,od,kV,doc,pm,an,cdv,ct,osl,rfl,lk,hcd⟩:=F.ex;exact .all (h kV doc pm an cdv ct)
theorem cA {x qual:Str}{st:Stmt}{f:Addr}{oc:Value}{od an:Option Addr}{osl:Array (Option Value)}{kV doc pm cdv ct:Value}(l:K.lookup f=some ⟨oc,od,.func (PySem.W.fnOf x qual (aH st) (aF st) (aB st) .none kV doc pm an cdv ct),osl⟩)
  (c:PySem.W.codeIn K cdv qual=true) (k:PySem.W.keepIn K (.ref f)=true):Fun K x qual st f (PySem.W.fnOf x qual (aH st) (aF st) (aB st) .none kV doc pm an cdv ct):=⟨⟨oc,od,kV,doc,pm,an,cdv,ct,osl,rfl,l,c⟩,k⟩
end
theorem jB {A:Around}{k:Nat}(hr:cY k A):A.units+1<cLine:=Nat.lt_of_le_of_lt (Nat.add_le_add_left (by decide:1<=64) _) hr.units
theorem aQ {n:Nat}(h:n<=1000):n<sizeLine:=Nat.lt_of_le_of_lt h (by decide)

section
variable {X:Cx}
theorem pv (i:Nat){x:Str}{pos:Pos}(hN:X.N[i]?=some x:=by rfl) (hv:Vis X.env.scope x:=by first | exact Or.inl rfl | exact Or.inr (Or.inl rfl) | exact Or.inr (Or.inr rfl)) (hd:(x==("__debug__" : Str))=false:=by decide)
  (hcd:(x==("__classdict__" : Str))=false:=by decide):PE X (.Name x pos) (aBp i):=qY hN hv hd hcd
end

theorem fZ {A B:Prop}(h:B):if false=true then A else B:=by
 rw[if_neg Bool.false_ne_true];exact h
theorem kO {A B:Prop}(h:A):if true=true then A else B:=by
 rw[if_pos rfl];exact h
theorem gJ {c A B:Prop} [Decidable c] (h1:c->A) (h2:¬ c->B):if c then A else B:=by
 by_cases h:c
 ·rw[if_pos h];exact h1 h
 ·rw[if_neg h];exact h2 h

def aP (H H':Hp):Prop:=∀ b o,H b=some o->H' b=some o
theorem aP.refl (H:Hp):aP H H:=fun _ _ h=>h
theorem aP.trans {H H1 H2:Hp}(a:aP H H1) (b:aP H1 H2):aP H H2:=fun c o h=>b c o (a c o h)
theorem aP.free {H H':Hp}(e:aP H H'){l:Addr}(h:H' l=Option.none):H l=Option.none:=by
 cases q:H l with
 | none=>rfl
 | some o=>
  rw[e l o q] at h;cases h
theorem aP.seq {K:PySem.W.Frag}{H H':Hp}{a:Addr}{xs:List V}(e:aP H H') (h:SqL K H a xs):SqL K H' a xs:=by
 rcases h with (h | ⟨o,h⟩) | h
 ·exact .inl (.inl (e _ _ h))
 ·exact .inl (.inr ⟨o,e _ _ h⟩)
 ·exact .inr h

end L2


namespace L2
open PySem PySem.Spec PyProof.Rows
section
variable {X:Cx}
inductive aQh (xs:List V) (H:Hp) (Q:VK):Prop
 | mk (a:_) (kvs:_) (h0_:xs=[V.ref a]) (h1_:H a=some (.dK kvs)) (h2_:Q (.int kvs.length) H)
theorem aDl:CallR X (.builtin "len") aQh:=by
 intro pins s σ H xs us Q I r h;obtain⟨a,kvs,rfl,ha,q⟩:=h;obtain⟨u,rfl,ru⟩:=iU r;cases ru;exact aNn I (.inl ha) fun t s' I'=>⟨.int kvs.length,H,I',⟨t,rfl⟩,q⟩
end
section
variable {κ:Type} [DecidableEq κ]
end
end L2
namespace L2
open PySem PySem.Spec PyProof.Rows

def aAp (c:Nat):V:=.str ⟨#[c]⟩
def Its (x:Str):It:=⟨fun i _=>i<x.cps.size,fun i H v H'=>H'=H∧∃ c,x.cps[i]?=some c∧v=aAp c,fun i _=>x.cps.size<=i⟩
theorem vQ {P:Program}{w:World}{K:PySem.W.Frag}{tg:Expr}(n:String) (it:Addr) (x:Str) (t:Tok)
  (hn:n="str_ascii_iterator" ∨ n="str_iterator"):zX P w K tg (Its x) [it] it (fun i h=>h.IsStrIter it n x t i) where
 mem:=by simp
 obj:=fun i h st b hb=>by
  have e:b=it:=by simpa using hb
  subst e;obtain⟨o,e,c,d⟩:=st;exact⟨o,e,fun v z=>by rw[d] at z; cases z⟩
 keep:=fun i h h' st k=>by
  obtain⟨o,e,c,d⟩:=st;exact⟨o,k it (by simp) o e,c,d⟩
 item:=by
  intro X hP hw hK hc i pins s σ H E I hf st hg;subst hP hw hK;obtain⟨f0,f1,f2,f3,f4,f5⟩:=hf it (by simp);have hg':i<x.cps.size:=hg;have hx:x.cps[i]?=some x.cps[i]:=by simp[hg']
  have fin:∀ h',h'.IsStrIter it n x t (i+1)->Heap.SameBut it s.heap h'->∃ u,some (Value.str ⟨#[x.cps[i]]⟩ s.toks)=some u ∧
   wpAny (model X.prog X.w) X.A (letOwnedTupleGo tg (.ref it) u) (fun _ s2=>∃ x_1 H',Inv X pins σ H' s2∧cH x_1 u∧(Its x).yld i H x_1 H'∧s2.heap.IsStrIter it n x t (i+1)∧∀ b∈[it],H' b=none) E { s with heap:=h',toks:=s.toks+1 }:=fun h' st' sb=>by
   have I1:Inv X pins σ H { s with heap:=h',toks:=s.toks+1 }:=I.turned (fun b o hb e=>(sb.2 b hb).trans e) f0 f1 f3 f4 f5;obtain⟨o,e,c,d⟩:=id st';refine⟨_,rfl,aGn (s:={ s with heap:=h',toks:=s.toks+1 }) e c d (by rcases hn with rfl | rfl <;> decide) ⟨aAp x.cps[i],H,I1,⟨_,rfl⟩,⟨rfl,_,hx,rfl⟩,st',fun b hb=>(hf b hb).1⟩⟩
  rcases hn with rfl | rfl
  ·exact wpAny_pyNext_ascii_item st hx fin
  ·exact wpAny_pyNext_wide_item st hx fin
 done:=by
  intro X hP hw hK hc i pins s σ H E I hf st hg;subst hP hw hK;obtain⟨f0,f1,f2,f3,f4,f5⟩:=hf it (by simp);have hg':x.cps.size<=i:=hg;have hx:x.cps[i]?=none:=by simp[hg']
  rcases hn with rfl | rfl
  ·exact wpAny_pyNext_ascii_end (I.ok.hd hc) st hx fun h' eb=>⟨rfl,I.turned (t':=s.toks) (fun b o hb e=>eb b o hb e) f0 f1 f3 f4 f5⟩
  ·exact wpAny_pyNext_wide_end (I.ok.hd hc) st hx fun h' eb=>⟨rfl,I.turned (t':=s.toks) (fun b o hb e=>eb b o hb e) f0 f1 f3 f4 f5⟩
 self:=fun _ _ _ _ _ st h=>by
  rcases hn with rfl | rfl
  ·exact wpAny_pyIter_striter_ascii st h
  ·exact wpAny_pyIter_striter_wide st h
section
variable {X:Cx}{tg:Expr}
def aPv (tl:TE):TI:=fun σ H R=>tl σ H fun v H1=>∃ x,v=.str x∧R (Its x) H1
theorem aKu {l:Expr}{tl:TE}(hl:PE X l tl):PI X tg l (aPv tl):=by
 intro pins s σ H R I h;refine thn (hl pins s σ H _ I h) fun v s1 ⟨x,H1,I1,r1,q1⟩=>?_;obtain⟨z,e,q⟩:=q1;subst e;obtain⟨t,rfl⟩:=r1
 have fp:∀ b∈[s1.heap.objs.size],kZ X pins H1 b:=fun b hb=>by
  have e:b=s1.heap.objs.size:=by simpa using hb
  subst e;exact I1.fpOk (Nat.le_refl _) (I1.hok.fresh (Nat.le_refl _))
 cases ha:z.cps.all (·<128)
 ·exact wpAny_pyIter_wide ha ⟨s1.heap.objs.size,[s1.heap.objs.size],_,_,H1,rfl,I1.kept (t':=s1.toks) fun b o e=>Heap.get?_push_of_some _ e,vQ "str_iterator" _ z t (.inr rfl),⟨_,Heap.get?_push_size _ rfl,rfl,rfl⟩,fp,q⟩
 ·exact wpAny_pyIter_ascii ha ⟨s1.heap.objs.size,[s1.heap.objs.size],_,_,H1,rfl,I1.kept (t':=s1.toks) fun b o e=>Heap.get?_push_of_some _ e,vQ "str_ascii_iterator" _ z t (.inl rfl),⟨_,Heap.get?_push_size _ rfl,rfl,rfl⟩,fp,q⟩
end

theorem aDi {prog:Program}{w:World}{A:Around}{R:Result->Shared->Prop}{s:Shared}{elt target iter:Expr}{ifs:List Expr}{scope:Scope}{pos:Pos}{it acc:Value}{env:Env}(I:Nat->Shared->Prop)
  (turn:∀ n s,I n s->wpAny (model prog w) A (pyNext it) (fun r s₁=>match r with
   | none=>R (.ok .next) s₁
   | some v=>wpAny (model prog w) A (letOwnedTupleGo target it v) (fun _ s₁'=>wpAny (model prog w) A (assign target env v) (fun _ s₂=>
     wpAny (model prog w) A (forIn ifs true fun c r=>if r=true then do let ok ← isTrue c env (eval c env); pure (ForInStep.yield ok) else pure (ForInStep.yield r)) (fun ok s₃=>
      if ok=true then wpAny (model prog w) A (eval elt env) (fun x s₄=>
       wpAny (model prog w) A (call (.builtin "list.append") [acc,x]) (fun _ s₅=>∃ m,m<n∧I m s₅) (fun _ _=>False) s₄) (fun _ _=>False) s₃
      else ∃ m,m<n∧I m s₃) (fun _ _=>False) s₂) (fun _ _=>False) s₁') (fun _ _=>False) s₁) (fun _ _=>False) s)
  (n:Nat) (h:I n s) :
  codeAny (model prog w) A (.compLoop (.ListComp elt [⟨target,iter,ifs,0⟩] scope pos) 0 it acc env) R s:=by
 refine codeAny_loop rfl I (fun n s hI=>?_) n h;show wpAny _ A ((compTurn (.ListComp elt [⟨target,iter,ifs,0⟩] scope pos) 0 it acc env).onRaise (fun x=>do noteFrame x env; theTreesLotGoes x)) _ _ s;refine wpAny_noted ?_;rw[compTurn_list];refine wpAny_bind (wpAny_standAt (wpAny_bind (wpAny_mono (turn n s hI) (fun r s₁ h₁=>?_) fun _ _ h'=>h'.elim)));cases r with
 | none=>exact wpAny_pure h₁
 | some v=>
  refine wpAny_bind (wpAny_mono h₁ (fun _ s₁' h₁'=>?_) fun _ _ h'=>h'.elim);refine wpAny_bind (wpAny_mono h₁' (fun _ s₂ h₂=>wpAny_bind (wpAny_mono h₂ (fun ok s₃ h₃=>?_) fun _ _ h'=>h'.elim)) fun _ _ h'=>h'.elim);cases ok with
  | false=>exact wpAny_pure ⟨rfl,h₃⟩
  | true=>
   exact wpAny_bind (wpAny_bind (wpAny_mono h₃ (fun x s₄ h₄=>wpAny_bind (wpAny_mono h₄ (fun _ s₅ h₅=>wpAny_pure (wpAny_pure ⟨rfl,h₅⟩)) fun _ _ h'=>h'.elim)) fun _ _ h'=>h'.elim))

def dF (scope:Scope):List Str:=(scope.names.filter fun x=>x.2==.free).map (·.1)
def dI (scope:Scope) (env:Env):List (Str×Addr):=(dF scope).foldl (fun cs n=>(n,(env.cells.lookup n).getD 0)::cs) []
theorem gG {scope:Scope}{env:Env}(h:∀ n∈dF scope,∃ c,env.cells.lookup n=some c):closureFor scope env=pure (dI scope env):=by
 have go:∀ (names:List (Str×NameKind)) (cs:List (Str×Addr)),(∀ n,(n,NameKind.free)∈names->∃ c,env.cells.lookup n=some c) ->
   (forIn names cs fun (x:Str×NameKind) r=>(do
    let (name,kind):=x
    if kind==.free then
     let a ← cellOf env name
     pure (ForInStep.yield ((name,a)::r))
    else pure (ForInStep.yield r):Sem (ForInStep (List (Str×Addr)))))=pure (((names.filter fun x=>x.2==.free).map (·.1)).foldl (fun cs n=>(n,(env.cells.lookup n).getD 0)::cs) cs):=by
  intro names
  induction names with
  | nil=>intro cs _; rfl
  | cons x r ih=>
   intro cs hx;obtain⟨n,k⟩:=x;rw[List.forIn_cons]
   by_cases hk:k=.free
   ·subst hk;obtain⟨c,hc⟩:=hx n (by simp);have e:cellOf env n=pure c:=by unfold cellOf; rw[hc]
    simp only[beq_self_eq_true,if_true,e,pure_bind,List.filter_cons,List.map_cons,List.foldl_cons];rw[ih _ fun m hm=>hx m (List.mem_cons_of_mem _ hm),hc];rfl
   ·have hb:(k==NameKind.free)=false:=by simpa using hk
    simp only[hb,Bool.false_eq_true,if_false,pure_bind,List.filter_cons];exact ih _ fun m hm=>hx m (List.mem_cons_of_mem _ hm)
 unfold closureFor;have g:=go scope.names [] fun n hn=>h n (by unfold dF; exact List.mem_map.mpr ⟨(n,.free),List.mem_filter.mpr ⟨hn,by simp⟩,rfl⟩);refine (bind_congr (fun _=>rfl)).trans ?_;exact (congrArg (·>>=fun r=>pure r) g).trans (by simp only[pure_bind]; rfl)
end L2
namespace L2
open PySem PySem.Spec PyProof.Rows

theorem iQ {env:Env}:∀ (ns:List Str) (cs:List (Str×Addr)),(∀ n∈ns,∃ c,env.cells.lookup n=some c)->(∀ x c,cs.lookup x=some c->env.cells.lookup x=some c) ->
  ∀ x c,(ns.foldl (fun cs n=>(n,(env.cells.lookup n).getD 0)::cs) cs).lookup x=some c->env.cells.lookup x=some c
 | [],cs,_,h=>h
 | n::r,cs,hn,h=>by
  refine iQ r _ (fun m hm=>hn m (List.mem_cons_of_mem _ hm)) fun x c e=>?_;rw[List.lookup_cons] at e;cases q:(x==n) with
  | true=>
   rw[q] at e;have q':x=n:=by simpa using q
   subst q';obtain⟨c',hc⟩:=hn x List.mem_cons_self;rw[hc] at e ⊢;exact e
  | false=>rw[q] at e; exact h x c e
theorem iD {env:Env}:∀ (ns:List Str) (cs:List (Str×Addr)) (x:Str),(x∈ns∨∃ c,cs.lookup x=some c)->∃ c,(ns.foldl (fun cs n=>(n,(env.cells.lookup n).getD 0)::cs) cs).lookup x=some c
 | [],cs,x,h=>by
  rcases h with h | h
  ·simp at h
  ·exact h
 | n::r,cs,x,h=>by
  refine iD r _ x ?_;rcases h with h | ⟨c,h⟩
  ·rcases List.mem_cons.mp h with rfl | h
   ·exact .inr ⟨(env.cells.lookup x).getD 0,by rw[List.lookup_cons]; simp⟩
   ·exact .inl h
  ·refine .inr ?_;rw[List.lookup_cons];cases q:(x==n) with
   | true=>exact⟨_,rfl⟩
   | false=>exact⟨c,h⟩

structure oA (scope:Scope):Prop where
 kind:scope.kind=.function
 cell:∀ y∈scope.names,y.2≠.cell
 loc:∀ y∈scope.names,y.2=.local->scope.names.lookup y.1=some .local

theorem jG {env:Env}:∀ {names:List (Str×NameKind)}{x:Str}{k:NameKind},(∀ y∈names,y.2≠.cell) ->
  (names.map fun (n,k)=>if (k==NameKind.free&&env.scope.kind==.function&&env.kindOf n==some .cell) then (n,NameKind.cell) else (n,k)).lookup x=some k->(k=.cell∨k=.free)->(x,NameKind.free)∈names
 | [],_,_,_,h,_=>by simp at h
 | (n,k0)::r,x,k,hc,h,hk=>by
  have ih:=@jG env r x k fun y hy=>hc y (List.mem_cons_of_mem _ hy);have hq:List.lookup x ((if (k0==NameKind.free&&env.scope.kind==.function&&env.kindOf n==some .cell)=true then (n,NameKind.cell) else (n,k0))::_)=some k:=h
  have hk0:=hc (n,k0) List.mem_cons_self
  by_cases q:(k0==NameKind.free&&env.scope.kind==.function&&env.kindOf n==some .cell)=true
  ·rw[if_pos q,List.lookup_cons] at hq
   have hf:k0=.free:=by
    rw[Bool.and_eq_true,Bool.and_eq_true] at q
    simpa using q.1.1
   subst hf;cases hx:x==n with
   | true=>
    have e:x=n:=by simpa using hx
    subst e;exact List.mem_cons_self
   | false=>
    rw[hx] at hq;exact List.mem_cons_of_mem _ (ih hq hk)
  ·rw[if_neg q,List.lookup_cons] at hq;cases hx:x==n with
   | true=>
    rw[hx] at hq;have e:x=n:=by simpa using hx
    subst e;have e2:k0=k:=Option.some.inj hq;subst e2;rcases hk with z | z
    ·exact absurd z hk0
    ·rw[z]; exact List.mem_cons_self
   | false=>
    rw[hx] at hq;exact List.mem_cons_of_mem _ (ih hq hk)

def Cx.blk (X:Cx) (scope:Scope) (N':List Str) (C:Addr) (s₃:Shared) (H₃:Hp) (fp:List Addr):Cx:=
 { X with N:=N',s₀:=s₃,H₀:=H₃,env:=compEnvC scope (dI scope X.env) C X.env,outer:=X.stack,stack:=X.stack,ex:=fp,fn:=fun _=>false,pn:=[],xe:=fun _ _=>False }

def cN (nown:Nat) (js:List Nat) (σ:St):St:=List.replicate nown none++js.map fun j=>(σ[j]?).join
structure gK (X:Cx) (scope:Scope) (N':List Str) (nown:Nat) (js:List Nat):Prop where
 len:N'.length=nown+js.length
 at':∀ k j,js[k]?=some j->X.N[j]?=N'[nown+k]?
 cel:∀ n∈dF scope,X.env.kindOf n=some .cell∨X.env.kindOf n=some .free
 fre:∀ k x,nown<=k->N'[k]?=some x->x∈dF scope∧(relabel scope X.env).names.lookup x≠some .local

theorem aDo {X:Cx}{pins:List (Addr×Obj)}{σ:St}{H:Hp}{s₃:Shared}{h₁:Heap}{tk:Nat}{scope:Scope}{N':List Str}{nown:Nat}{js:List Nat}{fp:List Addr}
  (I:Inv X pins σ H s₃) (S:oA scope) (B:gK X scope N' nown js) (hfp:∀ b∈fp,kZ X pins H b) (hlt:∀ b∈fp,b<s₃.heap.objs.size)
  (hn:h₁.Ns s₃.heap.objs.size (fun _=>none)) (hk:∀ b o,s₃.heap.get? b=some o->h₁.get? b=some o) :
  Inv (X.blk scope N' s₃.heap.objs.size s₃ H fp) [] (cN nown js σ) H { s₃ with heap:=h₁,toks:=tk }:=by
 have hcl:∀ n∈dF scope,∃ c,X.env.cells.lookup n=some c:=fun n hn=>I.ok.has n (B.cel n hn);have cl1:∀ x c,(dI scope X.env).lookup x=some c->X.env.cells.lookup x=some c:=iQ (dF scope) [] hcl fun x c e=>by simp at e
 refine⟨⟨I.ok.mod,S.kind,I.ok.glob,I.ok.blt,Nat.le_refl _,fun x y c h1 h2=>I.ok.inj x y c (cl1 x c h1) (cl1 y c h2),fun x hx=>?_,fun x c h1 _=>?_,I.ok.hd,I.ok.frames,.inl rfl,fun b hb=>⟨Nat.ne_of_lt (hlt b hb),fun x c e=>(hfp b hb).2.2.2.2.1 x c (cl1 x c e)⟩,I.bs,Nat.le_trans I.ok.bsz I.sz,fun b o e hb=>?_,fun b hb z=>?_,I.stack,I.stkFree⟩,
  rfl,I.bare,Un.kept hk,⟨_,hn,fun i x v h1 h2 h3=>?_⟩,fun x c e=>?_,I.hok.fresh (Nat.le_refl _),fun x c e=>I.freeC x c (cl1 x c e),fun p hp=>?_,I.hok.kept hk,?_⟩
 ·have hx:(relabel scope X.env).names.lookup x=some .cell∨(relabel scope X.env).names.lookup x=some .free:=hx
  have m:(x,NameKind.free)∈scope.names:=by
   rcases hx with hx | hx
   ·exact jG S.cell hx (.inl rfl)
   ·exact jG S.cell hx (.inr rfl)
  exact iD (dF scope) [] x (.inl (List.mem_map.mpr ⟨(x,.free),List.mem_filter.mpr ⟨m,by simp⟩,rfl⟩))
 ·exact absurd h1 (by simp[Cx.blk])
 ·have f:=(hfp b hb).2.2.2.1;rcases f with f | f
  ·exact I.ok.noex b o e f
  ·exact absurd (Nat.lt_of_lt_of_le (Heap.lt_size (I.ok.bs b o e).1) f) (Nat.lt_irrefl _)
 ·rcases List.mem_cons.mp (I.stkSub b z) with e | e
  ·exact (hfp b hb).2.1 e
  ·exact (hfp b hb).2.2.1 e
 ·-- the names' values
  have h1:N'[i]?=some x:=h1
  have hi:nown<=i:=by
   by_cases q:nown<=i
   ·exact q
   ·exfalso;unfold cN at h2;rw[List.getElem?_append_left (by rw[List.length_replicate]; omega),List.getElem?_replicate] at h2;split at h2 <;> cases h2
  unfold cN at h2;rw[List.getElem?_append_right (by rw[List.length_replicate]; exact hi),List.length_replicate,List.getElem?_map] at h2;cases hj:js[i-nown]? with
  | none=>rw[hj] at h2; cases h2
  | some j=>
   rw[hj] at h2;have h2:some ((σ[j]?).join)=some (some v):=h2
   have e1:σ[j]?=some (some v):=by
    cases q:σ[j]? with
    | none=>rw[q] at h2; cases h2
    | some z=>rw[q] at h2; cases z with
     | none=>cases h2
     | some z=>cases h2; rfl
   have e2:X.N[j]?=some x:=by rw[B.at' _ j hj,show nown+(i-nown)=i by omega]; exact h1
   obtain⟨hfr,hnl⟩:=B.fre i x hi h1;have kx:=B.cel x hfr;obtain⟨m,hm,hl⟩:=I.loc
   obtain⟨u,r,l⟩:=hl j x v e2 e1 (by
    rcases kx with k | k
    ·exact .inr (.inl k)
    ·exact .inr (.inr k))
   refine⟨u,r,.inr ⟨?_,?_⟩⟩
   ·have hv:(relabel scope X.env).names.lookup x=some .local∨(relabel scope X.env).names.lookup x=some .cell∨(relabel scope X.env).names.lookup x=some .free:=h3;exact hv.resolve_left hnl
   ·rcases l with⟨k,_⟩ | ⟨k,c,e,z⟩
    ·rcases kx with k' | k' <;> rw[k] at k' <;> cases k'
    ·obtain⟨c',hc'⟩:=iD (env:=X.env) (dF scope) [] x (.inl hfr);have e3:=cl1 x c' hc';rw[e] at e3;cases e3;obtain⟨o,ho,hd⟩:=z;exact⟨c,hc',o,hk c o ho,hd⟩
 ·obtain⟨v,o,ho,hd⟩:=I.cell x c (cl1 x c e);exact⟨v,o,hk c o ho,hd⟩
 ·exact absurd (show p∈([]:List (Addr×Obj)) from hp) (by simp)
 ·unfold cN;show _=N'.length;rw[List.length_append,List.length_replicate,List.length_map,B.len]

theorem Inv.back {X:Cx}{pins:List (Addr×Obj)}{σ σ':St}{H H':Hp}{s₃ s':Shared}{scope:Scope}{N':List Str}{C:Addr}{fp:List Addr}{pl:List (Addr×Obj)}
  (I:Inv X pins σ H s₃) (hfp:∀ b∈fp,kZ X pins H b) (J:Inv (X.blk scope N' C s₃ H fp) pl σ' H' s'):Inv X pins σ H' s':=
 I.call' J.os J.base J.hok J.bare fun b hb=>⟨(hfp b hb).2.2.2.1,(hfp b hb).2.1,(hfp b hb).2.2.2.2.1,(hfp b hb).2.2.2.2.2⟩

def PTs (X:Cx) (ifs:List Expr) (t:TT):Prop:=
 ∀ (pins:List (Addr×Obj)) (s:Shared) (σ:St) (H:Hp) (Q:Bool->Hp->Prop),Inv X pins σ H s->t σ H Q ->
  wpAny (model X.prog X.w) X.A (forIn ifs true fun c r=>if r=true then do let ok ← isTrue c X.env (eval c X.env); pure (ForInStep.yield ok) else pure (ForInStep.yield r)) (TP X pins σ Q) X.xe s
def aOc:TT:=fun _ H Q=>Q true H
theorem dJ {X:Cx}:PTs X [] aOc:=fun _ _ _ H _ I h=>wpAny_tests_nil ⟨H,I,h⟩
theorem lK {X:Cx}{c:Expr}{t:TT}(h:PT X c t):PTs X [c] t:=fun pins s σ H Q I q=>wpAny_tests_one (h pins s σ H Q I q)

def yE (J:It) (D:Addr) (g:TG) (tc:TT) (te:TE) (R:Hp->Prop) (σ:St) (H:Hp):Prop:=
 ∃ W:Nat->Nat->St->Hp->Prop,(∃ m,W 0 m σ H)∧∀ i m σ H,W i m σ H ->
  (J.stop i H∧R H)∨(J.go i H∧∃ N:St->Hp->Prop,(∀ σ' H',N σ' H'->∃ m',m'<m∧W (i+1) m' σ' H')∧∀ x H',J.yld i H x H'->g x σ H' fun σ2 H2=>tc σ2 H2 fun b H3=>
   if b=true then te σ2 H3 fun y H4=>∃ ys,H4 D=some (.lst ys)∧ys.length<sizeLine∧N σ2 (upd H4 D (.lst (ys++[y]))) else N σ2 H3)
def aJp (wi:TI) (nown:Nat) (js:List Nat) (g:TG) (tc:TT) (te:TE):TE:=fun σ H Q=>
 wi σ H fun J H1=>∀ D,H1 D=none->yE J D g tc te (fun H2=>Q (.ref D) H2) (cN nown js σ) (upd H1 D (.lst []))

structure Blk (X:Cx) (scope:Scope) (N':List Str) (tg elt:Expr) (ifs:List Expr) (g:TG) (tc:TT) (te:TE):Prop where
 tg:∀ C s₃ H₃ fp,PG (X.blk scope N' C s₃ H₃ fp) tg g
 tc:∀ C s₃ H₃ fp,PTs (X.blk scope N' C s₃ H₃ fp) ifs tc
 te:∀ C s₃ H₃ fp,PE (X.blk scope N' C s₃ H₃ fp) elt te

theorem rS {X:Cx}{tg elt iter:Expr}{ifs:List Expr}{scope:Scope}{pos:Pos}{N':List Str}{nown:Nat}{js:List Nat}{g:TG}{tc:TT}{te:TE}{E:Value->Shared->Prop}
  (hc:X.calm=true) (S:oA scope) (B:gK X scope N' nown js) (K:Blk X scope N' tg elt ifs g tc te)
  {pins:List (Addr×Obj)}{σ:St}{H2:Hp}{s₂:Shared}{it:Addr}{fp:List Addr}{tn:Nat->Heap->Prop}{J:It}{Q:VK}{RR:Value->Addr->Result->Shared->Prop}
  (I2:Inv X pins σ H2 s₂) (T:zX X.prog X.w X.K tg J fp it tn) (st2:tn 0 s₂.heap) (f2:∀ b∈fp,kZ X pins H2 b)
  (h:∀ D,H2 D=none->yE J D g tc te (fun H'=>Q (.ref D) H') (cN nown js σ) (upd H2 D (.lst [])))
  (hRR:∀ (D C:Addr) (H':Hp) (s':Shared),Inv X pins σ H' s'->(∃ m,s'.heap.Ns C m)->(∀ h',Heap.SameBut C s'.heap h'->Inv X pins σ H' { s' with heap:=h' })->kZ X pins H' C->Q (.ref D) H'->RR (.ref D) C (.ok .next) s') :
  wpAny (model X.prog X.w) X.A (newList []) (fun acc s₃=>wpAny (model X.prog X.w) X.A (newFunctionEnv scope X.env.globals (dI scope X.env) [] X.env.qual none .none (some X.env)) (fun cenv s₄=>
   codeAny (model X.prog X.w) X.A (.compStart (.ListComp elt [⟨tg,iter,ifs,0⟩] scope pos) 0 (.ref it) acc { cenv with scope:=relabel scope X.env }) (RR acc cenv.locals) s₄) E s₃) E s₂:=by
 have hD:H2 s₂.heap.objs.size=none:=I2.hok.fresh (Nat.le_refl _);have k3:∀ b o,s₂.heap.get? b=some o->(s₂.heap.push { cls:=.type "list",dict:=none,data:=.seq ([]:List Value).toArray }).get? b=some o:=fun b o e=>Heap.get?_push_of_some _ e
 have I3:Inv X pins σ (upd H2 s₂.heap.objs.size (.lst [])) { s₂ with heap:=s₂.heap.push { cls:=.type "list",dict:=none,data:=.seq ([]:List Value).toArray } }:=
  I2.laid (t':=s₂.toks) k3 (Nat.le_refl _) ⟨Nat.zero_le _,[],0,.nil,Heap.get?_push_size _ rfl⟩
 have lt2:∀ b∈fp,b<s₂.heap.objs.size:=fun b hb=>let ⟨o,e,_⟩:=T.obj 0 _ st2 b hb; Heap.lt_size e;have f3:∀ b∈fp,kZ X pins (upd H2 s₂.heap.objs.size (.lst [])) b:=fun b hb=>⟨by rw[aI (Nat.ne_of_lt (lt2 b hb))]; exact (f2 b hb).1,(f2 b hb).2⟩;have st3:=T.keep 0 _ _ st2 fun b _ o e=>k3 b o e;obtain⟨W,⟨m0,w0⟩,turn⟩:=h _ hD;refine wpAny_newObj_type (wpAny_newFunctionEnv S.cell (by intro y hy; simp at hy) (fun h₁ hns₁ hsb₁=>?_) S.kind);dsimp only at hns₁ hsb₁ ⊢;generalize hs3:({ s₂ with heap:=s₂.heap.push { cls:=.type "list",dict:=none,data:=.seq ([]:List Value).toArray } }:Shared)=s₃ at I3;have h3:s₂.heap.push { cls:=.type "list",dict:=none,data:=.seq ([]:List Value).toArray }=s₃.heap:=by rw[← hs3]
 rw[h3] at hns₁ hsb₁ st3 ⊢;have k4:∀ b o,s₃.heap.get? b=some o->h₁.get? b=some o:=fun b o e=>hsb₁.extBut b o (Nat.ne_of_lt (Heap.lt_size e)) (Heap.get?_push_of_some _ e)
 have hns:h₁.Ns s₃.heap.objs.size (fun _=>none):=by
  obtain⟨o,es,ep,e,d,k,r⟩:=hns₁;exact⟨o,es,ep,e,d,k,fun n=>by rw[r n]; rfl⟩
 have lt3:∀ b∈fp,b<s₃.heap.objs.size:=fun b hb=>let ⟨o,e,_⟩:=T.obj 0 _ st3 b hb; Heap.lt_size e;have J0:∀ tk,Inv (X.blk scope N' s₃.heap.objs.size s₃ (upd H2 s₂.heap.objs.size (.lst [])) fp) [] (cN nown js σ) (upd H2 s₂.heap.objs.size (.lst [])) { s₃ with heap:=h₁,toks:=tk }:=fun tk=>aDo I3 S B f3 lt3 hns k4
 have loop:∀ s4:Shared,s4={ s₃ with heap:=h₁,toks:=s₂.toks+([]:List (Str×Value)).length } ->
   codeAny (model X.prog X.w) X.A (.compLoop (.ListComp elt [⟨tg,iter,ifs,0⟩] scope pos) 0 (.ref it) (.ref s₂.heap.objs.size) (compEnvC scope (dI scope X.env) s₃.heap.objs.size X.env)) (RR (.ref s₂.heap.objs.size) s₃.heap.objs.size) s4:=by
  rintro s4 rfl
  have Y:∀ b∈fp,kZ (X.blk scope N' s₃.heap.objs.size s₃ (upd H2 s₂.heap.objs.size (.lst [])) fp) [] (upd H2 s₂.heap.objs.size (.lst [])) b:=fun b hb=>by
   have F:=f3 b hb;refine⟨F.1,Nat.ne_of_lt (lt3 b hb),fun z=>?_,.inl hb,(J0 0).ok.exf b hb |>.2,fun p hp=>absurd (show p∈([]:List (Addr×Obj)) from hp) (by simp)⟩
   exact (J0 0).ok.exfs b hb z
  have stat:∀ {H':Hp},(∀ b∈fp,H' b=none)->∀ b∈fp,kZ (X.blk scope N' s₃.heap.objs.size s₃ (upd H2 s₂.heap.objs.size (.lst [])) fp) [] H' b:=fun hn b hb=>⟨hn b hb,(Y b hb).2⟩
  refine aDi (fun n s'=>∃ i σ' H',Inv (X.blk scope N' s₃.heap.objs.size s₃ (upd H2 s₂.heap.objs.size (.lst [])) fp) [] σ' H' s'∧tn i s'.heap∧(∀ b∈fp,H' b=none)∧W i n σ' H') ?_ m0
   ⟨0,_,_,J0 _,T.keep 0 _ _ st3 fun b _ o e=>k4 b o e,fun b hb=>(f3 b hb).1,w0⟩
  rintro n s5 ⟨i,σ5,H5,I5,st5,fr5,w5⟩;rcases turn i n σ5 H5 w5 with⟨stop,qn⟩ | ⟨go,N,hN,step⟩
  ·refine thn (T.done (X.blk scope N' s₃.heap.objs.size s₃ (upd H2 s₂.heap.objs.size (.lst [])) fp) rfl rfl rfl hc i [] s5 σ5 H5 _ I5 (stat fr5) st5 stop) fun r s6 ⟨hr,I6⟩=>?_;subst hr;have I6':Inv X pins σ H5 s6:=I3.back f3 I6;have hC:kZ X pins H5 s₃.heap.objs.size:=I3.fpOk (Nat.le_refl _) I6.free;refine hRR _ _ H5 s6 I6' (let ⟨m,hm,_⟩:=I6.loc; ⟨m,hm⟩) (fun h' sb=>?_) hC qn;exact I6'.turned (t':=s6.toks) (fun b o hb e=>(sb.2 b hb).trans e) hC.1 hC.2.1 hC.2.2.2.1 hC.2.2.2.2.1 hC.2.2.2.2.2
  ·refine thn (T.item (X.blk scope N' s₃.heap.objs.size s₃ (upd H2 s₂.heap.objs.size (.lst [])) fp) rfl rfl rfl hc i [] s5 σ5 H5 _ I5 (stat fr5) st5 go) fun r s6 ⟨u,hr,h6⟩=>?_;subst hr;refine thn h6 fun _ s7 ⟨x,H7,I7,r7,y7,st7,fr7⟩=>?_;have I7':=I7.pinned (stat fr7) (T.obj _ _ st7)
   have again:∀ {σ9:St}{H9:Hp}{s9:Shared},Inv (X.blk scope N' s₃.heap.objs.size s₃ (upd H2 s₂.heap.objs.size (.lst [])) fp) ([]++qW fp s7.heap) σ9 H9 s9->N σ9 H9 ->
     ∃ m,m<n∧∃ i σ' H',Inv (X.blk scope N' s₃.heap.objs.size s₃ (upd H2 s₂.heap.objs.size (.lst [])) fp) [] σ' H' s9∧tn i s9.heap∧(∀ b∈fp,H' b=none)∧W i m σ' H':=fun {σ9 H9 s9} I9 n9=>by
    obtain⟨m',hm,w9⟩:=hN σ9 H9 n9;refine⟨m',hm,i+1,σ9,H9,I9.unpinned,T.keep _ _ _ st7 fun b hb o e=>(I9.pin (b,o) (List.mem_append_right _ (List.mem_append_right _ (jM hb e)))).1,fun b hb=>?_,w9⟩;obtain⟨o,e,d⟩:=T.obj _ _ st7 b hb;exact (I9.pin (b,o) (List.mem_append_right _ (List.mem_append_right _ (jM hb e)))).2.1
   refine thn (K.tg _ _ _ _ _ s7 σ5 H7 x u _ I7' r7 (step x H7 y7)) fun _ s8 ⟨σ8,H8,I8,q8⟩=>?_;refine thn (K.tc _ _ _ _ _ s8 σ8 H8 _ I8 q8) fun ok s9 ⟨H9,I9,q9⟩=>?_;cases ok with
   | false=>exact again I9 q9
   | true=>
    rw[if_pos rfl] at q9 ⊢;refine thn (K.te _ _ _ _ _ s9 σ8 H9 _ I9 q9) fun y s10 ⟨yv,H10,I10,r10,ys,e10,l10,q10⟩=>?_;refine thn (eE _ s10 σ8 H10 (.ref s₂.heap.objs.size) [yv] (.ref s₂.heap.objs.size) [y] (fun v H'=>N σ8 H') I10 rfl (.cons r10 .nil) ⟨_,ys,yv,rfl,rfl,e10,l10,q10⟩) fun _ s11 ⟨_,H11,I11,_,q11⟩=>again I11 q11
 have fin:=loop _ rfl;have e4:({ s₂ with heap:=h₁,toks:=s₂.toks+([]:List (Str×Value)).length }:Shared)={ s₃ with heap:=h₁,toks:=s₂.toks+([]:List (Str×Value)).length }:=by rw[← hs3]
 rw[← e4] at fin;refine codeAny_compStart_list fin (T.self _ 0 _ _ _ ?_ fin);exact T.keep 0 _ _ st3 fun b _ o e=>k4 b o e

section
variable {X:Cx}{tg elt iter:Expr}{ifs:List Expr}{scope:Scope}{pos:Pos}{N':List Str}{nown:Nat}{js:List Nat}{wi:TI}{g:TG}{tc:TT}{te:TE}
theorem dN (hc:X.calm=true) (S:oA scope) (B:gK X scope N' nown js) (K:Blk X scope N' tg elt ifs g tc te) (hi:PI X tg iter wi)
  (hs:∀ x,foldedSetIterable iter X.env x=pure x:=by intro _; rfl):PE X (.ListComp elt [⟨tg,iter,ifs,0⟩] scope pos) (aJp wi nown js g tc te):=by
 intro pins s σ H Q I h;have hcl:closureFor scope X.env=pure (dI scope X.env):=gG fun n hn=>I.ok.has n (B.cel n hn);rw[eval_ListComp];refine wpAny_comprehension_free (use:=none) rfl hs hcl S.kind S.loc (thn (hi pins s σ H _ I h) fun xv s₁ h₁=>thn h₁ fun itv s₂ h₂=>?_);obtain⟨it,fp,tn,J,H2,e,I2,T,st2,f2,q⟩:=h₂;subst e;refine rS (RR:=fun acc C=>compPost (model X.prog X.w) X.A X.xe none (EP X pins σ Q) acc C) hc S B K I2 T st2 f2 q fun D C H' s' I' hm k hC qq=>?_;obtain⟨m,hm⟩:=hm;exact⟨m,hm,fun h' sb=>⟨.ref D,H',k h' sb,rfl,qq⟩⟩
theorem gD {i:Nat}{x:Str}{px spos:Pos}(hsw:swapsWith (.ListComp elt [⟨tg,iter,ifs,0⟩] scope pos) (some (.Name x px)) spos.line X.env=pure true) (hN:X.N.Nodup) (hi':X.N[i]?=some x) (hx:X.env.scope.names.lookup x=some .local)
  (hc:X.calm=true) (S:oA scope) (B:gK X scope N' nown js) (K:Blk X scope N' tg elt ifs g tc te) (hi:PI X tg iter wi)
  (hs:∀ x,foldedSetIterable iter X.env x=pure x:=by intro _; rfl):PS X (.Assign [.Name x px] (.ListComp elt [⟨tg,iter,ifs,0⟩] scope pos) spos) (aEc (aJp wi nown js g tc te) (dU i)):=by
 intro pins s σ H D I h;have hcl:closureFor scope X.env=pure (dI scope X.env):=gG fun n hn=>I.ok.has n (B.cel n hn);rw[exec_Assign_Name_used _ _ _ _ hsw];refine wpAny_bind (wpAny_standAt (wpAny_bind ?_));show wpAny _ _ (do let _ ← comprehension (.ListComp elt [⟨tg,iter,ifs,0⟩] scope pos) scope X.env _ (newList []) false (eval iter X.env) (some (assign (.Name x px) X.env))) _ _ s
 refine wpAny_bind (wpAny_mono (wpAny_comprehension_free (use:=some (assign (.Name x px) X.env)) (Q:=fun _ s'=>SP X pins D .next s') rfl hs hcl S.kind S.loc (thn (hi pins s σ H _ I h) fun xv s₁ h₁=>thn h₁ fun itv s₂ h₂=>?_))
  (fun _ s' hq=>wpAny_pure (wpAny_pure hq)) fun _ _ e=>e)
 obtain⟨it,fp,tn,J,H2,e,I2,T,st2,f2,q⟩:=h₂;subst e;refine rS (RR:=fun acc C=>compPost (model X.prog X.w) X.A X.xe (some (assign (.Name x px) X.env)) (fun _ s'=>SP X pins D .next s') acc C) (Q:=fun v H'=>D.nx (σ.set i (some v)) H') hc S B K I2 T st2 f2 q fun Da C H' s' I' hm k hC qq=>?_;show wpAny _ _ (assign (.Name x px) X.env (.ref Da)) _ _ _;refine wpAny_assign_Name (sW I' hN hi' (.inl hx) (v:=.ref Da) rfl (fun s'' I'' ⟨a,sb,ha⟩=>?_) (.inr hx))
 have hCa:C≠a:=by
  rcases ha with rfl | ha
  ·exact hC.2.1
  ·exact fun z=>hC.2.2.2.2.1 x a ha z.symm
 obtain⟨m,hm⟩:=hm;refine⟨m,hm.sameBut sb hCa,fun h' sb'=>⟨_,H',?_,qq⟩⟩;exact I''.turned (t':=s''.toks) (fun b o hb e=>(sb'.2 b hb).trans e) hC.1 hC.2.1 hC.2.2.2.1 hC.2.2.2.2.1 hC.2.2.2.2.2
end

theorem eZ {K:PySem.W.Frag}{a D:Addr}{xs:List V}{g:TG}{tc:TT}{te:TE}{R:Hp->Prop}{σ:St}{H:Hp}(Pv:Nat->St->Hp->Prop) (h0:Pv 0 σ H)
  (hl:∀ i σ H,i<=xs.length->Pv i σ H->SqL K H a xs)
  (hs:∀ i x σ H,xs[i]?=some x->Pv i σ H->g x σ H fun σ2 H2=>tc σ2 H2 fun b H3=>if b=true then te σ2 H3 fun y H4=>∃ ys,H4 D=some (.lst ys)∧ys.length<sizeLine∧Pv (i+1) σ2 (upd H4 D (.lst (ys++[y]))) else Pv (i+1) σ2 H3)
  (hd:∀ σ H,Pv xs.length σ H->R H):yE (Itl K a) D g tc te R σ H:=by
 refine⟨fun i m σ H=>m=xs.length-i∧i<=xs.length∧Pv i σ H,⟨xs.length,by simp,Nat.zero_le _,h0⟩,?_⟩;rintro i m σ H ⟨rfl,hi,p⟩;have q:=hl i σ H hi p
 by_cases hlt:i<xs.length
 ·refine .inr ⟨⟨xs,xs[i],q,by simp[hlt]⟩,Pv (i+1),fun σ' H' p'=>⟨xs.length-(i+1),by omega,rfl,hlt,p'⟩,fun x H' y=>?_⟩;obtain⟨e,y⟩:=y;subst e;exact hs i x σ _ (y xs q) p
 ·have e:i=xs.length:=by omega
  subst e;exact .inl ⟨⟨xs,q,Nat.le_refl _⟩,hd σ H p⟩
theorem jC {lo:Int}{n:Nat}{D:Addr}{g:TG}{tc:TT}{te:TE}{R:Hp->Prop}{σ:St}{H:Hp}(Pv:Nat->St->Hp->Prop) (h0:Pv 0 σ H)
  (hs:∀ i σ H,i<n->Pv i σ H->g (.int (lo+i)) σ H fun σ2 H2=>tc σ2 H2 fun b H3=>if b=true then te σ2 H3 fun y H4=>∃ ys,H4 D=some (.lst ys)∧ys.length<sizeLine∧Pv (i+1) σ2 (upd H4 D (.lst (ys++[y]))) else Pv (i+1) σ2 H3)
  (hd:∀ σ H,Pv n σ H->R H):yE (Itr lo n) D g tc te R σ H:=by
 refine⟨fun i m σ H=>m=n-i∧i<=n∧Pv i σ H,⟨n,by simp,Nat.zero_le _,h0⟩,?_⟩;rintro i m σ H ⟨rfl,hi,p⟩
 by_cases hlt:i<n
 ·refine .inr ⟨hlt,Pv (i+1),fun σ' H' p'=>⟨n-(i+1),by omega,rfl,hlt,p'⟩,fun x H' y=>?_⟩;obtain⟨e,y⟩:=y;subst e y;exact hs i σ _ hlt p
 ·have e:i=n:=by omega
  subst e;exact .inl ⟨Nat.le_refl _,hd σ H p⟩
theorem aJf {x:Str}{D:Addr}{g:TG}{tc:TT}{te:TE}{R:Hp->Prop}{σ:St}{H:Hp}(Pv:Nat->St->Hp->Prop) (h0:Pv 0 σ H)
  (hs:∀ i c σ H,x.cps[i]?=some c->Pv i σ H->g (aAp c) σ H fun σ2 H2=>tc σ2 H2 fun b H3=>if b=true then te σ2 H3 fun y H4=>∃ ys,H4 D=some (.lst ys)∧ys.length<sizeLine∧Pv (i+1) σ2 (upd H4 D (.lst (ys++[y]))) else Pv (i+1) σ2 H3)
  (hd:∀ σ H,Pv x.cps.size σ H->R H):yE (Its x) D g tc te R σ H:=by
 refine⟨fun i m σ H=>m=x.cps.size-i∧i<=x.cps.size∧Pv i σ H,⟨x.cps.size,by simp,Nat.zero_le _,h0⟩,?_⟩;rintro i m σ H ⟨rfl,hi,p⟩
 by_cases hlt:i<x.cps.size
 ·refine .inr ⟨hlt,Pv (i+1),fun σ' H' p'=>⟨x.cps.size-(i+1),by omega,rfl,hlt,p'⟩,fun v H' y=>?_⟩;obtain⟨e,c,hc,rfl⟩:=y;subst e;exact hs i c σ _ hc p
 ·have e:i=x.cps.size:=by omega
  subst e;exact .inl ⟨Nat.le_refl _,hd σ H p⟩
end L2
namespace L2
open PySem PySem.Spec PyProof.Rows

section
variable {X:Cx}{e:Expr}{te:TE}{lo hi:Option Expr}{tl th:TO}{pos p2:Pos}
end

section
variable {X:Cx}
theorem aAb:∀ {bs:List Bool}{us:List Value},cB (bs.map V.bl) us->∀ (i:Nat) (v:Value),us[i]?=some v->∃ b,bs[i]?=some b∧v=.bool b
 | [],_,.nil,_,_,e=>by simp at e
 | b::bs,_,.cons r rr,0,v,e=>by
  cases r;simp at e;exact⟨b,rfl,e.symm⟩
 | b::bs,_,.cons r rr,i+1,v,e=>by
  obtain⟨c,h1,h2⟩:=aAb (bs:=bs) rr i v (by simpa using e);exact⟨c,by simpa using h1,h2⟩
inductive aQo (K:PySem.W.Frag) (xs:List V) (H:Hp) (Q:VK):Prop
 | mk (a:Addr) (bs:List Bool) (h0_:xs=[.ref a]) (h1_:SqL K H a (bs.map V.bl)) (h2_:Q (.bl (bs.all id)) H)
theorem pJ (hc:X.calm=true):CallR X (.builtin "all") (aQo X.K):=by
 intro pins s σ H xs us Q I r h;obtain⟨a,bs,rfl,hs,q⟩:=h;obtain⟨u,rfl,rx⟩:=iU r;cases rx;obtain⟨its,rv,pl,hz⟩:=I.list hs;have hl:=pl.isList;have hlt:a<s.heap.objs.size:=by obtain⟨_,e,_⟩:=hl; exact Heap.lt_size e
 have hlen:its.length=bs.length:=by rw[← rv.length,List.length_map]
 refine call_all_walk (wpAny_pyIter_list hl ⟨s.heap.objs.size,[s.heap.objs.size,a],[s.heap.objs.size],its.toArray.size,_,_,fun i=>(bs[i]?).getD true,rfl,
  Walks.list (A:=X.A.in1) (I.ok.hd hc) _ a (Nat.ne_of_lt hlt) its.toArray,⟨⟨_,Heap.get?_push_size _ rfl,rfl,rfl⟩,hl.push _⟩,fun i v s' Q' E' hP hQ=>?_,fun h' tk hk=>?_⟩)
 ·obtain⟨b,eb,rfl⟩:=aAb rv i v (by simpa using hP);simp only[eb,Option.getD_some] at hQ;exact wpAny_truthy_bool hQ
 ·have ea:((List.range its.toArray.size).all fun i=>(bs[i]?).getD true)=bs.all id:=by
   rw[List.size_toArray,hlen];exact LSm.range_all bs
  rw[ea];exact⟨.bl (bs.all id),H,I.kept (LSm.kept_iter hk),rfl,q⟩
inductive aNr (K:PySem.W.Frag) (xs:List V) (H:Hp) (Q:VK):Prop
 | mk (x:_) (c:_) (cv:_) (t:_) (b:_) (h0_:xs=[x,c]) (h1_:(∀ u,cH c u->u=cv)) (h2_:lR K H x t) (h3_:PySem.W.kitOne K t cv=some b) (h4_:Q (.bl b) H)
theorem xU:CallR X (.builtin "isinstance") (aNr X.K):=by
 intro pins s σ H xs us Q I r h;obtain⟨x,c,cv,t,b,rfl,hc,ty,e,q⟩:=h;obtain⟨u,w',rfl,rx,rc⟩:=vN r;have ec:=hc w' rc;subst ec;exact aDb I rx ty e fun tk=>⟨.bl b,H,I.tok tk,rfl,q⟩
theorem uQ {T:String}:∀ u,cH (.ty T) u->u=.type T:=fun _ r=>r
theorem aHu {a:Addr}:∀ u,cH (.ref a) u->u=.ref a:=fun _ r=>r
end

def aOn (P:St->Hp->Prop) (t u:TS):TS:=fun D σ H=>t { D with nx:=P } σ H∧∀ σ' H',P σ' H'->u D σ' H'
theorem dY {X:Cx}{st:Stmt}{rest:List Stmt}{t u:TS}(P:St->Hp->Prop) (h1:PS X st t) (h2:PSs X rest u):PSs X (st::rest) (aOn P t u):=by
 intro pins s σ H D I h;obtain⟨ht,hu⟩:=h;refine wpAny_execs_cons (thn (h1 pins s σ H { D with nx:=P } I ht) fun f s1 q=>?_);cases f with
 | next=>
  obtain⟨σ',H',I',q⟩:=q;exact h2 pins s1 σ' H' D I' (hu σ' H' q)
 | ret v=>exact q
 | brk=>exact q
 | cont=>exact q
end L2
namespace L2
open PySem PySem.Spec PyProof.Rows
namespace Bo
theorem isinstance:bootBuiltins "isinstance" = some (.builtin "isinstance"):=by decide +kernel
theorem str:bootBuiltins "str" = some (.type "str"):=by decide +kernel
theorem bool:bootBuiltins "bool" = some (.type "bool"):=by decide +kernel
theorem int:bootBuiltins "int" = some (.type "int"):=by decide +kernel
theorem list:bootBuiltins "list" = some (.type "list"):=by decide +kernel
theorem tuple:bootBuiltins "tuple" = some (.type "tuple"):=by decide +kernel
theorem set:bootBuiltins "set" = some (.type "set"):=by decide +kernel
theorem all:bootBuiltins "all" = some (.builtin "all"):=by decide +kernel
theorem len:bootBuiltins "len" = some (.builtin "len"):=by decide +kernel
theorem sum:bootBuiltins "sum" = some (.builtin "sum"):=by decide +kernel
theorem sorted:bootBuiltins "sorted" = some (.builtin "sorted"):=by decide +kernel
theorem enumerate:bootBuiltins "enumerate" = some (.type "enumerate"):=by decide +kernel
end Bo
def wI (scope sc:Scope):List (Str×NameKind):=scope.names.map fun (n,k)=>if (k==.free&&sc.kind==.function&&sc.names.lookup n==some .cell) then (n,.cell) else (n,k)
def aJz (sc scope:Scope) (N N':List Str) (nown:Nat) (js:List Nat):Bool:=
 decide (N'.length=nown+js.length)&&(List.range js.length).all (fun k=>decide (N[js.getD k 0]?=N'[nown+k]?))
  && (dF scope).all (fun n=>decide (sc.names.lookup n=some .cell)||decide (sc.names.lookup n=some .free))
  && (List.range js.length).all (fun k=>match N'[nown+k]? with | some x=>decide (x∈dF scope)&&decide ((wI scope sc).lookup x≠some .local) | none=>false)
theorem cG {X:Cx}{scope:Scope}{N':List Str}{nown:Nat}{js:List Nat}(sc:Scope) (N:List Str) (hsc:X.env.scope=sc) (hN:X.N=N) (h:aJz sc scope N N' nown js=true):gK X scope N' nown js:=by
 subst hsc hN;unfold aJz at h;rw[Bool.and_eq_true,Bool.and_eq_true,Bool.and_eq_true] at h;obtain⟨⟨⟨h1,h2⟩,h3⟩,h4⟩:=h;have h1:=of_decide_eq_true h1;refine⟨h1,fun k j e=>?_,fun n hn=>?_,fun k x hk e=>?_⟩
 ·have hk:k<js.length:=(List.getElem?_eq_some_iff.mp e).1;have q:=of_decide_eq_true (List.all_eq_true.mp h2 k (List.mem_range.mpr hk));have ej:js.getD k 0=j:=by rw[List.getD_eq_getElem?_getD,e]; rfl
  rw[ej] at q;exact q
 ·have q:=List.all_eq_true.mp h3 n hn;rw[Bool.or_eq_true] at q;exact q.imp (fun z=>of_decide_eq_true z) fun z=>of_decide_eq_true z
 ·have hl:k<N'.length:=(List.getElem?_eq_some_iff.mp e).1;have q:=List.all_eq_true.mp h4 (k-nown) (List.mem_range.mpr (by omega));have ek:nown+(k-nown)=k:=by omega
  rw[ek,e] at q;have q':(decide (x∈dF scope)&&decide ((wI scope X.env.scope).lookup x≠some .local))=true:=q;rw[Bool.and_eq_true] at q';exact⟨of_decide_eq_true q'.1,of_decide_eq_true q'.2⟩

def rJ:Expr->Bool
 | .Starred ..=>true
 | _=>false
theorem cL {e:Expr}{es:List Expr}{env:Env}(h:rJ e=false):starEach (e::es) env=(false,eval e env)::starEach es env:=by
 cases e <;> first | rfl | cases h
theorem pac {X:Cx}{e:Expr}{es:List Expr}{te:TE}{t:TA}(ha:PE X e te) (hr:PA X es t) (hs:rJ e=false:=by rfl):PA X (e::es) (aAf te t):=iN ha hr (cL hs)

end L2
namespace L2
open PySem
section
variable {X:Cx}{D:rY}{s1 s2 s3 s4 s5:Stmt}{rest:List Stmt}{t1 t2 t3 t4 t5:TS}{J:St->Hp->Prop}
end
end L2
namespace L2
open PySem PySem.Spec PyProof.Rows

inductive CXE (P:Program) (w:World) (outer:List Env) (H:Hp) (s:Shared) (E:XK) (ev:Value) (s':Shared):Prop
 | mk (e t:Addr) (cls:Value) (vs:List Value) (H':Hp) (B:Heap) (h1:ev=.ref e) (h2:s'.os=s.os) (h3:AllBare s'.gens) (h4:Un (frs outer) [] H H' s.heap s'.heap) (h5:HOk P w H' s'.heap)
  (h6:Heap.FlyingW B outer e cls (.ref t) s'.heap) (h7:s'.heap.TupAt t vs) (h8:B.get? t=none)
  (h9:∀ b o,s.heap.get? b=some o->H b=none->b∉frs outer->B.get? b=some o) (h10:∀ b u,H' b=some u->∃ o,B.get? b=some o)
  (h11:∀ b o,s.heap.get? b=some o->b∉frs outer->∃ o',B.get? b=some o') (h12:E cls none H')
theorem HOk.inB {P:Program}{w:World}{H:Hp}{h h' B:Heap}(x:HOk P w H h) (k:B.StaysIn h) (k':B.StaysIn h') (t:∀ b u,H b=some u->∃ o,B.get? b=some o):HOk P w H h':=fun a o e=>by
 refine (x a o e).stay (fun b u hb q=>?_) (fun _ q=>q) fun _ _ q=>q
 have hs:∃ v,H b=some v:=by
  rcases hb with rfl | hb
  ·exact⟨o,e⟩
  ·exact⟨_,hb⟩
 obtain⟨v,hv⟩:=hs;obtain⟨o',ho⟩:=t b v hv
 have:=k b o' ho
 rw[q] at this;cases this;exact k' b u ho
structure Cx.Body (X:Cx) (E:XK):Prop where
 xe:X.xe=fun ev s'=>wpAny (model X.prog X.w) X.A (leaving X.env ev) (fun _ s''=>CXE X.prog X.w X.outer X.H₀ X.s₀ E ev s'') (fun ev' s''=>CXE X.prog X.w X.outer X.H₀ X.s₀ E ev' s'') s'
 stk:X.stack=X.env::X.outer
 frm:X.env.frame=some X.env.locals
 ex:X.ex=[]
theorem aBf {P:Program}{w:World}{K:PySem.W.Frag}{mg:Str->Option Value}{base:Heap}{N:List Str}{qual:Str}{scope:Scope}{f:Addr}{cd:Value}{A:Around}{outer:List Env}{s:Shared}{H:Hp}{E:XK} :
  (iH (CXE P w) P w K mg base N qual scope f cd A outer s H E).Body E:=⟨rfl,rfl,rfl,rfl⟩
section
variable {X:Cx}{E:XK}
theorem Cx.Body.stkFrs (D:X.Body E):frs X.stack=X.env.locals::X.fs:=by
 rw[D.stk];show List.filterMap _ (X.env::X.outer)=_;rw[List.filterMap_cons,D.frm];rfl
theorem Cx.Body.passes (D:X.Body E){E':XK}(hE:∀ c d H',E' c d H'->E c d H'):gN (CXE X.prog X.w) X E':=by
 intro pins σ H s ev s' I h;obtain⟨e,t,cls,vs,H',B,rfl,h2,h3,h4,h5,h6,h7,h8,h9,h10,h12,h11⟩:=h;have J:Inv X pins σ H' s':=I.call' (ch:=[]) h2 h4 h5 h3 fun _ z=>nomatch z;rw[D.xe];show wpAny (model X.prog X.w) X.A (leaving X.env (.ref e)) _ _ s';have hfr:X.A.frames=some (X.env::X.outer):=by rw[I.ok.frames,D.stk]
 rw[D.stk] at h6;refine wpAny_leaves_onW hfr D.frm h6 fun h' f1 f2=>?_;have neL:∀ b o,X.s₀.heap.get? b=some o->b≠X.env.locals:=fun b o q=>Nat.ne_of_lt (Nat.lt_of_lt_of_le (Heap.lt_size q) I.ok.above)
 have inB:∀ b o,X.s₀.heap.get? b=some o->X.H₀ b=none->b∉X.fs->B.get? b=some o:=fun b o q n hb=>by
  have nex:b∉X.ex:=by rw[D.ex]; simp
  refine h9 b o (I.base.keep b o q n hb nex) (I.base.free b o q n nex) ?_;rw[D.stkFrs];intro z;rcases List.mem_cons.mp z with z | z
  ·exact neL b o q z
  ·exact hb z
 have allB:∀ b o,X.s₀.heap.get? b=some o->b∉X.fs->∃ o',B.get? b=some o':=fun b o q hb=>by
  obtain⟨o1,q1⟩:=I.base.there b o q (by rw[D.ex]; simp);refine h12 b o1 q1 ?_;rw[D.stkFrs];intro z;rcases List.mem_cons.mp z with z | z
  ·exact neL b o q z
  ·exact hb z
 refine⟨e,t,cls,vs,H',B,rfl,J.os,h3,⟨fun b o q n hb _=>f1.1 b o (inB b o q n hb),fun b o q n hb _=>?_,fun b o q n _=>J.base.free b o q n (by rw[D.ex]; simp),fun b o q _=>?_,J.base.tups,J.base.frzs,J.base.tbls⟩,?_,f1,h7.of_slots f2,h8,inB,h10,allB,hE _ _ _ h11⟩
 ·obtain⟨sl,e1⟩:=J.base.slot b o q n hb (by rw[D.ex]; simp)
  obtain⟨L,oL,hL,hn⟩:=(show ∃ L o,L=b∧s'.heap.get? L=some o∧∀ vs,o.data≠.fields vs from by
   obtain⟨_,oo,hoo,hnf⟩:=(J.funs).mem hb;exact⟨b,oo,rfl,hoo,hnf⟩)
  obtain⟨rfl,hn,hnf⟩:L=b∧s'.heap.get? L=some oL∧∀ vs,oL.data≠.fields vs:=⟨hL,hn.1,hn.2⟩;obtain⟨sl',e2⟩:=f2 L oL hn hnf;rw[e1] at hn;cases hn;exact⟨sl',e2⟩
 ·by_cases hb:b∈X.fs
  ·obtain⟨_,o',ho',_⟩:=f1.2.2.1.mem hb;exact⟨o',ho'⟩
  ·obtain⟨o',ho'⟩:=allB b o q hb;exact⟨o',f1.1 b o' ho'⟩
 ·exact h5.inB h6.1 f1.1 h10
end
end L2
namespace L2
open PySem PySem.Spec PyProof.Rows

abbrev qJ:List Value:=[.type "ValueError",.type "Exception",.type "BaseException",.type "object"]
def aAa (K:PySem.W.Frag) (C:Addr):Prop:=PySem.W.excIn K C qJ "ValueError.__new__"=true
theorem aAa.at {K:PySem.W.Frag}{C:Addr}{h:Heap}(q:aAa K C) (X:K.In h):∃ bm N nm qn bs hd sn sub ab col dd k0 k1 k2 k3 k5 mN,
  h.get? C=some (excClassObj nm qn C N bs bm hd sn sub ab col dd k0 k1 k2 k3 k5 "ValueError.__new__")∧h.Ns N mN∧mN "__init__" = none∧OwnTail h qJ bm:=by
 unfold aAa PySem.W.excIn at q;cases hl:K.lookup C with
 | none=>rw[hl] at q; cases q
 | some o=>
  rw[hl] at q;split at q
  ·rename_i dd cd sl ho
   cases ho;split at q
   ·rename_i C' bm k0 k1 k2 k3 n k5 hm hs
    rw[Bool.and_eq_true,Bool.and_eq_true,Bool.and_eq_true,Bool.and_eq_true,Bool.and_eq_true] at q;obtain⟨⟨⟨⟨⟨q1,q2⟩,q3⟩,q4⟩,q5⟩,q6⟩:=q;have e1:C'=C:=by simpa using q1
    have e2:n="ValueError.__new__":=by simpa using q2
    subst e1 e2;obtain⟨nm,bs,mro,ns,qn,hd,sn,sub,ab,col,del⟩:=cd;have e3:del=false:=by simpa using q3
    have em:mro=.ref C'::bm:=hm;subst e3 em
    have es:sl=#[k0,k1,k2,k3,some (.builtin "ValueError.__new__"),k5]:=by
     obtain⟨l⟩:=sl
     have:l=[k0,k1,k2,k3,some (.builtin "ValueError.__new__"),k5]:=hs
     rw[this]
    subst es;exact⟨bm,ns,nm,qn,bs,hd,sn,sub,ab,col,dd,k0,k1,k2,k3,k5,_,X _ _ hl,.of_isNs (PySem.W.isNs_of_in X q5),PySem.W.nsMap_none_of_in X q5 (by simpa using q6),PySem.W.tail_of_in X q4⟩
   ·cases q
  ·cases q
theorem dD.ex {P:Program}{w:World}{H:Hp}{h:Heap}{a:Addr}{o:HO}(x:dD P w H h a o):∃ ob,h.get? a=some ob:=by
 cases o with
 | lst xs=>obtain⟨_,_,_,_,e⟩:=x; exact⟨_,e⟩
 | tup xs=>obtain⟨_,_,_,ob,e,_⟩:=x; exact⟨_,e⟩
 | dK kvs=>obtain⟨_,_,_,_,o,_,_,e,_⟩:=x; exact⟨_,e⟩
 | dT kvs=>obtain⟨_,_,_,_,o,_,_,e,_⟩:=x; exact⟨_,e⟩
 | set S n=>obtain⟨o,_,_,_,e,_⟩:=x; exact⟨_,e⟩
 | ins C dx fs=>obtain⟨_,_,_,e,_⟩:=x; exact⟨_,e⟩
 | own y=>exact x
 | xd fs=>obtain⟨_,⟨_,_,_,e,_⟩,_⟩:=x; exact⟨_,e⟩
 | rng lo hi=>obtain⟨_,_,_,e⟩:=x; exact⟨_,e⟩
 | frz ob u=>obtain⟨e,_⟩:=x; exact⟨_,e⟩
 | tbl ps=>exact⟨_,(show h.get? a=some _ from x)⟩
 | met f y=>exact⟨_,(show h.get? a=some _ from x)⟩
 | ext φ=>obtain⟨_,e,_⟩:=x; exact e
section
variable {X:Cx}{E:XK}
theorem Cx.Body.raised (D:X.Body E){pins:List (Addr×Obj)}{σ:St}{H:Hp}{s:Shared}{h':Heap}{e:Addr}{cls:Value}{us:List Value}(I:Inv X pins σ H s) (hx:Heap.MadeExcOf s.heap h' e cls us) (q:E cls none H) :
  X.xe (.ref e) { s with heap:=h' }:=by
 rw[D.xe];have hfr:X.A.frames=some (X.env::X.outer):=by rw[I.ok.frames,D.stk]
 have hin:∀ env∈X.stack,∀ a,env.frame=some a->a∈frs X.stack:=fun env he a ha=>List.mem_filterMap.mpr ⟨env,he,ha⟩
 have hl:s.heap.FunFrames (PySem.W.hideAll s.heap (frs X.stack)) (X.env::X.outer):=by
  have:=PySem.W.funFrames_hide I.stack hin
  rw[D.stk] at this ⊢;exact this
 refine wpAny_leaves_madeW hfr D.frm (fun b o q=>PySem.W.of_hideAll _ q) hl hx fun h'' t f1 f2 f3 f4=>?_;have neL:∀ b o,X.s₀.heap.get? b=some o->b≠X.env.locals:=fun b o q=>Nat.ne_of_lt (Nat.lt_of_lt_of_le (Heap.lt_size q) I.ok.above)
 have nfr:∀ b o,X.s₀.heap.get? b=some o->b∉X.fs->b∉frs X.stack:=fun b o q hb z=>by
  rw[D.stkFrs] at z;rcases List.mem_cons.mp z with z | z
  ·exact neL b o q z
  ·exact hb z
 have nex:∀ b,b∉X.ex:=fun b=>by rw[D.ex]; simp
 have inB:∀ b o,X.s₀.heap.get? b=some o->X.H₀ b=none->b∉X.fs->(PySem.W.hideAll s.heap (frs X.stack)).get? b=some o:=fun b o q n hb=>
  PySem.W.hideAll_get _ (I.base.keep b o q n hb (nex b)) (nfr b o q hb)
 have trB:∀ b u,H b=some u->∃ o,(PySem.W.hideAll s.heap (frs X.stack)).get? b=some o:=fun b u q=>by
  obtain⟨o,ho⟩:=(I.hok b u q).ex;exact⟨o,PySem.W.hideAll_get _ ho fun z=>by rw[I.stkFree b z] at q; cases q⟩
 have allB:∀ b o,X.s₀.heap.get? b=some o->b∉X.fs->∃ o',(PySem.W.hideAll s.heap (frs X.stack)).get? b=some o':=fun b o q hb=>by
  obtain⟨o1,q1⟩:=I.base.there b o q (nex b);exact⟨o1,PySem.W.hideAll_get _ q1 (nfr b o q hb)⟩
 refine⟨e,t,cls,us,H,_,rfl,I.os,I.bare,⟨fun b o q n hb _=>f1.1 b o (inB b o q n hb),fun b o q n hb _=>?_,fun b o q n _=>I.base.free b o q n (nex b),fun b o q _=>?_,I.base.tups,I.base.frzs,I.base.tbls⟩,
  I.hok.inB (fun b o q=>PySem.W.of_hideAll _ q) f1.1 trB,f1,f2,f3,inB,trB,allB,q⟩
 ·obtain⟨sl,e1⟩:=I.base.slot b o q n hb (nex b);obtain⟨_,oo,hoo,hnf⟩:=I.funs.mem hb;obtain⟨sl',e2⟩:=f4 b oo (hx.keeps b oo hoo) hnf;rw[e1] at hoo;cases hoo;exact⟨sl',e2⟩
 ·by_cases hb:b∈X.fs
  ·obtain⟨_,o',ho',_⟩:=f1.2.2.1.mem hb;exact⟨o',ho'⟩
  ·obtain⟨o',ho'⟩:=allB b o q hb;exact⟨o',f1.1 b o' ho'⟩
def aKd (E:XK) (c:Value) (t:TA):TS:=fun _ σ H=>t σ H fun vs H1=>vs.length<=sizeLine∧E c none H1
theorem iZ {x:Str}{C:Addr}{np cpos pos:Pos}{e₀:Expr}{es:List Expr}{t:TA}(D:X.Body E) (hc:X.calm=true) (hg:Gl X x) (hm:X.mg x=some (.ref C)) (hq:aAa X.K C) (ha:PA X (e₀::es) t)
  (hs:rJ e₀=false:=by rfl) (hpl:(backTo cpos (starEach es X.env)).any (·.1)=false:=by rfl) (hd:(x==("__debug__" : Str))=false:=by decide) :
  PS X (.Raise (some (.Call (.Name x np) (e₀::es) [] cpos)) none pos) (aKd E (.ref C) t):=by
 intro pins s σ H Dn I h;obtain⟨bm,N,nm,qn,bs,hdd,sn,sub,ab,col,dd,k0,k1,k2,k3,k5,mN,hC,hN,hni,T⟩:=hq.at I.mod.kin;have he:starEach (e₀::es) X.env=(false,eval e₀ X.env)::starEach es X.env:=cL hs
 refine wpAny_Raise_call_subT (C:=C) (nm:=nm) (q:=qn) (N:=N) (bs:=bs) (bm:=bm) (hdct:=hdd) (sn:=sn) (sub:=sub) (ab:=ab) (col:=col) (dd:=dd) (k0:=k0) (k1:=k1) (k2:=k2) (k3:=k3) (k5:=k5)
  PySem.F.excBase_ValueError (mN:=mN) (T.hasType PySem.F.excBase_ValueError.hasBase) (I.ok.hd hc) (by rw[he]; exact hpl) hni (iP I hg hm ⟨rfl,?_⟩ hd)
 have ha':=ha cpos pins s σ H _ I h;rw[he] at ha' ⊢;refine Calls.evalArgs_plain (thn ha' fun us s1 ⟨vs,H1,I1,r1,hz,q1⟩=>⟨rfl,by rw[← r1.length]; exact hz,I1.bk _ _ hC,hN.keeps I1.bk,T.keeps I1.bk,fun h' e hx=>D.raised I1 hx q1⟩)
end
end L2
namespace L2
open PySem PySem.Spec PySem.Calls PyProof.Rows PySem.W
open PySem.Builtin PySem.Builtin.ObjectAttr PySem.Builtin.Getset_descriptor

structure xZ (K:Frag) (C:Addr):Prop where
 exc:aAa K C
 cls:findIn K (.ref C) "__class__" = some (some (.builtin "object.__class__"))
 ga:findIn K (.ref C) "__getattribute__" = some (some (.builtin "BaseException.__getattribute__"))
 no:findIn K (.ref C) "__getattr__"=some none
 ob:mroIn K C (.type "object")=some true
 be:mroIn K C (.type "BaseException")=some true
def iG (e C:Addr) (h:Heap):Prop:=∃ o vs,h.get? e=some o∧o.cls=.ref C∧o.data=.fields vs
section
variable {prog:Program}{w:World}{A:Around}{E:Value->Shared->Prop}{s:Shared}{K:Frag}{e C:Addr}
theorem iG.type {M:Model}{h:Heap}(I:iG e C h):Looks M h (typeOf (.ref e)) (.ref C):=by
 obtain⟨o,vs,h1,h2,_⟩:=I;exact h2▸(Looks.ld h1).andThen .now
theorem sK {tp:Value}{R:Result->Shared->Prop}(X:K.In s.heap) (I:iG e C s.heap) (hm:mroIn K C (.type "object")=some true) (h:R (.ok (.ret (.ref C))) s) :
  codeAny (model prog w) A (.call (.builtin "getset_descriptor.__get__") ⟨[.builtin "object.__class__",.ref e,tp],[]⟩) R s:=by
 obtain⟨hh,g,dr,t,os⟩:=s;have L0:=I.type (M:=model prog w);have L1:=looks_mroIn (M:=model prog w) X hm;refine codeAny_call_builtin KF.slot_gs.plain KF.entry_gs (KF.slot_gs.check _ _ _ _ _ _ _ _ KF.type_class (KF.args_gs _ _ _) ?_);unfold Builtin.«getset_descriptor.__get__» descrGet;rw[dga_obj];refine wpAny_bind (wpAny_pure ?_);unfold descrGetter descrCheckInstance descrNameAndClass isInstance;simp only[KF.owner_class]
 repeat lk
 refine⟨Code.quiet_builtin _ (by decide +kernel),codeAny_builtin KF.entry_class ?_⟩;unfold Builtin.«object.__class__» shownTypeOf
 repeat lk
 exact h
theorem pY {tk:Tok}{Q:Fin->Shared->Prop}(X:K.In s.heap) (I:iG e C s.heap) (T:xZ K C) (hq:Q (.done (.ret (.ref C))) s) :
  wpAny (model prog w) A (Builtin.«object.__getattribute__» ⟨[.ref e,.str "__class__" tk],[]⟩) Q E s:=by
 obtain⟨hh,g,d,t,os⟩:=s;have L0:=I.type (M:=model prog w);have L1:=looks_findIn (M:=model prog w) X T.cls;obtain⟨o,vs,hx,hc,hd⟩:=id I;have hT5:(⟨hh,g,d,t,os⟩:Shared).TypeIs (.builtin "object.__class__") "getset_descriptor" := F.typeOf_object_class;have f5:=F.typeOf_object_class;have f6:=F.slot_gs_get.lookup;have f7:=F.slot_gs_set.lookup
 repeat (any_goals (first | assumption | (with_reducible refine wpAny_loadPart_at hx ?_; rw[hc]) | with_reducible refine L1.at ?_ | wp_step))
 refine sK X I T.ob ?_
 repeat (any_goals (first | assumption | wp_step))
theorem vB {M:Model}{nameV:Value}{Q:Unit->Shared->Prop}(X:K.In s.heap) (I:iG e C s.heap) (T:xZ K C) (hq:Q () s) :
  wpAny M A (checkBuiltinCall "BaseException.__getattribute__" ⟨[.ref e,nameV],[]⟩) Q E s:=by
 obtain⟨hh,g,d,t,os⟩:=s;have hk:builtinKind "BaseException.__getattribute__"=some .slot:=by decide +kernel
 have hsplit:splitId "BaseException.__getattribute__" = some ("BaseException","__getattribute__"):=by decide +kernel
 have L0:=I.type (M:=M);have L1:=looks_mroIn (M:=M) X T.be;have ha:=F.args_bexc_ga (.ref e) nameV;simp only[checkBuiltinCall,hk,hsplit];refine wpAny_bind ?_;unfold isInstance;refine wpAny_bind (L0.at (L1.at ?_))
 repeat (first | assumption | wp_step)
theorem rO {tk:Tok}{R:Result->Shared->Prop}(X:K.In s.heap) (I:iG e C s.heap) (T:xZ K C) (hq:R (.ok (.ret (.ref C))) s) :
  codeAny (model prog w) A (.call (.builtin "BaseException.__getattribute__") ⟨[.ref e,.str "__class__" tk],[]⟩) R s:=
 codeAny_call_builtin PySem.F.attr_ValueError.ga.plain F.entry_bexc_ga (vB X I T (pY X I T hq))
theorem rP {Q:Option Value->Shared->Prop}(X:K.In s.heap) (I:iG e C s.heap) (T:xZ K C) (hq:Q (some (.ref C)) { s with toks:=s.toks+1 }) :
  wpAny (model prog w) A (getAttr? (.ref e) "__class__") Q E s:=by
 obtain⟨hh,g,d,t,os⟩:=s;have L0:=I.type (M:=model prog w);have L1:=looks_findIn (M:=model prog w) X T.ga;have L2:=looks_findIn (M:=model prog w) X T.no;have f3:=PySem.F.attr_ValueError.ga.bind (.ref e);have hx2:(Value.builtin "BaseException.__getattribute__" == Value.builtin "object.__getattribute__")=false:=by decide +kernel
 have hx1:(onTheHeap (Value.ref C)&&Value.builtin "BaseException.__getattribute__" == Value.builtin "object.__getattribute__")=false:=by rw[hx2]; rfl
 unfold getAttr? getAttrBy? getAttrBy;refine wpAny_bind (wpAny_mkText (wpAny_bind (wpAny_attempt (wpAny_holding (wpAny_bind (L0.at (wpAny_bind (L1.at ?_))))))));dsimp only;rw[if_neg (by rw[hx1]; exact Bool.false_ne_true)];unfold getAttrByItsOwn hookBefore;rw[show onTheHeap (Value.ref C)=true from rfl,if_pos rfl]
 refine wpAny_bind (L2.at ?_);unfold callGetattribute
 repeat (any_goals (first | assumption | wp_step))
 refine rO (s:=⟨hh,g,d,t+1,os⟩) X I T ?_
 repeat (any_goals (first | assumption | wp_step))
theorem aGj (T:xZ K C):KitX K (.ref e) (.ref C) (iG e C) where
 ty:=fun _ _ _ I=>I.type
 it:=fun _ _ X _=>by
  obtain⟨bm,N,nm,qn,bs,hd,sn,sub,ab,col,dd,k0,k1,k2,k3,k5,mN,hC,_⟩:=T.exc.at X;intro A' Q' E' s' k q;unfold isType loadHead;exact wpAny_bind (wpAny_loadPart (k _ _ hC) (wpAny_pure q))
 ne:=fun h tp dd its n sl X htp=>by
  obtain⟨bm,N,nm,qn,bs,hd,sn,sub,ab,col,dd',k0,k1,k2,k3,k5,mN,hC,_⟩:=T.exc.at X;refine Bool.eq_false_iff.mpr fun q=>?_;have ec:C=tp:=Value.ref.inj (beq_iff_eq.mp q);subst ec;have z:=congrArg Obj.data (Option.some.inj (hC.symm.trans htp));unfold excClassObj at z;cases z
 ca:=fun X I k=>rP X I T k
end
def aBi (H:Hp) (e C:Addr):Prop:=H e=some (.ext (iG e C))
inductive aQi (K:PySem.W.Frag) (xs:List V) (H:Hp) (Q:VK):Prop
 | mk (e:_) (C:_) (c:_) (cv:_) (b:_) (h0_:xs=[.ref e,c]) (h1_:(∀ u,cH c u->u=cv)) (h2_:aBi H e C) (h3_:xZ K C) (h4_:kitOne K (.ref C) cv=some b) (h5_:Q (.bl b) H)
theorem uB {X:Cx}:CallR X (.builtin "isinstance") (aQi X.K):=by
 intro pins s σ H xs us Q I r h;obtain⟨e,C,c,cv,b,rfl,hc,hx,T,hb,q⟩:=h;obtain⟨u,w',rfl,rx,rc⟩:=vN r;cases rx;have ec:=hc w' rc;subst ec;obtain⟨ha,_,_⟩:=(show dD X.prog X.w H s.heap e (.ext (iG e C)) from I.hok e _ hx)
 exact kia_one (aGj T) I.kIn ha hb (fun z=>nomatch z) fun tk=>⟨.bl b,H,I.tok tk,rfl,q⟩
end L2
namespace L2
open PySem PySem.Spec PySem.Calls PyProof.Rows

structure Cx.Frame (X:Cx):Prop where
 stk:X.stack=X.env::X.outer
 frm:X.env.frame=some X.env.locals
abbrev Cx.pinned (X:Cx) (pn:List (Addr×Obj)) (E:Value->Shared->Prop):Cx:={ X with pn:=pn,xe:=E }
abbrev Cx.caught (X:Cx) (e:Addr) (pn:List (Addr×Obj)):Cx:={ X with A:=X.A.mark (some (.ref e)),calm:=false,pn:=pn,xe:=fun _ _=>False }
def nO (σ:St):St:=σ.map fun _=>none
theorem aCs {σ:St}{i:Nat}{v:V}(h:(nO σ)[i]?=some (some v)):False:=by
 unfold nO at h;rw[List.getElem?_map] at h;cases e:σ[i]? with
 | none=>rw[e] at h; cases h
 | some z=>rw[e] at h; cases h
theorem aCr (σ:St):(nO σ).length=σ.length:=by unfold nO; rw[List.length_map]
section
variable {X:Cx}{pins:List (Addr×Obj)}{σ:St}{H:Hp}{s:Shared}
theorem Inv.repin (I:Inv X pins σ H s) (E:Value->Shared->Prop):Inv (X.pinned (X.pn++pins) E) [] σ H s:=
 ⟨⟨I.ok.mod,I.ok.kind,I.ok.glob,I.ok.blt,I.ok.above,I.ok.inj,I.ok.has,I.ok.cab,I.ok.hd,I.ok.frames,I.ok.stk,I.ok.exf,I.ok.bs,I.ok.bsz,I.ok.noex,I.ok.exfs,I.ok.funs,I.ok.frf⟩,
  I.os,I.bare,I.base,I.loc,I.cell,I.free,I.freeC,fun p hp=>I.pin p (by simpa using hp),I.hok,I.len⟩
theorem Inv.unpin {E:Value->Shared->Prop}{pl:List (Addr×Obj)}(I:Inv (X.pinned (X.pn++pins) E) pl σ H s):Inv X pins σ H s:=
 ⟨⟨I.ok.mod,I.ok.kind,I.ok.glob,I.ok.blt,I.ok.above,I.ok.inj,I.ok.has,I.ok.cab,I.ok.hd,I.ok.frames,I.ok.stk,I.ok.exf,I.ok.bs,I.ok.bsz,I.ok.noex,I.ok.exfs,I.ok.funs,I.ok.frf⟩,
  I.os,I.bare,I.base,I.loc,I.cell,I.free,I.freeC,fun p hp=>I.pin p (List.mem_append_left _ hp),I.hok,I.len⟩
theorem Inv.mark (I:Inv X pins σ H s) (e:Addr):Inv (X.caught e (X.pn++pins)) [] σ H s:=
 ⟨⟨I.ok.mod,I.ok.kind,I.ok.glob,I.ok.blt,I.ok.above,I.ok.inj,I.ok.has,I.ok.cab,(fun z=>nomatch z),I.ok.frames,I.ok.stk,I.ok.exf,I.ok.bs,I.ok.bsz,I.ok.noex,I.ok.exfs,I.ok.funs,I.ok.frf⟩,
  I.os,I.bare,I.base,I.loc,I.cell,I.free,I.freeC,fun p hp=>I.pin p (by simpa using hp),I.hok,I.len⟩
theorem Inv.unmark {e:Addr}{pl:List (Addr×Obj)}(I:Inv (X.caught e (X.pn++pins)) pl σ H s) (ok:X.Ok):Inv X pins σ H s:=
 ⟨ok,I.os,I.bare,I.base,I.loc,I.cell,I.free,I.freeC,fun p hp=>I.pin p (List.mem_append_left _ hp),I.hok,I.len⟩
theorem Inv.forget {h':Heap}{m':Str->Option Value}{t':Nat}(I:Inv X pins σ H s) (ns:h'.Ns X.env.locals m') (sb:Heap.SameBut X.env.locals s.heap h'):Inv X pins (nO σ) H { s with heap:=h',toks:=t' }:=by
 have ne:∀ b u,H b=some u->b≠X.env.locals:=fun b u q z=>by rw[z,I.free] at q; cases q
 have neL:∀ b o,X.s₀.heap.get? b=some o->b≠X.env.locals:=fun b o e=>Nat.ne_of_lt (Nat.lt_of_lt_of_le (Heap.lt_size e) I.ok.above)
 refine⟨I.ok,I.os,I.bare,⟨fun b o q n hb hx=>(sb.2 b (neL b o q)).trans (I.base.keep b o q n hb hx),fun b o q n hb hx=>?_,I.base.free,fun b o q hx=>?_,I.base.tups,I.base.frzs,I.base.tbls⟩,
  ⟨m',ns,fun i x v e1 e2=>(aCs e2).elim⟩,fun x c e=>?_,I.free,I.freeC,fun p hp=>?_,fun b u q=>?_,(aCr σ).trans I.len⟩
 ·obtain⟨sl,e1⟩:=I.base.slot b o q n hb hx;exact⟨sl,(sb.2 b (neL b o q)).trans e1⟩
 ·obtain⟨o',e1⟩:=I.base.there b o q hx;exact⟨o',(sb.2 b (neL b o q)).trans e1⟩
 ·obtain⟨v,z⟩:=I.cell x c e;exact⟨v,z.sameBut sb (I.cne x c e)⟩
 ·obtain⟨e1,n,ne',nf,d⟩:=I.pin p hp;exact⟨(sb.2 p.1 ne').trans e1,n,ne',nf,d⟩
 ·refine (I.hok b u q).stay (fun c v hc z=>(sb.2 c ?_).trans z) (fun _ z=>z) fun _ _ z=>z;rcases hc with rfl | hc
  ·exact ne c u q
  ·exact ne c _ hc
end
end L2
namespace L2
open PySem PySem.Spec PySem.Calls PyProof.Rows
section
variable {X:Cx}
theorem aGg {pins:List (Addr×Obj)}{σ:St}{H H1:Hp}{s s1:Shared}{e C:Addr}{a0:Value}{B h':Heap}(I:Inv X pins σ H s) (ho:s1.os=s.os) (hg:AllBare s1.gens) (u:Un (frs X.stack) [] H H1 s.heap s1.heap) (hk:HOk X.prog X.w H1 s1.heap)
  (f0:B.StaysIn s1.heap) (fl:Heap.FlyingW B X.stack e (.ref C) a0 h') (up:s1.heap.UpToSlots h') (inB:∀ b o,s.heap.get? b=some o->H b=none->b∉frs X.stack->B.get? b=some o) (trB:∀ b v,H1 b=some v->∃ o,B.get? b=some o)
  (allB:∀ b o,s.heap.get? b=some o->b∉frs X.stack->∃ o',B.get? b=some o'):H1 e=none∧Inv X pins σ (upd H1 e (.ext (iG e C))) { s1 with heap:=h' }:=by
 have he:H1 e=none:=by
  cases q:H1 e with
  | none=>rfl
  | some v=>
   obtain⟨o,z⟩:=trB e v q;rw[fl.2.1] at z;cases z
 obtain⟨oe,vs,hoe,hoc,hod,_⟩:=fl.first
 have efr:e∉frs X.stack:=fun z=>by
  obtain⟨_,o,h1,h2⟩:=fl.2.2.1.mem z;rw[hoe] at h1;cases h1;exact h2 vs hod
 have eold:∀ o,s.heap.get? e≠some o:=fun o z=>by
  obtain⟨o',z'⟩:=allB e o z efr;rw[fl.2.1] at z';cases z'
 have hok:HOk X.prog X.w H1 h':=hk.inB f0 fl.1 trB;have xat:iG e C h':=⟨oe,vs,hoe,hoc,hod⟩
 have hok':HOk X.prog X.w (upd H1 e (.ext (iG e C))) h':=fun b v q=>by
  by_cases hb:b=e
  ·subst hb;rw[aD] at q;cases q;exact⟨xat,⟨oe,hoe⟩,fun h1 h2 ⟨o,ws,p1,p2,p3⟩ k=>⟨o,ws,k o p1,p2,p3⟩⟩
  ·rw[aI hb] at q;exact (hok b v q).stay (fun _ _ _ z=>z) (fun c z=>by rw[aI (aG z he)]; exact z) fun c xs z=>by rw[aI (aG z he)]; exact z
 refine⟨he,I.call' (ch:=[]) (s':={ s1 with heap:=h' }) ho ⟨fun b o q n hb _=>fl.1 b o (inB b o q n hb),fun b o q n hb _=>?_,fun b o q n hx=>?_,fun b o q hx=>?_,fun b xs q=>?_,fun b o v q=>?_,fun b ps q=>?_⟩ hok' hg fun _ z=>nomatch z⟩
 ·obtain⟨sl,e1⟩:=u.slot b o q n hb (by simp);obtain⟨_,oo,hoo,hnf⟩:=I.stack.mem hb;rw[q] at hoo;cases hoo;obtain⟨sl',e2⟩:=up b _ e1 hnf;exact⟨sl',e2⟩
 ·rw[aI fun z=>eold o (by rw[← z]; exact q)];exact u.free b o q n (by simp)
 ·by_cases hb:b∈frs X.stack
  ·obtain⟨_,o',ho',_⟩:=fl.2.2.1.mem hb;exact⟨o',ho'⟩
  ·obtain⟨o',ho'⟩:=allB b o q hb;exact⟨o',fl.1 b o' ho'⟩
 ·have z:=u.tups b xs q;rw[aI (aG z he)];exact z
 ·have z:=u.frzs b o v q;rw[aI (aG z he)];exact z
 ·obtain⟨more,z⟩:=u.tbls b ps q;exact⟨more,by rw[aI (aG z he)]; exact z⟩
def aOe (K:PySem.W.Frag) (Ew:XK) (wv:Value) (i:Nat) (tb ts:TS):TS:=fun D σ H=>tb D σ H∧∀ cls H1,Ew cls none H1->∃ C,cls=.ref C∧PySem.W.exmOne K (.ref C) wv=some true ∧
 ∀ (e:Addr) (σ1:St),σ1.length=σ.length->H1 e=none->ts { nx:=fun σ2 H2=>D.nx (nO σ2) H2,rt:=D.rt,bk:=fun σ2 H2=>D.bk (nO σ2) H2,ct:=fun σ2 H2=>D.ct (nO σ2) H2 } (σ1.set i (some (.ref e))) (upd H1 e (.ext (iG e C)))
theorem aFa {body:List Stmt}{x n:Str}{W:Addr}{np hpos pos:Pos}{b₀:Stmt}{suite:List Stmt}{i:Nat}{tb ts:TS}(Ew:XK) (F:X.Frame) (hc:X.calm=true) (hN:X.N.Nodup) (hi:X.N[i]?=some n) (hl:X.env.scope.names.lookup n=some .local)
  (hg:Gl X x) (hm:X.mg x=some (.ref W)) (hb:∀ pn E,gN (CXE X.prog X.w) (X.pinned pn E) Ew->PSs (X.pinned pn E) body tb) (hs:∀ e pn,PSs (X.caught e pn) (b₀::suite) ts)
  (hd:(x==("__debug__" : Str))=false:=by decide) :
  PS X (.Try body [.ExceptHandler (some (.Name x np)) (some n) (b₀::suite) hpos] [] [] pos) (aOe X.K Ew (.ref W) i tb ts):=by
 intro pins s σ H D I h;obtain⟨h1,h2⟩:=h
 have pass:gN (CXE X.prog X.w) (X.pinned (X.pn++pins) fun ev s'=>∃ pl σ0 H0 s0,Inv (X.pinned (X.pn++pins) fun _ _=>True) pl σ0 H0 s0∧CXE X.prog X.w X.stack H0 s0 Ew ev s') Ew:=fun pl σ0 H0 s0 ev s' I0 hx=>
  ⟨pl,σ0,H0,s0,⟨⟨I0.ok.mod,I0.ok.kind,I0.ok.glob,I0.ok.blt,I0.ok.above,I0.ok.inj,I0.ok.has,I0.ok.cab,I0.ok.hd,I0.ok.frames,I0.ok.stk,I0.ok.exf,I0.ok.bs,I0.ok.bsz,I0.ok.noex,I0.ok.exfs,I0.ok.funs,I0.ok.frf⟩,
   I0.os,I0.bare,I0.base,I0.loc,I0.cell,I0.free,I0.freeC,I0.pin,I0.hok,I0.len⟩,hx⟩
 refine wpAny_Try_except (wpAny_mono (hb _ _ pass [] s σ H D (I.repin _) h1) (fun f s1 q=>?_) fun ev s1 q=>?_)
 ·cases f with
  | next=>
   obtain⟨σ1,H1,I1,q1⟩:=q;exact wpAny_execs_nil ⟨σ1,H1,I1.unpin,q1⟩
  | brk=>obtain⟨σ1,H1,I1,q1⟩:=q; exact⟨σ1,H1,I1.unpin,q1⟩
  | cont=>obtain⟨σ1,H1,I1,q1⟩:=q; exact⟨σ1,H1,I1.unpin,q1⟩
  | ret u=>obtain⟨v,σ1,H1,I1,r1,q1⟩:=q; exact⟨v,σ1,H1,I1.unpin,r1,q1⟩
 ·obtain⟨pl,σ0,H0,s0,I0',e,t,cls,vs,H1,B,rfl,g2,g3,g4,g5,g6,g7,g8,g9,g10,g12,g11⟩:=q;have I0:Inv X pins σ0 H0 s0:=I0'.unpin;obtain⟨C,rfl,hmatch,hts⟩:=h2 cls H1 g11;have hfr:X.A.frames=some (X.env::X.outer):=by rw[I.ok.frames,F.stk]
  have g6':=g6;rw[F.stk] at g6';refine wpAny_looks_onW hfr F.frm g6' fun h3 held3 up3=>?_;refine wpAny_landsW held3 fun h4 fl4 up4=>?_;have fl4':Heap.FlyingW B X.stack e (.ref C) (.ref t) h4:=by rw[F.stk]; exact fl4
  have st4:=(aGg I0 g2 g3 g4 g5 g6.1 fl4' (up3.trans up4) g9 g10 g12).2;have K4:=st4.mark e;refine wpAny_handleBy_cons (codeAny_handlers_test (iP (X:=X.caught e (X.pn++pins)) K4 hg hm ?_ hd)) (by intro z; cases z);obtain⟨oe,ws,hoe,hoc,hod,_⟩:=fl4.first;have LT:PySem.W.Looks (model X.prog X.w) h4 (typeOf (.ref e)) (.ref C):=(show iG e C h4 from ⟨oe,ws,hoe,hoc,hod⟩).type
  refine (PySem.W.exm_one (M:=model X.prog X.w) K4.kIn LT hmatch).at ?_;refine codeAny_handlers_suite_as ?_;refine lands_againW fl4 fun h5 fl5 up5=>?_;have fl5':Heap.FlyingW B X.stack e (.ref C) (.ref t) h5:=by rw[F.stk]; exact fl5
  obtain⟨he,st5⟩:=aGg I0 g2 g3 g4 g5 g6.1 fl5' ((up3.trans up4).trans up5) g9 g10 g12;have K5:=st5.mark e;refine qL (X:=X.caught e (X.pn++pins)) K5 hN hi (.inl hl) (v:=.ref e) rfl (fun s6 I6=>?_) (.inr hl);refine wpAny_mono (hs e (X.pn++pins) [] s6 _ _ _ I6 (hts e σ0 (I0.len.trans I.len.symm) he)) (fun f s7 q7=>?_) fun _ _ z=>z.elim
  have gone:∀ {σ7:St}{H7:Hp}{Q:Unit->Shared->Prop}{E:Value->Shared->Prop},Inv (X.caught e (X.pn++pins)) [] σ7 H7 s7->(∀ s8,Inv X pins (nO σ7) H7 s8->Q () s8) ->
    wpAny (model X.prog X.w) X.A (do bindName X.env n .none; unbindBehindTheSuite X.env n hpos) Q E s7:=fun {σ7 H7 Q E} I7 k=>by
   have J7:Inv X pins σ7 H7 s7:=I7.unmark I.ok;obtain⟨m,hn,_⟩:=J7.loc;exact wpAny_nameGoes hl hn (by rw[I.ok.kind]; rfl) fun h8 m8 ns8 sb8=>k _ (J7.forget ns8 sb8)
  cases f with
  | next=>obtain⟨σ7,H7,I7,q7⟩:=q7; exact gone I7 fun s8 I8=>⟨_,H7,I8,q7⟩
  | brk=>obtain⟨σ7,H7,I7,q7⟩:=q7; exact gone I7 fun s8 I8=>⟨_,H7,I8,q7⟩
  | cont=>obtain⟨σ7,H7,I7,q7⟩:=q7; exact gone I7 fun s8 I8=>⟨_,H7,I8,q7⟩
  | ret u=>obtain⟨v,σ7,H7,I7,r7,q7⟩:=q7; exact gone I7 fun s8 I8=>⟨v,_,H7,I8,r7,q7⟩
end
end L2
namespace L2
open PySem PySem.Spec PySem.Calls PyProof.Rows
structure lY (k:Nat) (A:Around):Prop where
 dp:A.depth+3*k+5<recursionLimit
 un:A.units+16*k+200<cLine
theorem lY.deeper {k:Nat}{A:Around}(r:lY (k+1) A) (env:Env):lY k (A.deeper env):=
 ⟨by have:=r.dp; show A.depth+1+3*k+5<_; omega,by have:=r.un; show A.units+3+16*k+200<_; omega⟩
theorem lY.depth {k:Nat}{A:Around}(r:lY k A):A.depth<recursionLimit:=by have:=r.dp; omega
def cxU (P:Program) (w:World) (K:PySem.W.Frag) (mg:Str->Option Value) (base:Heap) (N:List Str) (qual:Str) (scope:Scope) (f:Addr) (cd:Value) (A:Around) (outer:List Env) (s:Shared) (H:Hp):Cx:=
 { iH CX0 P w K mg base N qual scope f cd A outer s H E0 with calm:=false,xe:=fun _ _=>False }
structure xY (P:Program) (w:World) (K:PySem.W.Frag) (mg:Str->Option Value) (base:Heap) (k:Nat) (f:Addr) (fd:FuncData) (ps:List Str) (sp:Sp):Prop where
 len:∀ vs H Q E,sp vs H Q E->vs.length=ps.length
 run:∀ (A:Around) (outer:List Env) (s:Shared) (H:Hp) (args:Args) (us:List Value) (vs:List V) (Q:VK),lY k A->sN P w K mg base A outer s H->BindsTo s fd args (ps.zip us)->cB vs us->sp vs H Q E0 ->
  codeAny (model P w) A (.call (.ref f) args) (CR CX0 outer P w H s Q E0) s
section
variable {P:Program}{w:World}{K:PySem.W.Frag}{mg:Str->Option Value}{base:Heap}
theorem zO {N ps:List Str}{qual:Str}{scope:Scope}{f:Addr}{cd:Value}{A:Around}{outer:List Env}{s s1:Shared}{H:Hp}{us:List Value}{vs:List V}
  (S:aS N ps scope) (e0:sN P w K mg base A outer s H) (hl:vs.length=ps.length) (r:cB vs us)
  (x:InCallC s s.heap.objs.size (bindL (envOfC qual scope s.heap.objs.size f cd).kindOf (ps.zip us) fun _=>none) (cellsFrom (s.heap.objs.size+1) scope.names []) (bindC (envOfC qual scope s.heap.objs.size f cd).kindOf (ps.zip us) fun _=>none) s1) :
  Inv (cxU P w K mg base N qual scope f cd A outer s H) [] (start N vs) H s1:=by
 have J:=pF (CX:=CX0) (E:=E0) (A:={ A with handled:=none }) (f:=f) (cd:=cd) S rfl ⟨e0.frames,e0.mod,e0.bs,e0.bsz,e0.funs,e0.frf,e0.hok,e0.bare⟩ hl r x
 exact⟨⟨J.ok.mod,J.ok.kind,J.ok.glob,J.ok.blt,J.ok.above,J.ok.inj,J.ok.has,J.ok.cab,(fun z=>nomatch z),Around.frames_deeper e0.frames,J.ok.stk,J.ok.exf,J.ok.bs,J.ok.bsz,J.ok.noex,J.ok.exfs,J.ok.funs,J.ok.frf⟩,
  J.os,J.bare,J.base,J.loc,J.cell,J.free,J.freeC,J.pin,J.hok,J.len⟩
theorem Fun.okU {x qual:Str}{st:Stmt}{f:Addr}{fd:FuncData}{N ps:List Str}{k:Nat}{sp:Sp}(F:Fun K x qual st f fd) (S:aS N ps (aB st)) (len:∀ vs H Q E,sp vs H Q E->vs.length=ps.length)
  (hbody:∀ (cdv:Value) (A:Around) (outer:List Env) (s:Shared) (H:Hp) (vs:List V) (Q:VK),lY k (A.deeper (envOfC qual (aB st) s.heap.objs.size f cdv))->sp vs H Q E0 ->
   ∃ t,PSs (cxU P w K mg base N qual (aB st) f cdv A outer s H) (aF st) t∧t { nx:=fun _ H'=>Q .non H',rt:=Q } (start N vs) H):xY P w K mg base (k+1) f fd ps sp:=by
 obtain⟨oc,od,kV,doc,pm,an,cdv,ct,osl,rfl,lk,hcd⟩:=F.ex;refine⟨len,fun A outer s H args us vs Q hr e0 hb r hsp=>?_⟩;have hl:=len _ _ _ _ hsp;have KX:K.In s.heap:=e0.mod.kin.keeps fun b o e=>(e0.bs b o e).1;have lim:s.heap.NoLimit:=e0.mod.nolimit.keeps fun b o e=>(e0.bs b o e).1
 have hkind:∀ y∈ps.zip us,(aB st).names.lookup y.1=some .local∨((aB st).names.lookup y.1=some .cell∧((cellsFrom (s.heap.objs.size+1) (aB st).names []).lookup y.1).isSome=true):=fun ⟨n,v⟩ hy=>by
  rcases S.par n (List.of_mem_zip hy).1 with q | q
  ·exact .inl q
  ·exact .inr ⟨q,PySem.W.cellsFrom_some _ _ _ (.inl q)⟩
 refine codeAny_call_function hr.depth (KX _ _ lk) rfl S.co S.gen rfl (PySem.W.codeRec_of KX hcd) (hb _ _ _ _ ?_);refine wpAny_newFunctionEnv_cells S.kind hkind fun env he s1 x=>?_;subst he;refine⟨lim.keeps x.toInCall.keep,codeAny_func ?_⟩;obtain⟨t,ht,hq⟩:=hbody cdv A outer s H vs Q (hr.deeper _) hsp;have I:Inv (cxU P w K mg base N qual (aB st) f cdv A outer s H) [] (start N vs) H s1:=zO S e0 hl r x;refine wpAny_mono (ht [] s1 (start N vs) H _ I hq) (fun fl s' hs=>?_) fun e s' hs=>hs.elim
 have fin:∀ {σ':St}{H':Hp}{v:V}{u:Value},Inv (cxU P w K mg base N qual (aB st) f cdv A outer s H) [] σ' H' s'->cH v u->Q v H'->CE outer P w H s Q u s':=
  fun {σ' H' v u} J rv q=>⟨v,H',J.os,J.bare,J.base,J.hok,rv,q⟩
 cases fl with
 | ret u=>obtain⟨v,σ',H',J,rv,q⟩:=hs; exact fin J rv q
 | next=>obtain⟨σ',H',J,q⟩:=hs; exact fin (v:=V.non) (u:=Value.none) J rfl q
 | brk=>obtain⟨_,_,_,q⟩:=hs; exact False.elim q
 | cont=>obtain⟨_,_,_,q⟩:=hs; exact False.elim q
end
section
variable {X:Cx}{k:Nat}{f:Addr}{fd:FuncData}{ps:List Str}{sp:Sp}{x:Str}{e:Expr}{es:List Expr}{t:TA}{p pos:Pos}
theorem wQ (F:xY X.prog X.w X.K X.mg X.base k f fd ps sp) (hr:lY k X.A) (hg:Gl X x) (hm:X.mg x=some (.ref f)) (hk:PySem.W.keepIn X.K (.ref f)=true) (hb:bJ X.K fd ps [])
  (ha:PA X (e::es) t) (hs:rJ e=false:=by rfl) (hdb:(x==("__debug__" : Str))=false:=by decide) (hpl:(backTo pos (starEach es X.env)).any (·.1)=false:=by rfl) :
  PE X (.Call (.Name x p) (e::es) [] pos) (aJq sp [] E0 t):=by
 intro pins s σ H Q I h;refine wpAny_Call_Name_kw (iP I hg hm ?_ hdb);refine PySem.W.callWith_K (h₀:=X.base) I.ok.mod.kin hk (thn (ha pos pins s σ H _ I h) fun us s1 ⟨vs,H1,I1,r,q⟩=>⟨I1.kIn,?_⟩) (cL hs) hpl;have q':sp vs H1 Q E0:=by have z:sp (vs++[]) H1 Q E0:=q; rw[List.append_nil] at z; exact z
 have hl:us.length=ps.length:=by rw[← r.length]; exact F.len _ _ _ _ q'
 have hb':=hb s1 us I1.kIn (by rw[List.append_nil]; exact hl);rw[List.append_nil] at hb';refine wpAny_call (codeAny_mono (F.run X.A X.stack s1 H1 ⟨us,[]⟩ us vs Q hr I1.env0 hb' r q') fun rr s' hq=>?_);cases rr with
 | error e=>exact False.elim hq
 | ok fl=>
  cases fl with
  | ret u=>exact I1.after hq
  | next=>exact False.elim hq
  | brk=>exact False.elim hq
  | cont=>exact False.elim hq
end
end L2
namespace L2
open PySem PySem.Spec PySem.Calls PyProof.Rows PySem.W
def lA (mg:Str->Option Value) (base:Heap):Prop:=∃ bm ob,mg "__builtins__" = some (.ref bm)∧bm≠builtinsNs∧base.get? bm=some ob∧ob.cls=.type "module" ∧ ob.dict=some builtinsNs∧ob.data=.plain
def iT (c:Addr) (q:Str) (h:Heap):Prop:=∃ o vs t,h.get? c=some o∧o.data=.fields vs∧vs[1]?=some (.str q t)
section
variable {X:Cx}{pins:List (Addr×Obj)}{σ:St}{H:Hp}{s:Shared}
theorem Inv.lamTab {P c':Addr}{q:Str}{ps more:Array Value}{h':Heap}{t':Nat}(I:Inv X pins σ H s) (hP:H P=some (.tbl ps)) (k:Heap.ExtBut P s.heap h') (hn:h'.get? P=some (tabObj (ps++more)))
  (hge:s.heap.objs.size<=c') (hcd:iT c' q h'):Inv X pins σ (upd (upd H P (.tbl (ps++more))) c' (.ext (iT c' q))) { s with heap:=h',toks:=t' }:=by
 have neP:∀ b,H b=none->b≠P:=fun b n z=>by rw[z,hP] at n; cases n
 have nec:∀ b o,s.heap.get? b=some o->b≠c':=fun b o e=>Nat.ne_of_lt (Nat.lt_of_lt_of_le (Heap.lt_size e) hge);have hc0:H c'=none:=I.hok.fresh hge;have cP:c'≠P:=neP c' hc0;have H2:∀ b u,H b=some u->b≠P->upd (upd H P (.tbl (ps++more))) c' (.ext (iT c' q)) b=some u:=fun b u e hb=>by rw[aI (aG e hc0),aI hb]; exact e
 refine I.step (g':=s.gens) (d':=s.drawn) (ch:=[]) (fun _ z=>nomatch z) (fun b o _ _ _ e n=>k b o (neP b n) e) (fun b o _ _ _ e n=>⟨o.slots,k b o (neP b n) e⟩)
  (fun b o _ e n=>by rw[aI (nec b o e),aI (neP b n)]; exact n) (fun b o _ e=>?_) (fun b xs e=>H2 b _ e fun z=>by rw[z,hP] at e; cases e) (fun b o u e=>H2 b _ e fun z=>by rw[z,hP] at e; cases e)
  (fun b ps' e=>?_) (fun m hm=>hm.extBut k (neP _ I.free)) (fun b u e=>?_) I.bare
 ·by_cases hb:b=P
  ·subst hb; exact⟨_,hn⟩
  ·exact⟨o,k b o hb e⟩
 ·by_cases hb:b=P
  ·subst hb;rw[hP] at e;cases e;exact⟨more,by rw[aI (Ne.symm cP),aD]⟩
  ·exact⟨#[],by rw[H2 b _ e hb]; simp⟩
 ·by_cases hb:b=c'
  ·subst hb;rw[aD] at e;cases e;obtain⟨o,vs,t,e1,e2,e3⟩:=id hcd;exact⟨hcd,⟨o,e1⟩,fun h1 h2 ⟨o,vs,t,p1,p2,p3⟩ kk=>⟨o,vs,t,kk o p1,p2,p3⟩⟩
  ·rw[aI hb] at e
   by_cases hbP:b=P
   ·subst hbP;rw[aD] at e;cases e;exact hn
   ·rw[aI hbP] at e;refine (I.hok b u e).stay (fun d v hd z=>k d v ?_ z) (fun d z=>H2 d _ z fun y=>by rw[y,hP] at z; cases z) fun d xs z=>H2 d _ z fun y=>by rw[y,hP] at z; cases z
    rcases hd with rfl | hd
    ·exact hbP
    ·intro y;rw[y,hP] at hd;cases hd
theorem aGh {params:Arguments}{body:Expr}{scope:Scope}{pos:Pos}{c P:Addr}{ps:Array Value}{Q:Value->Shared->Prop}{E:Value->Shared->Prop}(I:Inv X pins σ H s) (hcode:X.env.code=.ref c) (hc:codeHdIn X.K c P=true) (bm:lA X.mg X.base)
  (hP:H P=some (.tbl ps)) (ht:TriplesOk ps.toList) (hnf:codeAmong pos ps.toList=none) (hdef:defaultsOf params X.env=([],[])) (hfr:∀ n∈dF scope,X.env.kindOf n=some .cell∨X.env.kindOf n=some .free)
  (k:∀ (f c':Addr) (pm ctv:Value) (s1:Shared),Inv X pins σ (upd (upd H P (.tbl (ps++#[rawInt pos.line,rawInt pos.col,.ref c']))) c' (.ext (iT c' (X.env.qual++"<lambda>")))) s1->H c'=none->c'≠P->c'<f->s.heap.objs.size<=c' ->
   (∀ b o,b≠P->s.heap.get? b=some o->s1.heap.get? b=some o) ->
   s1.heap.get? f=some (kla_obj "<lambda>" (X.env.qual++"<lambda>") params body scope (dI scope X.env) pm c' ctv)->Q (.ref f) s1) :
  wpAny (model X.prog X.w) X.A (eval (.Lambda params body scope pos) X.env) Q E s:=by
 have hcl:closureFor scope X.env=pure (dI scope X.env):=gG fun n hn=>I.ok.has n (hfr n hn);obtain⟨b,ob,b1,b2,b3,b4,b5,b6⟩:=bm;have hg:s.heap.Ns mainGlobals X.mg:=I.mod.glob.keeps I.bk;have bP:∀ d o,X.base.get? d=some o->d≠P:=fun d o e z=>by have:=(I.bs d o e).2; rw[z,hP] at this; cases this
 have hgP:mainGlobals≠P:=by
  obtain⟨o,_,_,e,_⟩:=I.mod.glob;exact bP _ o e
 have hbG:b≠mainGlobals:=fun z=>by
  obtain⟨o,es,ep,e,hd,_⟩:=I.mod.glob;rw[z,e] at b3;cases b3;rw[hd] at b6;cases b6
 have hob:s.heap.get? P=some (tabObj ps):=I.hok P _ hP;refine kla_eval hdef (kla_makeFunction (mg:=X.mg) hcl I.ok.glob hg hcode (codeHd_of_K I.kIn hc) hob ht hnf hgP ⟨b,ob,b1,b2,hbG,bP _ _ b3,I.bk _ _ b3,b4,b5,b6⟩ fun c' ctv h' tk hx hge hlt hrec htb=>?_);obtain⟨c2,o2,vs2,t2,e2,r1,r2,r3⟩:=hrec;cases e2;have hc0:H c'=none:=I.hok.fresh hge
 refine k h'.objs.size c' _ ctv _ (I.lamTab (t':=tk) hP (fun d o hd e=>Heap.get?_push_of_some _ (hx d o hd e)) (Heap.get?_push_of_some _ htb) hge ⟨o2,vs2,t2,Heap.get?_push_of_some _ r1,r2,r3⟩) hc0 (fun z=>by rw[z,hP] at hc0; cases hc0) hlt hge
  (fun d o hd e=>Heap.get?_push_of_some _ (hx d o hd e)) (Heap.get?_push_size _ rfl)
end
end L2
namespace L2
open PySem PySem.Spec PySem.Calls PyProof.Rows PySem.W
structure uH (h:Heap) (H:Hp) (fr:List Addr) (f c':Addr) (q:Str) (params:Arguments) (body:Expr) (scope:Scope) (cl:List (Str×Addr)) (NL:List Str) (σL:St):Prop where
 fn:∃ pm ctv,h.get? f=some (kla_obj "<lambda>" q params body scope cl pm c' ctv)
 fH:H f=none
 ff:f∉fr
 code:H c'=some (.ext (iT c' q))
 inj:∀ x y a,cl.lookup x=some a->cl.lookup y=some a->x=y
 cell:∀ x a,cl.lookup x=some a->(∃ v,h.IsCell a v)∧H a=none∧a∉fr
 val:∀ (i:Nat) x v,NL[i]?=some x->σL[i]?=some (some v)->∃ a u,cl.lookup x=some a∧cH v u∧h.IsCell a (some u)
 len:σL.length=NL.length
theorem uH.stay {h h':Heap}{H:Hp}{fr fr':List Addr}{f c':Addr}{q:Str}{params:Arguments}{body:Expr}{scope:Scope}{cl:List (Str×Addr)}{NL:List Str}{σL:St}(L:uH h H fr f c' q params body scope cl NL σL)
  (k:∀ b o,h.get? b=some o->H b=none->b∉fr->h'.get? b=some o) (hf:∀ b o,h.get? b=some o->b∉fr->b∉fr'):uH h' H fr' f c' q params body scope cl NL σL:=by
 obtain⟨pm,ctv,e⟩:=L.fn;have kc:∀ x a,cl.lookup x=some a->∀ v,h.IsCell a v->h'.IsCell a v:=fun x a hx v ⟨o,ho,hd⟩=>⟨o,k a o ho (L.cell x a hx).2.1 (L.cell x a hx).2.2,hd⟩;refine⟨⟨pm,ctv,k _ _ e L.fH L.ff⟩,L.fH,hf _ _ e L.ff,L.code,L.inj,fun x a hx=>?_,fun i x v h1 h2=>?_,L.len⟩
 ·obtain⟨⟨v,hv⟩,h1,h2⟩:=L.cell x a hx;obtain⟨o,ho,_⟩:=id hv;exact⟨⟨v,kc x a hx v hv⟩,h1,hf a o ho h2⟩
 ·obtain⟨a,u,hx,r,hc⟩:=L.val i x v h1 h2;exact⟨a,u,hx,r,kc x a hx _ hc⟩
structure rX (scope:Scope) (cl:List (Str×Addr)) (NL:List Str):Prop where
 kind:scope.kind=.function
 co:scope.isCoroutine=false
 gen:scope.isGenerator=false
 cell:∀ x∈scope.names,x.2≠.cell
 has:∀ x,scope.names.lookup x=some .free->∃ a,cl.lookup x=some a
 nl:∀ x∈NL,scope.names.lookup x=some .free
def nV (X:Cx) (q:Str) (scope:Scope) (f c':Addr) (cl:List (Str×Addr)) (s:Shared) (H:Hp) (NL:List Str) (E:XK):Cx where
 prog:=X.prog
 w:=X.w
 K:=X.K
 mg:=X.mg
 base:=X.base
 A:=X.A.deeper (envX q scope s.heap.objs.size f (.ref c') cl)
 N:=NL
 s₀:=s
 H₀:=H
 env:=envX q scope s.heap.objs.size f (.ref c') cl
 outer:=X.stack
 stack:=envX q scope s.heap.objs.size f (.ref c') cl::X.stack
 ex:=[]
 fn:=fun _=>false
 calm:=true
 pn:=[]
 xe:=fun e s'=>wpAny (model X.prog X.w) (X.A.deeper (envX q scope s.heap.objs.size f (.ref c') cl)) (leaving (envX q scope s.heap.objs.size f (.ref c') cl) e) (fun _ s''=>CXE X.prog X.w X.stack H s E e s'') (fun e' s''=>CXE X.prog X.w X.stack H s E e' s'') s'
section
variable {X:Cx}{q:Str}{scope:Scope}{f c':Addr}{cl:List (Str×Addr)}{H:Hp}{s:Shared}{NL:List Str}{E:XK}
theorem aJe:(nV X q scope f c' cl s H NL E).Body E:=⟨rfl,rfl,rfl,rfl⟩
theorem aAz {pins:List (Addr×Obj)}{σ σL:St}{k:Nat}{params:Arguments}{body:Expr}{te:TE}{Q:VK}(I:Inv X pins σ H s) (L:uH s.heap H (frs X.stack) f c' q params body scope cl NL σL) (S:rX scope cl NL) (hr:cY (k+1) X.A)
  (hba:∀ pm ctv,bindArgs (kla_fn "<lambda>" q params body scope cl pm (.ref c') ctv) ⟨[],[]⟩=pure []) (hb:PE (nV X q scope f c' cl s H NL E) body te) (hq:te σL H Q) :
  codeAny (model X.prog X.w) X.A (.call (.ref f) ⟨[],[]⟩) (CR (CXE X.prog X.w) X.stack X.prog X.w H s Q E) s:=by
 obtain⟨pm,ctv,ho⟩:=L.fn;obtain⟨⟨oc,vs,t,e1,e2,e3⟩,_,_⟩:=(show dD X.prog X.w H s.heap c' (.ext (iT c' q)) from I.hok c' _ L.code)
 refine kla_callFunE hr.depth ho rfl S.co S.gen rfl ⟨c',oc,vs,t,rfl,e1,e2,e3⟩ ?_;rw[hba];refine wpAny_pure (wpAny_newFunctionEnv S.cell (by intro y hy; simp at hy) (fun h₁ hns hsb=>?_) S.kind);have hk:∀ b o,s.heap.get? b=some o->h₁.get? b=some o:=fun b o e=>hsb.extBut b o (Nat.ne_of_lt (Heap.lt_size e)) (Heap.get?_push_of_some _ e);refine⟨I.nolimit.keeps hk,?_⟩;have kc:∀ a v,s.heap.IsCell a v->h₁.IsCell a v:=fun a v ⟨o,h1,h2⟩=>⟨o,hk a o h1,h2⟩
 have J:Inv (nV X q scope f c' cl s H NL E) [] σL H { s with heap:=h₁,toks:=s.toks+([]:List (Str×Value)).length }:=by
  refine⟨⟨I.ok.mod,S.kind,rfl,rfl,Nat.le_refl _,L.inj,fun x hx=>?_,fun x c z _=>absurd z (by show ¬ false=true; decide),fun _=>hr.hd,Around.frames_deeper I.ok.frames,.inr ⟨rfl,rfl⟩,fun b z=>absurd (show b∈([]:List Addr) from z) (by simp),I.bs,Nat.le_trans I.ok.bsz I.sz,
   fun b _ _ z=>absurd (show b∈([]:List Addr) from z) (by simp),fun b z=>absurd (show b∈([]:List Addr) from z) (by simp),I.stack,I.stkFree⟩,
   rfl,I.bare,Un.kept hk,⟨_,hns,fun i x v h1 h2 h3=>?_⟩,fun x c e=>?_,I.hok.fresh (Nat.le_refl _),fun x c e=>(L.cell x c e).2.1,fun p hp=>absurd (show p∈([]:List (Addr×Obj)) from hp) (by simp),I.hok.kept hk,L.len⟩
  ·have hx:scope.names.lookup x=some .cell∨scope.names.lookup x=some .free:=hx;rcases hx with hx | hx
   ·exact absurd rfl (S.cell _ (PySem.mem_of_lookup hx))
   ·exact S.has x hx
  ·obtain⟨a,u,hx,r,hc⟩:=L.val i x v h1 h2;exact⟨u,r,.inr ⟨.inr (S.nl x (List.mem_of_getElem? h1)),a,hx,kc a _ hc⟩⟩
  ·obtain⟨⟨v,hv⟩,_⟩:=L.cell x c e;exact⟨v,kc c v hv⟩
 show codeAny _ _ (.expr body (envX q scope s.heap.objs.size f (.ref c') cl)) _ _;refine kla_codeExpr (wpAny_mono (hb [] _ σL H Q J hq) (fun v s' ⟨x,H',J',r,q'⟩=>?_) fun e s' h=>h);exact⟨x,H',J'.os,J'.bare,J'.base,J'.hok,r,q'⟩
end
end L2
namespace L2
open PySem PySem.Spec PySem.Calls PyProof.Rows PySem.W
section
variable {P:Program}{w:World}{K:Frag}{mg:Str->Option Value}{base:Heap}
theorem aGq {CX:CXT}{x qual:Str}{st:Stmt}{f:Addr}{fd:FuncData}{N ps:List Str}{k:Nat}(F:Fun K x qual st f fd) (S:aS N ps (aB st)){A:Around}{outer:List Env}{s:Shared}{H:Hp}{args:Args}{us:List Value}{vs:List V}{Q:VK}{E:XK}
  (hr:cY (k+1) A) (e0:sN P w K mg base A outer s H) (hb:BindsTo s fd args (ps.zip us)) (hl:vs.length=ps.length) (r:cB vs us)
  (hbody:∀ cdv,cY k (A.deeper (envOfC qual (aB st) s.heap.objs.size f cdv))->∃ t,PSs (iH CX P w K mg base N qual (aB st) f cdv A outer s H E) (aF st) t∧t { nx:=fun _ H'=>Q .non H',rt:=Q } (start N vs) H) :
  codeAny (model P w) A (.call (.ref f) args) (CR CX outer P w H s Q E) s:=by
 obtain⟨oc,od,kV,doc,pm,an,cdv,ct,osl,rfl,lk,hcd⟩:=F.ex;have KX:K.In s.heap:=e0.mod.kin.keeps fun b o e=>(e0.bs b o e).1;have lim:s.heap.NoLimit:=e0.mod.nolimit.keeps fun b o e=>(e0.bs b o e).1
 have hkind:∀ y∈ps.zip us,(aB st).names.lookup y.1=some .local∨((aB st).names.lookup y.1=some .cell∧((cellsFrom (s.heap.objs.size+1) (aB st).names []).lookup y.1).isSome=true):=fun ⟨n,v⟩ hy=>by
  rcases S.par n (List.of_mem_zip hy).1 with q | q
  ·exact .inl q
  ·exact .inr ⟨q,cellsFrom_some _ _ _ (.inl q)⟩
 refine codeAny_call_function hr.depth (KX _ _ lk) rfl S.co S.gen rfl (codeRec_of KX hcd) (hb _ _ _ _ ?_);refine wpAny_newFunctionEnv_cells S.kind hkind fun env he s1 x=>?_;subst he;refine⟨lim.keeps x.toInCall.keep,codeAny_func ?_⟩;obtain⟨t,ht,hq⟩:=hbody cdv (hr.deeper _);have I:Inv (iH CX P w K mg base N qual (aB st) f cdv A outer s H E) [] (start N vs) H s1:=pF S hr.hd e0 hl r x;refine wpAny_mono (ht [] s1 (start N vs) H _ I hq) (fun fl s' hs=>?_) fun e s' hs=>hs
 have fin:∀ {σ':St}{H':Hp}{v:V}{u:Value},Inv (iH CX P w K mg base N qual (aB st) f cdv A outer s H E) [] σ' H' s'->cH v u->Q v H'->CE outer P w H s Q u s':=
  fun {σ' H' v u} J rv q=>⟨v,H',J.os,J.bare,J.base,J.hok,rv,q⟩
 cases fl with
 | ret u=>obtain⟨v,σ',H',J,rv,q⟩:=hs; exact fin J rv q
 | next=>obtain⟨σ',H',J,q⟩:=hs; exact fin (v:=V.non) (u:=Value.none) J rfl q
 | brk=>obtain⟨_,_,_,q⟩:=hs; exact False.elim q
 | cont=>obtain⟨_,_,_,q⟩:=hs; exact False.elim q
end
abbrev NT:List Str:=["_law_deed","_law_e"]
abbrev cxT (X:Cx) (sc:Scope) (ft:Addr) (cdv:Value) (A:Around) (outer:List Env) (s:Shared) (H:Hp) (pn:List (Addr×Obj)) (E:Value->Shared->Prop):Cx:=
 ((iH CX0 X.prog X.w X.K X.mg X.base NT "_law_tried" sc ft cdv A outer s H E0).nox).pinned pn E
def aJh (st:Stmt):Prop:=∃ p1 p2 p3 p4 p5 p6 p7 p8 p9 p10 p11 p12 j,aF st =
 [.Try [.Expr (.Call (.Name "_law_deed" p1) [] [] p2) p3] [.ExceptHandler (some (.Name "WardError" p4)) (some "_law_e") [.Return (some (.Call (.Name "_law_word" p5) [.Name "_law_e" p6] [] p7)) p8] p9] [] [] p10,.Return (some (.Constant (.str "") j p11)) p12]
inductive yF (word:Addr->Option Str) (vs:List V) (H:Hp) (Q:VK) (x3_:XK):Prop
 | mk (e:_) (C:_) (x:_) (h0_:vs=[.ref e]) (h1_:aBi H e C) (h2_:word C=some x) (h3_:∀ H',aP H H'->Q (.str x) H')
structure aBg (X:Cx) (st:Stmt) (ft:Addr) (fdt:FuncData) (W fw:Addr) (fdw:FuncData) (word:Addr->Option Str):Prop where
 fn:Fun X.K "_law_tried" "_law_tried" st ft fdt
 sc:aS NT ["_law_deed"] (aB st)
 is:aJh st
 b:bJ X.K fdt ["_law_deed"] []
 m:X.mg "_law_tried"=some (.ref ft)
 mW:X.mg "WardError"=some (.ref W)
 mw:X.mg "_law_word"=some (.ref fw)
 kw:keepIn X.K (.ref fw)=true
 bw:bJ X.K fdw ["_law_e"] []
 ok:xY X.prog X.w X.K X.mg X.base 1 fw fdw ["_law_e"] (yF word)
 k0:(aB st).names.lookup ("_law_deed" : Str)=some .local
 k1:(aB st).names.lookup ("_law_e" : Str)=some .local
 k2:(aB st).names.lookup ("WardError" : Str)=some .globalImplicit
 k3:(aB st).names.lookup ("_law_word" : Str)=some .globalImplicit
 wk:∀ C x,word C=some x->exmOne X.K (.ref C) (.ref W)=some true
inductive ExW (word:Addr->Option Str) (Q:VK) (cls:Value) (H:Hp):Prop
 | mk (C:Addr) (x:Str) (h1:cls=.ref C) (h2:word C=some x) (q:∀ H',aP H H'->Q (.str x) H')
def iC (word:Addr->Option Str) (Q:VK):XK:=fun cls _ H=>ExW word Q cls H
section
variable {X:Cx}
theorem rA {Y:Cx}{x:Str}{p pos:Pos}{i:Nat}{f:Addr}{H₁:Hp}{R:VK->Prop}{Ew:XK}(hN:Y.N[i]?=some x) (hv:Y.env.scope.names.lookup x=some .local) (hpass:gN (CXE Y.prog Y.w) Y Ew)
  (run:∀ pins s σ Q,Inv Y pins σ H₁ s->R Q->FnAt f s.heap∧codeAny (model Y.prog Y.w) Y.A (.call (.ref f) ⟨[],[]⟩) (CR (CXE Y.prog Y.w) Y.stack Y.prog Y.w H₁ s Q Ew) s)
  (hd:(x==("__debug__" : Str))=false:=by decide) (hcd:(x==("__classdict__" : Str))=false:=by decide) :
  PE Y (.Call (.Name x p) [] [] pos) (fun σ H Q=>H=H₁∧σ[i]?=some (some (.ref f))∧R Q):=by
 intro pins s σ H Q I h;obtain⟨rfl,he,hq⟩:=h;refine wpAny_Call_Name_kw (thn (qY hN (.inl hv) hd hcd pins s σ H (fun v H'=>v=.ref f∧H'=H) I ⟨_,he,rfl,rfl⟩) fun u s1 h1=>?_);obtain⟨v,H',I1,r1,rfl,rfl⟩:=h1;cases r1;obtain⟨fa,hc⟩:=run pins s1 σ Q I1 hq;refine callWith_F0 fa (wpAny_call (codeAny_mono hc fun r s' hq'=>?_));cases r with
 | error e=>exact hpass pins σ H' s1 e s' I1 hq'
 | ok fl=>
  cases fl with
  | ret u=>exact I1.after hq'
  | next=>exact False.elim hq'
  | brk=>exact False.elim hq'
  | cont=>exact False.elim hq'
structure aHe (scope:Scope) (NL:List Str):Prop where
 kind:scope.kind=.function
 co:scope.isCoroutine=false
 gen:scope.isGenerator=false
 cell:∀ x∈scope.names,x.2≠.cell
 nl:∀ x∈NL,scope.names.lookup x=some .free
inductive aDz (P:Addr) (pos:Pos) (q:Str) (word:Addr->Option Str) (js:List Nat) (te:XK->TE) (σ:St) (H:Hp) (Q:VK):Prop
 | mk (ps:_) (h0_:H P=some (.tbl ps)) (h1_:TriplesOk ps.toList) (h2_:codeAmong pos ps.toList=none) (h3_:∀ c' H1,H c'=none->c'≠P->H1=upd (upd H P (.tbl (ps++#[rawInt pos.line,rawInt pos.col,.ref c']))) c' (.ext (iT c' q))->te (iC word Q) (cN 0 js σ) H1 (fun _ H2=>Q (.str "") H2))
theorem aFd {st:Stmt}{ft W fw c P:Addr}{fdt fdw:FuncData}{word:Addr->Option Str}{params:Arguments}{body:Expr}{scope:Scope}{lpos p pos:Pos}{NL:List Str}{js:List Nat}{te:XK->TE}{k:Nat}
  (T:aBg X st ft fdt W fw fdw word) (hfn:∀ x,X.fn x=true) (hc:X.calm=true) (hr:cY (k+3) X.A) (hg:Gl X "_law_tried") (hcode:X.env.code=.ref c) (hcd:codeHdIn X.K c P=true) (bm:lA X.mg X.base)
  (S:aHe scope NL) (B:gK X scope NL 0 js) (hdef:defaultsOf params X.env=([],[])) (hba:∀ cl pm c' ctv,bindArgs (kla_fn "<lambda>" (X.env.qual++"<lambda>") params body scope cl pm (.ref c') ctv) ⟨[],[]⟩=pure [])
  (hb:∀ (Ew:XK) cdv A outer s H pn E f c' s' H',cY k (nV (cxT X (aB st) ft cdv A outer s H pn E) (X.env.qual++"<lambda>") scope f c' (dI scope X.env) s' H' NL Ew).A ->
   PE (nV (cxT X (aB st) ft cdv A outer s H pn E) (X.env.qual++"<lambda>") scope f c' (dI scope X.env) s' H' NL Ew) body (te Ew)) :
  PE X (.Call (.Name "_law_tried" p) [.Lambda params body scope lpos] [] pos) (aDz P lpos (X.env.qual++"<lambda>") word js te):=by
 intro pins s σ H Q I h;obtain⟨ps,hP,ht,hnf,hte⟩:=h;refine wpAny_Call_Name_kw (iP I hg T.m ?_);refine callWith_K (h₀:=X.base) I.ok.mod.kin T.fn.kp ?_ (cL rfl) rfl;rw[cL rfl];show wpAny _ _ (spliced ((false,eval (.Lambda params body scope lpos) X.env)::backTo pos (starEach [] X.env))) _ _ s;refine Calls.spliced_cons (aGh I hcode hcd bm hP ht hnf hdef B.cel fun f c' pm ctv s1 I1 hc0 hcP hcf hcs hold hfo=>?_);refine Calls.spliced_nil ⟨I1.kIn,?_⟩;generalize hH1:upd (upd H P (.tbl (ps++#[rawInt lpos.line,rawInt lpos.col,.ref c']))) c' (.ext (iT c' (X.env.qual++"<lambda>")))=H1 at I1;have hq:=hte c' H1 hc0 hcP hH1.symm;have hcl:∀ n∈dF scope,∃ a,X.env.cells.lookup n=some a:=fun n hn=>I.ok.has n (B.cel n hn);have cl1:∀ x a,(dI scope X.env).lookup x=some a->X.env.cells.lookup x=some a:=iQ (dF scope) [] hcl fun x a e=>by simp at e
 have hfree:∀ x,scope.names.lookup x=some .free->x∈dF scope:=fun x e=>List.mem_map.mpr ⟨(x,.free),List.mem_filter.mpr ⟨PySem.mem_of_lookup e,by simp⟩,rfl⟩;have h1none:∀ b,H b=none->b≠P->b≠c'->H1 b=none:=fun b n h1 h2=>by rw[← hH1,aI h2,aI h1]; exact n
 have hPs:P<s.heap.objs.size:=I.hok.lt hP;have hsf:s.heap.objs.size<=f:=Nat.le_trans hcs (Nat.le_of_lt hcf)
 have stkLt:∀ b∈frs X.stack,b<s.heap.objs.size:=fun b hb=>by
  obtain⟨_,o,ho,_⟩:=I.stack.mem hb;exact Heap.lt_size ho
 have hcell:∀ x a,X.env.cells.lookup x=some a->a<s.heap.objs.size∧a≠P∧a≠c'∧a∉frs X.stack:=fun x a e=>by
  obtain⟨v,hv⟩:=I.cell x a e;have la:=hv.lt;refine⟨la,fun z=>?_,Nat.ne_of_lt (Nat.lt_of_lt_of_le la hcs),fun z=>?_⟩
  ·have:=I.freeC x a e
   rw[z,hP] at this;cases this
  ·rcases List.mem_cons.mp (I.stkSub a z) with z | z
   ·exact I.cne x a e z
   ·obtain⟨_,o,ho,_⟩:=I.ok.funs.mem z;exact absurd (Nat.lt_of_lt_of_le (Heap.lt_size ho) (I.ok.cab x a (hfn x) e)) (Nat.lt_irrefl _)
 have L1:uH s1.heap H1 (frs X.stack) f c' (X.env.qual++"<lambda>") params body scope (dI scope X.env) NL (cN 0 js σ):=by
  refine⟨⟨pm,ctv,hfo⟩,h1none f (I.hok.fresh hsf) (Nat.ne_of_gt (Nat.lt_of_lt_of_le hPs hsf)) (Nat.ne_of_gt hcf),fun z=>?_,by rw[← hH1,aD],fun x y a e1 e2=>I.ok.inj x y a (cl1 x a e1) (cl1 y a e2),fun x a e=>?_,fun i x v e1 e2=>?_,?_⟩
  ·exact absurd (Nat.lt_of_lt_of_le (stkLt f z) hsf) (Nat.lt_irrefl _)
  ·have e':=cl1 x a e;obtain⟨la,n1,n2,n3⟩:=hcell x a e';obtain⟨v,o,ho,hd⟩:=I.cell x a e';exact⟨⟨v,o,hold a o n1 ho,hd⟩,h1none a (I.freeC x a e') n1 n2,n3⟩
  ·unfold cN at e2;rw[List.replicate_zero,List.nil_append,List.getElem?_map] at e2;cases hj:js[i]? with
   | none=>rw[hj] at e2; cases e2
   | some j=>
    rw[hj] at e2;have e2:some ((σ[j]?).join)=some (some v):=e2
    have e3:σ[j]?=some (some v):=by
     cases z:σ[j]? with
     | none=>rw[z] at e2; cases e2
     | some y=>rw[z] at e2; cases y with
      | none=>cases e2
      | some y=>cases e2; rfl
    have e4:X.N[j]?=some x:=by rw[B.at' i j hj,Nat.zero_add]; exact e1
    obtain⟨hfr,_⟩:=B.fre i x (Nat.zero_le _) e1;have kx:=B.cel x hfr;obtain⟨m,hm,hl⟩:=I.loc;obtain⟨u,r,l⟩:=hl j x v e4 e3 (by rcases kx with z | z; exact .inr (.inl z); exact .inr (.inr z));rcases l with⟨kk,_⟩ | ⟨kk,a,ea,o,ho,hd⟩
    ·rcases kx with k' | k' <;> rw[kk] at k' <;> cases k'
    ·obtain⟨a',ha'⟩:=iD (env:=X.env) (dF scope) [] x (.inl hfr)
     have:=cl1 x a' ha'
     rw[ea] at this;cases this;exact⟨a,u,ha',r,o,hold a o (hcell x a ea).2.1 ho,hd⟩
  ·unfold cN;rw[List.replicate_zero,List.nil_append,List.length_map,B.len,Nat.zero_add]
 have SL:rX scope (dI scope X.env) NL:=⟨S.kind,S.co,S.gen,S.cell,fun x e=>iD (env:=X.env) (dF scope) [] x (.inl (hfree x e)),S.nl⟩;have hr1:cY (k+2+1) X.A:=hr
 have bt:BindsTo s1 fdt ⟨[.ref f],[]⟩ ((["_law_deed"]:List Str).zip [.ref f]):=by
  have:=T.b s1 [.ref f] I1.kIn rfl
  exact this
 refine wpAny_call (codeAny_mono (aGq (CX:=CX0) (E:=E0) (Q:=Q) (vs:=[.ref f]) T.fn T.sc hr1 I1.env0 bt rfl (.cons rfl .nil) fun cdv hr2=>?_) fun r s' hq'=>?_)
 ·obtain⟨p1,p2,p3,p4,p5,p6,p7,p8,p9,p10,p11,p12,j,hbod⟩:=T.is;rw[hbod];have rw1:lY 1 (X.A.deeper (envOfC "_law_tried" (aB st) s1.heap.objs.size ft cdv)):=⟨by have:=hr2.dp; omega,by have:=hr2.un; omega⟩
  let Y:Cx:=(iH CX0 X.prog X.w X.K X.mg X.base NT "_law_tried" (aB st) ft cdv X.A X.stack s1 H1 E0).nox
  have run:∀ pn E,∀ (pl:List (Addr×Obj)) (s2:Shared) (σ2:St) (Q':VK),Inv (Y.pinned pn E) pl σ2 H1 s2->te (iC word Q) (cN 0 js σ) H1 Q' ->
    FnAt f s2.heap∧codeAny (model X.prog X.w) Y.A (.call (.ref f) ⟨[],[]⟩) (CR (CXE X.prog X.w) Y.stack X.prog X.w H1 s2 Q' (iC word Q)) s2:=by
   intro pn E pl s2 σ2 Q' J hR
   have L2':=L1.stay (h':=s2.heap) (fr':=frs Y.stack) (fun b o e n hb=>J.base.keep b o e n hb (by show b∉([]:List Addr); simp)) (fun b o e hb z=>by
    rcases List.mem_cons.mp (show b∈s1.heap.objs.size::frs X.stack from z) with z | z
    ·exact absurd (Heap.lt_size e) (by rw[z]; exact Nat.lt_irrefl _)
    ·exact hb z)
   obtain⟨pm',ctv',ho'⟩:=L2'.fn;exact⟨⟨_,_,_,_,ho'⟩,aAz (X:=Y.pinned pn E) (k:=k) J L2' SL (hr2.mono (by omega)) (fun pm ctv=>hba _ pm c' ctv) (hb _ _ _ _ _ _ _ _ _ _ _ _ (cY.deeper (hr2.mono (by omega)) _)) hR⟩
  have try1:=aFa (X:=Y) (x:="WardError") (n:="_law_e") (W:=W) (np:=p4) (hpos:=p9) (pos:=p10) (i:=1) (iC word Q) ⟨rfl,rfl⟩ rfl T.sc.nd rfl T.k1 T.k2 T.mW
   (fun pn E hp=>aL (cW (pos:=p3) (rA (Y:=Y.pinned pn E) (x:="_law_deed") (p:=p1) (pos:=p2) (i:=0) (f:=f) (H₁:=H1) (R:=fun Q'=>te (iC word Q) (cN 0 js σ) H1 Q') rfl T.k0 hp (run pn E)) rfl))
   (fun e pn=>aL (bV (pos:=p8) (wQ (X:=Y.caught e pn) (x:="_law_word") (p:=p5) (pos:=p7) T.ok ⟨rw1.dp,rw1.un⟩ T.k3 T.mw T.kw T.bw (pac (qY (X:=Y.caught e pn) (x:="_law_e") (pos:=p6) (i:=1) rfl (.inl T.k1)) aJ))))
  refine⟨_,PSs.nox (X:=iH CX0 X.prog X.w X.K X.mg X.base NT "_law_tried" (aB st) ft cdv X.A X.stack s1 H1 E0) (aK try1 (aL (bV aY))),⟨rfl,rfl,hq⟩,?_⟩
  ·intro cls H2 ⟨C,x,e1,e2,e3⟩;refine⟨C,e1,T.wk C x e2,fun e σ1 hl he=>⟨_,?_,e,C,x,rfl,aD,e2,fun H3 sm=>e3 H3 fun b o z=>sm b o (by rw[aI (aG z he)]; exact z)⟩⟩;have hl2:σ1.length=2:=hl;exact List.getElem?_set_self (by omega)
 ·cases r with
  | error e=>exact False.elim hq'
  | ok fl=>
   cases fl with
   | ret u=>exact I1.after hq'
   | next=>exact False.elim hq'
   | brk=>exact False.elim hq'
   | cont=>exact False.elim hq'
end
end L2
namespace L2
open PySem PySem.Spec PySem.Calls PyProof.Rows PySem.W
theorem aCw {P:Program}{w:World}{K:Frag}{mg mb:Str->Option Value}{CX:CXT}{k:Nat}{fa a:Addr}{fd:FuncData}{x:Str}{sp:Sp}{s₁:Shared}{vs:List Value}{ns:List Int}{tabs:List (Addr×Addr)}
  (KX:K.In s₁.heap) (hns:s₁.heap.Ns mainGlobals mg) (hb:s₁.heap.Ns builtinsNs mb) (hbb:∀ x:Str,x≠"__name__" -> mb x=bootBuiltins x) (hlim:s₁.heap.NoLimit) (hg:s₁.gens=#[])
  (htab:∀ q∈tabs,codeHdIn K q.1 q.2=true∧K.lookup q.2=none∧s₁.heap.get? q.2=some (tabObj #[]))
  (hbm:∃ bm ob,mg "__builtins__" = some (.ref bm)∧bm≠builtinsNs∧s₁.heap.get? bm=some ob∧ob.cls=.type "module" ∧ ob.dict=some builtinsNs∧ob.data=.plain)
  (ha:s₁.heap.get? a=some { cls:=.type "list",data:=.seq vs.toArray }) (hi:IntsAre vs ns) (hl:ns.length<=sizeLine) (hr:cY k callerA)
  (F:∀ base:Heap,K.In base->base.Ns mainGlobals mg->lA mg base->aX P w K mg base CX k fa fd [x] sp) (hbind:∀ (s:Shared) (u:Value),BindsTo s fd ⟨[u],[]⟩ [(x,u)])
  (hsp:∀ H:Hp,(∀ q∈tabs,H q.2=some (.tbl #[]))->SqL K H a (ns.map V.int)->sp [.ref a] H (fun v _=>v=.bl true) fun _ _ _=>False)
  (hCX:∀ H e s',CX [] H s₁ (fun _ _ _=>False) e s'->False) :
  codeAny (model P w) callerA (.call (.ref fa) ⟨[.ref a],[]⟩) (fun r s'=>r=.ok (.ret (.bool true))∧OldK s₁.heap s'.heap∧s'.os=s₁.os∧AllBare s'.gens) s₁:=by
 have rv:=sQ hi;have lenV:=hi.length
 have core:∀ H:Hp,SqL K H a (ns.map V.int)->HOk P w H s₁.heap->(∀ q∈tabs,H q.2=some (.tbl #[]))->(∀ b u,H b=some u->(∃ q∈tabs,b=q.2)∨(b=a∧K.lookup a=none∧∃ o ys,u=.frz o (.lst ys))) ->
   codeAny (model P w) callerA (.call (.ref fa) ⟨[.ref a],[]⟩) (fun r s'=>r=.ok (.ret (.bool true))∧OldK s₁.heap s'.heap∧s'.os=s₁.os∧AllBare s'.gens) s₁:=by
  intro H hS hok hT hA
  -- what is tracked is the script or a table
  have noA:∀ {b:Addr}{o:Obj},s₁.heap.get? b=some o->(∀ ws,o.data≠.fields ws)->(∀ ws n,o.data≠.seq ws n)->H b=none:=fun {b o} e d1 d2=>by
   cases z:H b with
   | none=>rfl
   | some u=>
    rcases hA b u z with⟨q,hq,rfl⟩ | ⟨rfl,_⟩
    ·have:=(htab q hq).2.2
     rw[e] at this;cases this;exact absurd rfl (d1 #[])
    ·rw[ha] at e;cases e;exact absurd rfl (d2 vs.toArray 0)
  have nsK:∀ {b:Addr}{m:Str->Option Value},s₁.heap.Ns b m->(vA s₁.heap H).Ns b m:=fun {b m} ⟨o,es,ep,e,d,r⟩=>⟨o,es,ep,rL e (noA e (fun ws z=>by rw[d] at z; cases z) fun ws n z=>by rw[d] at z; cases z),d,r⟩
  have hKb:K.In (vA s₁.heap H):=fun b o e=>rL (KX b o e) (by
   cases z:H b with
   | none=>rfl
   | some u=>
    rcases hA b u z with⟨q,hq,rfl⟩ | ⟨rfl,hk,_⟩
    ·rw[(htab q hq).2.1] at e; cases e
    ·rw[hk] at e; cases e)
  have hM:Mod K mg (vA s₁.heap H):=⟨hKb,nsK hns,⟨mb,nsK hb,hbb⟩,let ⟨mc,h1,h2⟩:=hlim; ⟨mc,nsK h1,h2⟩⟩
  have hB:lA mg (vA s₁.heap H):=by
   obtain⟨bm,ob,b1,b2,b3,b4,b5,b6⟩:=hbm;exact⟨bm,ob,b1,b2,rL b3 (noA b3 (fun ws z=>by rw[b6] at z; cases z) fun ws n z=>by rw[b6] at z; cases z),b4,b5,b6⟩
  have e0:sN P w K mg (vA s₁.heap H) callerA [] s₁ H:=⟨rfl,hM,fun b o e=>aIk e,Nat.le_of_eq (aDc _ _),trivial,fun b hb=>absurd (show b∈([]:List Addr) from hb) (by simp),hok,.of_eq hg⟩
  refine codeAny_mono ((F _ hKb (nsK hns) hB).run callerA [] s₁ H ⟨[.ref a],[]⟩ [.ref a] [.ref a] _ _ hr e0 (hbind s₁ (.ref a)) (.cons rfl .nil) (hsp H hT hS)) fun r s' h=>?_;cases r with
  | error e=>exact (hCX H e s' h).elim
  | ok fl=>
   cases fl with
   | next=>exact False.elim h
   | brk=>exact False.elim h
   | cont=>exact False.elim h
   | ret u=>
    obtain⟨v,H',os,bare,un,hok',r',q⟩:=h;have q':v=.bl true:=q;subst q';obtain rfl:u=Value.bool true:=r';refine⟨rfl,⟨fun b o e=>?_,fun b o e=>un.there b o e (by simp)⟩,os,bare⟩;cases z:H b with
    | none=>exact .inl (un.keep b o e z (by intro y; exact absurd (show b∈([]:List Addr) from y) (by simp)) (by simp))
    | some u=>
     rcases hA b u z with⟨q,hq,rfl⟩ | ⟨_,_,ob,ys,rfl⟩
     ·obtain⟨hc,_,hP⟩:=htab q hq;obtain⟨more,z2⟩:=un.tbls q.2 #[] (hT q hq);have e2:s'.heap.get? q.2=some { cls:=.none,data:=.fields (#[]++more) }:=hok' q.2 _ z2;rw[hP] at e;cases e;exact .inr (.inl ⟨((codeHd_of_K KX hc).tab hP).isCodeTable,rfl,#[],more,rfl,e2⟩)
     ·have z2:=un.frzs b ob _ z;obtain⟨e1,_⟩:=hok b _ z;obtain⟨e2,_⟩:=hok' b _ z2;rw[e] at e1;cases e1;exact .inl e2
 have aT:∀ q∈tabs,q.2≠a:=fun q hq z=>by
  have:=(htab q hq).2.2
  rw[z,ha] at this;cases this
 cases hk:K.lookup a with
 | some o=>
  have e:=KX a o hk;rw[ha] at e;cases e;refine core (fun b=>if b∈tabs.map (·.2) then some (.tbl #[]) else none) (.inr ⟨_,vs.toArray,_,hk,rfl,rfl,rfl,by rw[List.size_toArray,lenV]; exact hl,by simpa using rv⟩) (fun b u z=>?_) (fun q hq=>if_pos (List.mem_map_of_mem hq)) fun b u z=>?_
  ·by_cases hb:b∈tabs.map (·.2)
   ·have z':=(if_pos hb).symm.trans z;cases z';obtain⟨q,hq,rfl⟩:=List.mem_map.mp hb;exact (htab q hq).2.2
   ·have z':=(if_neg hb).symm.trans z;cases z'
  ·by_cases hb:b∈tabs.map (·.2)
   ·obtain⟨q,hq,rfl⟩:=List.mem_map.mp hb;exact .inl ⟨q,hq,rfl⟩
   ·have z':=(if_neg hb).symm.trans z;cases z'
 | none=>
  refine core (fun b=>if b∈tabs.map (·.2) then some (.tbl #[]) else if b=a then some (.frz { cls:=.type "list",data:=.seq vs.toArray } (.lst (ns.map V.int))) else none) ?_ (fun b u z=>?_) (fun q hq=>if_pos (List.mem_map_of_mem hq)) fun b u z=>?_
  ·refine .inl (.inr ⟨{ cls:=.type "list",data:=.seq vs.toArray },?_⟩)
   have na:a∉tabs.map (·.2):=fun z=>by
    obtain⟨q,hq,e⟩:=List.mem_map.mp z;exact aT q hq e
   exact (if_neg na).trans (if_pos rfl)
  ·by_cases hb:b∈tabs.map (·.2)
   ·have z':=(if_pos hb).symm.trans z;cases z';obtain⟨q,hq,rfl⟩:=List.mem_map.mp hb;exact (htab q hq).2.2
   ·have z':=(if_neg hb).symm.trans z
    by_cases hba:b=a
    ·have z'':=(if_pos hba).symm.trans z';cases z'';subst hba;exact⟨ha,by rw[List.length_map]; exact hl,vs,_,rv,ha⟩
    ·have z'':=(if_neg hba).symm.trans z';cases z''
  ·by_cases hb:b∈tabs.map (·.2)
   ·obtain⟨q,hq,rfl⟩:=List.mem_map.mp hb;exact .inl ⟨q,hq,rfl⟩
   ·have z':=(if_neg hb).symm.trans z
    by_cases hba:b=a
    ·have z'':=(if_pos hba).symm.trans z';cases z'';exact .inr ⟨hba,hk,_,_,rfl⟩
    ·have z'':=(if_neg hba).symm.trans z';cases z''
theorem walk_ofT {l:OpenLaw}{n k:Nat}{q:Program}{loose:List Str}{XP:(Str->Option Value)->Heap->Prop}{YP:World->Heap->Prop}{d:DefRec}{K:Params->Frag}{sp:World->Sp}{x:Str}(tabs:List (Addr×Addr))
  (hn:l.most=some n) (hn2:n<=sizeLine) (hdf:d.params.defaults=[]) (hr:cY k callerA)
  (hY:∀ (w:World) (h:Heap),YP w h->(K w.params).In h∧∀ p∈tabs,h.get? p.2=some (tabObj #[]))
  (hK:∀ (w:World),∀ p∈tabs,codeHdIn (K w.params) p.1 p.2=true∧(K w.params).lookup p.2=none)
  (F:∀ (w:World) (mg:Str->Option Value) (fa:Addr) (h:Heap),(K w.params).In h->h.Ns mainGlobals mg->mg d.name=some (.ref fa) ->
   ∃ fd:FuncData,(∀ (s:Shared) (u:Value),BindsTo s fd ⟨[u],[]⟩ [(x,u)]) ∧
    ∀ base:Heap,(K w.params).In base->base.Ns mainGlobals mg->lA mg base->aX l.prog w (K w.params) mg base CX0 k fa fd [x] (sp w))
  (hsp:∀ (w:World) (H:Hp) (a:Addr) (ns:List Int),ns.length<=n->(∀ p∈tabs,H p.2=some (.tbl #[]))->SqL (K w.params) H a (ns.map V.int)->sp w [.ref a] H (fun v _=>v=.bl true) fun _ _ _=>False) :
  WalkO q loose XP YP l.row.toRowW d [] (fun f vs=>PySem.call f vs):=by
 refine Att.attach_call hn hdf fun w s₀ s₁ mg mb fa o pm cd doc a vs ns G Y ho hd hcd hmg hobj hints hlen hg=>?_;obtain⟨KX,hts⟩:=hY w _ Y;obtain⟨fd,hb,hF⟩:=F w mg fa _ KX G.T.g hmg;exact aCw (tabs:=tabs) KX G.T.g G.T.b G.T.builtins G.T.nolimit hg (fun p hp=>⟨(hK w p hp).1,(hK w p hp).2,hts p hp⟩) G.T.bmain hobj hints (Nat.le_trans hlen hn2) hr hF hb (fun H hT hS=>hsp w H a ns hlen hT hS) fun H e s' z=>z
end L2
namespace L2
open PySem PySem.Spec PySem.Calls PyProof.Rows PySem.W
section
variable {X:Cx}
theorem jE:∀ {ss:List Str}{us:List Value},cB (ss.map V.str) us->StrsAre us ss
 | [],_,r=>by rw[List.map_nil] at r; cases r; exact .nil
 | x::ss,_,r=>by
  rw[List.map_cons] at r;cases r with
  | cons r1 r2=>
   obtain⟨t,rfl⟩:=r1;exact .cons _ _ (jE r2)
theorem lB:∀ {us:List Value}{ss:List Str},StrsAre us ss->cB (ss.map V.str) us
 | _,_,.nil=>.nil
 | _,_,.cons _ t r=>.cons ⟨t,rfl⟩ (lB r)
inductive aJj (K:PySem.W.Frag) (xs:List V) (H:Hp) (Q:VK):Prop
 | mk (a:Addr) (ss:List Str) (h0_:xs=[.ref a]) (h1_:SqL K H a (ss.map V.str)) (h2_:ss.length<64) (h3_:∀ (p:Addr) (ss':List Str),H p=none->ss'.Perm ss->sortedS ss'=true->Q (.ref p) (upd H p (.lst (ss'.map V.str))))
theorem nW:CallR X (.builtin "sorted") (aJj X.K):=by
 intro pins s σ H xs us Q I r h;obtain⟨a,ss,rfl,hs,h64,q⟩:=h;obtain⟨u,rfl,rx⟩:=iU r;cases rx;obtain⟨its,rv,pl,hz⟩:=I.list hs;have hl:its.length=ss.length:=by rw[← rv.length,List.length_map]
 refine sorted_strs pl.isList (jE rv) (by omega) fun out ss' a1 a2 a3=>?_;obtain⟨e,he⟩:=sortedAll_at s.heap its out;have hn:H (s.heap.objs.size+1)=none:=I.hok.fresh (Nat.le_succ _);refine⟨.ref (s.heap.objs.size+1),_,I.laid (t':=s.toks) (fun b o z=>sortedAll_old z) (Nat.le_succ _) ?_,rfl,q _ ss' hn a2 a3⟩;have hl':ss'.length=ss.length:=a2.length_eq;exact⟨by rw[List.length_map,hl',sizeLine_eq]; omega,out.toList,e,lB a1,he⟩
def aPh:V->Hp->VK->Prop:=fun x H Q=>∃ z,x=.str z∧z.length<=sizeLine∧Q (.str z) H
theorem aKv {e:Expr}{te:TE}{pos:Pos}(he:PE X e te):PE X (.FormattedValue e (-1) none pos) (tUn aPh te):=by
 intro pins s σ H Q I h;refine FormattedValue_plain (thn (he pins s σ H _ I h) fun v s1 ⟨x,H1,I1,r1,z,e1,hz,q⟩=>?_);subst e1;obtain⟨t,rfl⟩:=r1;exact formatField_str (fun t' tk=>⟨.str z,H1,I1.tok tk,⟨_,rfl⟩,q⟩) hz
def aEb:List TE->Str->TE
 | [],out=>fun _ H Q=>out.length<=sizeLine∧Q (.str out) H
 | t::r,out=>fun σ H Q=>t σ H fun x H1=>∃ y,x=.str y∧(out++y).length<=sizeLine∧aEb r (out++y) σ H1 Q
def PJ (X:Cx) (ps:List (Sem Value)) (ts:List TE):Prop:=
 ∀ (out:Str) (pins:List (Addr×Obj)) (s:Shared) (σ:St) (H:Hp) (Q:VK),Inv X pins σ H s->aEb ts out σ H Q->wpAny (model X.prog X.w) X.A (joinParts out ps) (EP X pins σ Q) X.xe s
theorem aKt:PJ X [] []:=fun out pins s σ H Q I ⟨hz,q⟩=>joinParts_nil ⟨.str out,H,I.tok _,⟨_,rfl⟩,q⟩ hz
theorem uT {e:Expr}{te:TE}{ps:List (Sem Value)}{ts:List TE}(he:PE X e te) (hr:PJ X ps ts):PJ X (eval e X.env::ps) (te::ts):=by
 intro out pins s σ H Q I h;refine joinParts_cons (thn (he pins s σ H _ I h) fun v s1 ⟨x,H1,I1,r1,y,e1,hz,q⟩=>?_);subst e1;obtain⟨t,rfl⟩:=r1;exact⟨hz,hr _ pins s1 σ H1 Q I1 q⟩
theorem aFe {a b c:Expr}{ta tb tc:TE}{pos:Pos}(ha:PE X a ta) (hb:PE X b tb) (hc:PE X c tc):PE X (.JoinedStr [a,b,c] pos) (aEb [ta,tb,tc] Str.empty):=by
 intro pins s σ H Q I h;exact JoinedStr_many ((uT ha (uT hb (uT hc aKt))) Str.empty pins s σ H Q I h)
end
end L2
namespace L2
open PySem PySem.Spec PySem.Calls PyProof.Rows PySem.W
def Ite (K:Frag) (a:Addr):It:=
 ⟨fun i H=>∃ xs x,SqL K H a xs∧xs[i]?=some x,fun i H y H'=>∃ (t:Addr) (x:V),H t=none∧y=.ref t∧H'=upd H t (.tup [.int i,x])∧∀ xs,SqL K H a xs->xs[i]?=some x,fun i H=>∃ xs,SqL K H a xs∧xs.length<=i⟩
theorem aBo {P:Program}{w:World}{K:Frag}{elts:List Expr}{x1:Nat}{tpos:Pos}(a e it:Addr) (hne:e≠it) :
  zX P w K (.Tuple elts x1 tpos) (Ite K a) [e,it] e (fun i h=>(∃ old,IsEnum h e it i old)∧h.IsListIter it a i) where
 mem:=by simp
 obj:=fun i h st b hb=>by
  obtain⟨⟨old,h1⟩,o,h2,c,d⟩:=st;rcases List.mem_cons.mp hb with rfl | hb
  ·exact⟨_,h1,fun v z=>by cases z⟩
  ·have e':b=it:=by simpa using hb
   subst e';exact⟨o,h2,fun v z=>by rw[d] at z; cases z⟩
 keep:=fun i h h' st k=>by
  obtain⟨⟨old,h1⟩,h2⟩:=st;exact⟨⟨old,k e (by simp) _ h1⟩,h2.at fun o z=>k it (by simp) o z⟩
 item:=by
  intro X hP hw hK hc i pins s σ H E I hf st hg;subst hP hw hK;obtain⟨xs,x,hq,hx⟩:=hg;obtain⟨its,rv,p,hz⟩:=I.list hq;obtain⟨u,hu,ru⟩:=rv.get hx;obtain⟨⟨old,he⟩,hit⟩:=st;have fe:=hf e (by simp);have fi:=hf it (by simp);refine wpAny_pyNext_enum_item he hit p.isList (x:=u) (by simpa using hu) hne fun h1 eo hit1 htup hsz hk=>⟨.ref s.heap.objs.size,rfl,wpAny_letOwnedTupleGo_enum eo fun h2 en sb=>?_⟩;have hn:H s.heap.objs.size=none:=I.hok.fresh (Nat.le_refl _);have nes:e≠s.heap.objs.size:=Nat.ne_of_lt (Heap.lt_size he);have kp:∀ b o,b≠e->b≠it->s.heap.get? b=some o->h2.get? b=some o:=fun b o n1 n2 z=>(sb.2 b n1).trans (hk b o n1 n2 z);have nH:∀ b v,H b=some v->b≠e∧b≠it:=fun b v z=>⟨fun y=>(by rw[y,fe.1] at z; cases z),fun y=>(by rw[y,fi.1] at z; cases z)⟩;have nS:∀ b v,H b=some v->b≠s.heap.objs.size:=fun b v z=>aG z hn
  have I2:Inv X pins σ (upd H s.heap.objs.size (.tup [.int i,x])) { s with heap:=h2,toks:=s.toks+1 }:=by
   refine I.step (g':=s.gens) (d':=s.drawn) (ch:=[e,it]) (fun b hb=>?_) (fun b o _ _ hc z _=>kp b o (fun y=>hc (by simp[y])) (fun y=>hc (by simp[y])) z) (fun b o _ _ hc z _=>⟨o.slots,kp b o (fun y=>hc (by simp[y])) (fun y=>hc (by simp[y])) z⟩)
    (fun b o _ z n=>by rw[aI (Nat.ne_of_lt (Heap.lt_size z))]; exact n) (fun b o hc z=>⟨o,kp b o (fun y=>hc (by simp[y])) (fun y=>hc (by simp[y])) z⟩) (fun b ys z=>by rw[aI (nS b _ z)]; exact z) (fun b o v z=>by rw[aI (nS b _ z)]; exact z)
    (fun b ps z=>⟨#[],by rw[aI (nS b _ z),z]; simp⟩) (fun m hm=>?_) (fun b v z=>?_) I.bare
   ·rcases List.mem_cons.mp hb with rfl | hb
    ·exact⟨fe.2.2.2.1,fe.2.1,fe.2.2.2.2.1,fe.2.2.2.2.2⟩
    ·have e':b=it:=by simpa using hb
     subst e';exact⟨fi.2.2.2.1,fi.2.1,fi.2.2.2.2.1,fi.2.2.2.2.2⟩
   ·obtain⟨o,es,ep,ho,r⟩:=hm;exact⟨o,es,ep,kp _ o (Ne.symm fe.2.1) (Ne.symm fi.2.1) ho,r⟩
   ·by_cases hb:b=s.heap.objs.size
    ·subst hb;rw[aD] at z;cases z;exact⟨by show 2<=sizeLine; decide,[.int i s.toks,u],.cons ⟨_,rfl⟩ (.cons ru .nil),⟨_,(sb.2 _ (Ne.symm nes)).trans htup,rfl,_,rfl⟩⟩
    ·rw[aI hb] at z;refine (I.hok b v z).stay (fun c y hc q=>kp c y ?_ ?_ q) (fun c q=>by rw[aI (nS c _ q)]; exact q) fun c ys q=>by rw[aI (nS c _ q)]; exact q
     ·rcases hc with rfl | hc
      ·exact (nH c v z).1
      ·exact (nH c _ hc).1
     ·rcases hc with rfl | hc
      ·exact (nH c v z).2
      ·exact (nH c _ hc).2
  refine⟨.ref s.heap.objs.size,_,I2,rfl,⟨s.heap.objs.size,x,hn,rfl,rfl,fun ys hy=>by rw[I.list_inj hy hq]; exact hx⟩,⟨⟨u,en⟩,?_⟩,fun b hb=>?_⟩
  ·obtain⟨o,z,c,d⟩:=hit1;exact⟨o,(sb.2 it (Ne.symm hne)).trans z,c,d⟩
  ·rw[aI ?_]
   ·exact (hf b hb).1
   ·rcases List.mem_cons.mp hb with rfl | hb
    ·exact nes
    ·have e':b=it:=by simpa using hb
     subst e';obtain⟨o,z,_⟩:=hit;exact Nat.ne_of_lt (Heap.lt_size z)
 done:=by
  intro X hP hw hK hc i pins s σ H E I hf st hg;subst hP hw hK;obtain⟨xs,hq,hlen⟩:=hg;obtain⟨its,rv,p,hz⟩:=I.list hq;obtain⟨⟨old,he⟩,hit⟩:=st;have fi:=hf it (by simp);have hl:=rv.length
  have hn:its.toArray[i]?=none:=by
   rw[List.getElem?_toArray];exact List.getElem?_eq_none_iff.mpr (by omega)
  exact wpAny_pyNext_enum_end (I.ok.hd hc) he hit p.isList hn fun h' ext=>⟨rfl,I.turned (t':=s.toks) (fun b o hb z=>ext b o hb z) fi.1 fi.2.1 fi.2.2.2.1 fi.2.2.2.2.1 fi.2.2.2.2.2⟩
 self:=fun _ i s _ _ ⟨⟨_,h1⟩,_⟩ h=>wpAny_pyIter_enum h1 h
section
variable {X:Cx}{elts:List Expr}{x1:Nat}{tpos:Pos}
inductive aQm (K:Frag) (vs:List V) (H1:Hp) (R:It->Hp->Prop):Prop
 | mk (a:Addr) (h1:vs=[.ref a]) (h2:∃ xs,SqL K H1 a xs) (r:R (Ite K a) H1)
def aNf (K:Frag) (ta:TA):TI:=fun σ H R=>ta σ H fun vs H1=>aQm K vs H1 R
theorem jJ {l:Expr}{ta:TA}{p pos:Pos}(hg:Gl X "enumerate") (hm:X.mg "enumerate" = none) (ha:PA X [l] ta) (hs:rJ l=false:=by rfl):PI X (.Tuple elts x1 tpos) (.Call (.Name "enumerate" p) [l] [] pos) (aNf X.K ta):=by
 intro pins s σ H R I h;have he:starEach [l] X.env=[(false,eval l X.env)]:=cL hs;refine Call_ (kJ I hg hm Bo.enumerate (PyProof.Rows.callWith_type1 (thn (ha pos pins s σ H _ I h) fun us s1 ⟨vs,H1,I1,r1,a,e1,⟨xs,hq⟩,q⟩=>?_) he rfl));subst e1;obtain⟨u,rfl,rx⟩:=iU r1;cases rx;obtain⟨its,rv,pl,hz⟩:=I1.list hq;refine call_enumerate_list pl.isList fun h' h1 h2 h3 h4=>?_;have I2:Inv X pins σ H1 { s1 with heap:=h' }:=I1.kept (t':=s1.toks) h4;refine wpAny_pyIter_enum h1 ⟨s1.heap.objs.size+1,[s1.heap.objs.size+1,s1.heap.objs.size],_,Ite X.K a,H1,rfl,I2,aBo a _ _ (Nat.succ_ne_self _),⟨⟨_,h1⟩,h2⟩,fun b hb=>?_,q⟩
 have hge:s1.heap.objs.size<=b:=by
  rcases List.mem_cons.mp hb with rfl | hb
  ·exact Nat.le_succ _
  ·have e':b=s1.heap.objs.size:=by simpa using hb
   rw[e'];exact Nat.le_refl _
 exact I1.fpOk hge (I1.hok.fresh hge)
theorem nZ {K:Frag}{a D:Addr}{xs:List V}{g:TG}{tc:TT}{te:TE}{R:Hp->Prop}{σ:St}{H:Hp}(Pv:Nat->St->Hp->Prop) (h0:Pv 0 σ H)
  (hl:∀ i σ H,i<=xs.length->Pv i σ H->SqL K H a xs)
  (hs:∀ i x σ H t,xs[i]?=some x->Pv i σ H->H t=none->g (.ref t) σ (upd H t (.tup [.int i,x])) fun σ2 H2=>tc σ2 H2 fun b H3=>if b=true then te σ2 H3 fun y H4=>∃ ys,H4 D=some (.lst ys)∧ys.length<sizeLine∧Pv (i+1) σ2 (upd H4 D (.lst (ys++[y]))) else Pv (i+1) σ2 H3)
  (hd:∀ σ H,Pv xs.length σ H->R H):yE (Ite K a) D g tc te R σ H:=by
 refine⟨fun i m σ H=>m=xs.length-i∧i<=xs.length∧Pv i σ H,⟨xs.length,by simp,Nat.zero_le _,h0⟩,?_⟩;rintro i m σ H ⟨rfl,hi,p⟩;have q:=hl i σ H hi p
 by_cases hlt:i<xs.length
 ·refine .inr ⟨⟨xs,xs[i],q,by simp[hlt]⟩,Pv (i+1),fun σ' H' p'=>⟨xs.length-(i+1),by omega,rfl,hlt,p'⟩,fun x H' y=>?_⟩;obtain⟨t,v,ht,rfl,rfl,hv⟩:=y;exact hs i v σ H t (hv xs q) p ht
 ·have e:i=xs.length:=by omega
  subst e;exact .inl ⟨⟨xs,q,Nat.le_refl _⟩,hd σ H p⟩
theorem rN {K:Frag}{a:Addr}{xs:List V}{g:TG}{tb:TS}{D:rY}{σ:St}{H:Hp}(Pv:Nat->St->Hp->Prop) (h0:Pv 0 σ H) (hl:∀ i σ H,i<=xs.length->Pv i σ H->SqL K H a xs)
  (hs:∀ i x σ H t,xs[i]?=some x->Pv i σ H->H t=none->g (.ref t) σ (upd H t (.tup [.int i,x])) fun σ2 H2=>tb { D with nx:=Pv (i+1),ct:=Pv (i+1),bk:=D.nx } σ2 H2) (hd:∀ σ H,Pv xs.length σ H->D.nx σ H) :
  ∃ W:Nat->Nat->St->Hp->Prop,(∃ m,W 0 m σ H)∧∀ i m σ H,W i m σ H ->
   ((Ite K a).stop i H∧D.nx σ H)∨((Ite K a).go i H∧∃ N:St->Hp->Prop,(∀ σ' H',N σ' H'->∃ m',m'<m∧W (i+1) m' σ' H')∧∀ x H',(Ite K a).yld i H x H'->g x σ H' fun σ2 H2=>tb { D with nx:=N,ct:=N,bk:=D.nx } σ2 H2):=by
 refine⟨fun i m σ H=>m=xs.length-i∧i<=xs.length∧Pv i σ H,⟨xs.length,by simp,Nat.zero_le _,h0⟩,?_⟩;rintro i m σ H ⟨rfl,hi,p⟩;have q:=hl i σ H hi p
 by_cases hlt:i<xs.length
 ·refine .inr ⟨⟨xs,xs[i],q,by simp[hlt]⟩,Pv (i+1),fun σ' H' p'=>⟨xs.length-(i+1),by omega,rfl,hlt,p'⟩,fun x H' y=>?_⟩;obtain⟨t,v,ht,rfl,rfl,hv⟩:=y;exact hs i v σ H t (hv xs q) p ht
 ·have e:i=xs.length:=by omega
  subst e;exact .inl ⟨⟨xs,q,Nat.le_refl _⟩,hd σ H p⟩
end
end L2
namespace L2
open PySem PySem.Spec PySem.Calls PyProof.Rows PySem.W
section
variable {X:Cx}
theorem aIs {k:Key}{v:Value}(h:pT k v=true):cH (kV k) v:=by
 rcases dG h with⟨i,t,rfl,rfl⟩ | ⟨x,t,rfl,rfl⟩
 ·exact⟨t,rfl⟩
 ·exact⟨t,rfl⟩
theorem tV:∀ {kvs:List (Key×V)}{vs:List (Key×Value)}{us:List Value},KV kvs vs->us.length=vs.length->(∀ (j:Nat) (u:Value),us[j]?=some u->∃ k x,vs[j]?=some (k,x)∧pT k u=true)->cB (kvs.map fun kv=>kV kv.1) us
 | [],_,us,r,hl,_=>by
  unfold KV at r;cases r
  have:us=[]:=List.length_eq_zero_iff.mp hl
  subst this;exact .nil
 | p::kvs,_,us,r,hl,h=>by
  unfold KV at r;cases r with
  | @cons a b as bs h1 h2=>
   cases us with
   | nil=>simp at hl
   | cons u us=>
    refine .cons ?_ (tV (vs:=bs) h2 (by simpa using hl) fun j v e=>?_)
    ·obtain⟨k,x,e1,e2⟩:=h 0 u rfl;have e1:some b=some (k,x):=e1;cases e1;show cH (kV p.1) u;rw[show p.1=k from h1.1]
     exact aIs e2
    ·obtain⟨k,x,e1,e2⟩:=h (j+1) v (by simpa using e);exact⟨k,x,by simpa using e1,e2⟩
theorem nL {α:Type} [DecidableEq α]:∀ (xs ys:List α),xs.length=ys.length->((List.range xs.length).all fun j=>decide (xs[j]?=ys[j]?))=decide (xs=ys):=by
 intro xs ys hl;rw[Bool.eq_iff_iff,List.all_eq_true,decide_eq_true_iff];constructor
 ·intro h;refine List.ext_getElem? fun i=>?_
  by_cases hi:i<xs.length
  ·exact of_decide_eq_true (h i (List.mem_range.mpr hi))
  ·rw[List.getElem?_eq_none_iff.mpr (by omega),List.getElem?_eq_none_iff.mpr (by omega)]
 ·rintro rfl j _;exact decide_eq_true rfl
theorem lD {A:Around}{s:Shared}{ss ts:List Str}{us ws:List Value}(r:cB (ss.map V.str) us) (r':cB (ts.map V.str) ws) (hl:ss.length=ts.length) :
  ∀ j (h1:j<us.toArray.size) (h2:j<ws.toArray.size),SeqAt.EqAt A s us.toArray[j] ws.toArray[j] (decide (ss[j]?=ts[j]?)):=by
 intro j h1 h2;have l1:=r.length;have l2:=r'.length;rw[List.length_map] at l1 l2;have g1:j<ss.length:=by rw[l1]; simpa using h1
 have g2:j<ts.length:=by rw[l2]; simpa using h2
 obtain⟨u,e1,q1⟩:=r.get (i:=j) (x:=.str ss[j]) (by simp[g1]);obtain⟨v,e2,q2⟩:=r'.get (i:=j) (x:=.str ts[j]) (by simp[g2]);obtain⟨t,rfl⟩:=q1;obtain⟨t',rfl⟩:=q2
 have f1:us.toArray[j]=.str ss[j] t:=by
  have:us[j]?=some us.toArray[j]:=by simp
  rw[e1] at this;exact (Option.some.inj this).symm
 have f2:ws.toArray[j]=.str ts[j] t':=by
  have:ws[j]?=some ws.toArray[j]:=by simp
  rw[e2] at this;exact (Option.some.inj this).symm
 rw[f1,f2];have eb:decide (ss[j]?=ts[j]?)=decide (ss[j]=ts[j]):=by simp[g1,g2]
 rw[eb];intro prog w E Q hq;exact wpAny_eqBool_str hq
inductive aJt (K:Frag) (neg:Bool) (x:V) (y:V) (H:Hp) (Q:VK):Prop
 | mk (a b:Addr) (ss ts:List Str) (h0_:x=.ref a) (h1_:y=.ref b) (h2_:SqL K H a (ss.map V.str)) (h3_:SqL K H b (ts.map V.str)) (h4_:Q (.bl (if neg then !decide (ss=ts) else decide (ss=ts))) H)
theorem aAv (hu:X.A.units<cLine):OpR X (compareOp .Eq) (aJt X.K false):=by
 intro pins s σ H x y v u Q I rx ry h;obtain⟨a,b,ss,ts,rfl,rfl,ha,hb,q⟩:=h;cases rx;cases ry;obtain⟨us,r1,p1,_⟩:=I.list ha;obtain⟨ws,r2,p2,_⟩:=I.list hb;have l1:=r1.length;have l2:=r2.length;rw[List.length_map] at l1 l2
 by_cases hl:ss.length=ts.length
 ·refine SeqAt.eq_listAt p1.isList p2.isList (by simp; omega) hu (lD r1 r2 hl) ⟨.bl (decide (ss=ts)),H,I,?_,q⟩;rw[List.size_toArray,← l1,nL ss ts hl];rfl
 ·refine SeqAt.eq_list_lengthsAt p1.isList p2.isList (by simp; omega) hu ⟨.bl (decide (ss=ts)),H,I,?_,q⟩;rw[decide_eq_false fun z=>hl (by rw[z])];rfl
theorem uW (hu:X.A.units<cLine):OpR X (compareOp .NotEq) (aJt X.K true):=by
 intro pins s σ H x y v u Q I rx ry h;obtain⟨a,b,ss,ts,rfl,rfl,ha,hb,q⟩:=h;cases rx;cases ry;obtain⟨us,r1,p1,_⟩:=I.list ha;obtain⟨ws,r2,p2,_⟩:=I.list hb;have l1:=r1.length;have l2:=r2.length;rw[List.length_map] at l1 l2
 by_cases hl:ss.length=ts.length
 ·refine SeqAt.RcNeAt.lists p1.isList p2.isList (by simp; omega) hu (lD r1 r2 hl) X.prog X.w X.xe _ ⟨.bl (!decide (ss=ts)),H,I,?_,q⟩;rw[List.size_toArray,← l1,nL ss ts hl];rfl
 ·refine SeqAt.RcNeAt.lists_lengths p1.isList p2.isList (by simp; omega) hu X.prog X.w X.xe _ ⟨.bl (!decide (ss=ts)),H,I,?_,q⟩;rw[decide_eq_false fun z=>hl (by rw[z])];rfl
end
end L2
namespace L2
open PySem PySem.Spec PySem.Calls PyProof.Rows PySem.W
section
variable {X:Cx}
inductive aJk (xs:List V) (H:Hp) (Q:VK):Prop
 | mk (d:Addr) (kvs:List (Key×V)) (ss:List Str) (h0_:xs=[.ref d]) (h1_:H d=some (.dK kvs)) (h2_:kvs.map (fun kv=>kV kv.1)=ss.map V.str) (h3_:ss.length<64) (h4_:∀ (p:Addr) (ss':List Str),H p=none->ss'.Perm ss->sortedS ss'=true->Q (.ref p) (upd H p (.lst (ss'.map V.str))))
theorem nX (hc:X.calm=true):CallR X (.builtin "sorted") aJk:=by
 intro pins s σ H xs us Q I r h;obtain⟨d,kvs,ss,rfl,hd,hks,h64,q⟩:=h;obtain⟨u,rfl,rx⟩:=iU r;cases rx;obtain⟨hz,lo,vs,rel,dd⟩:=aGv I.hok hd;obtain⟨ep,hat⟩:=dd.dictAt;have hl:kvs.length=vs.length:=Paired.length rel
 have hls:kvs.length=ss.length:=by
  have:=congrArg List.length hks
  simpa using this
 refine call_function_entry kind_sorted plain_sorted entry_sorted (args_sorted1 _) ?_;unfold Builtin.«sorted»;refine wpAny_bind (m:=checkCount "sorted" 1 1 _) (wpAny_pure ?_);refine wpAny_bind (kdu_collect (A:=X.A.in1) (kdl_dict (knd:=dE X.prog X.w) (kvs:=vs) (ep:=ep) lo) (I.ok.hd hc) hat (by omega) fun h' tk acc hk hacc=>?_);have hal:acc.toList.length=vs.length:=by rw[Array.length_toList]; exact hacc.1
 have rv:cB (ss.map V.str) acc.toList:=by
  rw[← hks];exact tV rel hal fun j v e=>hacc.2 j v (by rw[← Array.getElem?_toList]; exact e)
 have hS:=jE rv;refine wpAny_bind (wpAny_newList ?_ (by rw[hal]; omega));have hoL:(h'.push (seqObj "list" acc.toList.toArray 0)).get? h'.objs.size=some (seqObj "list" acc.toList.toArray 0):=Heap.get?_push_size _ rfl;refine wpAny_bind (wpAny_holding (wpAny_call_entry slot_list_sort ⟨_,hoL,rfl⟩ entry_list_sort (list_sort_treeK strKind_oneLt hoL hS.keysOf (fun v₁ v₂ rest e=>keyKind_strs (by rw[← e]; exact hS)) (by rw[hal]; omega) fun st' a1 a2=>⟨_,rfl,?_⟩) (args_list_sort _)));obtain⟨ss',b1,b2,b3⟩:=sorted_out_str hS a1 a2;refine wpAny_pure ⟨_,rfl,?_⟩;have I1:Inv X pins σ H { s with heap:=h',toks:=tk }:=I.kept (t':=tk) hk;have hn:H h'.objs.size=none:=I1.hok.fresh (Nat.le_refl _);obtain⟨e,he⟩:=sortedHeap_at (vs:=acc.toList) (out:=(arrOf st').map (·.2)) hoL;refine⟨.ref h'.objs.size,_,I1.laid (t':=tk) (fun b o z=>?_) (Nat.le_refl _) ?_,rfl,q _ ss' hn b2 b3⟩
 ·have hb:b<h'.objs.size:=Heap.lt_size z;rw[sortedHeap_old (Nat.ne_of_lt hb) (by rw[size_push']; exact Nat.lt_succ_of_lt hb)];exact Heap.get?_push_of_some _ z
 ·exact⟨by rw[List.length_map,b2.length_eq,sizeLine_eq]; omega,_,e,lB b1,he⟩
end
end L2
namespace L2
open PySem PySem.Spec PySem.Calls PyProof.Rows PySem.W
section
variable {X:Cx}{pins:List (Addr×Obj)}{σ:St}{H:Hp}{s:Shared}{d:Addr}{kvs:List (Key×V)}
theorem Inv.freeze (I:Inv X pins σ H s) (e:H d=some (.dK kvs)):∃ o,Inv X pins σ (upd H d (.frz o (.dK kvs))) s:=by
 have hO:=I.hok d _ e;obtain⟨o,ho⟩:=hO.ex
 have ne:∀ b u,H b=some u->(∀ k,u≠.dK k)->(upd H d (.frz o (.dK kvs))) b=some u:=fun b u z n=>by
  rw[aI (fun y=>by rw[y,e] at z; cases z; exact n kvs rfl)];exact z
 refine⟨o,I.step (h':=s.heap) (g':=s.gens) (d':=s.drawn) (t':=s.toks) (ch:=[]) (fun b hb=>nomatch hb) (fun b u _ _ _ z _=>z) (fun b u _ _ _ z _=>⟨u.slots,z⟩)
  (fun b u _ _ n=>by rw[aI (fun y=>by rw[y,e] at n; cases n)]; exact n) (fun b u _ z=>⟨u,z⟩) (fun b xs z=>ne b _ z fun k y=>by cases y) (fun b u v z=>ne b _ z fun k y=>by cases y)
  (fun b ps z=>⟨#[],by rw[ne b _ z fun k y=>by cases y]; simp⟩) (fun m hm=>hm) (fun b u z=>?_) I.bare⟩
 by_cases hb:b=d
 ·subst hb;rw[aD] at z;cases z;exact⟨ho,hO⟩
 ·rw[aI hb] at z;exact (I.hok b u z).stay (fun c y _ q=>q) (fun c q=>ne c _ q fun k y=>by cases y) fun c ys q=>ne c _ q fun k y=>by cases y
inductive aQl (v:V) (H':Hp) (Q:VK):Prop
 | mk (d:Addr) (kvs:List (Key×V)) (h1:v=.ref d) (h2:H' d=some (.dK kvs)) (q:∀ o,Q v (upd H' d (.frz o (.dK kvs))))
def aHp (t:TE):TE:=fun σ H Q=>t σ H fun v H'=>aQl v H' Q
theorem aCf {e:Expr}{t:TE}(h:PE X e t):PE X e (aHp t):=by
 intro pins s σ H Q I q;refine thn (h pins s σ H _ I q) fun v s1 ⟨x,H1,I1,r1,d,kvs,e1,e2,q1⟩=>?_;obtain⟨o,I2⟩:=I1.freeze e2;exact⟨x,_,I2,r1,q1 o⟩
end
section
variable {X:Cx}{tg:Expr}
end
end L2
namespace L2
open PySem PySem.Spec PySem.Calls PyProof.Rows PySem.W
section
variable {X:Cx}
end
end L2
namespace L2
open PySem PySem.Spec PySem.Calls PyProof.Rows PySem.W
section
variable {X:Cx}{pins:List (Addr×Obj)}{σ:St}{H:Hp}{s:Shared}
theorem aIr {params:Arguments}{body:Expr}{scope:Scope}{pos:Pos}{c c' P:Addr}{ps:Array Value}{Q:Value->Shared->Prop}{E:Value->Shared->Prop}(I:Inv X pins σ H s) (hcode:X.env.code=.ref c) (hc:codeHdIn X.K c P=true) (bm:lA X.mg X.base)
  (hP:H P=some (.tbl ps)) (ht:TriplesOk ps.toList) (hf:codeAmong pos ps.toList=some (.ref c')) (hdef:defaultsOf params X.env=([],[])) (hfr:∀ n∈dF scope,X.env.kindOf n=some .cell∨X.env.kindOf n=some .free)
  (k:∀ (f:Addr) (pm ctv:Value) (s1:Shared),Inv X pins σ H s1->s.heap.objs.size<=f->(∀ b o,s.heap.get? b=some o->s1.heap.get? b=some o) ->
   s1.heap.get? f=some (kla_obj "<lambda>" (X.env.qual++"<lambda>") params body scope (dI scope X.env) pm c' ctv)->Q (.ref f) s1) :
  wpAny (model X.prog X.w) X.A (eval (.Lambda params body scope pos) X.env) Q E s:=by
 have hcl:closureFor scope X.env=pure (dI scope X.env):=gG fun n hn=>I.ok.has n (hfr n hn);obtain⟨b,ob,b1,b2,b3,b4,b5,b6⟩:=bm;have hg:s.heap.Ns mainGlobals X.mg:=I.mod.glob.keeps I.bk;have bP:∀ d o,X.base.get? d=some o->d≠P:=fun d o e z=>by have:=(I.bs d o e).2; rw[z,hP] at this; cases this
 have hbG:b≠mainGlobals:=fun z=>by
  obtain⟨o,es,ep,e,hd,_⟩:=I.mod.glob;rw[z,e] at b3;cases b3;rw[hd] at b6;cases b6
 have hob:s.heap.get? P=some (tabObj ps):=I.hok P _ hP;refine kla_eval hdef (kla_makeFunctionHit (mg:=X.mg) hcl I.ok.glob hg hcode (codeHd_of_K I.kIn hc) hob ht hf ⟨b,ob,b1,b2,hbG,bP _ _ b3,I.bk _ _ b3,b4,b5,b6⟩ fun ctv h' tk hx hge=>?_);exact k h'.objs.size _ ctv _ (I.kept (t':=tk) fun d o e=>Heap.get?_push_of_some _ (hx d o e)) hge (fun d o e=>Heap.get?_push_of_some _ (hx d o e)) (Heap.get?_push_size _ rfl)
end
section
variable {X:Cx}
inductive sV (P:Addr) (pos:Pos) (q:Str) (word:Addr->Option Str) (js:List Nat) (te:XK->TE) (σ:St) (H:Hp) (Q:VK):Prop
 | mk (ps:_) (c':Addr) (h0_:H P=some (.tbl ps)) (h1_:TriplesOk ps.toList) (h2_:codeAmong pos ps.toList=some (.ref c')) (h3_:H c'=some (.ext (iT c' q))) (h4_:te (iC word Q) (cN 0 js σ) H (fun _ H2=>Q (.str "") H2))
theorem wN {st:Stmt}{ft W fw c P:Addr}{fdt fdw:FuncData}{word:Addr->Option Str}{params:Arguments}{body:Expr}{scope:Scope}{lpos p pos:Pos}{NL:List Str}{js:List Nat}{te:XK->TE}{k:Nat}
  (T:aBg X st ft fdt W fw fdw word) (hfn:∀ x,X.fn x=true) (hc:X.calm=true) (hr:cY (k+3) X.A) (hg:Gl X "_law_tried") (hcode:X.env.code=.ref c) (hcd:codeHdIn X.K c P=true) (bm:lA X.mg X.base)
  (S:aHe scope NL) (B:gK X scope NL 0 js) (hdef:defaultsOf params X.env=([],[])) (hba:∀ cl pm c' ctv,bindArgs (kla_fn "<lambda>" (X.env.qual++"<lambda>") params body scope cl pm (.ref c') ctv) ⟨[],[]⟩=pure [])
  (hb:∀ (Ew:XK) cdv A outer s H pn E f c' s' H',cY k (nV (cxT X (aB st) ft cdv A outer s H pn E) (X.env.qual++"<lambda>") scope f c' (dI scope X.env) s' H' NL Ew).A ->
   PE (nV (cxT X (aB st) ft cdv A outer s H pn E) (X.env.qual++"<lambda>") scope f c' (dI scope X.env) s' H' NL Ew) body (te Ew)) :
  PE X (.Call (.Name "_law_tried" p) [.Lambda params body scope lpos] [] pos) (sV P lpos (X.env.qual++"<lambda>") word js te):=by
 intro pins s σ H Q I h;obtain⟨ps,c',hP,ht,hnf,hcx,hq⟩:=h;refine wpAny_Call_Name_kw (iP I hg T.m ?_);refine callWith_K (h₀:=X.base) I.ok.mod.kin T.fn.kp ?_ (cL rfl) rfl;rw[cL rfl];show wpAny _ _ (spliced ((false,eval (.Lambda params body scope lpos) X.env)::backTo pos (starEach [] X.env))) _ _ s;refine Calls.spliced_cons (aIr I hcode hcd bm hP ht hnf hdef B.cel fun f pm ctv s1 I1 hsf hold hfo=>?_);refine Calls.spliced_nil ⟨I1.kIn,?_⟩;obtain⟨H1,hH1⟩:∃ H1,H1=H:=⟨H,rfl⟩;rw[← hH1] at I1 hq;have hcl:∀ n∈dF scope,∃ a,X.env.cells.lookup n=some a:=fun n hn=>I.ok.has n (B.cel n hn);have cl1:∀ x a,(dI scope X.env).lookup x=some a->X.env.cells.lookup x=some a:=iQ (dF scope) [] hcl fun x a e=>by simp at e
 have hfree:∀ x,scope.names.lookup x=some .free->x∈dF scope:=fun x e=>List.mem_map.mpr ⟨(x,.free),List.mem_filter.mpr ⟨PySem.mem_of_lookup e,by simp⟩,rfl⟩;have h1none:∀ b,H b=none->b≠P->b≠c'->H1 b=none:=fun b n _ _=>by rw[hH1]; exact n
 have hPs:P<s.heap.objs.size:=I.hok.lt hP
 have stkLt:∀ b∈frs X.stack,b<s.heap.objs.size:=fun b hb=>by
  obtain⟨_,o,ho,_⟩:=I.stack.mem hb;exact Heap.lt_size ho
 have hcell:∀ x a,X.env.cells.lookup x=some a->a<s.heap.objs.size∧a≠P∧a≠c'∧a∉frs X.stack:=fun x a e=>by
  obtain⟨v,hv⟩:=I.cell x a e;have la:=hv.lt;refine⟨la,fun z=>?_,fun z=>(by have:=I.freeC x a e; rw[z,hcx] at this; cases this),fun z=>?_⟩
  ·have:=I.freeC x a e
   rw[z,hP] at this;cases this
  ·rcases List.mem_cons.mp (I.stkSub a z) with z | z
   ·exact I.cne x a e z
   ·obtain⟨_,o,ho,_⟩:=I.ok.funs.mem z;exact absurd (Nat.lt_of_lt_of_le (Heap.lt_size ho) (I.ok.cab x a (hfn x) e)) (Nat.lt_irrefl _)
 have L1:uH s1.heap H1 (frs X.stack) f c' (X.env.qual++"<lambda>") params body scope (dI scope X.env) NL (cN 0 js σ):=by
  refine⟨⟨pm,ctv,hfo⟩,h1none f (I.hok.fresh hsf) (Nat.ne_of_gt (Nat.lt_of_lt_of_le hPs hsf)) (fun z=>by have:=I.hok.fresh hsf; rw[z,hcx] at this; cases this),fun z=>?_,by rw[hH1]; exact hcx,fun x y a e1 e2=>I.ok.inj x y a (cl1 x a e1) (cl1 y a e2),fun x a e=>?_,fun i x v e1 e2=>?_,?_⟩
  ·exact absurd (Nat.lt_of_lt_of_le (stkLt f z) hsf) (Nat.lt_irrefl _)
  ·have e':=cl1 x a e;obtain⟨la,n1,n2,n3⟩:=hcell x a e';obtain⟨v,o,ho,hd⟩:=I.cell x a e';exact⟨⟨v,o,hold a o ho,hd⟩,h1none a (I.freeC x a e') n1 n2,n3⟩
  ·unfold cN at e2;rw[List.replicate_zero,List.nil_append,List.getElem?_map] at e2;cases hj:js[i]? with
   | none=>rw[hj] at e2; cases e2
   | some j=>
    rw[hj] at e2;have e2:some ((σ[j]?).join)=some (some v):=e2
    have e3:σ[j]?=some (some v):=by
     cases z:σ[j]? with
     | none=>rw[z] at e2; cases e2
     | some y=>rw[z] at e2; cases y with
      | none=>cases e2
      | some y=>cases e2; rfl
    have e4:X.N[j]?=some x:=by rw[B.at' i j hj,Nat.zero_add]; exact e1
    obtain⟨hfr,_⟩:=B.fre i x (Nat.zero_le _) e1;have kx:=B.cel x hfr;obtain⟨m,hm,hl⟩:=I.loc;obtain⟨u,r,l⟩:=hl j x v e4 e3 (by rcases kx with z | z; exact .inr (.inl z); exact .inr (.inr z));rcases l with⟨kk,_⟩ | ⟨kk,a,ea,o,ho,hd⟩
    ·rcases kx with k' | k' <;> rw[kk] at k' <;> cases k'
    ·obtain⟨a',ha'⟩:=iD (env:=X.env) (dF scope) [] x (.inl hfr)
     have:=cl1 x a' ha'
     rw[ea] at this;cases this;exact⟨a,u,ha',r,o,hold a o ho,hd⟩
  ·unfold cN;rw[List.replicate_zero,List.nil_append,List.length_map,B.len,Nat.zero_add]
 have SL:rX scope (dI scope X.env) NL:=⟨S.kind,S.co,S.gen,S.cell,fun x e=>iD (env:=X.env) (dF scope) [] x (.inl (hfree x e)),S.nl⟩;have hr1:cY (k+2+1) X.A:=hr
 have bt:BindsTo s1 fdt ⟨[.ref f],[]⟩ ((["_law_deed"]:List Str).zip [.ref f]):=by
  have:=T.b s1 [.ref f] I1.kIn rfl
  exact this
 refine wpAny_call (codeAny_mono (aGq (CX:=CX0) (E:=E0) (Q:=Q) (vs:=[.ref f]) T.fn T.sc hr1 I1.env0 bt rfl (.cons rfl .nil) fun cdv hr2=>?_) fun r s' hq'=>?_)
 ·obtain⟨p1,p2,p3,p4,p5,p6,p7,p8,p9,p10,p11,p12,j,hbod⟩:=T.is;rw[hbod];have rw1:lY 1 (X.A.deeper (envOfC "_law_tried" (aB st) s1.heap.objs.size ft cdv)):=⟨by have:=hr2.dp; omega,by have:=hr2.un; omega⟩
  let Y:Cx:=(iH CX0 X.prog X.w X.K X.mg X.base NT "_law_tried" (aB st) ft cdv X.A X.stack s1 H1 E0).nox
  have run:∀ pn E,∀ (pl:List (Addr×Obj)) (s2:Shared) (σ2:St) (Q':VK),Inv (Y.pinned pn E) pl σ2 H1 s2->te (iC word Q) (cN 0 js σ) H1 Q' ->
    FnAt f s2.heap∧codeAny (model X.prog X.w) Y.A (.call (.ref f) ⟨[],[]⟩) (CR (CXE X.prog X.w) Y.stack X.prog X.w H1 s2 Q' (iC word Q)) s2:=by
   intro pn E pl s2 σ2 Q' J hR
   have L2':=L1.stay (h':=s2.heap) (fr':=frs Y.stack) (fun b o e n hb=>J.base.keep b o e n hb (by show b∉([]:List Addr); simp)) (fun b o e hb z=>by
    rcases List.mem_cons.mp (show b∈s1.heap.objs.size::frs X.stack from z) with z | z
    ·exact absurd (Heap.lt_size e) (by rw[z]; exact Nat.lt_irrefl _)
    ·exact hb z)
   obtain⟨pm',ctv',ho'⟩:=L2'.fn;exact⟨⟨_,_,_,_,ho'⟩,aAz (X:=Y.pinned pn E) (k:=k) J L2' SL (hr2.mono (by omega)) (fun pm ctv=>hba _ pm c' ctv) (hb _ _ _ _ _ _ _ _ _ _ _ _ (cY.deeper (hr2.mono (by omega)) _)) hR⟩
  have try1:=aFa (X:=Y) (x:="WardError") (n:="_law_e") (W:=W) (np:=p4) (hpos:=p9) (pos:=p10) (i:=1) (iC word Q) ⟨rfl,rfl⟩ rfl T.sc.nd rfl T.k1 T.k2 T.mW
   (fun pn E hp=>aL (cW (pos:=p3) (rA (Y:=Y.pinned pn E) (x:="_law_deed") (p:=p1) (pos:=p2) (i:=0) (f:=f) (H₁:=H1) (R:=fun Q'=>te (iC word Q) (cN 0 js σ) H1 Q') rfl T.k0 hp (run pn E)) rfl))
   (fun e pn=>aL (bV (pos:=p8) (wQ (X:=Y.caught e pn) (x:="_law_word") (p:=p5) (pos:=p7) T.ok ⟨rw1.dp,rw1.un⟩ T.k3 T.mw T.kw T.bw (pac (qY (X:=Y.caught e pn) (x:="_law_e") (pos:=p6) (i:=1) rfl (.inl T.k1)) aJ))))
  refine⟨_,PSs.nox (X:=iH CX0 X.prog X.w X.K X.mg X.base NT "_law_tried" (aB st) ft cdv X.A X.stack s1 H1 E0) (aK try1 (aL (bV aY))),⟨rfl,rfl,hq⟩,?_⟩
  ·intro cls H2 ⟨C,x,e1,e2,e3⟩;refine⟨C,e1,T.wk C x e2,fun e σ1 hl he=>⟨_,?_,e,C,x,rfl,aD,e2,fun H3 sm=>e3 H3 fun b o z=>sm b o (by rw[aI (aG z he)]; exact z)⟩⟩;have hl2:σ1.length=2:=hl;exact List.getElem?_set_self (by omega)
 ·cases r with
  | error e=>exact False.elim hq'
  | ok fl=>
   cases fl with
   | ret u=>exact I1.after hq'
   | next=>exact False.elim hq'
   | brk=>exact False.elim hq'
   | cont=>exact False.elim hq'
inductive aAe (P:Addr) (pos:Pos) (q:Str) (word:Addr->Option Str) (js:List Nat) (te:XK->TE) (σ:St) (H:Hp) (Q:VK):Prop
 | made (h:aDz P pos q word js te σ H Q)
 | hit (h:sV P pos q word js te σ H Q)
theorem aCe {st:Stmt}{ft W fw c P:Addr}{fdt fdw:FuncData}{word:Addr->Option Str}{params:Arguments}{body:Expr}{scope:Scope}{lpos p pos:Pos}{NL:List Str}{js:List Nat}{te:XK->TE}{k:Nat}
  (T:aBg X st ft fdt W fw fdw word) (hfn:∀ x,X.fn x=true) (hc:X.calm=true) (hr:cY (k+3) X.A) (hg:Gl X "_law_tried") (hcode:X.env.code=.ref c) (hcd:codeHdIn X.K c P=true) (bm:lA X.mg X.base)
  (S:aHe scope NL) (B:gK X scope NL 0 js) (hdef:defaultsOf params X.env=([],[])) (hba:∀ cl pm c' ctv,bindArgs (kla_fn "<lambda>" (X.env.qual++"<lambda>") params body scope cl pm (.ref c') ctv) ⟨[],[]⟩=pure [])
  (hb:∀ (Ew:XK) cdv A outer s H pn E f c' s' H',cY k (nV (cxT X (aB st) ft cdv A outer s H pn E) (X.env.qual++"<lambda>") scope f c' (dI scope X.env) s' H' NL Ew).A ->
   PE (nV (cxT X (aB st) ft cdv A outer s H pn E) (X.env.qual++"<lambda>") scope f c' (dI scope X.env) s' H' NL Ew) body (te Ew)) :
  PE X (.Call (.Name "_law_tried" p) [.Lambda params body scope lpos] [] pos) (aAe P lpos (X.env.qual++"<lambda>") word js te):=by
 intro pins s σ H Q I h;cases h with
 | made h=>exact aFd T hfn hc hr hg hcode hcd bm S B hdef hba hb pins s σ H Q I h
 | hit h=>exact wN T hfn hc hr hg hcode hcd bm S B hdef hba hb pins s σ H Q I h

end
end L2
namespace L2
open PySem PySem.Spec PySem.Calls PyProof.Rows
def unl:List Str->List Str->List Str
 | [],k=>k
 | z::r,k=>unl r (if z∈k then k else k++[z])
theorem qK:∀ (r:List Str) (z:Str) (k:List Str),unl (r++[z]) k=if z∈unl r k then unl r k else unl r k++[z]
 | [],z,k=>rfl
 | y::r,z,k=>qK r z _
theorem uK:∀ (r k:List Str),(unl r k).length<=k.length+r.length
 | [],k=>Nat.le_refl _
 | y::r,k=>by
  have h:=uK r (if y∈k then k else k++[y])
  have h2:(if y∈k then k else k++[y]).length<=k.length+1:=by
   split
   ·exact Nat.le_succ _
   ·rw[List.length_append]; exact Nat.le_refl _
  show (unl r (if y∈k then k else k++[y])).length<=k.length+(r.length+1)
  omega
theorem nd1 (y:Str):[y].Nodup:=List.nodup_cons.mpr ⟨fun h=>(nomatch h),.nil⟩
theorem aAc:∀ (r k:List Str) (z:Str),z∈unl r k↔z∈k∨z∈r
 | [],k,z=>by simp[unl]
 | y::r,k,z=>by
  show z∈unl r _↔_;rw[aAc r]
  by_cases h:y∈k
  ·rw[if_pos h,List.mem_cons];exact⟨fun q=>q.imp id .inr,fun q=>q.elim .inl fun q=>q.elim (fun e=>.inl (e▸h)) .inr⟩
  ·rw[if_neg h,List.mem_cons,List.mem_append,List.mem_singleton,or_assoc]
theorem iV:∀ (r k:List Str),k.Nodup->(unl r k).Nodup
 | [],k,h=>h
 | y::r,k,h=>by
  refine iV r _ ?_
  by_cases q:y∈k
  ·rw[if_pos q]; exact h
  ·rw[if_neg q];exact List.nodup_append.mpr ⟨h,nd1 _,fun a ha b hb e=>q (by rw[← List.mem_singleton.mp hb,← e]; exact ha)⟩
abbrev jL (led:Bool):Obj:={ cls:=.type "set",dict:=none,data:=.set #[] 0 (.fresh 0 0 led) }
end L2
namespace L2
open PySem PySem.Spec PySem.Calls PyProof.Rows
theorem zM (t:SetTable) (es:Array (Int×Value)) (h:Int) (x:Value):(layNew t es h x).2.1.led=t.led:=by
 unfold layNew;split
 ·dsimp only;unfold SetTable.orStandIn SetTable.put;dsimp only;split <;> (split <;> rfl)
 ·rfl
theorem aGi {mask finger moves:Nat}{led plain:Bool}{hs:Array Int}{r:SetTable×Array Nat}(e:SetTable.laid mask finger moves led plain hs=some r):r.1.led=led∧r.1.plain=plain:=by
 unfold SetTable.laid at e;cases q:SetTable.layClean mask hs with
 | none=>rw[q] at e; cases e
 | some o=>
  rw[q] at e;cases e;exact⟨rfl,rfl⟩
theorem uP {t:SetTable}(es:Array (Int×Value)) (n:Nat) (h:t.plain=false):(relayAll t es n).2.1.led=t.led∧(relayAll t es n).2.1.plain=false:=by
 unfold relayAll;cases q:t.relaid (es.map (·.1)) n with
 | none=>exact⟨rfl,rfl⟩
 | some r=>
  have hq:=aGi q;obtain⟨t',order⟩:=r;dsimp only at hq ⊢;split
  ·exact⟨hq.1,hq.2.trans h⟩
  ·exact⟨rfl,rfl⟩
section
variable {prog:Program}{w:World}{A:Around}{E:Value->Shared->Prop}{s:Shared}
structure aLv (prog:Program) (w:World) (ss:List Str) (L:Bool) (o:Obj) (es:Array (Int×Value)) (ep:Nat) (t:SetTable):Prop where
 ex:o.ExactSet
 da:o.data=.set es ep t
 el:ElemsOf (PySem.strKind prog w) es.toList
 me:∀ z,z∈unl ss []↔∃ e∈es.toList,(PySem.strKind prog w).is z e.2=true
 sz:es.size=(unl ss []).length
 sb:es.size<scanBound
 fi:t.fits es.size=true
 le:t.led=L
 pl:es.size=0∨t.plain=false
def lU (h:Heap) (a:Addr) (prog:Program) (w:World) (ss:List Str) (L:Bool):Prop:=∃ o es ep t,h.get? a=some o∧aLv prog w ss L o es ep t
theorem aAs {h:Heap}{a:Addr}{o:Obj}{es:Array (Int×Value)}{ep:Nat}{t:SetTable}(ho:h.get? a=some o) (hd:o.data=.set es ep t) (es':Array (Int×Value)) (t':SetTable) :
  (h.update a (Obj.putSet es' t')).get? a=some { o with data:=.set es' (ep+1) t' }:=by
 have q:=Heap.get?_update_self (Obj.putSet es' t') ho (by rw[putSet_of es' t' hd]; rfl);rw[putSet_of es' t' hd] at q;exact q
theorem add_str {a:Addr}{ss:List Str}{L:Bool}{z:Str}{tz:Tok}{Q:Bool->Shared->Prop}(hS:lU s.heap a prog w ss L) (hr:(unl ss []).length+1<scanBound)
  (q:∀ b h',Heap.SameBut a s.heap h'->lU h' a prog w (ss++[z]) L->Q b { s with heap:=h' }):wpAny (model prog w) A (setAddHashed a (.str z tz) ((PySem.strKind prog w).hash z)) Q E s:=by
 obtain⟨o,es,ep,t,ho,S⟩:=hS;have hkey:(PySem.strKind prog w).is z (.str z tz)=true:=beq_self_eq_true z;unfold setAddHashed setAddHashedIn;refine wpAny_holding (wpAny_bind (wpAny_setState_of ho S.da S.fi ?_));dsimp only;rw[byScan_of rfl S.sb S.el];simp only[↓reduceIte];unfold setAddByScan;refine wpAny_bind (wpAny_bind (wpAny_rule (wpAny_bind (wpAny_setScan_of hkey ho S.da S.fi S.el ?_))));cases hf:List.findIdx? (fun e=>(PySem.strKind prog w).is z e.2) es.toList with
 | some j=>
  dsimp only;obtain⟨hj,hp,_⟩:=List.findIdx?_eq_some_iff_getElem.mp hf;have hz:z∈unl ss []:=(S.me z).mpr ⟨es.toList[j],List.getElem_mem hj,hp⟩;have e:unl (ss++[z]) []=unl ss []:=by rw[qK,if_pos hz]
  have e2:s={ s with heap:=s.heap }:=by cases s; rfl
  refine wpAny_pure (wpAny_pure ?_);rw[e2];exact q _ _ (Heap.SameBut.refl a s.heap) ⟨o,es,ep,t,ho,S.ex,S.da,S.el,fun y=>by rw[e]; exact S.me y,by rw[e]; exact S.sz,S.sb,S.fi,S.le,S.pl⟩
 | none=>
  dsimp only
  have hz:¬ z∈unl ss []:=fun h=>by
   obtain⟨e,he,hp⟩:=(S.me z).mp h;rw[List.findIdx?_eq_none_iff.mp hf e he] at hp;cases hp
  have e:unl (ss++[z]) []=unl ss []++[z]:=by rw[qK,if_neg hz]
  have gw:∀ (b:Bool){s₁:Shared}{Q':Unit->Shared->Prop},Q' () s₁->wpAny (model prog w) A (match b with | true=>rule "set.scan.the-table-gave-way" | false=>pure ()) Q' E s₁:=fun b s₁ Q' h=>by
   cases b
   ·exact wpAny_pure h
   ·exact wpAny_rule h
  have lp:=layNew_perm t es ((PySem.strKind prog w).hash z) (.str z tz);have lf:=layNew_fits t es ((PySem.strKind prog w).hash z) (.str z tz);have ll:=zM t es ((PySem.strKind prog w).hash z) (.str z tz);generalize layNew t es ((PySem.strKind prog w).hash z) (.str z tz)=lay at lp lf ll ⊢;obtain⟨e1,t1,wd,gv⟩:=lay;dsimp only at lp lf ll ⊢;rw[Array.toList_push] at lp;have el1:ElemsOf (PySem.strKind prog w) e1.toList:=(S.el.push hkey rfl).perm lp
  have me1:∀ y,y∈unl (ss++[z]) []↔∃ e∈e1.toList,(PySem.strKind prog w).is y e.2=true:=fun y=>by
   have:=mem_push_iff (knd:=PySem.strKind prog w) (S:=fun y=>decide (y∈unl ss [])) hkey (fun y=>by rw[decide_eq_true_iff]; exact S.me y) lp y
   rw[← this,e,Bool.or_eq_true,decide_eq_true_iff,decide_eq_true_iff,List.mem_append,List.mem_singleton]
  have sz1:e1.size=(unl (ss++[z]) []).length:=by
   rw[← Array.length_toList,lp.length_eq,List.length_append,Array.length_toList,S.sz,e,List.length_append];rfl
  have sb1:e1.size<scanBound:=by rw[sz1,e,List.length_append]; exact hr
  refine wpAny_bind (gw _ ?_)
  -- behind the look at the value's hash the table is plain no more
  suffices main:∀ (t2:SetTable) (R:Option Bool->Shared->Prop),t2.led=L->t2.plain=false->t2.fits e1.size=true->(∀ h',Heap.SameBut a s.heap h'->lU h' a prog w (ss++[z]) L->R (some true) { s with heap:=h' })->wpAny (model prog w) A (do
    storeSet a e1 t2
    if (!wd&&t2.tooFull)=true then do
      (match (relayAll t2 e1 (SetTable.grown e1.size)).2.2 with | true=>rule "set.scan.the-table-gave-way" | false=>pure ())
      storeSet a (relayAll t2 e1 (SetTable.grown e1.size)).1 (relayAll t2 e1 (SetTable.grown e1.size)).2.1
      pure (some true)
     else pure (some true)) R E s by
   split
   ·refine wpAny_bind ?_;rw[hashByValue_scannable 8 (x:=.str z tz) rfl];refine wpAny_pure ?_;exact main _ _ (ll.trans S.le) rfl (SetTable.fits_plain_off lf) fun h' sm T=>wpAny_pure (q true h' sm T)
   ·rename_i np
    refine wpAny_bind (wpAny_pure ?_);simp only[↓reduceIte];exact main t1 _ (ll.trans S.le) (by simpa using np) lf fun h' sm T=>wpAny_pure (q true h' sm T)
  intro t2 R h1 h2 h3 hR;refine wpAny_bind (wpAny_storeSet_of ho S.da ?_ (fits_of_scanBound sb1));have g1:=aAs ho S.da e1 t2;have sm1:=Heap.SameBut.update s.heap a (Obj.putSet e1 t2);split
  ·have rp:=relayAll_perm t2 e1 (SetTable.grown e1.size);have rf':=relayAll_fits t2 e1 (SetTable.grown e1.size);have rl:=uP e1 (SetTable.grown e1.size) h2;generalize relayAll t2 e1 (SetTable.grown e1.size)=rel at rp rf' rl ⊢;obtain⟨e3,t3,g3⟩:=rel;dsimp only at rp rf' rl ⊢;have sz3:e3.size=e1.size:=by rw[← Array.length_toList,rp.length_eq,Array.length_toList]
   refine wpAny_bind (gw _ (wpAny_bind (wpAny_storeSet_of g1 rfl ?_ (fits_of_scanBound (by rw[sz3]; exact sb1)))));refine wpAny_pure (hR _ (sm1.trans (Heap.SameBut.update _ a _)) ⟨_,e3,ep+1+1,t3,aAs g1 rfl e3 t3,S.ex,rfl,el1.perm rp,fun y=>(me1 y).trans ⟨fun ⟨e,he,p⟩=>⟨e,rp.mem_iff.mpr he,p⟩,fun ⟨e,he,p⟩=>⟨e,rp.mem_iff.mp he,p⟩⟩,sz3.trans sz1,by rw[sz3]; exact sb1,rf',rl.1.trans h1,.inr rl.2⟩)
  ·exact wpAny_pure (hR _ sm1 ⟨_,e1,ep+1,t2,g1,S.ex,rfl,el1,me1,sz1,sb1,h3,h1,.inr h2⟩)
end
end L2
namespace L2
open PySem PySem.Spec PySem.Calls PyProof.Rows
theorem mX {α:Type}:∀ (l:List α) (i:Nat) (h:i<l.length),(l[i]::l.eraseIdx i).Perm l
 | a::t,0,_=>.refl _
 | a::t,i+1,h=>by
  have hi:i<t.length:=by simpa using h
  exact (List.Perm.swap _ _ _).trans (List.Perm.cons a (mX t i hi))
section
variable {M:Model}{A:Around}{E:Value->Shared->Prop}{s:Shared}{α:Type}
theorem aHl {src:Source}{n:Nat}{Q:Nat->Shared->Prop}(hn:n≠0) (h:∀ i d,i<n->Q i { s with drawn:=d }):wpAny M A (choose src n) Q E s:=
 fun _ _ _=>⟨hn,h _ _ (Nat.mod_lt _ (Nat.pos_of_ne_zero hn))⟩
theorem uA:∀ (n:Nat) (xs:List α) (s:Shared){Q:List α->Shared->Prop},xs.length=n->(∀ ys d,ys.Perm xs->Q ys { s with drawn:=d })->wpAny M A (drawOrder n xs) Q E s
 | 0,[],s,Q,_,h=>wpAny_pure (h [] s.drawn (.refl _))
 | n+1,x::xs,s,Q,hl,h=>by
  unfold drawOrder;refine wpAny_bind (aHl (by simp) fun i d hi=>?_);have e:(x::xs)[i]?=some (x::xs)[i]:=List.getElem?_eq_getElem hi;rw[e];dsimp only;refine wpAny_bind (uA n ((x::xs).eraseIdx i) { s with drawn:=d } (by rw[List.length_eraseIdx_of_lt hi]; simp at hl ⊢; omega) fun ys d' hp=>wpAny_pure (h _ d' ?_));refine List.Perm.trans (List.Perm.cons _ hp) ?_;exact mX _ i hi
theorem aAt (next:Nat->Nat):∀ (n k:Nat) (left:List α) (out:Array α),left.length=n->(pickOrder.go next n k left out).toList.Perm (out.toList++left)
 | 0,k,left,out,h=>by
  have:left=[]:=List.length_eq_zero_iff.mp h
  subst this;unfold pickOrder.go;rw[List.append_nil]
 | n+1,k,left,out,h=>by
  unfold pickOrder.go;have hi:next k%left.length<left.length:=Nat.mod_lt _ (by omega);rw[List.getElem?_eq_getElem hi];dsimp only;refine (aAt next n (k+1) _ _ (by rw[List.length_eraseIdx_of_lt hi]; omega)).trans ?_;rw[Array.toList_push,List.append_assoc];exact List.Perm.append_left _ (mX _ _ hi)
theorem aCb (next:Nat->Nat) (xs:Array α):(pickOrder next xs).toList.Perm xs.toList:=by
 have:=aAt next xs.size 0 xs.toList #[] (by simp)
 simpa [pickOrder] using this
end
end L2
namespace L2
open PySem PySem.Spec PySem.Calls PyProof.Rows
section
variable {prog:Program}{w:World}
theorem nG {h h':Heap}{S:Addr}{ss:List Str}{L:Bool}(T:lU h S prog w ss L) (k:∀ o,h.get? S=some o->h'.get? S=some o):lU h' S prog w ss L:=by
 obtain⟨o,es,ep,t,ho,rest⟩:=T;exact⟨o,es,ep,t,k o ho,rest⟩
variable {A:Around}{R:Result->Shared->Prop}{It:Addr}{fp wr:List Addr}{G:Array GenState->Array GenState->Prop}{n:Nat}{Pv:Nat->Value->Prop}{St':Nat->Shared->Prop}
theorem aBs (W:WalksS prog w A.in1 It fp wr G n Pv St'){S:Addr}{L:Bool}(hS:S∉fp){ss:List Str}(hn:ss.length=n) (hb:n+1<scanBound)
  (hv:∀ (i:Nat) v,Pv i v->∃ z t,ss[i]?=some z∧v=.str z t) (k:Nat):∀ (i:Nat) (s:Shared),i+k=n->St' i s->lU s.heap S prog w (ss.take i) L ->
   (∀ s',Moved (S::wr) G s s'->lU s'.heap S prog w ss L->R (.ok (.ret .none)) s')->codeAny (model prog w) A (.builtin "set.update.loop" ⟨[.ref S,.ref It],[]⟩) R s:=by
 have hw:S∉wr:=fun q=>hS (W.sub _ q)
 induction k with
 | zero=>
  intro i s hi st T q
  refine codeAny_builtin F.entry_set_update_loop (by
   rw[Around.under_plainId F.plain_set_update_loop _];refine wpAny_bind (W.done s _ _ (by rw[← hi]; exact st) fun s' m=>wpAny_pure (q s' (m.mono fun b u=>.tail _ u) (nG ?_ fun o e=>m.heap S o hw e)));rw[List.take_of_length_le (by omega)] at T;exact T)
 | succ k ih=>
  intro i s hi st T q
  refine codeAny_builtin F.entry_set_update_loop (by
   rw[Around.under_plainId F.plain_set_update_loop _];refine wpAny_bind (W.item i s _ _ (by omega) st fun v s1 pv st1 m=>?_);obtain⟨z,t,hz,rfl⟩:=hv i v pv;have T1:=nG T fun o e=>m.heap S o hw e;have hi':i<ss.length:=(List.getElem?_eq_some_iff.mp hz).1;have hl:=uK (ss.take i) [];rw[List.length_take,List.length_nil] at hl;show wpAny _ A.in1 (holding [Value.str z t] (setAdd S (.str z t))>>=_) _ _ s1;refine wpAny_bind (wpAny_holding ?_);unfold setAdd;refine wpAny_holding (wpAny_bind ((PySem.strKind prog w).pyHash (k:=z) (by exact beq_self_eq_true z) ?_));refine add_str (s:={ s1 with toks:=s1.toks+1 }) T1 (by omega) fun b h2 sb T3=>?_;rw[show ss.take i++[z]=ss.take (i+1) by rw[List.take_succ,hz]; rfl] at T3;refine wpAny_pure ⟨plainId_quiet F.plain_set_update_loop _,ih (i+1) { s1 with heap:=h2,toks:=s1.toks+1 } (by omega) (W.frame _ s1 _ _ st1 (Nat.le_succ _) fun b u o e=>?_) T3 fun s3 m3 T4=>q s3 ?_ T4⟩
   ·rw[sb.2 b fun u':b=S=>hS (u'▸u)]; exact e
   ·refine Moved.trans W.gtrans ((m.mono fun b u=>.tail _ u).then_heap (Nat.le_succ _) fun b o u e=>?_) m3;rw[sb.2 b fun u':b=S=>u (u'▸.head _)]; exact e)
end
section
variable {prog:Program}{w:World}{A:Around}{E:Value->Shared->Prop}{s:Shared}
theorem aEe {h:Heap}{a:Addr}{led:Bool}(hS:h.get? a=some (jL led)):lU h a prog w [] led:=
 ⟨_,#[],0,.fresh 0 0 led,hS,⟨rfl,rfl,rfl⟩,rfl,fun e he=>(by simp at he),fun z=>(by simp[unl]),rfl,by decide,rfl,rfl,.inl rfl⟩
set_option maxHeartbeats 6000000 in
theorem aBr {l S:Addr}{led:Bool}{items:Array Value}{ss:List Str}(hh:A.handled=none) (hl:s.heap.IsList l items) (hS:s.heap.get? S=some (jL led)) (hne:S≠l) (hn:ss.length=items.size) (hb:items.size+1<scanBound)
  (hi:∀ (i:Nat) v,items[i]?=some v->∃ z t,ss[i]?=some z∧v=.str z t){Qr:Fin->Shared->Prop}
  (q:∀ h' tk,lU h' S prog w ss led->(∀ b o,b≠S->s.heap.get? b=some o->h'.get? b=some o)->Qr (.done (.ret .none)) { s with heap:=h',toks:=tk }) :
  wpAny (model prog w) A (Builtin.«set.__init__» ⟨[.ref S,.ref l],[]⟩) Qr E s:=by
 have hl1:=hl;obtain⟨⟨lc,ld,la,lo⟩,hol,hcl,nl,hdl⟩:=hl;simp only at hcl hdl;subst hcl hdl;have f1:=F.sub_list_set;have f2:=F.sub_list_frozenset;have f3:(Value.type "list" == Value.type "dict")=false:=by decide
 unfold Builtin.«set.__init__» noKeywords Builtin.Frozenset.updateFrom;generalize hPI:pyIter=PI
 wp_walk
 subst hPI;refine wpAny_pyIter_list hl1 (wpAny_bind (wpAny_runValue ?_));have lS:l<s.heap.objs.size:=Heap.lt_size hol;have SS:S<s.heap.objs.size:=Heap.lt_size hS;have T0:lU s.heap S prog w [] led:=aEe hS;refine aBs ((Walks.list (by simp[hh]) s.heap.objs.size l (Nat.ne_of_lt lS) items).toS) (S:=S) (by simp[hne,Nat.ne_of_lt SS]) hn hb hi items.size 0 _ (Nat.zero_add _) ⟨⟨_,Heap.get?_push_size _ rfl,rfl,rfl⟩,hl1.push _⟩ (nG T0 fun o e=>Heap.get?_push_of_some _ e) ?_;rintro⟨h',g',d',tk',os'⟩ m T;obtain⟨m1,m2,m3,m4,m5⟩:=m;cases m2;cases m3;cases m4;refine wpAny_pure (wpAny_pure (q h' tk' T fun b o hb e=>m1 b o ?_ (Heap.get?_push_of_some _ e)));simp[hb,Nat.ne_of_lt (Heap.lt_size e)]
abbrev pW (w:World):Bool:=!w.params.followText "set-order"
theorem aEp (a:Value){Q₁:Value->Shared->Prop}(h:Q₁ (.ref s.heap.objs.size) { s with heap:=s.heap.push (jL (pW w)) }) :
  codeAny (model prog w) A (.call (.builtin "set.__new__") ⟨[.type "set",a],[]⟩) (wants Q₁ E) s:=by
 refine codeAny_of_tree ?_;show wpAny _ A.in1 (do checkBuiltinCall "set.__new__" ⟨[.type "set",a],[]⟩; again (.builtin "set.__new__" ⟨[.type "set",a],[]⟩)) _ _ s;refine wpAny_bind (wpAny_of_eq (F.newCall_set_1 a) (wpAny_pure ⟨plainId_quiet F.plain_set_new _,codeAny_builtin F.entry_set_new ?_⟩));rw[Around.under_plainId F.plain_set_new _];unfold Builtin.«set.__new__» Builtin.Frozenset.newClass;have hsub:=sub_set_self;obtain⟨hp,g,d,tk,os⟩:=s;dsimp only
 wp_walk
 refine wpAny_askSetting (wpAny_pure ?_);dsimp only;simp only[newObj];refine wpAny_bind (wpAny_alloc (wpAny_pure ?_));exact wpAny_pure h
set_option maxHeartbeats 6000000 in
theorem aDk {l:Addr}{items:Array Value}{ss:List Str}{Q:Value->Shared->Prop}(hh:A.handled=none) (hl:s.heap.IsList l items) (hn:ss.length=items.size) (hb:items.size+1<scanBound)
  (hi:∀ (i:Nat) v,items[i]?=some v->∃ z t,ss[i]?=some z∧v=.str z t)
  (q:∀ h' tk,lU h' s.heap.objs.size prog w ss (pW w)->(∀ b o,s.heap.get? b=some o->h'.get? b=some o)->Q (.ref s.heap.objs.size) { s with heap:=h',toks:=tk }) :
  wpAny (model prog w) A (call (.type "set") [.ref l]) Q E s:=by
 obtain⟨c,tl,hmro⟩:=F.called_set.mro;have g1:=F.called_set.made;have g2:=F.called_set.sub;have g3:=F.called_set.notType;have g4:=F.called_set.canCreate;have g5:=F.typeCall_set_1 (.ref l);refine wpAny_call (codeAny_of_tree ?_);show wpAny _ _ (callAny (.type "set") _) _ _ _;refine wpAny_pure ⟨Code.quiet_builtin _ (by decide +kernel),codeAny_builtin F.entry_type_call ?_⟩;rw[Around.under_plain (weight_type_call_type "set" [.ref l] []) rfl]
 repeat any_goals first | assumption | wp_step
 refine codeAny_mono (aEp (.ref l) (E:=E) (Q₁:=fun v s1=>v=.ref s.heap.objs.size∧s1={ s with heap:=s.heap.push (jL (pW w)) }) ⟨rfl,rfl⟩) fun r s1 hr=>?_
 match r,hr with
 | .error _,hr=>exact hr
 | .ok (.ret v),⟨e1,e2⟩=>
  subst e1 e2;have hS:(s.heap.push (jL (pW w))).get? s.heap.objs.size=some (jL (pW w)):=Heap.get?_push_size _ rfl;have hT:Shared.TypeIs { s with heap:=s.heap.push (jL (pW w)) } (.ref s.heap.objs.size) "set":=⟨_,hS,rfl⟩;have g6:=F.called_set.init.lookup;have g7:=F.called_set.init.bind (.ref s.heap.objs.size)
  repeat any_goals first | assumption | wp_step
  have lS:l<s.heap.objs.size:=let ⟨_,e,_⟩:=hl; Heap.lt_size e
  refine codeAny_mono (codeAny_call_builtin (R:=wants (fun v s2=>v=.none∧∃ h' tk,s2={ s with heap:=h',toks:=tk }∧lU h' s.heap.objs.size prog w ss (pW w)∧∀ b o,s.heap.get? b=some o->h'.get? b=some o) E) F.called_set.init.plain F.entry_set_init
   (check_set_init_1 hT (aBr (by simp[hh]) (hl.push _) hS (Nat.ne_of_gt lS) hn hb hi fun h' tk T k=>⟨rfl,h',tk,rfl,T,fun b o e=>k b o (Nat.ne_of_lt (Heap.lt_size e)) (Heap.get?_push_of_some _ e)⟩))) fun r2 s2 hr2=>?_
  match r2,hr2 with
  | .error _,hr2=>exact hr2
  | .ok (.ret v),⟨e1,h',tk,e2,T,k⟩=>
   subst e1 e2
   repeat any_goals first | assumption | wp_step
   exact q h' tk T k
end
end L2
namespace L2
open PySem PySem.Spec PySem.Calls PyProof.Rows
theorem lH:Slot "set_iterator" "__next__" "set_iterator.__next__" := Slot.of (n:="__next__") (owner:="set_iterator") (by rw[typeLookup_type,builtinLookup_eq_fast]; kernel_rfl) (by decide +kernel) (by decide +kernel) (by decide +kernel) (.inl (by decide +kernel)) (by rw[isSubtype_type]; kernel_rfl)
theorem aAq:Slot "set_iterator" "__iter__" "set_iterator.__iter__" := Slot.of (n:="__iter__") (owner:="set_iterator") (by rw[typeLookup_type,builtinLookup_eq_fast]; kernel_rfl) (by decide +kernel) (by decide +kernel) (by decide +kernel) (.inl (by decide +kernel)) (by rw[isSubtype_type]; kernel_rfl)
theorem aEl:entryFor table "set_iterator.__next__"=some Builtin.«set_iterator.__next__»:=entryFor_of_tree (by kernel_rfl)
theorem aEn:entryFor table "set_iterator.__iter__" = some Builtin.«dict_keyiterator.__iter__»:=entryFor_alias (id':="dict_keyiterator.__iter__") (by kernel_rfl) rfl (by decide +kernel) (by kernel_rfl)
theorem aBu:entryFor table "set.__iter__" = some Builtin.«frozenset.__iter__»:=entryFor_alias (id':="frozenset.__iter__") (by kernel_rfl) rfl (by decide +kernel) (by kernel_rfl)
theorem wA:Manifest.owners.lookup (String.ofList ['r','o','t','a','r','e','t','i','_','t','e','s'].reverse)=some Manifest.sig_set_iterator:=by kernel_rfl
theorem aEm (a:Value):argsOk "set_iterator.__next__" ⟨[a],[]⟩:=by
 unfold argsOk;rw[signature?_of (id:="set_iterator.__next__") (o:=['r','o','t','a','r','e','t','i','_','t','e','s']) (n:=['_','_','t','x','e','n','_','_']) (by kernel_rfl) wA]
 kernel_rfl
theorem aEo (a:Value):argsOk "set_iterator.__iter__" ⟨[a],[]⟩:=by
 unfold argsOk;rw[signature?_of (id:="set_iterator.__iter__") (o:=['r','o','t','a','r','e','t','i','_','t','e','s']) (n:=['_','_','r','e','t','i','_','_']) (by kernel_rfl) wA]
 kernel_rfl
def SI (h:Heap) (I:Addr) (f:Value) (i:Nat) (S:Addr) (n ep:Nat):Prop:=∃ o,h.get? I=some o∧o.cls=.type "set_iterator" ∧ o.data=.fields #[f,.int i 0,.ref S,.int n 0,.int ep 0]
theorem SI.typeIs {s:Shared}{I f i S n ep} (x:SI s.heap I f i S n ep):s.TypeIs (.ref I) "set_iterator":=let ⟨o,ho,hc,_⟩:=x; ⟨o,ho,hc⟩
theorem SI.at {h h':Heap}{I f i S n ep} (x:SI h I f i S n ep) (k:∀ o,h.get? I=some o->h'.get? I=some o):SI h' I f i S n ep:=let ⟨o,ho,r⟩:=x; ⟨o,k o ho,r⟩
section
variable {prog:Program}{w:World}{A:Around}{E:Value->Shared->Prop}{s:Shared}
theorem uM {I:Addr}{f i S n ep} {Q:Value->Shared->Prop}(x:SI s.heap I f i S n ep) (h:Q (.ref I) s):wpAny (model prog w) A (pyIter (.ref I)) Q E s:=by
 refine wpAny_pyIter_slot x.typeIs aAq (wpAny_call_entry aAq x.typeIs aEn ?_ (aEo _));show wpAny _ _ (ret (.ref I)) _ _ s;exact wpAny_pure ⟨_,rfl,"set_iterator",_,x.typeIs,lH.lookup,h⟩
structure nA (h:Heap) (S:Addr) (es:Array (Int×Value)) (ep:Nat) (t:SetTable):Prop where
 at':∃ o,h.get? S=some o∧o.data=.set es ep t
 fi:t.fits es.size=true
theorem nA.keep {h h':Heap}{S es ep t} (x:nA h S es ep t) (k:∀ o,h.get? S=some o->h'.get? S=some o):nA h' S es ep t:=let ⟨o,ho,hd⟩:=x.at'; ⟨⟨o,k o ho,hd⟩,x.fi⟩
theorem aBt {I S:Addr}{o:Obj}{f f':Value}{i n ep:Nat}(ho:s.heap.get? I=some o) (hc:o.cls=.type "set_iterator") (hd:o.data=.fields #[f,.int i 0,.ref S,.int n 0,.int ep 0]) :
  SI (s.heap.update I (Obj.mapFields (·.setIfInBounds 1 (rawInt ((i:Int)+1))))) I f (i+1) S n ep:=
 ⟨_,Heap.get?_update_self _ ho (Obj.isFreed_of_fields (Obj.data_mapFields hd _)),(Obj.cls_mapFields ..).trans hc,by rw[Obj.data_mapFields hd]; simp[rawInt]⟩
theorem vZ {h:Heap}{I:Addr}{Q:Option Value->Shared->Prop}{R:Fin->Shared->Prop}(hh:A.handled=none) (hb:Heap.SameBut I s.heap h) (hQ:∀ h',Heap.ExtBut I s.heap h'->Q none { s with heap:=h' }) :
  wpAny (model prog w) A.in1 (newExc (.type "StopIteration") []>>=fun e=>raiseNew (α:=Fin) e) R (fun e s'=>wpAny (model prog w) A (isInstance e (.type "StopIteration")>>=fun b=>if b=true then pure none else throw e) Q E s') { s with heap:=h }:=by
 refine wpAny_bind ?_;simp only[newExc,newTuple];refine wpAny_bind (wpAny_newObj_type ?_ (by size_fits));refine wpAny_bind (m:=firstArgMember _ _) (wpAny_of_eq (a:=Value.none) (by first | rfl | (simp only[firstArgMember]; rfl)) ?_);refine wpAny_newObj_type ?_ (by size_fits);simp only[raiseNew];refine wpAny_bind (wpAny_handled ?_);rw[show A.in1.handled=none from hh]
 refine wpAny_bind (wpAny_pure (wpAny_throw ?_));refine wpAny_bind (wpAny_isInstance (T:="StopIteration") (b:=true) ⟨_,Heap.get?_push_size _ rfl,rfl⟩ isSubtype_stop ?_);exact wpAny_pure (hQ _ ((hb.extBut.push _).push _))
theorem lO {I S:Addr}{es:Array (Int×Value)}{ep i:Nat}{t:SetTable}{f:Value}{Q:Option Value->Shared->Prop}(K:nA s.heap S es ep t) (x':SI s.heap I f i S es.size ep)
  (q:wpAny (model prog w) A.in1 (if let .int slot _:=f then do
    match ← setNext S slot.toNat i ep with
    | some (x,next)=>
     setField (.ref I) 0 (rawInt next)
     setField (.ref I) 1 (rawInt ((i:Int)+1))
     ret x
    | none=>setField (.ref I) 2 .none; raiseNew (← newExc (.type "StopIteration") [])
   else do
    let some places ← seqItems? f | unsupported "internal:set_iterator"
    match places[i]? with
    | some (.int place _)=>
     let x ← setNextDrawn S place.toNat ep
     setField (.ref I) 1 (rawInt ((i:Int)+1))
     ret x
    | some _=>unsupported "internal:set_iterator"
    | none=>setField (.ref I) 0 (rawInt 0); setField (.ref I) 2 .none; raiseNew (← newExc (.type "StopIteration") []))
   (fun fin s'=>∃ v,fin=Fin.done (Flow.ret v)∧wpAny (model prog w) A (pure (some v)) Q E s')
   (fun e s'=>wpAny (model prog w) A (isInstance e (.type "StopIteration")>>=fun b=>if b=true then pure none else throw e) Q E s') s) :
  wpAny (model prog w) A (pyNext (.ref I)) Q E s:=by
 obtain⟨o,ho,hc,hd⟩:=id x';obtain⟨⟨oS,hoS,hdS⟩,fi⟩:=id K;unfold pyNext;refine wpAny_bind (wpAny_attempt (wpAny_callSpecial?_slot (name:=Str.ofString "__next__") x'.typeIs lH (wpAny_call_entry lH x'.typeIs aEl ?_ (aEm _))));unfold Builtin.«set_iterator.__next__»;refine wpAny_bind (wpAny_pure ?_);refine wpAny_bind (wpAny_fieldsOf ho hd ?_);dsimp only;unfold setEntries;refine wpAny_bind (wpAny_bind (wpAny_setState_of hoS hdS fi (wpAny_pure ?_)));rw[if_neg (by simp)];exact q
theorem tR {I S:Addr}{es:Array (Int×Value)}{ep i sl nx:Nat}{t:SetTable}{x:Value}{Q:Option Value->Shared->Prop}(K:nA s.heap S es ep t) (x':SI s.heap I (.int sl 0) i S es.size ep)
  (hN:∀ {Q':Option (Value×Nat)->Shared->Prop}{E':Value->Shared->Prop},Q' (some (x,nx)) s->wpAny (model prog w) A.in1 (setNext S sl i ep) Q' E' s)
  (hQ:∀ h',SI h' I (.int nx 0) (i+1) S es.size ep->Heap.SameBut I s.heap h'->Q (some x) { s with heap:=h' }):wpAny (model prog w) A (pyNext (.ref I)) Q E s:=by
 obtain⟨o,ho,hc,hd⟩:=id x';refine lO K x' ?_;refine wpAny_bind (hN ?_);dsimp only;refine wpAny_bind (wpAny_setField ho hd (by simp) ?_);have h1:=Heap.get?_update_self (Obj.mapFields (·.setIfInBounds 0 (rawInt (nx:Int)))) ho (Obj.isFreed_of_fields (Obj.data_mapFields hd _));have d1:(Obj.mapFields (·.setIfInBounds 0 (rawInt (nx:Int))) o).data=.fields #[.int nx 0,.int i 0,.ref S,.int es.size 0,.int ep 0]:=by rw[Obj.data_mapFields hd]; simp[rawInt]
 have c1:(Obj.mapFields (·.setIfInBounds 0 (rawInt (nx:Int))) o).cls=.type "set_iterator":=(Obj.cls_mapFields ..).trans hc;refine wpAny_bind (wpAny_setField h1 d1 (by simp) ?_);refine wpAny_pure ⟨_,rfl,wpAny_pure (hQ _ ?_ ((Heap.SameBut.update ..).trans (Heap.SameBut.update ..)))⟩;exact⟨_,Heap.get?_update_self _ h1 (Obj.isFreed_of_fields (Obj.data_mapFields d1 _)),(Obj.cls_mapFields ..).trans c1,by rw[Obj.data_mapFields d1]; simp[rawInt]⟩
theorem rF {I S:Addr}{es:Array (Int×Value)}{ep i sl:Nat}{t:SetTable}{Q:Option Value->Shared->Prop}(hh:A.handled=none) (K:nA s.heap S es ep t) (x':SI s.heap I (.int sl 0) i S es.size ep)
  (hN:∀ {Q':Option (Value×Nat)->Shared->Prop}{E':Value->Shared->Prop},Q' none s->wpAny (model prog w) A.in1 (setNext S sl i ep) Q' E' s)
  (hQ:∀ h',Heap.ExtBut I s.heap h'->Q none { s with heap:=h' }):wpAny (model prog w) A (pyNext (.ref I)) Q E s:=by
 obtain⟨o,ho,hc,hd⟩:=id x';refine lO K x' ?_;refine wpAny_bind (hN ?_);dsimp only;refine wpAny_bind (wpAny_setField ho hd (by simp) ?_);exact vZ (s:=s) hh (Heap.SameBut.update ..) hQ
theorem zG {I S P:Addr}{es:Array (Int×Value)}{ep i j:Nat}{t:SetTable}{x:Int×Value}{pl:Array Value}{c:Nat}{Q:Option Value->Shared->Prop}(K:nA s.heap S es ep t) (x':SI s.heap I (.ref P) i S es.size ep)
  (hP:s.heap.get? P=some { cls:=.type "tuple",data:=.seq pl c }) (hj:pl[i]?=some (.int j 0)) (hx:es[j]?=some x)
  (hQ:∀ h',SI h' I (.ref P) (i+1) S es.size ep->Heap.SameBut I s.heap h'->Q (some x.2) { s with heap:=h' }):wpAny (model prog w) A (pyNext (.ref I)) Q E s:=by
 obtain⟨o,ho,hc,hd⟩:=id x';obtain⟨⟨oS,hoS,hdS⟩,fi⟩:=id K;refine lO K x' ?_;refine wpAny_bind (wpAny_seqItems hP rfl ?_);dsimp only;rw[hj];dsimp only;unfold setNextDrawn;refine wpAny_bind (wpAny_bind (wpAny_setState_of hoS hdS fi ?_));dsimp only;rw[if_neg (by simp)];refine wpAny_bind (wpAny_pure ?_);rw[Int.toNat_natCast,hx];dsimp only;refine wpAny_pure ?_;refine wpAny_bind (wpAny_setField ho hd (by simp) ?_);refine wpAny_pure ⟨_,rfl,wpAny_pure (hQ _ (aBt (f':=.none) ho hc hd) (Heap.SameBut.update ..))⟩
theorem xA {I S P:Addr}{es:Array (Int×Value)}{ep i:Nat}{t:SetTable}{pl:Array Value}{c:Nat}{Q:Option Value->Shared->Prop}(hh:A.handled=none) (K:nA s.heap S es ep t) (x':SI s.heap I (.ref P) i S es.size ep)
  (hP:s.heap.get? P=some { cls:=.type "tuple",data:=.seq pl c }) (hj:pl[i]?=none)
  (hQ:∀ h',Heap.ExtBut I s.heap h'->Q none { s with heap:=h' }):wpAny (model prog w) A (pyNext (.ref I)) Q E s:=by
 obtain⟨o,ho,hc,hd⟩:=id x';refine lO K x' ?_;refine wpAny_bind (wpAny_seqItems hP rfl ?_);dsimp only;rw[hj];dsimp only;refine wpAny_bind (wpAny_setField ho hd (by simp) ?_);have h1:=Heap.get?_update_self (Obj.mapFields (·.setIfInBounds 0 (rawInt 0))) ho (Obj.isFreed_of_fields (Obj.data_mapFields hd _));refine wpAny_bind (wpAny_setField h1 (Obj.data_mapFields hd _) (by simp) ?_);exact vZ (s:=s) hh ((Heap.SameBut.update ..).trans (Heap.SameBut.update ..)) hQ
theorem nJ {S:Addr}{es:Array (Int×Value)}{ep i:Nat}{t:SetTable}(hw:w.params.followText "set-order"=true) (K:nA s.heap S es ep t){Q:Option (Value×Nat)->Shared->Prop}(h:Q (((pickOrder (w.params.setOrder S ep) es)[i]?).map fun e=>(e.2,0)) s) :
  wpAny (model prog w) A (setNext S 0 i ep) Q E s:=by
 obtain⟨⟨oS,hoS,hdS⟩,fi⟩:=id K;unfold setNext setsByText;refine wpAny_bind (wpAny_setState_of hoS hdS fi ?_);dsimp only;refine wpAny_bind (wpAny_bind (wpAny_askSetting (wpAny_pure ?_)));have hw':(model prog w).w.params.followText "set-order"=true:=hw;rw[if_pos hw',if_neg (by simp)];unfold setWalk setsByText;refine wpAny_bind (wpAny_bind (wpAny_setState_of hoS hdS fi ?_));dsimp only;refine wpAny_bind (wpAny_bind (wpAny_askSetting (wpAny_pure ?_)));rw[if_pos hw'];refine wpAny_bind (wpAny_askSetting (wpAny_pure (wpAny_pure h)))
theorem pO {S:Addr}{es:Array (Int×Value)}{ep i sl:Nat}{t:SetTable}(hw:w.params.followText "set-order"=false) (K:nA s.heap S es ep t) (hl:t.led=true) (h1:es.size<=1){Q:Option (Value×Nat)->Shared->Prop}
  (h:Q (match es[SetTable.below t.place sl]?,t.place[SetTable.below t.place sl]? with | some (_,x),some j=>some (x,j+1) | _,_=>none) s) :
  wpAny (model prog w) A (setNext S sl i ep) Q E s:=by
 obtain⟨⟨oS,hoS,hdS⟩,fi⟩:=id K;unfold setNext setsByText;refine wpAny_bind (wpAny_setState_of hoS hdS fi ?_);dsimp only;refine wpAny_bind (wpAny_bind (wpAny_askSetting (wpAny_pure ?_)));have hf:¬ ((model prog w).w.params.followText "set-order" = true):=by rw[show (model prog w).w.params.followText "set-order" = false from hw]; exact Bool.false_ne_true
 rw[if_neg hf];have hs:¬ (es.size>1):=by omega
 show wpAny _ _ (if (!t.plain&&decide (es.size>1))=true then _ else _) _ _ _
 rw[if_neg (by simp[hs])];show wpAny _ _ ((if (!t.led&&!es.isEmpty)=true then _ else _)>>=_) _ _ _
 rw[if_neg (by simp[hl])];exact wpAny_bind (wpAny_pure (wpAny_pure h))
end
end L2
namespace L2
open PySem PySem.Spec PySem.Calls PyProof.Rows
section
variable {prog:Program}{w:World}{A:Around}{E:Value->Shared->Prop}{s:Shared}
theorem yA (hh:A.handled=none){I S:Addr}(hne:S≠I){es:Array (Int×Value)}{ep:Nat}{t:SetTable}(hw:w.params.followText "set-order"=true){vs:List Value}(hv:vs=(pickOrder (w.params.setOrder S ep) es).toList.map (·.2)) :
  Walks prog w A I [I,S] [I] vs.length (fun i v=>vs[i]?=some v) (fun i h=>SI h I (.int 0 0) i S es.size ep∧nA h S es ep t) where
 sub:=fun b hb=>by simp at hb; simp[hb]
 frame:=fun _ _ _ st hk=>⟨st.1.at fun o e=>hk I (by simp) o e,st.2.keep fun o e=>hk S (by simp) o e⟩
 item:=fun i s Q E hi st hQ=>by
  obtain⟨v,e2⟩:∃ v,vs[i]?=some v:=⟨_,List.getElem?_eq_getElem hi⟩;rw[hv,List.getElem?_map,Array.getElem?_toList] at e2;cases q:(pickOrder (w.params.setOrder S ep) es)[i]? with
  | none=>rw[q] at e2; cases e2
  | some x=>
   refine tR (x:=x.2) (nx:=0) (sl:=0) st.2 st.1 (fun h=>nJ hw st.2 (by rw[q]; exact h)) fun h' a b=>hQ _ h' s.toks ?_ ⟨a,st.2.keep fun o e=>(b.2 S hne).trans e⟩ fun b' o hb e=>b.extBut b' o (fun h=>hb (by simp[h])) e;rw[hv,List.getElem?_map,Array.getElem?_toList,q];rfl
 done:=fun s Q E st hQ=>by
  refine rF (sl:=0) hh st.2 st.1 (fun h=>nJ hw st.2 ?_) fun h' b=>hQ h' s.toks fun b' o hb e=>b b' o (fun h=>hb (by simp[h])) e
  have:(pickOrder (w.params.setOrder S ep) es)[vs.length]?=none:=by
   rw[hv,List.length_map,Array.length_toList];exact Array.getElem?_eq_none (Nat.le_refl _)
  rw[this];exact h
 self:=fun _ _ _ _ st hQ=>uM st.1 hQ
theorem uI (hh:A.handled=none){I S P:Addr}(hne:S≠I) (hP:P≠I){es:Array (Int×Value)}{ep:Nat}{t:SetTable}{ys:List Nat}(hy:∀ j∈ys,j<es.size){vs:List Value}(hv:vs=ys.map fun j=>(es[j]?.map (·.2)).getD .none) :
  Walks prog w A I [I,S,P] [I] vs.length (fun i v=>vs[i]?=some v) (fun i h=>SI h I (.ref P) i S es.size ep∧nA h S es ep t∧h.get? P=some { cls:=.type "tuple",data:=.seq (ys.map fun (i:Nat)=>rawInt i).toArray }) where
 sub:=fun b hb=>by simp at hb; simp[hb]
 frame:=fun _ _ _ st hk=>⟨st.1.at fun o e=>hk I (by simp) o e,st.2.1.keep fun o e=>hk S (by simp) o e,hk P (by simp) _ st.2.2⟩
 item:=fun i s Q E hi st hQ=>by
  have hi':i<ys.length:=by rw[hv,List.length_map] at hi; exact hi
  have hj:=hy _ (List.getElem_mem hi');have ex:es[ys[i]]?=some es[ys[i]]:=Array.getElem?_eq_getElem hj;refine zG (x:=es[ys[i]]) (j:=ys[i]) st.2.1 st.1 st.2.2 (by simp[rawInt,hi']) ex fun h' a b=>hQ _ h' s.toks ?_ ⟨a,st.2.1.keep fun o e=>(b.2 S hne).trans e,(b.2 P hP).trans st.2.2⟩ fun b' o hb e=>b.extBut b' o (fun h=>hb (by simp[h])) e;rw[hv,List.getElem?_map,List.getElem?_eq_getElem hi',Option.map_some,ex];rfl
 done:=fun s Q E st hQ=>by
  refine xA hh st.2.1 st.1 st.2.2 (by rw[hv]; simp) fun h' b=>hQ h' s.toks fun b' o hb e=>b b' o (fun h=>hb (by simp[h])) e
 self:=fun _ _ _ _ st hQ=>uM st.1 hQ
theorem aBk (hh:A.handled=none){I S:Addr}(hne:S≠I){es:Array (Int×Value)}{ep:Nat}{t:SetTable}(hw:w.params.followText "set-order"=false) (hl:t.led=true) (h1:es.size<=1) (fi:t.fits es.size=true){vs:List Value}(hv:vs=es.toList.map (·.2)) :
  Walks prog w A I [I,S] [I] vs.length (fun i v=>vs[i]?=some v) (fun i h=>∃ sl:Nat,SI h I (.int sl 0) i S es.size ep∧nA h S es ep t∧(i=0∧sl=0∨i=1∧∃ j,t.place[0]?=some j∧sl=j+1)) where
 sub:=fun b hb=>by simp at hb; simp[hb]
 frame:=fun _ _ _ ⟨sl,a,b,c⟩ hk=>⟨sl,a.at fun o e=>hk I (by simp) o e,b.keep fun o e=>hk S (by simp) o e,c⟩
 item:=fun i s Q E hi ⟨sl,a,b,c⟩ hQ=>by
  have hn:vs.length=es.size:=by rw[hv,List.length_map,Array.length_toList]
  have hi0:i=0:=by omega
  have hs:es.size=1:=by omega
  have hp:t.place.size=1:=by
   simp only[SetTable.fits,Bool.and_eq_true,beq_iff_eq,decide_eq_true_eq] at fi;omega
  subst hi0
  have hsl:sl=0:=by
   rcases c with c | c
   ·exact c.2
   ·exact absurd c.1 (by decide)
  subst hsl
  have bl:SetTable.below t.place 0=0:=by
   unfold SetTable.below;rw[hp];unfold SetTable.below.go;simp[SetTable.below.go]
  obtain⟨x,e0⟩:∃ x,es[0]?=some x:=⟨_,Array.getElem?_eq_getElem (by omega)⟩;have p0:t.place[0]?=some t.place[0]:=Array.getElem?_eq_getElem (by omega);refine tR (x:=x.2) (nx:=t.place[0]+1) (sl:=0) b a (fun h=>pO hw b hl h1 ?_) fun h' a' b'=>hQ _ h' s.toks ?_ ⟨_,a',b.keep fun o e=>(b'.2 S hne).trans e,.inr ⟨rfl,_,p0,rfl⟩⟩ fun b'' o hb e=>b'.extBut b'' o (fun h=>hb (by simp[h])) e
  ·rw[bl,e0,p0];exact h
  ·rw[hv,List.getElem?_map,Array.getElem?_toList,e0];rfl
 done:=fun s Q E ⟨sl,a,b,c⟩ hQ=>by
  have hn:vs.length=es.size:=by rw[hv,List.length_map,Array.length_toList]
  have hp:t.place.size=es.size:=by
   simp only[SetTable.fits,Bool.and_eq_true,beq_iff_eq,decide_eq_true_eq] at fi;omega
  refine rF hh b a (fun h=>pO hw b hl h1 ?_) fun h' b'=>hQ h' s.toks fun b'' o hb e=>b' b'' o (fun h=>hb (by simp[h])) e
  have:es[SetTable.below t.place sl]?=none:=by
   refine Array.getElem?_eq_none ?_;rcases c with⟨c1,c2⟩ | ⟨c1,j,c2,c3⟩
   ·omega
   ·have hs:es.size=1:=by omega
    subst c3;have g:t.place.getD 0 (j+1)=j:=by rw[Array.getD_eq_getD_getElem?,c2]; rfl
    unfold SetTable.below;rw[hp,hs];unfold SetTable.below.go;simp[SetTable.below.go,g]
  rw[this];exact h
 self:=fun _ _ _ _ ⟨_,a,_⟩ hQ=>uM a hQ
theorem iK {α:Type} [DecidableEq α]:∀ {l m:List α},l.Nodup->(∀ x∈l,x∈m)->m.length<=l.length->l.Perm m
 | [],[],_,_,_=>.nil
 | [],_::_,_,_,h=>absurd h (by simp)
 | a::l,m,hn,hs,hl=>by
  obtain⟨ha,hn⟩:=List.nodup_cons.mp hn;have hm:a∈m:=hs a (.head _);have p:=List.perm_cons_erase hm;refine ((iK (l:=l) (m:=m.erase a) hn (fun x hx=>?_) ?_).cons a).trans p.symm
  ·have:=p.mem_iff.mp (hs x (.tail _ hx))
   rcases List.mem_cons.mp this with e | e
   ·exact absurd (e▸hx) ha
   ·exact e
  ·rw[List.length_erase_of_mem hm];simp at hl;omega
inductive kY:List Value->List Str->Prop
 | nil:kY [] []
 | cons {z:Str}{t:Tok}{vs:List Value}{zs:List Str}(h:kY vs zs):kY (.str z t::vs) (z::zs)
theorem kY.perm {vs vs':List Value}(p:vs'.Perm vs):∀ {zs:List Str},kY vs zs->∃ zs',kY vs' zs'∧zs'.Perm zs:=by
 induction p with
 | nil=>exact fun h=>⟨_,h,.refl _⟩
 | cons x p ih=>
  intro zs h;cases h with
  | cons h=>obtain⟨zs',a,b⟩:=ih h; exact⟨_,.cons a,b.cons _⟩
 | swap x y l=>
  intro zs h;cases h with
  | cons h=>cases h with
   | cons h=>exact⟨_,.cons (.cons h),.swap ..⟩
 | trans p1 p2 i1 i2=>
  intro zs h;obtain⟨z1,a1,b1⟩:=i2 h;obtain⟨z2,a2,b2⟩:=i1 a1;exact⟨z2,a2,b2.trans b1⟩
theorem kY.mem {vs:List Value}{zs:List Str}(h:kY vs zs) (z:Str):z∈zs↔∃ v∈vs,(PySem.strKind prog w).is z v=true:=by
 induction h with
 | nil=>simp
 | cons h ih=>
  rename_i z' t vs zs
  rw[List.mem_cons,ih];constructor
  ·rintro (rfl | ⟨v,a,b⟩)
   ·exact⟨_,.head _,beq_self_eq_true z⟩
   ·exact⟨v,.tail _ a,b⟩
  ·rintro⟨v,a,b⟩;rcases List.mem_cons.mp a with rfl | a
   ·exact .inl (beq_iff_eq.mp (show (z'==z)=true from b)).symm
   ·exact .inr ⟨v,a,b⟩
theorem kY.length {vs:List Value}{zs:List Str}(h:kY vs zs):zs.length=vs.length:=by
 induction h with
 | nil=>rfl
 | cons h ih=>simp[ih]
theorem aKk {z:Str}{v:Value}(h:(PySem.strKind prog w).is z v=true):∃ t,v=.str z t:=by
 cases v with
 | str z' t=>exact⟨t,by rw[← beq_iff_eq.mp h]⟩
 | _=>cases h
theorem aAd:∀ {l:List (Int×Value)},ElemsOf (PySem.strKind prog w) l->∃ zs,kY (l.map (·.2)) zs
 | [],_=>⟨[],.nil⟩
 | e::l,h=>by
  obtain⟨zs,a⟩:=aAd h.tail;obtain⟨⟨k,hk,_⟩,_⟩:=h.head;obtain⟨t,ht⟩:=aKk hk;refine⟨k::zs,?_⟩;rw[List.map_cons,ht];exact .cons a
theorem aLv.texts {ss:List Str}{L:Bool}{o:Obj}{es:Array (Int×Value)}{ep:Nat}{t:SetTable}(S:aLv prog w ss L o es ep t){vs:List Value}(p:vs.Perm (es.toList.map (·.2))):∃ zs,kY vs zs∧zs.Perm (unl ss []):=by
 obtain⟨z0,a⟩:=aAd S.el;obtain⟨zs,b,c⟩:=a.perm p;refine⟨zs,b,c.trans (iK (iV ss [] .nil) (fun z hz=>?_) ?_).symm⟩
 ·obtain⟨e,he,q⟩:=(S.me z).mp hz;exact (a.mem z).mpr ⟨_,List.mem_map_of_mem he,q⟩
 ·rw[a.length,List.length_map,Array.length_toList,S.sz];exact Nat.le_refl _
theorem wB {S:Addr}{es:Array (Int×Value)}{ep:Nat}{t:SetTable}(K:nA s.heap S es ep t){Q:Bool->Shared->Prop}(h:Q (!w.params.followText "set-order" && (!t.plain&&decide (es.size>1))) s):wpAny (model prog w) A (setDrawn S) Q E s:=by
 obtain⟨⟨oS,hoS,hdS⟩,fi⟩:=id K;unfold setDrawn setsByText;refine wpAny_bind (wpAny_setState_of hoS hdS fi ?_);dsimp only;exact wpAny_bind (wpAny_bind (wpAny_askSetting (wpAny_pure (wpAny_pure h))))
theorem aCz {S:Addr}{ss:List Str}(T:lU s.heap S prog w ss (pW w)) (hz:(unl ss []).length<=sizeLine){Q:Value->Shared->Prop}
  (q:∀ (h':Heap) (d:Drawn) (I:Addr) (fp:List Addr) (vs:List Value) (zs:List Str) (St:Nat->Heap->Prop),(∀ b o,s.heap.get? b=some o->h'.get? b=some o)->s.heap.objs.size<=I->(∀ b∈fp,b=S∨s.heap.objs.size<=b) ->
   (∀ A':Around,A'.handled=none->Walks prog w A' I fp [I] vs.length (fun i v=>vs[i]?=some v) St)->St 0 h'->kY vs zs->zs.Perm (unl ss [])->Q (.ref I) { s with heap:=h',drawn:=d }) :
  wpAny (model prog w) A (pyIter (.ref S)) Q E s:=by
 obtain⟨o,es,ep,t,ho,O⟩:=T;have hT:s.TypeIs (.ref S) "set":=⟨o,ho,O.ex.1⟩;have K:nA s.heap S es ep t:=⟨⟨o,ho,O.da⟩,O.fi⟩;have hS:S<s.heap.objs.size:=Heap.lt_size ho;refine wpAny_pyIter_slot hT F.slot_set_iter (wpAny_call_entry F.slot_set_iter hT aBu ?_ (F.args_set_iter_1 _));unfold Builtin.«frozenset.__iter__» Builtin.Frozenset.slot0 Builtin.Frozenset.sizeOf setEntries;refine wpAny_bind (wpAny_bind (m:=slotArgs "__iter__" 0 _) (wpAny_pure (wpAny_of_eq (a:=S) (by rfl) ?_)));refine wpAny_bind (wpAny_bind (wpAny_bind (wpAny_setState_of ho O.da O.fi (wpAny_pure (wpAny_pure ?_)))));refine wpAny_bind (wB K ?_);dsimp only;cases hw:w.params.followText "set-order" with
 | true=>
  simp only[Bool.not_true,Bool.false_and,Bool.false_eq_true,if_false];refine wpAny_bind (wpAny_pure (wpAny_bind (wpAny_setEpoch_of ho O.da O.fi ?_)));refine wpAny_bind (wpAny_newObj_type (wpAny_pure ⟨_,rfl,"set_iterator",_,⟨_,Heap.get?_push_size _ rfl,rfl⟩,lH.lookup,?_⟩));obtain⟨zs,a,b⟩:=O.texts (vs:=(pickOrder (w.params.setOrder S ep) es).toList.map (·.2)) ((aCb _ es).map _);exact q _ s.drawn _ _ _ zs _ (fun b o e=>Heap.get?_push_of_some _ e) (Nat.le_refl _) (fun b hb=>by simp at hb; rcases hb with rfl | rfl; exact .inr (Nat.le_refl _); exact .inl rfl) (fun A' hh=>yA (t:=t) hh (Nat.ne_of_lt hS) hw rfl) ⟨⟨_,Heap.get?_push_size _ rfl,rfl,rfl⟩,K.keep fun o e=>Heap.get?_push_of_some _ e⟩ a b
 | false=>
  have hL:t.led=true:=by rw[O.le,pW,hw]; rfl
  by_cases h1:es.size>1
  ·have hp:t.plain=false:=by
    rcases O.pl with e | e
    ·omega
    ·exact e
   simp only[hp,Bool.not_false,Bool.true_and,decide_eq_true h1,if_true];refine wpAny_bind (uA es.size (List.range es.size) s (by simp) fun ys d hy=>?_);have hyl:ys.length=es.size:=by rw[hy.length_eq,List.length_range]
   refine wpAny_bind (wpAny_newTuple ?_ (by rw[List.length_map,hyl,O.sz]; exact hz));have g1:({ s with drawn:=d }:Shared).heap=s.heap:=rfl;have k1:∀ (o':Obj) b o,s.heap.get? b=some o->(s.heap.push o').get? b=some o:=fun o' b o e=>Heap.get?_push_of_some _ e;refine wpAny_bind (wpAny_setEpoch_of (k1 _ _ _ ho) O.da O.fi ?_);refine wpAny_bind (wpAny_newObj_type (wpAny_pure ⟨_,rfl,"set_iterator",_,⟨_,Heap.get?_push_size _ rfl,rfl⟩,lH.lookup,?_⟩));have hys:∀ j∈ys,j<es.size:=fun j hj=>List.mem_range.mp (hy.mem_iff.mp hj)
   have pv:(ys.map fun j=>(es[j]?.map (·.2)).getD .none).Perm (es.toList.map (·.2)):=by
    refine (hy.map _).trans ?_;refine List.Perm.of_eq (List.ext_getElem? fun i=>?_);rw[List.getElem?_map,List.getElem?_map,Array.getElem?_toList (xs:=es)]
    by_cases hi:i<es.size
    ·rw[List.getElem?_range hi,Array.getElem?_eq_getElem hi];simp[hi]
    ·rw[List.getElem?_eq_none (by simpa using hi),Array.getElem?_eq_none (by omega)];rfl
   obtain⟨zs,a,b⟩:=O.texts pv;refine q _ d _ _ _ zs _ (fun b o e=>Heap.get?_push_of_some _ (Heap.get?_push_of_some _ e)) (by rw[size_push']; exact Nat.le_succ _) (fun b hb=>?_) (fun A' hh=>uI (t:=t) (ep:=ep) (P:=s.heap.objs.size) hh (by rw[size_push']; exact Nat.ne_of_lt (Nat.lt_succ_of_lt hS)) (by rw[size_push']; exact Nat.ne_of_lt (Nat.lt_succ_self _)) hys rfl) ⟨⟨_,Heap.get?_push_size _ rfl,rfl,rfl⟩,K.keep fun o e=>Heap.get?_push_of_some _ (Heap.get?_push_of_some _ e),Heap.get?_push_of_some _ (Heap.get?_push_size _ rfl)⟩ a b;simp only[List.mem_cons,List.not_mem_nil,or_false] at hb;rcases hb with rfl | rfl | rfl
   ·exact .inr (by rw[size_push']; exact Nat.le_succ _)
   ·exact .inl rfl
   ·exact .inr (Nat.le_refl _)
  ·simp only[decide_eq_false h1,Bool.and_false,Bool.false_eq_true,if_false];refine wpAny_bind (wpAny_pure (wpAny_bind (wpAny_setEpoch_of ho O.da O.fi ?_)));refine wpAny_bind (wpAny_newObj_type (wpAny_pure ⟨_,rfl,"set_iterator",_,⟨_,Heap.get?_push_size _ rfl,rfl⟩,lH.lookup,?_⟩));obtain⟨zs,a,b⟩:=O.texts (vs:=es.toList.map (·.2)) (.refl _);exact q _ s.drawn _ _ _ zs _ (fun b o e=>Heap.get?_push_of_some _ e) (Nat.le_refl _) (fun b hb=>by simp at hb; rcases hb with rfl | rfl; exact .inr (Nat.le_refl _); exact .inl rfl) (fun A' hh=>aBk (t:=t) hh (Nat.ne_of_lt hS) hw hL (by omega) O.fi rfl) ⟨0,⟨_,Heap.get?_push_size _ rfl,rfl,rfl⟩,K.keep fun o e=>Heap.get?_push_of_some _ e,.inl ⟨rfl,rfl⟩⟩ a b
theorem aGm {r:Addr}{Q:Bool->Shared->Prop}(hT:s.TypeIs (.ref r) "set") (h:Q false s):wpAny (model prog w) A (Builtin.List.listLengthHint (.ref r)) Q E s:=by
 unfold Builtin.List.listLengthHint;refine wpAny_bind (wpAny_specialOf hT F.slot_set_len.lookup ?_);generalize hid:("set.__len__" : String)=id0
 wp_delta
 rw[show splitId id0=some ("set","__len__") from by subst hid; decide +kernel]
 subst hid;refine wpAny_bind (wpAny_isInstance (T:="set") (b:=true) hT (by rw[isSubtype_type]; kernel_rfl) ?_);refine wpAny_ite_split (fun hab=>absurd hab (by decide)) (fun _=>?_);refine wpAny_ite_split (fun _=>?_) (fun hab=>absurd (by decide +kernel) hab);exact wpAny_bind (wpAny_typeOf hT (wpAny_pure h))
theorem xN {R:Result->Shared->Prop}{S L:Addr}{ss:List Str}(hh:A.handled=none) (T:lU s.heap S prog w ss (pW w)) (hz:(unl ss []).length<=sizeLine) (hne:L≠S) (res:Value) (hL:s.heap.get? L=some { cls:=.type "list",data:=.seq #[] 0 })
  (hR:∀ h' tk d acc c zs,(∀ b o,b≠L->s.heap.get? b=some o->h'.get? b=some o)->h'.get? L=some { cls:=.type "list",dict:=none,data:=.seq acc c,slots:=#[] }->kY acc.toList zs->zs.Perm (unl ss [])->R (.ok (.ret res)) { s with heap:=h',toks:=tk,drawn:=d }) :
  wpAny (model prog w) A.in1 (Builtin.List.listExtendWith (.ref L) (.ref S) res)
   (fun fin s'=>match fin with | .done f=>R (.ok f) s' | .again c'=>c'.quiet=true∧codeAny (model prog w) A c' R s') (fun e s'=>R (.error e) s') s:=by
 have hLs:L<s.heap.objs.size:=Heap.lt_size hL;have hT:s.TypeIs (.ref S) "set":=let ⟨o,_,_,_,ho,O⟩:=T; ⟨o,ho,O.ex.1⟩;unfold Builtin.List.listExtendWith;refine wpAny_bind (wpAny_typeOf (T:="set") hT ?_);have h1:Builtin.List.listSameRef (.ref L) (.ref S)=false:=by simp[Builtin.List.listSameRef,hne]
 have n1:(Value.type "set" == Value.type "list")=false:=by decide
 have n2:(Value.type "set" == Value.type "tuple")=false:=by decide
 simp only[h1,n1,n2,Bool.or_false,Bool.false_eq_true,if_false];refine wpAny_bind (aCz T hz fun h1 d I fp vs zs St k hI hfp W st tx pz=>?_);have hT1:Shared.TypeIs { s with heap:=h1,drawn:=d } (.ref S) "set":=let ⟨o,ho,e⟩:=hT; ⟨o,k S o ho,e⟩;refine wpAny_bind (wpAny_holding (aGm hT1 ?_))
 have hLf:L∉fp:=fun q=>by
  rcases hfp L q with e | e
  ·exact hne e
  ·exact absurd (Nat.lt_of_lt_of_le hLs e) (Nat.lt_irrefl _)
 have hn:vs.length<=sizeLine:=by rw[← tx.length,pz.length_eq]; exact hz
 have key:∀ (h:Heap) (c₁:Nat),St 0 h->(∀ b o,b≠L->s.heap.get? b=some o->h.get? b=some o)->h.get? L=some { cls:=.type "list",data:=.seq #[] c₁ } ->
   codeAny (model prog w) A (.builtin "list.extend.loop" ⟨[.ref L,.ref I,res],[]⟩) R { s with heap:=h,drawn:=d }:=by
  intro h c₁ st k hL;refine codeAny_extend_loopS (W A.in1 hh).toS hn L hLf res vs.length 0 _ #[] c₁ rfl (Nat.zero_le _) st hL (ItemsOf.nil _) fun s' acc c hm hS' hacc=>?_;rw[Moved.eq_with hm];refine hR s'.heap s'.toks d acc c zs (fun b o hb e=>hm.heap b o (fun hmem=>?_) (k b o hb e)) hS' ?_ pz
  ·rcases List.mem_cons.mp hmem with e' | hmem
   ·exact hb e'
   ·have:=Heap.lt_size e
    rw[List.mem_singleton.mp hmem] at this;exact absurd (Nat.lt_of_lt_of_le this hI) (Nat.lt_irrefl _)
  ·have:acc.toList=vs:=by
    refine List.ext_getElem? fun i=>?_
    by_cases hi:i<acc.size
    ·have e1:acc[i]?=some acc[i]:=Array.getElem?_eq_getElem hi;rw[Array.getElem?_toList,hacc.2 i _ e1,e1]
    ·rw[List.getElem?_eq_none (by simpa using hi),List.getElem?_eq_none (by rw[← hacc.1]; omega)]
   rw[this];exact tx
 refine wpAny_ite_split (fun _=>?_) (fun _=>wpAny_pure ⟨plainId_quiet PySem.F.plain_extend_loop _,key _ 0 st (fun b o _ e=>k b o e) (k L _ hL)⟩);refine wpAny_bind (wpAny_rule ?_);refine wpAny_bind ?_;show wpAny _ _ (updateSeq L (·.push .none)>>=fun _=>updateSeq L (·.pop)) _ _ _;have e1:=k L _ hL;refine wpAny_bind (wpAny_updateSeq e1 rfl ?_);have e2:=Heap.get?_update_self (Obj.mapSeq (·.push Value.none)) e1 rfl;refine wpAny_updateSeq (hz:=by seq_fits) e2 rfl ?_;have e3:=Heap.get?_update_self (Obj.mapSeq (·.pop)) e2 rfl;have oth:∀ b o,b≠L->h1.get? b=some o->((h1.update L (Obj.mapSeq (·.push Value.none))).update L (Obj.mapSeq (·.pop))).get? b=some o:=fun b o hb e=>(Heap.get?_update_other _ _ (Ne.symm hb)).trans ((Heap.get?_update_other _ _ (Ne.symm hb)).trans e);exact wpAny_pure ⟨plainId_quiet PySem.F.plain_extend_loop _,key _ _ ((W A.in1 hh).frame 0 _ _ st fun b hb o e=>oth b o (fun q=>hLf (q▸hb)) e) (fun b o hb e=>oth b o hb (k b o e)) e3⟩
theorem vD {R:List Value->Shared->Prop}{S:Addr}{ss:List Str}(hh:A.handled=none) (T:lU s.heap S prog w ss (pW w)) (hz:(unl ss []).length<=sizeLine)
  (h:∀ (h':Heap) (tk:Nat) (d:Drawn) (acc:List Value) (zs:List Str),(∀ b o,s.heap.get? b=some o->h'.get? b=some o)->kY acc zs->zs.Perm (unl ss [])->R acc { s with heap:=h',toks:=tk,drawn:=d }) :
  wpAny (model prog w) A (collect (.ref S)) R E s:=by
 have hS:S<s.heap.objs.size:=let ⟨o,_,_,_,ho,_⟩:=T; Heap.lt_size ho;unfold collect;refine wpAny_bind (wpAny_runValue (codeAny_builtin entry_proto_collect' ?_));rw[Around.under_plainId PySem.F.plain_proto_collect _];show wpAny _ A.in1 (newList []>>=fun l=>again (.builtin "list.__iadd__" ⟨[l,.ref S],[]⟩)) _ _ s;refine wpAny_bind (wpAny_newObj_type ?_);refine wpAny_pure ⟨plainId_quiet PySem.F.plain_list_iadd _,codeAny_builtin entry_list_iadd' ?_⟩;rw[Around.under_plainId PySem.F.plain_list_iadd _];have hL:(s.heap.push { cls:=.type "list",data:=.seq ([]:List Value).toArray }).get? s.heap.objs.size=some { cls:=.type "list",data:=.seq #[] }:=Heap.get?_push_size _ rfl;show wpAny _ A.in1 (Builtin.List.listExtendWith (.ref s.heap.objs.size) (.ref S) (.ref s.heap.objs.size)) _ _ _
 have key:=xN (A:=A) (s:={ s with heap:=s.heap.push { cls:=.type "list",data:=.seq ([]:List Value).toArray } }) (ss:=ss)
  (R:=fun (q:Result) (s':Shared)=>∃ h' tk d acc c zs,q=.ok (.ret (.ref s.heap.objs.size))∧s'={ s with heap:=h',toks:=tk,drawn:=d }∧(∀ b o,s.heap.get? b=some o->h'.get? b=some o)∧h'.get? s.heap.objs.size=some { cls:=.type "list",dict:=none,data:=.seq acc c,slots:=#[] }∧kY acc.toList zs∧zs.Perm (unl ss []))
  hh (nG T fun o e=>Heap.get?_push_of_some _ e) hz (Nat.ne_of_gt hS) (.ref s.heap.objs.size) hL
  (fun h' tk d acc c zs k e1 e2 e3=>⟨h',tk,d,acc,c,zs,rfl,rfl,fun b o e=>k b o (Nat.ne_of_lt (Heap.lt_size e)) (Heap.get?_push_of_some _ e),e1,e2,e3⟩)
 refine wpAny_mono key (fun fin s' x=>?_) fun e s' x=>?_
 ·cases fin with
  | done f=>
   obtain⟨h',tk,d,acc,c,zs,e,rfl,k,hS',tx,pz⟩:=x;cases e;exact wpAny_bind (wpAny_load hS' (wpAny_pure (h h' tk d acc.toList zs k tx pz)))
  | again c₁=>
   refine⟨x.1,codeAny_mono x.2 fun q s₂ y=>?_⟩;obtain⟨h',tk,d,acc,c,zs,rfl,rfl,k,hS',tx,pz⟩:=y;exact wpAny_bind (wpAny_load hS' (wpAny_pure (h h' tk d acc.toList zs k tx pz)))
 ·obtain⟨h',tk,d,acc,c,zs,e,_⟩:=x;cases e
end
end L2
namespace L2
open PySem PySem.Spec PySem.Calls PyProof.Rows PySem.W
section
variable {X:Cx}
def aHd (P:Program) (w:World) (a:Addr) (ss:List Str):Heap->Prop:=fun h=>lU h a P w ss (pW w)
inductive aLu (X:Cx) (xs:List V) (H:Hp) (Q:VK):Prop
 | mk (a:Addr) (ss:List Str) (h0_:xs=[.ref a]) (h1_:SqL X.K H a (ss.map V.str)) (h2_:ss.length<=1000) (h3_:∀ p,H p=none->Q (.ref p) (upd H p (.ext (aHd X.prog X.w p ss))))
theorem aHs {us:List Value}{ss:List Str}(r:cB (ss.map V.str) us) (i:Nat) (v:Value) (h:us.toArray[i]?=some v):∃ z t,ss[i]?=some z∧v=.str z t:=by
 rw[List.getElem?_toArray] at h
 induction ss generalizing us i with
 | nil=>cases r; cases h
 | cons z ss ih=>
  cases r with
  | cons r1 r2=>
   cases i with
   | zero=>
    obtain⟨t,rfl⟩:=r1;cases h;exact⟨z,t,rfl,rfl⟩
   | succ i=>exact ih r2 i (by simpa using h)
theorem aGz (hc:X.calm=true):CallR X (.type "set") (aLu X):=by
 intro pins s σ H xs us Q I r h;obtain⟨a,ss,rfl,hs,hz,q⟩:=h;obtain⟨u,rfl,rx⟩:=iU r;cases rx;obtain⟨its,rv,pl,_⟩:=I.list hs;have hl:its.length=ss.length:=by rw[← rv.length,List.length_map]
 refine aDk (I.ok.hd hc) pl.isList (by rw[List.size_toArray,hl]) (by rw[List.size_toArray,hl]; unfold scanBound; omega) (aHs rv) fun h' tk T k=>?_;refine⟨.ref s.heap.objs.size,_,I.laid (t':=tk) k (Nat.le_refl _) ?_,rfl,q _ (I.hok.fresh (Nat.le_refl _))⟩;exact⟨T,let ⟨o,_,_,_,e,_⟩:=T; ⟨o,e⟩,fun h1 h2 T1 k1=>nG T1 k1⟩
theorem Inv.drew {pins:List (Addr×Obj)}{σ:List (Option V)}{H:Hp}{s:Shared}(I:Inv X pins σ H s) (d:Drawn):Inv X pins σ H { s with drawn:=d }:=⟨I.ok,I.os,I.bare,I.base,I.loc,I.cell,I.free,I.freeC,I.pin,I.hok,I.len⟩
theorem aBm {vs:List Value}{zs:List Str}(h:kY vs zs):cB (zs.map V.str) vs:=by
 induction h with
 | nil=>exact .nil
 | cons h ih=>exact .cons ⟨_,rfl⟩ ih
inductive aJi (X:Cx) (xs:List V) (H:Hp) (Q:VK):Prop
 | mk (a:Addr) (ss:List Str) (h0_:xs=[.ref a]) (h1_:H a=some (.ext (aHd X.prog X.w a ss))) (h3_:(unl ss []).length<64) (h4_:∀ (p:Addr) (ss':List Str),H p=none->ss'.Perm (unl ss [])->sortedS ss'=true->Q (.ref p) (upd H p (.lst (ss'.map V.str))))
theorem vE (hc:X.calm=true):CallR X (.builtin "sorted") (aJi X):=by
 intro pins s σ H xs us Q I r h;obtain⟨a,ss,rfl,hs,h64,q⟩:=h;obtain⟨u,rfl,rx⟩:=iU r;cases rx;obtain⟨T,_⟩:=(show dD X.prog X.w H s.heap a (.ext (aHd X.prog X.w a ss)) from I.hok a _ hs)
 have hul:=uK ss [];rw[List.length_nil,Nat.zero_add] at hul;refine call_function_entry kind_sorted plain_sorted entry_sorted (args_sorted1 _) ?_;unfold Builtin.«sorted»;refine wpAny_bind (m:=checkCount "sorted" 1 1 _) (wpAny_pure ?_);refine wpAny_bind (vD (A:=X.A.in1) (ss:=ss) (I.ok.hd hc) T (by rw[sizeLine_eq]; omega) fun h' tk d acc zs hk tx pz=>?_);have hal:acc.length=(unl ss []).length:=by rw[← tx.length,pz.length_eq]
 have rv:cB (zs.map V.str) acc:=aBm tx;have hS:=jE rv;refine wpAny_bind (wpAny_newList ?_ (by rw[hal,sizeLine_eq]; omega));have hoL:(h'.push (seqObj "list" acc.toArray 0)).get? h'.objs.size=some (seqObj "list" acc.toArray 0):=Heap.get?_push_size _ rfl;refine wpAny_bind (wpAny_holding (wpAny_call_entry slot_list_sort ⟨_,hoL,rfl⟩ entry_list_sort (list_sort_treeK strKind_oneLt hoL hS.keysOf (fun v₁ v₂ rest e=>keyKind_strs (by rw[← e]; exact hS)) (by rw[hal]; omega) fun st' a1 a2=>⟨_,rfl,?_⟩) (args_list_sort _)));obtain⟨ss',b1,b2,b3⟩:=sorted_out_str hS a1 a2;refine wpAny_pure ⟨_,rfl,?_⟩;have I1:Inv X pins σ H { s with heap:=h',toks:=tk,drawn:=d }:=(I.kept (t':=tk) hk).drew d;have hn:H h'.objs.size=none:=I1.hok.fresh (Nat.le_refl _);obtain⟨e,he⟩:=sortedHeap_at (vs:=acc) (out:=(arrOf st').map (·.2)) hoL;refine⟨.ref h'.objs.size,_,I1.laid (t':=tk) (fun b o z=>?_) (Nat.le_refl _) ?_,rfl,q _ ss' hn (b2.trans pz) b3⟩
 ·have hb:b<h'.objs.size:=Heap.lt_size z;rw[sortedHeap_old (Nat.ne_of_lt hb) (by rw[size_push']; exact Nat.lt_succ_of_lt hb)];exact Heap.get?_push_of_some _ z
 ·exact⟨by rw[List.length_map,b2.length_eq,pz.length_eq,sizeLine_eq]; omega,_,e,lB b1,he⟩
end
end L2
namespace L2
open PySem PySem.Spec PySem.Calls PyProof.Rows PySem.W
section
variable {prog:Program}{w:World}{M:Model}{A:Around}{E:Value->Shared->Prop}{s:Shared}{K:Frag}{x C:Addr}{ox:Obj}{od:Option Obj}
end
section
variable {X:Cx}
end
end L2
namespace L2
open PySem PySem.Spec PySem.Calls PyProof.Rows PySem.W
open PySem.AutoSeq1 (wpAny_loadPart')
structure Src (P:Program) (w:World) (it l:Addr) (st:Nat->Heap->Prop) (bk:Array Value->Heap->Prop):Prop where
 one:∀ {A:Around}{E:Value->Shared->Prop}{s:Shared}{k:Nat}{us:Array Value}{x:Value}{Q:Value->Shared->Prop},st k s.heap->bk us s.heap->us[k]?=some x ->
  (∀ h',st (k+1) h'->Heap.SameBut it s.heap h'->Q x { s with heap:=h' })->wpAny (model P w) A (Builtin.SmallTypes.nextOf (.ref it)) Q E s
 out:∀ {A:Around}{E:Value->Shared->Prop}{s:Shared}{k:Nat}{us:Array Value}{Q:Value->Shared->Prop},A.handled=none->st k s.heap->bk us s.heap->us[k]?=none ->
  (∀ h' e,Heap.ExtBut it s.heap h'->(∃ o,h'.get? e=some o∧o.cls=.type "StopIteration")->E (.ref e) { s with heap:=h' })->wpAny (model P w) A (Builtin.SmallTypes.nextOf (.ref it)) Q E s
 kp:∀ {k:Nat}{h h':Heap},st k h->(∀ o,h.get? it=some o->h'.get? it=some o)->st k h'
 bp:∀ {us:Array Value}{h h':Heap},bk us h->(∀ o,h.get? l=some o->h'.get? l=some o)->bk us h'
 ob:∀ {k:Nat}{h:Heap},st k h->∃ o vs,h.get? it=some o∧o.data=.fields vs
section
variable {P:Program}{w:World}
theorem vR (it l:Addr):Src P w it l (fun k h=>h.IsListIter it l k) (fun us h=>h.IsList l us):=
 ⟨fun h1 h2 hx q=>wpAny_nextOf_list_item h1 h2 hx q,fun hh h1 h2 hx q=>wpAny_nextOf_list_end hh h1 h2 hx q,fun h k=>h.at k,fun h k=>h.at k,fun ⟨o,e,_,d⟩=>⟨o,_,e,d⟩⟩
section
variable {A:Around}{E:Value->Shared->Prop}{s:Shared}
theorem aHn {it t:Addr}{k:Nat}{us:Array Value}{x:Value}{Q:Value->Shared->Prop}(h1:s.heap.IsTupleIter it t k) (h2:s.heap.IsTuple t us) (hx:us[k]?=some x)
  (q:∀ h',h'.IsTupleIter it t (k+1)->Heap.SameBut it s.heap h'->Q x { s with heap:=h' }):wpAny (model P w) A (Builtin.SmallTypes.nextOf (.ref it)) Q E s:=by
 obtain⟨o,e,c,d⟩:=id h1;obtain⟨ot,et,_,n,dt⟩:=h2;unfold Builtin.SmallTypes.nextOf;refine wpAny_bind (wpAny_callSpecial?_slot (name:=Str.ofString "__next__") h1.typeIs PySem.F.slot_tuple_iterator_next (wpAny_call_entry PySem.F.slot_tuple_iterator_next h1.typeIs PySem.F.entry_tuple_iterator_next ?_ (PySem.F.args_tuple_iterator_next_1 _)));show wpAny _ _ (field (.ref it) 0>>=_) _ E s;refine wpAny_bind (wpAny_field e d (x:=.ref t) rfl ?_);show wpAny _ _ (if (Value.ref t==Value.none)=true then _ else _) _ E s
 rw[if_neg (c:=(Value.ref t==Value.none)=true) fun z=>Bool.false_ne_true z];show wpAny _ _ (field (.ref it) 1>>=_) _ E s;refine wpAny_bind (wpAny_field e d (x:=.int k 0) rfl ?_);show wpAny _ _ (seqItems? (.ref t)>>=_) _ E s;refine wpAny_bind (wpAny_seqItems et dt ?_);simp only[hx,Int.toNat_natCast];refine wpAny_bind (wpAny_setField e d (by simp) (wpAny_pure ⟨x,rfl,wpAny_pure (q _ ⟨_,Heap.get?_update_self _ e (Obj.isFreed_of_fields (Obj.data_mapFields d _)),(Obj.cls_mapFields ..).trans c,?_⟩ (Heap.SameBut.update ..))⟩));rw[Obj.data_mapFields d];simp[rawInt]
theorem aHm {it t:Addr}{k:Nat}{us:Array Value}{Q:Value->Shared->Prop}(hh:A.handled=none) (h1:s.heap.IsTupleIter it t k) (h2:s.heap.IsTuple t us) (hx:us[k]?=none)
  (q:∀ h' e,Heap.ExtBut it s.heap h'->(∃ o,h'.get? e=some o∧o.cls=.type "StopIteration")->E (.ref e) { s with heap:=h' }):wpAny (model P w) A (Builtin.SmallTypes.nextOf (.ref it)) Q E s:=by
 obtain⟨o,e,c,d⟩:=id h1;obtain⟨ot,et,_,n,dt⟩:=h2;unfold Builtin.SmallTypes.nextOf;refine wpAny_bind (wpAny_callSpecial?_slot (name:=Str.ofString "__next__") h1.typeIs PySem.F.slot_tuple_iterator_next (wpAny_call_entry PySem.F.slot_tuple_iterator_next h1.typeIs PySem.F.entry_tuple_iterator_next ?_ (PySem.F.args_tuple_iterator_next_1 _)));show wpAny _ _ (field (.ref it) 0>>=_) _ E s;refine wpAny_bind (wpAny_field e d (x:=.ref t) rfl ?_);show wpAny _ _ (if (Value.ref t==Value.none)=true then _ else _) _ E s
 rw[if_neg (c:=(Value.ref t==Value.none)=true) fun z=>Bool.false_ne_true z];show wpAny _ _ (field (.ref it) 1>>=_) _ E s;refine wpAny_bind (wpAny_field e d (x:=.int k 0) rfl ?_);show wpAny _ _ (seqItems? (.ref t)>>=_) _ E s;refine wpAny_bind (wpAny_seqItems et dt ?_);simp only[hx,Int.toNat_natCast];refine wpAny_bind (wpAny_rule (wpAny_bind (wpAny_setField e d (by simp) ?_)));show wpAny _ _ (newExc (.type "StopIteration") []>>=_) _ E _;refine wpAny_bind ?_;simp only[newTuple,newExc];refine wpAny_bind (wpAny_newObj_type (wpAny_bind (m:=firstArgMember _ _) (wpAny_of_eq (a:=Value.none) (by first | rfl | (simp only[firstArgMember]; rfl)) (wpAny_newObj_type ?_ (by size_fits)))) (by size_fits));simp only[raiseNew];refine wpAny_bind (wpAny_handled ?_)
 first | rw[show A.in1.handled=none from hh] | rw[hh]
 exact wpAny_bind (wpAny_pure (wpAny_throw (q _ _ (((Heap.SameBut.update ..).extBut.push _).push _) ⟨_,Heap.get?_push_size _ rfl,rfl⟩)))
theorem aAg (it t:Addr):Src P w it t (fun k h=>h.IsTupleIter it t k) (fun us h=>h.IsTuple t us):=
 ⟨fun h1 h2 hx q=>aHn h1 h2 hx q,fun hh h1 h2 hx q=>aHm hh h1 h2 hx q,fun h k=>h.at k,fun ⟨o,e,r⟩ k=>⟨o,k o e,r⟩,fun ⟨o,e,_,d⟩=>⟨o,_,e,d⟩⟩
variable {z ti to i1 i2 l1 l2:Addr}{st1 st2:Nat->Heap->Prop}{bk1 bk2:Array Value->Heap->Prop}{k:Nat}{us vs:Array Value}{a b x y:Value}
theorem aHj {Q:Value->Shared->Prop}(S1:Src P w i1 l1 st1 bk1) (S2:Src P w i2 l2 st2 bk2) (D:ZipApart z ti to i1 i2 l1 l2) (hz:IsZip s.heap z ti to .none) (hti:IsPair s.heap ti (.ref i1) (.ref i2)) (hto:IsPair s.heap to a b)
  (h1:st1 k s.heap) (h2:st2 k s.heap) (b1:bk1 us s.heap) (b2:bk2 vs s.heap) (hx:us[k]?=some x) (hy:vs[k]?=some y)
  (hQ:∀ h',IsZip h' z ti to (rawInt s.heap.objs.size)->IsPair h' to x y->st1 (k+1) h'->st2 (k+1) h'->IsPair h' s.heap.objs.size x y->h'.objs.size=s.heap.objs.size+1 ->
   (∀ c o,c≠z->c≠to->c≠i1->c≠i2->s.heap.get? c=some o->h'.get? c=some o)->Q (.ref s.heap.objs.size) { s with heap:=h' }) :
  wpAny (model P w) A (Builtin.«zip.__next__» ⟨[.ref z],[]⟩) (fun fin s'=>∃ v,fin=.done (.ret v)∧Q v s') E s:=by
 show wpAny _ _ (field (.ref z) 2>>=_) _ E s;refine wpAny_bind (wpAny_field hz rfl (x:=.bool false) rfl (show wpAny _ _ (field (.ref z) 3>>=_) _ E s from wpAny_bind (wpAny_field hz rfl (x:=.ref ti) rfl (wpAny_bind (wpAny_seqItems hti rfl ?_)))))
 show wpAny _ _ (Builtin.SmallTypes.ownedTupleIsFree (.ref z)>>=_) _ E s;refine wpAny_bind ?_;unfold Builtin.SmallTypes.ownedTupleIsFree;refine wpAny_bind (wpAny_field hz rfl (x:=.none) rfl (wpAny_pure ?_));simp only[if_true];refine wpAny_bind (wpAny_rule (wpAny_bind (wpAny_field hz rfl (x:=.ref to) rfl (wpAny_bind (wpAny_setField_rec hz (by simp) fun g1 z1 c1=>?_)))));replace z1:IsZip g1 z ti to .ellipsis:=z1;refine wpAny_bind ?_;simp only[List.forIn_cons,List.forIn_nil,List.zipIdx_nil,List.zipIdx_cons];refine wpAny_bind (wpAny_bind (wpAny_onRaise (show wpAny _ _ (Builtin.SmallTypes.nextOf (.ref i1)>>=_) _ _ _ from wpAny_bind (S1.one (S1.kp h1 fun o e=>c1.extBut _ _ D.i1z e) (S1.bp b1 fun o e=>c1.extBut _ _ D.l1z e) hx fun g2 h12 c2=>wpAny_pure ?_))))
 have t2:IsPair g2 to a b:=c2.extBut _ _ D.TOi1 (c1.extBut _ _ D.TOz hto);refine wpAny_bind (wpAny_seqItems t2 rfl (wpAny_bind (wpAny_updateSeq_pair t2 fun g3 t3 c3=>wpAny_bind (wpAny_letGo (wpAny_pure ?_)))));replace t3:IsPair g3 to x b:=t3
 refine wpAny_bind (wpAny_bind (wpAny_onRaise (show wpAny _ _ (Builtin.SmallTypes.nextOf (.ref i2)>>=_) _ _ _ from wpAny_bind (S2.one (S2.kp h2 fun o e=>c3.extBut _ _ D.TOi2.symm (c2.extBut _ _ D.i12.symm (c1.extBut _ _ D.i2z e)))
  (S2.bp b2 fun o e=>c3.extBut _ _ D.l2TO (c2.extBut _ _ D.l2i1 (c1.extBut _ _ D.l2z e))) hy fun g4 h24 c4=>wpAny_pure ?_))))
 have t4:IsPair g4 to x b:=c4.extBut _ _ D.TOi2 t3;refine wpAny_bind (wpAny_seqItems t4 rfl (wpAny_bind (wpAny_updateSeq_pair t4 fun g5 t5 c5=>wpAny_bind (wpAny_letGo (wpAny_pure (wpAny_pure ?_))))));replace t5:IsPair g5 to x y:=t5;refine wpAny_bind (wpAny_seqItems t5 rfl (wpAny_bind (wpAny_newTuple ?_)));have sz:g5.objs.size=s.heap.objs.size:=by rw[c5.1,c4.1,c3.1,c2.1,c1.1]
 have z5:IsZip g5 z ti to .ellipsis:=c5.extBut _ _ D.TOz.symm (c4.extBut _ _ D.i2z.symm (c3.extBut _ _ D.TOz.symm (c2.extBut _ _ D.i1z.symm z1)));have k5:∀ c o,c≠z->c≠to->c≠i1->c≠i2->s.heap.get? c=some o->g5.get? c=some o:=fun c o n1 n2 n3 n4 e=>c5.extBut _ _ n2 (c4.extBut _ _ n4 (c3.extBut _ _ n2 (c2.extBut _ _ n3 (c1.extBut _ _ n1 e))));have h15:st1 (k+1) g5:=S1.kp h12 fun o e=>c5.extBut _ _ D.TOi1.symm (c4.extBut _ _ D.i12 (c3.extBut _ _ D.TOi1.symm e));have h25:st2 (k+1) g5:=S2.kp h24 fun o e=>c5.extBut _ _ D.TOi2.symm e;show wpAny _ _ (Builtin.SmallTypes.ownedTupleHandOut (.ref z) (.ref g5.objs.size)>>=_) _ E _;refine wpAny_bind ?_;unfold Builtin.SmallTypes.ownedTupleHandOut;have z6:IsZip (g5.push { cls:=.type "tuple",data:=.seq #[x,y] }) z ti to .ellipsis:=Heap.get?_push_of_some _ z5;refine wpAny_bind (wpAny_setField_rec z6 (by simp) fun g7 z7 c7=>wpAny_setField_rec (show IsZip g7 z ti to (rawInt g5.objs.size) from z7) (by simp) fun g8 z8 c8=>?_)
 replace z8:IsZip g8 z ti to (rawInt g5.objs.size):=z8;have up:∀ c o,c≠z->g5.get? c=some o->g8.get? c=some o:=fun c o n e=>c8.extBut _ _ n (c7.extBut _ _ n (Heap.get?_push_of_some _ e));have lz:=Heap.lt_size z5;have t8:IsPair g8 g5.objs.size x y:=c8.extBut _ _ (Nat.ne_of_gt lz) (c7.extBut _ _ (Nat.ne_of_gt lz) (Heap.get?_push_size _ rfl));have s8:g8.objs.size=g5.objs.size+1:=by rw[c8.1,c7.1,Heap.size_push]
 rw[sz] at z8 t8 s8;refine wpAny_pure ⟨_,rfl,?_⟩;show Q (.ref g5.objs.size) _;rw[sz];exact hQ g8 z8 (up _ _ D.TOz t5) (S1.kp h15 fun o e=>up _ o D.i1z e) (S2.kp h25 fun o e=>up _ o D.i2z e) t8 s8 fun c o n1 n2 n3 n4 e=>up c o n1 (k5 c o n1 n2 n3 n4 e)
theorem aHi {Q:Fin->Shared->Prop}(hh:A.handled=none) (S1:Src P w i1 l1 st1 bk1) (S2:Src P w i2 l2 st2 bk2) (D:ZipApart z ti to i1 i2 l1 l2) (hz:IsZip s.heap z ti to .none) (hti:IsPair s.heap ti (.ref i1) (.ref i2)) (hto:IsPair s.heap to a b)
  (h1:st1 k s.heap) (h2:st2 k s.heap) (b1:bk1 us s.heap) (b2:bk2 vs s.heap) (he:us[k]?=none∨vs[k]?=none)
  (hE:∀ h' e,(∀ c o,c≠z->c≠to->c≠i1->c≠i2->s.heap.get? c=some o->h'.get? c=some o)->(∃ o,h'.get? e=some o∧o.cls=.type "StopIteration")->E (.ref e) { s with heap:=h' }) :
  wpAny (model P w) A (Builtin.«zip.__next__» ⟨[.ref z],[]⟩) Q E s:=by
 show wpAny _ _ (field (.ref z) 2>>=_) _ E s;refine wpAny_bind (wpAny_field hz rfl (x:=.bool false) rfl (show wpAny _ _ (field (.ref z) 3>>=_) _ E s from wpAny_bind (wpAny_field hz rfl (x:=.ref ti) rfl (wpAny_bind (wpAny_seqItems hti rfl ?_)))))
 show wpAny _ _ (Builtin.SmallTypes.ownedTupleIsFree (.ref z)>>=_) _ E s;refine wpAny_bind ?_;unfold Builtin.SmallTypes.ownedTupleIsFree;refine wpAny_bind (wpAny_field hz rfl (x:=.none) rfl (wpAny_pure ?_));simp only[if_true];refine wpAny_bind (wpAny_rule (wpAny_bind (wpAny_field hz rfl (x:=.ref to) rfl (wpAny_bind (wpAny_setField_rec hz (by simp) fun g1 z1 c1=>?_)))));replace z1:IsZip g1 z ti to .ellipsis:=z1;refine wpAny_bind ?_;simp only[List.forIn_cons,List.forIn_nil,List.zipIdx_nil,List.zipIdx_cons];refine wpAny_bind (wpAny_bind (wpAny_onRaise ?_));show wpAny _ _ (Builtin.SmallTypes.nextOf (.ref i1)>>=_) _ _ _;have h1':=S1.kp h1 fun o e=>c1.extBut _ _ D.i1z e;have b1':=S1.bp b1 fun o e=>c1.extBut _ _ D.l1z e;cases hx:us[k]? with
 | none=>
  refine wpAny_bind (S1.out hh h1' b1' hx fun g2 e c2 ⟨oe,ho,hc⟩=>?_);have z2:IsZip g2 z ti to .ellipsis:=c2 _ _ D.i1z.symm z1;have nz:e≠z:=fun q=>by rw[q,z2] at ho; cases ho; simp at hc
  exact wpAny_setField_rec z2 (by simp) fun g3 _ c3=>hE g3 e (fun c o n1 _ n3 _ q=>c3.extBut _ _ n1 (c2 _ _ n3 (c1.extBut _ _ n1 q))) ⟨oe,c3.extBut _ _ nz ho,hc⟩
 | some x=>
  have hy:vs[k]?=none:=he.resolve_left fun q=>by rw[hx] at q; cases q
  refine wpAny_bind (S1.one h1' b1' hx fun g2 h12 c2=>wpAny_pure ?_);have t2:IsPair g2 to a b:=c2.extBut _ _ D.TOi1 (c1.extBut _ _ D.TOz hto);refine wpAny_bind (wpAny_seqItems t2 rfl (wpAny_bind (wpAny_updateSeq_pair t2 fun g3 t3 c3=>wpAny_bind (wpAny_letGo (wpAny_pure (wpAny_bind (wpAny_bind (wpAny_onRaise ?_))))))));show wpAny _ _ (Builtin.SmallTypes.nextOf (.ref i2)>>=_) _ _ _;refine wpAny_bind (S2.out hh (S2.kp h2 fun o e=>c3.extBut _ _ D.TOi2.symm (c2.extBut _ _ D.i12.symm (c1.extBut _ _ D.i2z e))) (S2.bp b2 fun o e=>c3.extBut _ _ D.l2TO (c2.extBut _ _ D.l2i1 (c1.extBut _ _ D.l2z e))) hy fun g4 e c4 ⟨oe,ho,hc⟩=>?_);have z4:IsZip g4 z ti to .ellipsis:=c4 _ _ D.i2z.symm (c3.extBut _ _ D.TOz.symm (c2.extBut _ _ D.i1z.symm z1));have nz:e≠z:=fun q=>by rw[q,z4] at ho; cases ho; simp at hc
  exact wpAny_setField_rec z4 (by simp) fun g5 _ c5=>hE g5 e (fun c o n1 n2 n3 n4 q=>c5.extBut _ _ n1 (c4 _ _ n4 (c3.extBut _ _ n2 (c2.extBut _ _ n3 (c1.extBut _ _ n1 q))))) ⟨oe,c5.extBut _ _ nz ho,hc⟩
theorem aFx {Q:Option Value->Shared->Prop}(S1:Src P w i1 l1 st1 bk1) (S2:Src P w i2 l2 st2 bk2) (D:ZipApart z ti to i1 i2 l1 l2) (hz:IsZip s.heap z ti to .none) (hti:IsPair s.heap ti (.ref i1) (.ref i2)) (hto:IsPair s.heap to a b)
  (h1:st1 k s.heap) (h2:st2 k s.heap) (b1:bk1 us s.heap) (b2:bk2 vs s.heap) (hx:us[k]?=some x) (hy:vs[k]?=some y)
  (hQ:∀ h',IsZip h' z ti to (rawInt s.heap.objs.size)->IsPair h' to x y->st1 (k+1) h'->st2 (k+1) h'->IsPair h' s.heap.objs.size x y->h'.objs.size=s.heap.objs.size+1 ->
   (∀ c o,c≠z->c≠to->c≠i1->c≠i2->s.heap.get? c=some o->h'.get? c=some o)->Q (some (.ref s.heap.objs.size)) { s with heap:=h' }):wpAny (model P w) A (pyNext (.ref z)) Q E s:=by
 have hT:s.TypeIs (.ref z) "zip":=⟨_,hz,rfl⟩;unfold pyNext;exact wpAny_bind (wpAny_attempt (wpAny_callSpecial?_slot (name:=Str.ofString "__next__") hT PySem.F.slot_zip_next (wpAny_call_entry PySem.F.slot_zip_next hT PySem.F.entry_zip_next (aHj S1 S2 D hz hti hto h1 h2 b1 b2 hx hy fun h' a1 a2 a3 a4 a5 a6 a7=>wpAny_pure (hQ h' a1 a2 a3 a4 a5 a6 a7)) (PySem.F.args_zip_next_1 _))))
theorem aFk {Q:Option Value->Shared->Prop}(hh:A.handled=none) (S1:Src P w i1 l1 st1 bk1) (S2:Src P w i2 l2 st2 bk2) (D:ZipApart z ti to i1 i2 l1 l2) (hz:IsZip s.heap z ti to .none) (hti:IsPair s.heap ti (.ref i1) (.ref i2)) (hto:IsPair s.heap to a b)
  (h1:st1 k s.heap) (h2:st2 k s.heap) (b1:bk1 us s.heap) (b2:bk2 vs s.heap) (he:us[k]?=none∨vs[k]?=none)
  (hQ:∀ h',(∀ c o,c≠z->c≠to->c≠i1->c≠i2->s.heap.get? c=some o->h'.get? c=some o)->Q none { s with heap:=h' }):wpAny (model P w) A (pyNext (.ref z)) Q E s:=by
 have hT:s.TypeIs (.ref z) "zip":=⟨_,hz,rfl⟩;unfold pyNext;refine wpAny_bind (wpAny_attempt (wpAny_callSpecial?_slot (name:=Str.ofString "__next__") hT PySem.F.slot_zip_next (wpAny_call_entry PySem.F.slot_zip_next hT PySem.F.entry_zip_next (aHi hh S1 S2 D hz hti hto h1 h2 b1 b2 he fun h' e hk ⟨o,ho,hc⟩=>?_) (PySem.F.args_zip_next_1 _))));exact wpAny_bind (wpAny_isInstance (T:="StopIteration") (b:=true) ⟨o,ho,hc⟩ isSubtype_stop (wpAny_pure (hQ _ hk)))
end
end
end L2
namespace L2
open PySem PySem.Spec PySem.Calls PyProof.Rows PySem.W
abbrev jT (n:String) (l:Addr):Obj:={ cls:=.type n,data:=.fields #[.ref l,.int 0 0] }
abbrev zg2 (h:Heap) (o1 o2:Obj):Heap:=(h.push o1).push o2
abbrev zg3 (h:Heap) (o1 o2:Obj):Heap:=(zg2 h o1 o2).push { cls:=.type "tuple",data:=.seq #[.ref h.objs.size,.ref (h.push o1).objs.size] }
abbrev zg4 (h:Heap) (o1 o2:Obj):Heap:=(zg3 h o1 o2).push { cls:=.type "tuple",data:=.seq #[.none,.none] }
abbrev zg5 (h:Heap) (o1 o2:Obj):Heap:=(zg4 h o1 o2).push { cls:=.type "zip",data:=.fields #[.none,.bool false,.bool false,.ref (zg2 h o1 o2).objs.size,.ref (zg3 h o1 o2).objs.size] }
theorem xH (l t:Addr) (xs ys:Array Value):Meets (Builtin.«zip.__new__» ⟨[.type "zip",.ref l,.ref t],[]⟩) (fun _ R s=>s.heap.IsList l xs∧s.heap.IsTuple t ys ∧
  R (.ok (.ret (.ref (zg4 s.heap (jT "list_iterator" l) (jT "tuple_iterator" t)).objs.size))) { s with heap:=zg5 s.heap (jT "list_iterator" l) (jT "tuple_iterator" t) }):=
 .of_wp fun prog w A R s h=>by
  obtain⟨hp,g,d,tk,os⟩:=s;obtain⟨h1,h2,h⟩:=h;have hsub:=sub_zip;have j1:Heap.IsList (Shared.heap ⟨hp,g,d,tk,os⟩) l xs:=h1;have j2:Heap.IsTuple (Shared.heap ⟨hp.push { cls:=.type "list_iterator",data:=.fields #[.ref l,.int 0 0] },g,d,tk,os⟩) t ys:=Heap.IsTuple.push h2 _
  wp_walk using wpAny_pyIter_list j1,wpAny_pyIter_tuple j2
  exact⟨_,rfl,h⟩
theorem xG (t l:Addr) (ys xs:Array Value):Meets (Builtin.«zip.__new__» ⟨[.type "zip",.ref t,.ref l],[]⟩) (fun _ R s=>s.heap.IsTuple t ys∧s.heap.IsList l xs ∧
  R (.ok (.ret (.ref (zg4 s.heap (jT "tuple_iterator" t) (jT "list_iterator" l)).objs.size))) { s with heap:=zg5 s.heap (jT "tuple_iterator" t) (jT "list_iterator" l) }):=
 .of_wp fun prog w A R s h=>by
  obtain⟨hp,g,d,tk,os⟩:=s;obtain⟨h1,h2,h⟩:=h;have hsub:=sub_zip;have j1:Heap.IsTuple (Shared.heap ⟨hp,g,d,tk,os⟩) t ys:=h1;have j2:Heap.IsList (Shared.heap ⟨hp.push { cls:=.type "tuple_iterator",data:=.fields #[.ref t,.int 0 0] },g,d,tk,os⟩) l xs:=Heap.IsList.push h2 _
  wp_walk using wpAny_pyIter_tuple j1,wpAny_pyIter_list j2
  exact⟨_,rfl,h⟩
section
variable {P:Program}{w:World}{A:Around}{E:Value->Shared->Prop}{s:Shared}
theorem qG {l1 l2:Addr}{o1 o2:Obj}{Pre:Shared->Prop}{Q:Value->Shared->Prop}(c1:o1.isFreed=false) (c2:o2.isFreed=false)
  (M:Meets (Builtin.«zip.__new__» ⟨[.type "zip",.ref l1,.ref l2],[]⟩) (fun _ R s=>Pre s∧R (.ok (.ret (.ref (zg4 s.heap o1 o2).objs.size))) { s with heap:=zg5 s.heap o1 o2 })) (hp:Pre s)
  (q:∀ h',IsZip h' (s.heap.objs.size+4) (s.heap.objs.size+2) (s.heap.objs.size+3) .none->IsPair h' (s.heap.objs.size+2) (.ref s.heap.objs.size) (.ref (s.heap.objs.size+1))->IsPair h' (s.heap.objs.size+3) .none .none ->
   h'.get? s.heap.objs.size=some o1->h'.get? (s.heap.objs.size+1)=some o2->(∀ c o,s.heap.get? c=some o->h'.get? c=some o)->Q (.ref (s.heap.objs.size+4)) { s with heap:=h' }) :
  wpAny (model P w) A (call (.type "zip") [.ref l1,.ref l2]) Q E s:=by
 refine callType_new PySem.F.called_zip (by decide) (PySem.F.typeCall_zip_2 _ _) (PySem.F.newCall_zip_2 _ _) (fun obj=>PySem.F.args_object_init_3 obj _ _) PySem.F.entry_zip_new M ⟨hp,?_⟩;have z1:(s.heap.push o1).objs.size=s.heap.objs.size+1:=Heap.size_push ..;have z2:(zg2 s.heap o1 o2).objs.size=s.heap.objs.size+2:=by rw[Heap.size_push,z1]
 have z3:(zg3 s.heap o1 o2).objs.size=s.heap.objs.size+3:=by rw[Heap.size_push,z2]
 have z4:(zg4 s.heap o1 o2).objs.size=s.heap.objs.size+4:=by rw[Heap.size_push,z3]
 have g5:(zg5 s.heap o1 o2).get? (zg4 s.heap o1 o2).objs.size=some _:=Heap.get?_push_size _ rfl;have up4:∀ {c o},(zg4 s.heap o1 o2).get? c=some o->(zg5 s.heap o1 o2).get? c=some o:=fun e=>Heap.get?_push_of_some _ e;have g4:(zg4 s.heap o1 o2).get? (zg3 s.heap o1 o2).objs.size=some _:=Heap.get?_push_size _ rfl;have up3:∀ {c o},(zg3 s.heap o1 o2).get? c=some o->(zg5 s.heap o1 o2).get? c=some o:=fun e=>up4 (Heap.get?_push_of_some _ e);have g3:(zg3 s.heap o1 o2).get? (zg2 s.heap o1 o2).objs.size=some _:=Heap.get?_push_size _ rfl;have up2:∀ {c o},(zg2 s.heap o1 o2).get? c=some o->(zg5 s.heap o1 o2).get? c=some o:=fun e=>up3 (Heap.get?_push_of_some _ e);have g2:(zg2 s.heap o1 o2).get? (s.heap.push o1).objs.size=some o2:=Heap.get?_push_size _ c2;have g1:(s.heap.push o1).get? s.heap.objs.size=some o1:=Heap.get?_push_size _ c1;have a5:=g5;have a4:=up4 g4;have a3:=up3 g3;have a2:=up2 g2;have a1:=up2 (Heap.get?_push_of_some o2 g1);show _∧_;rw[z2,z3,z4] at a5;rw[z3] at a4;rw[z1,z2] at a3;rw[z1] at a2;rw[z4];exact⟨⟨_,a5,rfl⟩,q _ a5 a3 a4 a1 a2 fun c o e=>up2 (Heap.get?_push_of_some _ (Heap.get?_push_of_some _ e))⟩
end
def Itz (R1 R2:Hp->List V->Prop):It:=
 ⟨fun i H=>∃ xs ys x y,R1 H xs∧R2 H ys∧xs[i]?=some x∧ys[i]?=some y,
   fun i H v H'=>∃ (t:Addr) (x y:V),H t=none∧v=.ref t∧H'=upd H t (.tup [x,y])∧(∀ xs,R1 H xs->xs[i]?=some x)∧∀ ys,R2 H ys->ys[i]?=some y,
   fun i H=>∃ xs ys,R1 H xs∧R2 H ys∧(xs.length<=i∨ys.length<=i)⟩
structure Rdz (P:Program) (w:World) (K:Frag) (R:Hp->List V->Prop) (bk:Array Value->Heap->Prop):Prop where
 rd:∀ {X:Cx}{pins:List (Addr×Obj)}{s:Shared}{σ:St}{H:Hp}{xs:List V},X.prog=P->X.w=w->X.K=K->Inv X pins σ H s->R H xs->(∃ its:List Value,cB xs its∧bk its.toArray s.heap)∧∀ ys,R H ys->ys=xs
theorem aAr {P:Program}{w:World}{K:Frag}(a:Addr):Rdz P w K (fun H xs=>SqL K H a xs) (fun us h=>h.IsList a us):=⟨fun hP hw hK I h=>by
 subst hP hw hK;obtain⟨its,r,p,_⟩:=I.list h;exact⟨⟨its,r,p.isList⟩,fun ys hy=>I.list_inj hy h⟩⟩
theorem aEv {P:Program}{w:World}{K:Frag}(a:Addr):Rdz P w K (fun H xs=>SqT K H a xs) (fun us h=>h.IsTuple a us):=⟨fun hP hw hK I h=>by
 subst hP hw hK;obtain⟨its,r,p,_⟩:=I.tuple h;exact⟨⟨its,r,p⟩,fun ys hy=>I.tuple_inj hy h⟩⟩
theorem vP {P:Program}{w:World}{K:Frag}{elts:List Expr}{x1:Nat}{tpos:Pos}{z ti to i1 i2 l1 l2:Addr}{st1 st2:Nat->Heap->Prop}{bk1 bk2:Array Value->Heap->Prop}{R1 R2:Hp->List V->Prop}
  (S1:Src P w i1 l1 st1 bk1) (S2:Src P w i2 l2 st2 bk2) (D1:Rdz P w K R1 bk1) (D2:Rdz P w K R2 bk2) (D:ZipApart z ti to i1 i2 l1 l2) :
  zX P w K (.Tuple elts x1 tpos) (Itz R1 R2) [z,ti,to,i1,i2] z (fun i h=>IsZip h z ti to .none∧IsPair h ti (.ref i1) (.ref i2)∧(∃ a b,IsPair h to a b)∧st1 i h∧st2 i h) where
 mem:=by simp
 obj:=fun i h st b hb=>by
  obtain⟨h1,h2,⟨a,b',h3⟩,h4,h5⟩:=st;obtain⟨o4,v4,e4,d4⟩:=S1.ob h4;obtain⟨o5,v5,e5,d5⟩:=S2.ob h5;simp only[List.mem_cons,List.not_mem_nil,or_false] at hb;rcases hb with rfl | rfl | rfl | rfl | rfl
  ·exact⟨_,h1,fun v q=>nomatch q⟩
  ·exact⟨_,h2,fun v q=>nomatch q⟩
  ·exact⟨_,h3,fun v q=>nomatch q⟩
  ·exact⟨_,e4,fun v q=>by rw[d4] at q; cases q⟩
  ·exact⟨_,e5,fun v q=>by rw[d5] at q; cases q⟩
 keep:=fun i h h' st k=>by
  obtain⟨h1,h2,⟨a,b',h3⟩,h4,h5⟩:=st;exact⟨k z (by simp) _ h1,k ti (by simp) _ h2,⟨a,b',k to (by simp) _ h3⟩,S1.kp h4 (k i1 (by simp)),S2.kp h5 (k i2 (by simp))⟩
 item:=by
  intro X hP hw hK hc i pins s σ H E I hf st hg;obtain⟨xs,ys,x,y,r1,r2,hx,hy⟩:=hg;obtain⟨⟨its,rv,b1⟩,u1⟩:=D1.rd hP hw hK I r1;obtain⟨⟨jts,rw',b2⟩,u2⟩:=D2.rd hP hw hK I r2;subst hP hw hK;obtain⟨ux,hux,rx⟩:=rv.get hx;obtain⟨uy,huy,ry⟩:=rw'.get hy;obtain⟨h1,h2,⟨a,b',h3⟩,h4,h5⟩:=st;have fz:=hf z (by simp);have ft:=hf to (by simp);have f1:=hf i1 (by simp);have f2:=hf i2 (by simp);refine aFx S1 S2 D h1 h2 h3 h4 h5 b1 b2 (x:=ux) (y:=uy) (by simpa using hux) (by simpa using huy) fun g1 z1 t1 w1 w2 tu sz hk=>⟨.ref s.heap.objs.size,rfl,wpAny_letOwnedTupleGo_zip z1 fun g2 z2 sb=>?_⟩;have hn:H s.heap.objs.size=none:=I.hok.fresh (Nat.le_refl _);have lt:∀ {c o},s.heap.get? c=some o->c≠s.heap.objs.size:=fun e=>Nat.ne_of_lt (Heap.lt_size e);obtain⟨o4,v4,e4,d4⟩:=S1.ob h4;obtain⟨o5,v5,e5,d5⟩:=S2.ob h5
  have kp:∀ b o,b∉[z,to,i1,i2]->s.heap.get? b=some o->g2.get? b=some o:=fun b o n e=>by
   simp only[List.mem_cons,List.not_mem_nil,or_false,not_or] at n;exact (sb.2 b n.1).trans (hk b o n.1 n.2.1 n.2.2.1 n.2.2.2 e)
  have fch:∀ b∈[z,to,i1,i2],kZ X pins H b:=fun b hb=>hf b (by
   simp only[List.mem_cons,List.not_mem_nil,or_false] at hb ⊢;rcases hb with h | h | h | h
   ·exact .inl h
   ·exact .inr (.inr (.inl h))
   ·exact .inr (.inr (.inr (.inl h)))
   ·exact .inr (.inr (.inr (.inr h))))
  have nH:∀ b v,H b=some v->b∉[z,to,i1,i2]:=fun b v q hb=>by rw[(fch b hb).1] at q; cases q
  have nS:∀ b v,H b=some v->b≠s.heap.objs.size:=fun b v q=>aG q hn
  have I2:Inv X pins σ (upd H s.heap.objs.size (.tup [x,y])) { s with heap:=g2 }:=by
   refine I.step (t':=s.toks) (g':=s.gens) (d':=s.drawn) (ch:=[z,to,i1,i2]) (fun b hb=>⟨(fch b hb).2.2.2.1,(fch b hb).2.1,(fch b hb).2.2.2.2.1,(fch b hb).2.2.2.2.2⟩) (fun b o _ _ hc e _=>kp b o hc e) (fun b o _ _ hc e _=>⟨o.slots,kp b o hc e⟩)
    (fun b o _ e n=>by rw[aI (lt e)]; exact n) (fun b o hc e=>⟨o,kp b o hc e⟩) (fun b ys e=>by rw[aI (nS b _ e)]; exact e) (fun b o v e=>by rw[aI (nS b _ e)]; exact e)
    (fun b ps e=>⟨#[],by rw[aI (nS b _ e),e]; simp⟩) (fun m hm=>?_) (fun b v q=>?_) I.bare
   ·obtain⟨o,es,ep,ho,r⟩:=hm;exact⟨o,es,ep,kp _ o (fun hb=>(fch _ hb).2.1 rfl) ho,r⟩
   ·by_cases hb:b=s.heap.objs.size
    ·subst hb;rw[aD] at q;cases q;exact⟨by show 2<=sizeLine; decide,[ux,uy],.cons rx (.cons ry .nil),⟨_,(sb.2 _ (Ne.symm (lt h1))).trans tu,rfl,_,rfl⟩⟩
    ·rw[aI hb] at q;refine (I.hok b v q).stay (fun c y hc e=>kp c y ?_ e) (fun c e=>by rw[aI (nS c _ e)]; exact e) fun c ys e=>by rw[aI (nS c _ e)]; exact e
     rcases hc with rfl | hc
     ·exact nH c v q
     ·exact nH c _ hc
  refine⟨.ref s.heap.objs.size,_,I2,rfl,⟨s.heap.objs.size,x,y,hn,rfl,rfl,fun xs' h'=>by rw[u1 xs' h']; exact hx,fun ys' h'=>by rw[u2 ys' h']; exact hy⟩,⟨z2,?_,⟨_,_,(sb.2 to D.TOz).trans t1⟩,S1.kp w1 fun o e=>(sb.2 i1 D.i1z).trans e,S2.kp w2 fun o e=>(sb.2 i2 D.i2z).trans e⟩,fun b hb=>?_⟩
  ·exact kp ti _ (by simp only[List.mem_cons,List.not_mem_nil,or_false,not_or]; exact⟨D.TIz,D.TITO,D.TIi1,D.TIi2⟩) h2
  ·have nb:b≠s.heap.objs.size:=by
    simp only[List.mem_cons,List.not_mem_nil,or_false] at hb;rcases hb with rfl | rfl | rfl | rfl | rfl
    ·exact lt h1
    ·exact lt h2
    ·exact lt h3
    ·exact lt e4
    ·exact lt e5
   rw[aI nb];exact (hf b hb).1
 done:=by
  intro X hP hw hK hc i pins s σ H E I hf st hg;obtain⟨xs,ys,r1,r2,hl⟩:=hg;obtain⟨⟨its,rv,b1⟩,_⟩:=D1.rd hP hw hK I r1;obtain⟨⟨jts,rw',b2⟩,_⟩:=D2.rd hP hw hK I r2;subst hP hw hK;obtain⟨h1,h2,⟨a,b',h3⟩,h4,h5⟩:=st;have e1:=rv.length;have e2:=rw'.length
  have he:its.toArray[i]?=none∨jts.toArray[i]?=none:=by
   rcases hl with h | h
   ·exact .inl (by rw[List.getElem?_toArray]; exact List.getElem?_eq_none_iff.mpr (by omega))
   ·exact .inr (by rw[List.getElem?_toArray]; exact List.getElem?_eq_none_iff.mpr (by omega))
  refine aFk (I.ok.hd hc) S1 S2 D h1 h2 h3 h4 h5 b1 b2 he fun g hk=>⟨rfl,?_⟩
  have fch:∀ b∈[z,to,i1,i2],kZ X pins H b:=fun b hb=>hf b (by
   simp only[List.mem_cons,List.not_mem_nil,or_false] at hb ⊢;rcases hb with h | h | h | h
   ·exact .inl h
   ·exact .inr (.inr (.inl h))
   ·exact .inr (.inr (.inr (.inl h)))
   ·exact .inr (.inr (.inr (.inr h))))
  have kp:∀ b o,b∉[z,to,i1,i2]->s.heap.get? b=some o->g.get? b=some o:=fun b o n e=>by
   simp only[List.mem_cons,List.not_mem_nil,or_false,not_or] at n;exact hk b o n.1 n.2.1 n.2.2.1 n.2.2.2 e
  have nH:∀ b v,H b=some v->b∉[z,to,i1,i2]:=fun b v q hb=>by rw[(fch b hb).1] at q; cases q
  refine I.step (t':=s.toks) (g':=s.gens) (d':=s.drawn) (ch:=[z,to,i1,i2]) (fun b hb=>⟨(fch b hb).2.2.2.1,(fch b hb).2.1,(fch b hb).2.2.2.2.1,(fch b hb).2.2.2.2.2⟩) (fun b o _ _ hc e _=>kp b o hc e) (fun b o _ _ hc e _=>⟨o.slots,kp b o hc e⟩)
   (fun b o _ e n=>n) (fun b o hc e=>⟨o,kp b o hc e⟩) (fun b ys e=>e) (fun b o v e=>e) (fun b ps e=>⟨#[],by rw[e]; simp⟩) (fun m hm=>?_) (fun b v q=>?_) I.bare
  ·obtain⟨o,es,ep,ho,r⟩:=hm;exact⟨o,es,ep,kp _ o (fun hb=>(fch _ hb).2.1 rfl) ho,r⟩
  ·refine (I.hok b v q).stay (fun c y hc e=>kp c y ?_ e) (fun c e=>e) fun c ys e=>e;rcases hc with rfl | hc
   ·exact nH c v q
   ·exact nH c _ hc
 self:=fun _ i s _ _ ⟨h1,_⟩ h=>wpAny_pyIter_zip h1 h
end L2
namespace L2
open PySem PySem.Spec PySem.Calls PyProof.Rows PySem.W
theorem Bo.zip:bootBuiltins "zip" = some (.type "zip"):=by decide +kernel
section
variable {X:Cx}{elts:List Expr}{x1:Nat}{tpos:Pos}
inductive aNt (K:Frag) (vs:List V) (H1:Hp) (R:It->Hp->Prop):Prop
 | mk (a b:Addr) (h1:vs=[.ref a,.ref b]) (h2:∃ xs,SqL K H1 a xs) (h3:∃ ys,SqT K H1 b ys) (r:R (Itz (fun H xs=>SqL K H a xs) (fun H ys=>SqT K H b ys)) H1)
def aLp (K:Frag) (ta:TA):TI:=fun σ H R=>ta σ H fun vs H1=>aNt K vs H1 R
inductive aNs (K:Frag) (vs:List V) (H1:Hp) (R:It->Hp->Prop):Prop
 | mk (a b:Addr) (h1:vs=[.ref a,.ref b]) (h2:∃ xs,SqT K H1 a xs) (h3:∃ ys,SqL K H1 b ys) (r:R (Itz (fun H xs=>SqT K H a xs) (fun H ys=>SqL K H b ys)) H1)
def aLo (K:Frag) (ta:TA):TI:=fun σ H R=>ta σ H fun vs H1=>aNs K vs H1 R
theorem aIm {s:Shared}{b:Addr}(hb:b∈[s.heap.objs.size+4,s.heap.objs.size+2,s.heap.objs.size+3,s.heap.objs.size,s.heap.objs.size+1]):s.heap.objs.size<=b:=by
 simp only[List.mem_cons,List.not_mem_nil,or_false] at hb;rcases hb with rfl | rfl | rfl | rfl | rfl
 ·exact Nat.le_add_right ..
 ·exact Nat.le_add_right ..
 ·exact Nat.le_add_right ..
 ·exact Nat.le_refl _
 ·exact Nat.le_add_right ..
theorem wM {l m:Expr}{ta:TA}{p pos:Pos}(hg:Gl X "zip") (hm:X.mg "zip" = none) (ha:PA X [l,m] ta) (hs:starEach [l,m] X.env=(false,eval l X.env)::starEach [m] X.env:=by rfl) (hpl:(backTo pos (starEach [m] X.env)).any (·.1)=false:=by rfl) :
  PI X (.Tuple elts x1 tpos) (.Call (.Name "zip" p) [l,m] [] pos) (aLp X.K ta):=by
 intro pins s σ H R I h;refine wpAny_Call_Name_kw (kJ I hg hm Bo.zip ?_ (by decide) (by decide));refine PyProof.Rows.callWith_type1 (thn (ha pos pins s σ H _ I h) fun us s1 ⟨vs,H1,I1,r1,a,b,e1,⟨xs,hx⟩,⟨ys,hy⟩,q⟩=>?_) hs hpl;subst e1;obtain⟨u,w',rfl,rx,ry⟩:=vN r1;cases rx;cases ry;obtain⟨its,rv,pl,_⟩:=I1.list hx;obtain⟨jts,rw',pt,_⟩:=I1.tuple hy;have a1:a<s1.heap.objs.size:=let ⟨_,e,_⟩:=pl.isList; Heap.lt_size e;have a2:b<s1.heap.objs.size:=let ⟨_,e,_⟩:=pt; Heap.lt_size e;refine qG (Pre:=fun s=>s.heap.IsList a its.toArray∧s.heap.IsTuple b jts.toArray) rfl rfl (by simpa only[and_assoc] using xH a b its.toArray jts.toArray) ⟨pl.isList,pt⟩ fun h' z1 t1 t2 o1 o2 k=>?_;have I2:Inv X pins σ H1 { s1 with heap:=h' }:=I1.kept (t':=s1.toks) k
 exact wpAny_pyIter_zip z1 ⟨s1.heap.objs.size+4,[s1.heap.objs.size+4,s1.heap.objs.size+2,s1.heap.objs.size+3,s1.heap.objs.size,s1.heap.objs.size+1],_,_,H1,rfl,I2,
  vP (vR s1.heap.objs.size a) (aAg (s1.heap.objs.size+1) b) (aAr a) (aEv b) (zipApart_new a1 a2),⟨z1,t1,⟨_,_,t2⟩,⟨_,o1,rfl,rfl⟩,⟨_,o2,rfl,rfl⟩⟩,fun c hc=>I1.fpOk (aIm hc) (I1.hok.fresh (aIm hc)),q⟩
theorem aFb {l m:Expr}{ta:TA}{p pos:Pos}(hg:Gl X "zip") (hm:X.mg "zip" = none) (ha:PA X [l,m] ta) (hs:starEach [l,m] X.env=(false,eval l X.env)::starEach [m] X.env:=by rfl) (hpl:(backTo pos (starEach [m] X.env)).any (·.1)=false:=by rfl) :
  PI X (.Tuple elts x1 tpos) (.Call (.Name "zip" p) [l,m] [] pos) (aLo X.K ta):=by
 intro pins s σ H R I h;refine wpAny_Call_Name_kw (kJ I hg hm Bo.zip ?_ (by decide) (by decide));refine PyProof.Rows.callWith_type1 (thn (ha pos pins s σ H _ I h) fun us s1 ⟨vs,H1,I1,r1,a,b,e1,⟨xs,hx⟩,⟨ys,hy⟩,q⟩=>?_) hs hpl;subst e1;obtain⟨u,w',rfl,rx,ry⟩:=vN r1;cases rx;cases ry;obtain⟨its,rv,pt,_⟩:=I1.tuple hx;obtain⟨jts,rw',pl,_⟩:=I1.list hy;have a1:a<s1.heap.objs.size:=let ⟨_,e,_⟩:=pt; Heap.lt_size e;have a2:b<s1.heap.objs.size:=let ⟨_,e,_⟩:=pl.isList; Heap.lt_size e;refine qG (Pre:=fun s=>s.heap.IsTuple a its.toArray∧s.heap.IsList b jts.toArray) rfl rfl (by simpa only[and_assoc] using xG a b its.toArray jts.toArray) ⟨pt,pl.isList⟩ fun h' z1 t1 t2 o1 o2 k=>?_;have I2:Inv X pins σ H1 { s1 with heap:=h' }:=I1.kept (t':=s1.toks) k
 exact wpAny_pyIter_zip z1 ⟨s1.heap.objs.size+4,[s1.heap.objs.size+4,s1.heap.objs.size+2,s1.heap.objs.size+3,s1.heap.objs.size,s1.heap.objs.size+1],_,_,H1,rfl,I2,
  vP (aAg s1.heap.objs.size a) (vR (s1.heap.objs.size+1) b) (aEv a) (aAr b) (zipApart_new a1 a2),⟨z1,t1,⟨_,_,t2⟩,⟨_,o1,rfl,rfl⟩,⟨_,o2,rfl,rfl⟩⟩,fun c hc=>I1.fpOk (aIm hc) (I1.hok.fresh (aIm hc)),q⟩
theorem vH {R1 R2:Hp->List V->Prop}{D:Addr}{xs ys:List V}{g:TG}{tc:TT}{te:TE}{R:Hp->Prop}{σ:St}{H:Hp}(Pv:Nat->St->Hp->Prop) (h0:Pv 0 σ H) (hxy:xs.length=ys.length)
  (hl:∀ i σ H,i<=xs.length->Pv i σ H->R1 H xs∧R2 H ys)
  (hs:∀ i x y σ H t,xs[i]?=some x->ys[i]?=some y->Pv i σ H->H t=none->g (.ref t) σ (upd H t (.tup [x,y])) fun σ2 H2=>tc σ2 H2 fun b H3=>if b=true then te σ2 H3 fun y H4=>∃ ys,H4 D=some (.lst ys)∧ys.length<sizeLine∧Pv (i+1) σ2 (upd H4 D (.lst (ys++[y]))) else Pv (i+1) σ2 H3)
  (hd:∀ σ H,Pv xs.length σ H->R H):yE (Itz R1 R2) D g tc te R σ H:=by
 refine⟨fun i m σ H=>m=xs.length-i∧i<=xs.length∧Pv i σ H,⟨xs.length,by simp,Nat.zero_le _,h0⟩,?_⟩;rintro i m σ H ⟨rfl,hi,p⟩;obtain⟨q1,q2⟩:=hl i σ H hi p
 by_cases hlt:i<xs.length
 ·refine .inr ⟨⟨xs,ys,xs[i],ys[i]'(by omega),q1,q2,by simp[hlt],by simp⟩,Pv (i+1),fun σ' H' p'=>⟨xs.length-(i+1),by omega,rfl,hlt,p'⟩,fun v H' z=>?_⟩;obtain⟨t,x,y,ht,rfl,rfl,hx,hy⟩:=z;exact hs i x y σ H t (hx xs q1) (hy ys q2) p ht
 ·have e:i=xs.length:=by omega
  subst e;exact .inl ⟨⟨xs,ys,q1,q2,.inl (Nat.le_refl _)⟩,hd σ H p⟩
end
end L2
namespace L2
open PySem PySem.Spec PySem.Calls PyProof.Rows PySem.W
section
variable {X:Cx}
inductive aEw (K:Frag) (r:Bool) (x y:V) (H:Hp) (Q:VK):Prop
 | nn (h0_:x=.non) (h1_:y=.non) (h2_:Q (.bl r) H)
 | tt (a b:Addr) (ss:List Str) (h0_:x=.ref a) (h1_:y=.ref b) (h2_:SqT K H a (ss.map V.str)) (h3_:SqT K H b (ss.map V.str)) (h4_:Q (.bl r) H)
theorem wE {ss:List Str}{n:Nat}:(List.range n).all (fun j=>decide (ss[j]?=ss[j]?))=true:=List.all_eq_true.mpr fun _ _=>decide_eq_true rfl
theorem yS (hu:X.A.units<cLine):OpR X (compareOp .NotEq) (aEw X.K false):=by
 intro pins s σ H x y v u Q I rx ry h;rcases h with⟨rfl,rfl,q⟩ | ⟨a,b,ss,rfl,rfl,ha,hb,q⟩
 ·cases rx;cases ry;exact SeqAt.RcNeAt.none_none X.prog X.w X.xe _ ⟨.bl false,H,I,rfl,q⟩
 ·cases rx;cases ry;obtain⟨us,r1,p1,_⟩:=I.tuple ha;obtain⟨ws,r2,p2,_⟩:=I.tuple hb;have l1:=r1.length;have l2:=r2.length;refine SeqAt.RcNeAt.tuples p1 p2 hu (lD r1 r2 rfl) X.prog X.w X.xe _ ⟨.bl false,H,I,?_,q⟩;rw[wE,List.size_toArray,List.size_toArray,← l1,← l2]
  simp
  rfl
theorem aKy (hu:X.A.units<cLine):OpR X (compareOp .Eq) (aEw X.K true):=by
 intro pins s σ H x y v u Q I rx ry h;rcases h with⟨rfl,rfl,q⟩ | ⟨a,b,ss,rfl,rfl,ha,hb,q⟩
 ·cases rx;cases ry;exact SeqAt.RcAt.none_none X.prog X.w X.xe _ ⟨.bl true,H,I,rfl,q⟩
 ·cases rx;cases ry;obtain⟨us,r1,p1,_⟩:=I.tuple ha;obtain⟨ws,r2,p2,_⟩:=I.tuple hb;have l1:=r1.length;have l2:=r2.length;refine SeqAt.eq_tupleAt p1 p2 hu (lD r1 r2 rfl) ⟨.bl true,H,I,?_,q⟩;rw[wE,List.size_toArray,List.size_toArray,← l1,← l2]
  simp
  rfl
inductive aPk (K:Frag) (x y:V) (H:Hp) (Q:VK):Prop
 | mk (a:Addr) (os:List (Option Str)) (h0_:x=.non) (h1_:y=.ref a) (h2_:SqL K H a (os.map fun o=>(o.map V.str).getD .non)) (h3_:Q (.bl (os.any fun o=>o.isNone)) H)
theorem vM {us:List Value}:∀ {os:List (Option Str)},cB (os.map fun o=>(o.map V.str).getD .non) us->us.any (fun v=>v==.none)=os.any fun o=>o.isNone
 | [],r=>by cases r; rfl
 | o::os,r=>by
  cases r with
  | cons r1 r2=>
   rw[List.any_cons,List.any_cons,vM r2];cases o with
   | none=>cases r1; rfl
   | some z=>obtain⟨t,rfl⟩:=r1; rfl
theorem aKx:OpR X (compareOp .In) (aPk X.K):=by
 intro pins s σ H x y v u Q I rx ry h;obtain⟨a,os,rfl,rfl,ha,q⟩:=h;cases rx;cases ry;obtain⟨us,r1,p1,_⟩:=I.list ha;refine SeqAt.in_listAt (fun y=>y==.none) p1.isList (fun y hy=>?_) ⟨.bl (os.any fun o=>o.isNone),H,I,?_,q⟩
 ·obtain⟨i,hi⟩:=List.getElem?_of_mem (show y∈us by simpa using hy);have l1:=r1.length;have li:i<us.length:=(List.getElem?_eq_some_iff.mp hi).1;rw[List.length_map] at l1;have hoi:os[i]?=some os[i]:=List.getElem?_eq_getElem (by omega);obtain⟨u',e',ru⟩:=r1.get (i:=i) (x:=(os[i].map V.str).getD .non) (by rw[List.getElem?_map,hoi]; rfl);rw[hi] at e';cases e';cases ho:os[i] with
  | none=>rw[ho] at ru; cases ru; exact SeqAt.EqAt.same _
  | some z=>
   rw[ho] at ru;obtain⟨t,rfl⟩:=ru;exact SeqAt.EqAt.str_none z t
 ·show Value.bool _=Value.bool _;rw[← vM r1]
  simp
theorem xM {α β:Type}{f g:α->Option β}:∀ {l:List α},(∀ x∈l,f x=g x)->l.filterMap f=l.filterMap g
 | [],_=>rfl
 | a::l,h=>by rw[List.filterMap_cons,List.filterMap_cons,h a (List.mem_cons_self ..),xM fun x hx=>h x (List.mem_cons_of_mem _ hx)]
theorem aCc (xs:Array Value):((List.range xs.size).filterMap fun (m:Nat)=>xs[((xs.size:Int)-1+(m:Int)*(-1)).toNat]?).toArray=xs.toList.reverse.toArray:=by
 congr 1
 have e:(List.range xs.size).filterMap (fun (m:Nat)=>xs[((xs.size:Int)-1+(m:Int)*(-1)).toNat]?)=(List.range xs.size).filterMap (fun m=>xs[xs.size-1-m]?):=by
  refine xM fun m hm=>?_
  have:=List.mem_range.mp hm
  rw[show ((xs.size:Int)-1+(m:Int)*(-1)).toNat=xs.size-1-m by omega]
 rw[e]
 have e2:(List.range xs.size).filterMap (fun m=>xs[xs.size-1-m]?)=((List.range xs.size).map fun k=>xs.size-1-k).filterMap (xs[·]?):=by
  rw[List.filterMap_map];rfl
 rw[e2,krv_range,List.filterMap_reverse,krv_all]
section
variable {prog:Program}{w:World}{A:Around}{E:Value->Shared->Prop}{s:Shared}
theorem vJ {sl:Addr}{vl vu vk:Value}{n:Nat}{Q:Int×Int×Nat->Shared->Prop}(hs:s.heap.IsSliceOf sl vl vu vk) (pl:IsPart vl none) (pu:IsPart vu none) (pk:IsPart vk (some (-1)))
  (h:Q ((n:Int)-1,-1,n) s):wpAny (model prog w) A (Builtin.Slice.sliceApplied (.ref sl) (pure (n:Int))) Q E s:=by
 obtain⟨os,ho,hc,hd⟩:=id hs;unfold Builtin.Slice.sliceApplied Builtin.Slice.sliceFields;refine wpAny_bind (wpAny_bind (wpAny_field ho hd (x:=vl) rfl (wpAny_bind (wpAny_field ho hd (x:=vu) rfl (wpAny_bind (wpAny_field ho hd (x:=vk) rfl (wpAny_pure (wpAny_bind (HT.slicePart_ pk ?_)))))))));show wpAny _ _ (if ((-1:Int)==0)=true then _ else _) _ E s
 rw[if_neg (by decide)];refine wpAny_bind (HT.slicePart_ pl (wpAny_bind (HT.slicePart_ pu (wpAny_bind (wpAny_pure ?_)))))
 have e1:Builtin.Slice.sliceAdjust none none (-1) (n:Int)=((n:Int)-1,-1):=by
  unfold Builtin.Slice.sliceAdjust
  simp
 have e2:Builtin.Slice.slicePlaces ((n:Int)-1) (-1) (-1)=n:=by
  unfold Builtin.Slice.slicePlaces
  simp
  omega
 show wpAny _ _ (match Builtin.Slice.sliceAdjust none none (-1) (n:Int) with | (lo,hi)=>pure (lo,(-1:Int),Builtin.Slice.slicePlaces lo hi (-1))) _ E s
 rw[e1];show wpAny _ _ (pure ((n:Int)-1,(-1:Int),Builtin.Slice.slicePlaces ((n:Int)-1) (-1) (-1))) _ E s;rw[e2];exact wpAny_pure h
theorem aDa {t sl:Addr}{us:Array Value}{vl vu vk:Value}{Q:Value->Shared->Prop}(ht:IsTup s.heap t us) (hs:s.heap.IsSliceOf sl vl vu vk) (pl:IsPart vl none) (pu:IsPart vu none) (pk:IsPart vk (some (-1)))
  (h:Q (.ref s.heap.objs.size) { s with heap:=s.heap.push { cls:=.type "tuple",data:=.seq us.toList.reverse.toArray } }) (hz:us.size<=sizeLine):wpAny (model prog w) A (getItem (.ref t) (.ref sl)) Q E s:=by
 have hk:sizeOk (.seq us.toList.reverse.toArray):=by
  show us.toList.reverse.toArray.size<=sizeLine;rw[List.size_toArray,List.length_reverse,Array.length_toList];exact hz
 obtain⟨os,ho,hc,hd⟩:=id hs;have hT:s.TypeIs (.ref sl) "slice":=⟨os,ho,hc⟩;unfold getItem
 try with_reducible refine wpAny_holding ?_
 first | refine wpAny_bind (wpAny_pure ?_) | skip
 refine wpAny_bind (wpAny_sequenceKey ht.typeIs (by decide) (wpAny_bind (wpAny_callSpecial?_slot (name:=Str.ofString "__getitem__") ht.typeIs PyProof.Rows.slot_tuple_getitem (wpAny_call_entry PyProof.Rows.slot_tuple_getitem ht.typeIs entry_tuple_getitem ?_ (args_tuple_getitem _ _)))));show wpAny _ _ (Builtin.Tuple.tupleItemsOf (.ref t)>>=_) _ E s;refine wpAny_bind (tupleItemsOf_ ht (wpAny_bind (wpAny_typeOf hT ?_)));rw[if_pos (by decide)];refine wpAny_bind (vJ hs pl pu pk ?_);show wpAny _ _ (if (((us.size:Int)-1)==0&&(-1:Int)==1&&us.size==us.size)=true then _ else _) _ E s
 rw[if_neg (by simp),aCc]
 first
  | exact wpAny_bind (m:=Builtin.Tuple.tupleExact _) (wpAny_newObj_type (wpAny_pure ⟨_,rfl,wpAny_pure h⟩) hk)
  | exact wpAny_bind (m:=Builtin.Tuple.tupleExact _) (wpAny_newObj_type (wpAny_bind (wpAny_pure (wpAny_pure ⟨_,rfl,wpAny_pure h⟩))) hk)
  | exact wpAny_bind (wpAny_bind (m:=Builtin.Tuple.tupleExact _) (wpAny_newObj_type (wpAny_pure (wpAny_pure ⟨_,rfl,wpAny_pure h⟩)) hk))
  | exact wpAny_bind (wpAny_bind (m:=Builtin.Tuple.tupleExact _) (wpAny_newObj_type (wpAny_pure ⟨_,rfl,wpAny_pure h⟩) hk))
end
inductive aOa (K:Frag) (x:V) (o:Option Int) (H:Hp) (Q:VK):Prop
 | mk (a:Addr) (xs:List V) (h0_:x=.ref a) (h1_:o=some (-1)) (h2_:SqT K H a xs) (h3_:∀ p,H p=none->Q (.ref p) (upd H p (.tup xs.reverse)))
def aKi (K:Frag) (te:TE) (tk:TO):TE:=fun σ H Q=>te σ H fun x H1=>tk σ H1 fun o H2=>aOa K x o H2 Q
theorem aMu {xs:List V}{us:List Value}(r:cB xs us):cB xs.reverse us.reverse:=by
 induction r with
 | nil=>exact .nil
 | cons q t ih=>
  rw[List.reverse_cons,List.reverse_cons];exact ih.append (.cons q .nil)
theorem wR {e:Expr}{te:TE}{ek:Expr}{tk:TO}{pos p2:Pos}(he:PE X e te) (hk:PO X (some ek) tk):PE X (.Subscript e (.Slice none none (some ek) p2) pos) (aKi X.K te tk):=by
 intro pins s σ H Q I h;refine Subscript_ (thn (he pins s σ H _ I h) fun v s1 ⟨x,H1,I1,r1,q1⟩=>wpAny_Slice (thn (qC pins s1 σ H1 (fun o H2=>o=none∧H2=H1) I1 ⟨rfl,rfl⟩) fun vl s2 ⟨l,H2,I2,pl,e1,e2⟩=>?_));subst e1 e2;refine thn (qC pins s2 σ H2 (fun o H3=>o=none∧H3=H2) I2 ⟨rfl,rfl⟩) fun vu s3 ⟨u,H3,I3,pu,e1,e2⟩=>?_;subst e1 e2;refine thn (hk pins s3 σ H3 _ I3 q1) fun vk s4 ⟨o,H4,I4,pk,q2⟩=>?_;obtain⟨a,xs,rfl,rfl,hx,q⟩:=q2;cases r1;have I5:Inv X pins σ H4 { s4 with heap:=s4.heap.push { cls:=.type "slice",data:=.fields #[vl,vu,vk] } }:=I4.kept (t':=s4.toks) fun b ob q=>Heap.get?_push_of_some _ q;obtain⟨its,r,ht,hz⟩:=I5.tuple hx;have hlen:=r.length;show wpAny (model X.prog X.w) X.A (subscriptTail e (.Slice none none (some ek) p2) (.ref a) (.ref s4.heap.objs.size)) (EP X pins σ Q) X.xe { s4 with heap:=s4.heap.push { cls:=.type "slice",data:=.fields #[vl,vu,vk] } };refine tail_any (ops:=[.ref a,.ref s4.heap.objs.size]) ht.typeIs PyProof.Rows.slot_tuple_getitem.lookup (aDa ht (Heap.IsSliceOf.new ..) pl pu pk ?_ (by rw[List.size_toArray]; omega)) (by with_unfolding_all rfl);refine⟨.ref (s4.heap.push { cls:=.type "slice",data:=.fields #[vl,vu,vk] }).objs.size,_,I5.laid (t':=s4.toks) (o:=.tup xs.reverse) (fun b ob q=>Heap.get?_push_of_some _ q) (Nat.le_refl _) ?_,rfl,q _ (I5.hok.fresh (Nat.le_refl _))⟩;exact⟨by rw[List.length_reverse]; exact hz,its.reverse,aMu r,IsTup.new _ _⟩
end
end L2
namespace L2
open PySem PySem.Spec PySem.Calls PyProof.Rows PySem.W
theorem aDp (a b:Value):argsOk "sum" ⟨[a,b],[]⟩:=by unfold argsOk; kernel_rfl
theorem aLg:isSubtype (.type "list") (.type "str")=pure false:=by rw[isSubtype_type]; kernel_rfl
theorem aGe:isSubtype (.type "list") (.type "bytes")=pure false:=by rw[isSubtype_type]; kernel_rfl
theorem aGf:isSubtype (.type "list") (.type "bytearray")=pure false:=by rw[isSubtype_type]; kernel_rfl
abbrev sH (us:List Value) (n:Nat):Obj:={ cls:=.type "list",data:=.seq us.toArray n }
section
variable {P:Program}{w:World}{A:Around}{R:Result->Shared->Prop}
theorem aBq {it a S:Addr}{bs:List Addr}{uss:List (List Value)}(hh:A.handled=none) (hlen:bs.length=uss.length) (ni:it≠S) (na:a≠S) (nb:∀ b∈bs,b≠S) :
  ∀ (k i:Nat) (s:Shared) (acc:Addr) (cur:List Value) (c n:Nat),bs.length-i=k->i<=bs.length->s.heap.IsListIter it a i->s.heap.IsList a (bs.map Value.ref).toArray->s.heap.get? S=some (sH [.ref acc] c) ->
   s.heap.get? acc=some (sH cur n)->acc≠S->(∀ (j:Nat) (b:Addr) (us:List Value),bs[j]?=some b->uss[j]?=some us->∃ m,s.heap.get? b=some (sH us m))->cur.length+((uss.drop i).map List.length).sum<=sizeLine ->
   (∀ s' p m,s'.gens=s.gens->s'.os=s.os->s'.drawn=s.drawn->s'.toks=s.toks->(∀ b o,b≠it->b≠S->s.heap.get? b=some o->s'.heap.get? b=some o)->(i<bs.length->s.heap.objs.size<=p)->(i=bs.length->p=acc)->s'.heap.get? p=some (sH (cur++(uss.drop i).flatten) m)->R (.ok (.ret (.ref p))) s') ->
   codeAny (model P w) A (.builtin "sum.loop" ⟨[.ref it,.ref S,rawInt 2,rawInt 0],[]⟩) R s:=by
 intro k
 induction k with
 | zero=>
  intro i s acc cur c n hk hi h1 h2 h3 h4 nS h5 hz q;have ei:i=bs.length:=by omega
  subst ei;refine codeAny_builtin PySem.F.entry_sum_loop ?_;rw[Around.under_plainId PySem.F.plain_sum_loop _];show wpAny _ A.in1 (seqItems? (.ref S)>>=_) _ _ s;refine wpAny_bind (wpAny_seqItems h3 rfl ?_);show wpAny _ A.in1 (tryCatch (pyNext (.ref it)) _>>=_) _ _ s;refine wpAny_bind (wpAny_tryCatch (wpAny_pyNext_list_end hh h1 h2 (by simp) fun h' ex=>?_));refine wpAny_pure (q _ acc n rfl rfl rfl rfl (fun b o n1 _ e=>ex b o n1 e) (fun z=>absurd z (Nat.lt_irrefl _)) (fun _=>rfl) ?_);have na':acc≠it:=fun z=>by obtain⟨o,e,cc,_⟩:=h1; rw[← z,h4] at e; cases e; simp at cc
  rw[hlen,List.drop_of_length_le (Nat.le_refl _),List.flatten_nil,List.append_nil];exact ex acc _ na' h4
 | succ k ih=>
  intro i s acc cur c n hk hi h1 h2 h3 h4 nS h5 hz q;have hlt:i<bs.length:=by omega
  have hlu:i<uss.length:=by omega
  have hb:=List.getElem?_eq_getElem hlt;have hu:=List.getElem?_eq_getElem hlu;obtain⟨m,h6⟩:=h5 i _ _ hb hu;have ed:uss.drop i=uss[i]::uss.drop (i+1):=List.drop_eq_getElem_cons hlu;rw[ed] at hz q;generalize uss[i]=us at hu h6 hz q;have nb1:=nb _ (List.getElem_mem hlt);generalize bs[i]=b at hb h6 nb1;rw[List.map_cons,List.sum_cons] at hz;have ty:∀ {d:Addr}{vs:List Value}{n':Nat},s.heap.get? d=some (sH vs n')->d≠it:=fun {d vs n'} e z=>by obtain⟨o,e',cc,_⟩:=h1; rw[← z,e] at e'; cases e'; simp at cc
  have nai:a≠it:=fun z=>by obtain⟨o,e',cc,_⟩:=h1; obtain⟨o2,e2,cc2,_⟩:=h2; rw[z,e'] at e2; cases e2; rw[cc] at cc2; simp at cc2
  refine codeAny_builtin PySem.F.entry_sum_loop ?_;rw[Around.under_plainId PySem.F.plain_sum_loop _];show wpAny _ A.in1 (seqItems? (.ref S)>>=_) _ _ s;refine wpAny_bind (wpAny_seqItems h3 rfl ?_);show wpAny _ A.in1 (tryCatch (pyNext (.ref it)) _>>=_) _ _ s;refine wpAny_bind (wpAny_tryCatch (wpAny_pyNext_list_item h1 h2 (x:=.ref b) (by simp[hb]) fun g1 j1 sb=>?_));have k1:∀ {d o},d≠it->s.heap.get? d=some o->g1.get? d=some o:=fun n e=>sb.extBut _ _ n e;have h41:=k1 (ty h4) h4;have h61:=k1 (ty h6) h6;have h31:=k1 (Ne.symm ni) h3;show wpAny _ A.in1 ((holding [Value.ref b] (binaryOp .Add (.ref acc) (.ref b))).attempt>>=_) _ _ _;refine wpAny_bind (wpAny_attempt (wpAny_holding (PySem.P.add_list h41 h61 ?_ (by rw[List.size_toArray,List.size_toArray]; omega))));have sz1:g1.objs.size=s.heap.objs.size:=sb.1;have k2:∀ {d o},g1.get? d=some o->(g1.push { cls:=.type "list",data:=.seq (cur.toArray++us.toArray) }).get? d=some o:=fun e=>Heap.get?_push_of_some _ e;have new2:(g1.push { cls:=.type "list",data:=.seq (cur.toArray++us.toArray) }).get? g1.objs.size=some (sH (cur++us) 0):=by rw[Heap.get?_push_size _ rfl]; simp
  have h32:=k2 h31;generalize g1.push { cls:=.type "list",data:=.seq (cur.toArray++us.toArray) }=g2 at k2 new2 h32 ⊢;show wpAny _ A.in1 (updateSeq S (fun _=>#[.ref g1.objs.size])>>=_) _ _ _;refine wpAny_bind (wpAny_updateSeq h32 rfl ?_);have h33:=Heap.get?_update_self (Obj.mapSeq fun _=>#[Value.ref g1.objs.size]) h32 rfl;refine wpAny_bind (wpAny_letGo (wpAny_bind (wpAny_updateSeq h33 rfl ?_)));have h34:=Heap.get?_update_self (Obj.mapSeq fun _=>#[Value.ref g1.objs.size]) h33 rfl;have k3:∀ {d o},d≠S->g2.get? d=some o->((g2.update S (Obj.mapSeq fun _=>#[Value.ref g1.objs.size])).update S (Obj.mapSeq fun _=>#[Value.ref g1.objs.size])).get? d=some o:=fun n e=>(Heap.get?_update_other _ _ (Ne.symm n)).trans ((Heap.get?_update_other _ _ (Ne.symm n)).trans e);generalize (g2.update S (Obj.mapSeq fun _=>#[Value.ref g1.objs.size])).update S (Obj.mapSeq fun _=>#[Value.ref g1.objs.size])=g3 at h34 k3 ⊢;have kk:∀ {d o},d≠it->d≠S->s.heap.get? d=some o->g3.get? d=some o:=fun n1 n2 e=>k3 n2 (k2 (k1 n1 e));have nSn:g1.objs.size≠S:=fun z=>by have:=Heap.lt_size h31; rw[z] at this; exact Nat.lt_irrefl _ this
  have lt3:g1.objs.size<g3.objs.size:=Heap.lt_size (k3 nSn new2);refine wpAny_pure ⟨plainId_quiet PySem.F.plain_sum_loop _,ih (i+1) _ g1.objs.size (cur++us) _ 0 (by omega) hlt ?_ ?_ h34 (k3 nSn new2) nSn ?_ ?_ ?_⟩
  ·exact j1.at fun o e=>k3 ni (k2 e)
  ·exact h2.at fun o e=>kk nai na e
  ·intro j d vs hd hv;obtain⟨m',e⟩:=h5 j d vs hd hv;exact⟨m',kk (ty e) (nb d (List.mem_of_getElem? hd)) e⟩
  ·rw[List.length_append];omega
  ·intro s' p m' e1 e2 e3 e4 e5 e6 e8 e7;refine q s' p m' e1 e2 e3 e4 (fun d o n1 n2 e=>e5 d o n1 n2 (kk n1 n2 e)) (fun _=>?_) (fun z=>absurd hlt (by omega)) (by rw[List.flatten_cons,← List.append_assoc]; exact e7)
   by_cases hl:i+1<bs.length
   ·exact Nat.le_trans (by rw[← sz1]; exact Nat.le_of_lt lt3) (e6 hl)
   ·rw[e8 (by omega),sz1];exact Nat.le_refl _
end
section
variable {X:Cx}
theorem aHv {bs:List Addr}{us:List Value}(r:cB (bs.map V.ref) us):us=bs.map Value.ref:=by
 induction bs generalizing us with
 | nil=>cases r; rfl
 | cons b bs ih=>
  cases r with
  | cons r1 r2=>
   cases r1;rw[ih r2];rfl
inductive aQe (K:Frag) (xs:List V) (H:Hp) (Q:VK):Prop
 | mk (a e:Addr) (bs:List Addr) (sss:List (List Str)) (h0_:xs=[.ref a,.ref e]) (h1_:SqL K H a (bs.map V.ref)) (h2_:H e=some (.lst [])) (h3_:bs.length=sss.length) (h4_:∀ (j:Nat) (b:Addr) (ss:List Str),bs[j]?=some b->sss[j]?=some ss->H b=some (.lst (ss.map V.str)))
  (h5_:0<bs.length) (h6_:(sss.map List.length).sum<=1000) (h7_:∀ p,H p=none->Q (.ref p) (upd H p (.lst (sss.flatten.map V.str))))
theorem sR:∀ {sss:List (List Str)}{uss:List (List Value)},sss.length=uss.length->(∀ (j:Nat) ss us,sss[j]?=some ss->uss[j]?=some us->cB (ss.map V.str) us)->cB (sss.flatten.map V.str) uss.flatten
 | [],[],_,_=>.nil
 | [],_::_,h,_=>by simp at h
 | _::_,[],h,_=>by simp at h
 | ss::sss,us::uss,h,hv=>by
  rw[List.flatten_cons,List.flatten_cons,List.map_append];exact (hv 0 ss us rfl rfl).append (sR (by simpa using h) fun j ss' us' h1 h2=>hv (j+1) ss' us' (by simpa using h1) (by simpa using h2))
theorem aDj (hc:X.calm=true):CallR X (.builtin "sum") (aQe X.K):=by
 intro pins s σ H xs us Q I r h;obtain⟨a,e,bs,sss,rfl,ha,he,hl,hs,h0,hz,q⟩:=h;obtain⟨u,w',rfl,rx,ry⟩:=vN r;cases rx;cases ry;obtain⟨its,rv,pl,_⟩:=I.list ha;have ei:=aHv rv;subst ei;obtain⟨_,ets,ne,re,_,ge⟩:=I.lstM he;cases re
 have hx:∀ j:Nat,∃ us:List Value,(∀ ss,sss[j]?=some ss->cB (ss.map V.str) us)∧∀ b,bs[j]?=some b->∃ m,s.heap.get? b=some (sH us m):=fun j=>by
  cases hj:bs[j]? with
  | none=>exact⟨[],fun ss hss=>by
    have:=(List.getElem?_eq_some_iff.mp hss).1
    have:=List.getElem?_eq_none_iff.mp hj
    omega,fun b hb=>nomatch hb⟩
  | some b=>
   have hjl:=(List.getElem?_eq_some_iff.mp hj).1;have hss:=List.getElem?_eq_getElem (l:=sss) (i:=j) (by omega);obtain⟨_,us,m,rr,_,g⟩:=I.lstM (hs j b _ hj hss);exact⟨us,fun ss h=>by rw[hss] at h; cases h; exact rr,fun b' h=>by cases h; exact⟨m,g⟩⟩
 obtain⟨f,hf⟩:=Classical.axiomOfChoice hx;have hfl:((List.range bs.length).map f).length=bs.length:=by rw[List.length_map,List.length_range]
 have hfj:∀ (j:Nat) (vs:List Value),((List.range bs.length).map f)[j]?=some vs->vs=f j:=fun j vs h=>by
  have hj:j<bs.length:=by have:=(List.getElem?_eq_some_iff.mp h).1; rw[hfl] at this; exact this
  rw[List.getElem?_map,List.getElem?_range hj] at h;exact (Option.some.inj h).symm
 have hV:cB (sss.flatten.map V.str) ((List.range bs.length).map f).flatten:=sR (by rw[hfl,hl]) fun j ss vs h1 h2=>by rw[hfj j vs h2]; exact (hf j).1 ss h1
 have hB:∀ (j:Nat) (b:Addr) (vs:List Value),bs[j]?=some b->((List.range bs.length).map f)[j]?=some vs->∃ m,s.heap.get? b=some (sH vs m):=fun j b vs h1 h2=>by rw[hfj j vs h2]; exact (hf j).2 b h1
 have hL:(((List.range bs.length).map f).map List.length).sum<=sizeLine:=by
  have e1:(((List.range bs.length).map f).map List.length).sum=((List.range bs.length).map f).flatten.length:=by rw[List.length_flatten]
  have e2:(sss.map List.length).sum=sss.flatten.length:=by rw[List.length_flatten]
  have e3:=hV.length;rw[List.length_map] at e3;rw[e1,← e3,← e2];exact Nat.le_of_lt (Nat.lt_of_le_of_lt hz (by decide))
 generalize (List.range bs.length).map f=uss at hfl hV hB hL;clear hfj hf hx f;refine call_function_tree PySem.F.kind_sum PySem.F.plain_sum PySem.F.entry_sum (aDp _ _) ?_;unfold Builtin.«sum»;simp only[List.length_cons,List.length_nil];rw[if_neg (by decide)];refine wpAny_bind (wpAny_of_eq (show Builtin.Builtins.bindParams "sum" ["start"] 0 ⟨[.ref e],[]⟩=pure [some (.ref e)] from rfl) (wpAny_bind (wpAny_pyIter_list pl.isList (wpAny_bind (wpAny_pure ?_)))))
 have g1:(s.heap.push { cls:=.type "list_iterator",data:=.fields #[.ref a,.int 0 0] }).get? e=some (sH [] ne):=Heap.get?_push_of_some _ ge;simp only[List.forIn_cons,List.forIn_nil];refine wpAny_bind (wpAny_bind (wpAny_bind (wpAny_isInstance (T:="list") (b:=false) ⟨_,g1,rfl⟩ aLg ?_)));simp only[Bool.false_eq_true,if_false];refine wpAny_pure (wpAny_bind (wpAny_bind (wpAny_isInstance (T:="list") (b:=false) ⟨_,g1,rfl⟩ aGe ?_)));simp only[Bool.false_eq_true,if_false];refine wpAny_pure (wpAny_bind (wpAny_bind (wpAny_isInstance (T:="list") (b:=false) ⟨_,g1,rfl⟩ aGf ?_)));simp only[Bool.false_eq_true,if_false];refine wpAny_pure (wpAny_pure (wpAny_bind (wpAny_newObj_type ?_)));have z1:(s.heap.push { cls:=.type "list_iterator",data:=.fields #[.ref a,.int 0 0] }).objs.size=s.heap.objs.size+1:=Heap.size_push ..;have it1:(s.heap.push { cls:=.type "list_iterator",data:=.fields #[.ref a,.int 0 0] }).get? s.heap.objs.size=some { cls:=.type "list_iterator",data:=.fields #[.ref a,.int 0 0] }:=Heap.get?_push_size _ rfl;have up1:∀ {d o},s.heap.get? d=some o->(s.heap.push { cls:=.type "list_iterator",data:=.fields #[.ref a,.int 0 0] }).get? d=some o:=fun e=>Heap.get?_push_of_some _ e;generalize s.heap.push { cls:=.type "list_iterator",data:=.fields #[.ref a,.int 0 0] }=g at z1 it1 up1 g1 ⊢;have lt:∀ {d o},s.heap.get? d=some o->d<s.heap.objs.size:=fun e=>Heap.lt_size e;have nS:∀ {d o},s.heap.get? d=some o->d≠g.objs.size:=fun e z=>by have:=lt e; rw[z,z1] at this; exact absurd this (Nat.not_lt.mpr (Nat.le_succ _))
 obtain⟨oa,ga,_⟩:=id pl.isList;have up2:∀ {d o},g.get? d=some o->(g.push { cls:=.type "list",data:=.seq #[.ref e] }).get? d=some o:=fun e=>Heap.get?_push_of_some _ e;have hS2:(g.push { cls:=.type "list",data:=.seq #[.ref e] }).get? g.objs.size=some (sH [.ref e] 0):=Heap.get?_push_size _ rfl;have hz2:(g.push { cls:=.type "list",data:=.seq #[.ref e] }).objs.size=s.heap.objs.size+2:=by rw[Heap.size_push,z1]
 refine wpAny_pure ⟨plainId_quiet PySem.F.plain_sum_loop _,aBq (bs:=bs) (uss:=uss) (I.ok.hd hc) hfl.symm (fun z=>Nat.ne_of_lt (Nat.lt_succ_self _) (z.trans z1)) (nS ga) (fun b hb=>?_) bs.length 0 _ e [] 0 ne rfl (Nat.zero_le _) ⟨_,up2 it1,rfl,rfl⟩ (pl.isList.at fun o e=>up2 (up1 e)) hS2 (up2 g1) (nS ge) (fun j b vs h1 h2=>let ⟨m,e⟩:=hB j b vs h1 h2; ⟨m,up2 (up1 e)⟩) (by simpa using hL) fun s' p m e1 e2 e3 e4 e5 e6 _ e7=>?_⟩
 ·obtain⟨j,hj⟩:=List.getElem?_of_mem hb;have hjl:=(List.getElem?_eq_some_iff.mp hj).1;obtain⟨m,eb⟩:=hB j b _ hj (List.getElem?_eq_getElem (l:=uss) (i:=j) (by omega));exact nS eb
 obtain⟨hp',gg,dd,tt,oo⟩:=s';dsimp only at e1 e2 e3 e4 e5 e6 e7 hz2;subst e1 e2 e3 e4;have hp:s.heap.objs.size<=p:=Nat.le_trans (by rw[hz2]; exact Nat.le_add_right _ _) (e6 h0);have kp:∀ b o,s.heap.get? b=some o->hp'.get? b=some o:=fun b o e=>e5 b o (Nat.ne_of_lt (lt e)) (nS e) (up2 (up1 e));have hn:H p=none:=I.hok.fresh hp;have nH:∀ b v,H b=some v->b≠p:=fun b v z=>aG z hn;refine⟨.ref p,upd H p (.lst (sss.flatten.map V.str)),?_,rfl,q p hn⟩
 refine I.step (t':=s.toks) (g':=s.gens) (d':=s.drawn) (ch:=[]) (fun b hb=>nomatch hb) (fun b o _ _ _ e _=>kp b o e) (fun b o _ _ _ e _=>⟨o.slots,kp b o e⟩) (fun b o _ e n=>by rw[aI (Nat.ne_of_lt (Nat.lt_of_lt_of_le (lt e) hp))]; exact n) (fun b o _ e=>⟨o,kp b o e⟩)
  (fun b ys e=>by rw[aI (nH b _ e)]; exact e) (fun b o v e=>by rw[aI (nH b _ e)]; exact e) (fun b ps e=>⟨#[],by rw[aI (nH b _ e),e]; simp⟩) (fun m' hm=>let ⟨o,es,ep,ho,r⟩:=hm; ⟨o,es,ep,kp _ o ho,r⟩) (fun b v z=>?_) I.bare
 by_cases hb:b=p
 ·subst hb;rw[aD] at z;cases z;refine⟨?_,uss.flatten,m,hV,by simpa using e7⟩;have e3':=List.length_flatten (L:=sss);rw[List.length_map,e3'];exact Nat.le_of_lt (Nat.lt_of_le_of_lt hz (by decide))
 ·rw[aI hb] at z;exact (I.hok b v z).stay (fun c y hc e=>kp c y e) (fun c e=>by rw[aI (nH c _ e)]; exact e) fun c ys e=>by rw[aI (nH c _ e)]; exact e
end
end L2
namespace L2
open PySem PySem.Spec PySem.Calls PyProof.Rows PySem.W
section
variable {X:Cx}
inductive aOb (K:Frag) (x:V) (o:Option Int) (H:Hp) (Q:VK):Prop
 | mk (a:Addr) (xs:List V) (h0_:x=.ref a) (h1_:o=some (-1)) (h2_:SqL K H a xs) (h3_:∀ p,H p=none->Q (.ref p) (upd H p (.lst xs.reverse)))
def aKj (K:Frag) (te:TE) (tk:TO):TE:=fun σ H Q=>te σ H fun x H1=>tk σ H1 fun o H2=>aOb K x o H2 Q
theorem aFi {e:Expr}{te:TE}{ek:Expr}{tk:TO}{pos p2:Pos}(he:PE X e te) (hk:PO X (some ek) tk):PE X (.Subscript e (.Slice none none (some ek) p2) pos) (aKj X.K te tk):=by
 intro pins s σ H Q I h;refine Subscript_ (thn (he pins s σ H _ I h) fun v s1 ⟨x,H1,I1,r1,q1⟩=>wpAny_Slice (thn (qC pins s1 σ H1 (fun o H2=>o=none∧H2=H1) I1 ⟨rfl,rfl⟩) fun vl s2 ⟨l,H2,I2,pl,e1,e2⟩=>?_));subst e1 e2;refine thn (qC pins s2 σ H2 (fun o H3=>o=none∧H3=H2) I2 ⟨rfl,rfl⟩) fun vu s3 ⟨u,H3,I3,pu,e1,e2⟩=>?_;subst e1 e2;refine thn (hk pins s3 σ H3 _ I3 q1) fun vk s4 ⟨o,H4,I4,pk,q2⟩=>?_;obtain⟨a,xs,rfl,rfl,hx,q⟩:=q2;cases r1;have I5:Inv X pins σ H4 { s4 with heap:=s4.heap.push { cls:=.type "slice",data:=.fields #[vl,vu,vk] } }:=I4.kept (t':=s4.toks) fun b ob q=>Heap.get?_push_of_some _ q;obtain⟨its,r,ht,hz⟩:=I5.list hx;have hlen:=r.length;show wpAny (model X.prog X.w) X.A (subscriptTail e (.Slice none none (some ek) p2) (.ref a) (.ref s4.heap.objs.size)) (EP X pins σ Q) X.xe { s4 with heap:=s4.heap.push { cls:=.type "slice",data:=.fields #[vl,vu,vk] } };refine tail_any (ops:=[.ref a,.ref s4.heap.objs.size]) ht.isList.typeIs slot_list_getitem.lookup (wpAny_getItem_list_slice ht.isList (Heap.IsSliceOf.new ..) pl pu pk (by decide) ?_ (by rw[List.size_toArray]; omega)) (by with_unfolding_all rfl);rw[krv_pick];refine⟨.ref (s4.heap.push { cls:=.type "slice",data:=.fields #[vl,vu,vk] }).objs.size,_,I5.laid (t':=s4.toks) (o:=.lst xs.reverse) (fun b ob q=>Heap.get?_push_of_some _ q) (Nat.le_refl _) ?_,rfl,q _ (I5.hok.fresh (Nat.le_refl _))⟩;exact⟨by rw[List.length_reverse]; exact hz,its.reverse,0,aMu r,by rw[Heap.get?_push_size _ rfl]⟩
end
end L2
namespace RW
def mixed (c k:Int):Int:=(((c+7919*k)*48271%2147483647)*((c+7919*k)*48271%2147483647+2*k+1))%2147483629
def cellAt (ns:List Int) (k:Nat):Int:=match ns[k]? with | some c=>mixed c k | none=>0
end RW
namespace KM
variable {α:Type} [DecidableEq α]
end KM
namespace Ky
open PySem L2 PySem.Spec PyProof.Rows PySem.W
abbrev iO:Str:="abcdefghijklmnopqrstuvwxyz"
abbrev jN:Str:="0123456789"
theorem zL:iO.cps.toList=List.range' 97 26:=by decide +kernel
theorem zV:jN.cps.toList=List.range' 48 10:=by decide +kernel
def kQ (c:Nat):Bool:=decide (97<=c∧c<123)
def aGl (c:Nat):Bool:=decide (48<=c∧c<58)
def mV (c:Nat):Bool:=kQ c||aGl c
theorem pP (c:Nat):decide (c∈iO.cps.toList)=kQ c:=by
 rw[zL];unfold kQ;rw[decide_eq_decide,List.mem_range'_1]
theorem xF (c:Nat):decide (c∈jN.cps.toList)=aGl c:=by
 rw[zV];unfold aGl;rw[decide_eq_decide,List.mem_range'_1]
theorem rT (x y:Str):(x++y).cps.toList=x.cps.toList++y.cps.toList:=by
 show (x.cps++y.cps).toList=_
 simp
theorem gP (x y:Str):(x++y).length=x.length+y.length:=by
 have ln:∀ z:Str,z.cps.toList.length=z.length:=fun z=>by simp[Str.length]
 rw[← ln,rT,List.length_append,ln,ln]
theorem aCt (c:Nat):decide (c∈(iO++jN).cps.toList)=mV c:=by
 unfold mV;rw[← pP,← xF,rT,← Bool.decide_or,decide_eq_decide,List.mem_append]
def nQ (cs:List Nat):Bool:=decide (1<=cs.length∧cs.length<=8)&&(match cs with | []=>false | c::_=>kQ c)&&cs.all mV
def bX (z:Str):Bool:=nQ z.cps.toList
theorem nP {z:Str}(h:bX z=true):z.length<=8:=by
 unfold bX nQ at h;rw[Bool.and_eq_true,Bool.and_eq_true] at h
 have:=of_decide_eq_true h.1.1
 have hl:z.cps.toList.length=z.length:=by simp[Str.length]
 omega
inductive Why | noName | noDeed | twice | tooMany
 deriving DecidableEq
def sB:List Str->List Str->Option Why
 | _,[]=>none
 | seen,n::r=>if bX n=true then (if n∈seen then some .twice else sB (seen++[n]) r) else some .noName
def iJ (ss:List Str):Option Why:=if 12<ss.length then some .tooMany else sB [] ss
def kU (ss fs:List Str):Option Why:=match iJ ss with
 | some k=>some k
 | none=>if fs.all (fun f=>bX f&&decide (f∈ss))=true then none else some .noDeed
def wts:List Str->Int->List (Key×V)->List (Key×V)
 | [],_,k=>k
 | s::r,w,k=>wts r (w*2) (eP k (Sum.inr s) (.int w))
def mks:List Str->List (Key×V)->List (Key×V)
 | [],k=>k
 | s::r,k=>mks r (eP k (Sum.inr s) (.bl true))
inductive lG (vs:List V) (H:Hp) (Q:VK) (x3_:XK):Prop
 | mk (c k:Int) (h0_:vs=[.int c,.int k]) (h1_:Q (.int (RW.mixed c k)) H)
inductive aEk (K:PySem.W.Frag) (vs:List V) (H:Hp) (Q:VK) (x3_:XK):Prop
 | mk (a:Addr) (ns:List Int) (k:Nat) (h0_:vs=[.ref a,.int k]) (h1_:SqL K H a (ns.map V.int)) (h2_:Q (.int (RW.cellAt ns k)) H)
inductive qP (K:PySem.W.Frag) (vs:List V) (H:Hp) (Q:VK) (x3_:XK):Prop
 | mk (x:_) (h0_:vs=[x]) (h1_:((∃ z,x=.str z∧z.length<=sizeLine∧∀ H',aP H H'->Q (.bl (bX z)) H')∨∃ t,lR K H x t∧PySem.W.kitOne K t (.type "str")=some false∧Q (.bl false) H))
def ways (cl:Why->Addr) (r:Option Why) (q:Prop) (E:XK) (H:Hp):Prop:=match r with
 | none=>q
 | some k=>E (.ref (cl k)) none H
def pV (ss:List Str):Prop:=∀ z∈ss,z.length<=1000
inductive vW (K:PySem.W.Frag) (cl:Why->Addr) (vs:List V) (H:Hp) (Q:VK) (E:XK):Prop
 | mk (a:Addr) (ss:List Str) (h0_:vs=[.ref a]) (h1_:SqL K H a (ss.map V.str)) (h2_:pV ss) (h3_:∀ H',aP H H'->ways cl (iJ ss) (Q .non H') E H')
inductive sX (K:PySem.W.Frag) (vs:List V) (H:Hp) (Q:VK) (x3_:XK):Prop
 | mk (a:Addr) (ss:List Str) (h0_:vs=[.ref a]) (h1_:SqL K H a (ss.map V.str)) (h2_:ss.length<64) (h3_:∀ (d:Addr) (ss':List Str) H',aP H H'->H d=none->ss'.Perm ss->sortedS ss'=true->H' d=some (.dK (wts ss' 1 []))->Q (.ref d) H')
inductive qB (K:PySem.W.Frag) (vs:List V) (H:Hp) (Q:VK) (x3_:XK):Prop
 | mk (a:Addr) (ss:List Str) (h0_:vs=[.ref a]) (h1_:SqL K H a (ss.map V.str)) (h2_:ss.length<=1000) (h3_:∀ (d:Addr) H',aP H H'->H d=none->H' d=some (.dK (mks ss []))->Q (.ref d) H')
abbrev aFz:List Str:=["has","require","names","free","is_free","bits","names_of"]
inductive WAt (C:Addr) (H:Hp) (p:Addr) (kvs:List (Key×V)):Prop
 | mk (dx:_) (fs:_) (dw:_) (o:_) (h0_:H p=some (.ins C dx fs)) (h1_:(∀ m∈aFz,fs.lookup m=none)) (h2_:fs.lookup ("weights" : Str)=some (.ref dw)) (h3_:H dw=some (.frz o (.dK kvs)))
def xW (x:V):Prop:=(∃ z:Str,x=.str z∧z.length<=1000)∨x=.non∨x=.int 5
def eL (kvs:List (Key×V)):V->Bool
 | .str z=>bX z&&(dH kvs (Sum.inr z)).isSome
 | _=>false
inductive aJr (K:PySem.W.Frag) (C:Addr) (vs:List V) (H:Hp) (Q:VK) (x3_:XK):Prop
 | mk (p:Addr) (x:V) (kvs:List (Key×V)) (h0_:vs=[.ref p,x]) (h1_:xW x) (h2_:WAt C H p kvs) (h3_:∀ H',aP H H'->Q (.bl (eL kvs x)) H')
inductive lF (K:PySem.W.Frag) (C:Addr) (cl:Why->Addr) (vs:List V) (H:Hp) (Q:VK) (E:XK):Prop
 | mk (p b:Addr) (xs:List V) (kvs:List (Key×V)) (h0_:vs=[.ref p,.ref b]) (h1_:SqL K H b xs) (h2_:(∀ x∈xs,xW x)) (h3_:WAt C H p kvs) (h4_:∀ H',aP H H'->ways cl (if xs.all (eL kvs)=true then none else some .noDeed) (Q .non H') E H')
def SameBut (x:Addr) (H H':Hp):Prop:=∀ b o,b≠x->H b=some o->H' b=some o
inductive aEj (K:PySem.W.Frag) (C:Addr) (cl:Why->Addr) (vs:List V) (H:Hp) (Q:VK) (E:XK):Prop
 | mk (x a:Addr) (y:V) (dx:Addr) (ss fs:List Str) (h0_:vs=[.ref x,.ref a,y]) (h1_:H x=some (.ins C dx [])) (h2_:SqL K H a (ss.map V.str)) (h3_:((y=.non∧fs=[])∨∃ b,y=.ref b∧SqL K H b (fs.map V.str))) (h4_:pV ss) (h5_:pV fs) (h6_:fs.length<=1000) (h7_:∀ H',SameBut x H H'->ways cl (kU ss fs) (∀ (dw df:Addr) (o:Obj) (ss':List Str),H' x=some (.ins C dx [("weights",.ref dw),("free_marks",.ref df)])->H' dw=some (.frz o (.dK (wts ss' 1 [])))->H' df=some (.dK (mks fs []))->ss'.Perm ss->sortedS ss'=true->Q .non H') E H')
section
variable {P:Program}{w:World}{K:PySem.W.Frag}{mg:Str->Option Value}{base:Heap}
theorem okE {x qual:Str}{st:Stmt}{f:Addr}{fd:FuncData}{N ps:List Str}{k:Nat}{sp:Sp}(F:Fun K x qual st f fd) (S:aS N ps (aB st)) (len:∀ vs H Q E,sp vs H Q E->vs.length=ps.length)
  (hbody:∀ (cdv:Value) (A:Around) (outer:List Env) (s:Shared) (H:Hp) (vs:List V) (Q:VK) (E:XK),cY k (A.deeper (envOfC qual (aB st) s.heap.objs.size f cdv))->sp vs H Q E ->
   (iH (CXE P w) P w K mg base N qual (aB st) f cdv A outer s H E).Body E ->
   ∃ t,PSs (iH (CXE P w) P w K mg base N qual (aB st) f cdv A outer s H E) (aF st) t∧t { nx:=fun _ H'=>Q .non H',rt:=Q } (start N vs) H):aX P w K mg base (CXE P w) (k+1) f fd ps sp:=by
 obtain⟨oc,od,kV,doc,pm,an,cdv,ct,osl,rfl,lk,hcd⟩:=F.ex;exact aBb lk hcd S len fun A outer s H vs Q E hr hsp=>hbody cdv A outer s H vs Q E hr hsp aBf
structure aHf (K:PySem.W.Frag) (x qual:Str) (st:Stmt) (f:Addr) (fd:FuncData):Prop where
 ex:∃ (oc:Value) (od:Option Addr) (dV kV doc pm:Value) (an:Option Addr) (cdv ct:Value) (osl:Array (Option Value)),
  fd=PySem.W.fnOf x qual (aH st) (aF st) (aB st) dV kV doc pm an cdv ct∧K.lookup f=some ⟨oc,od,.func fd,osl⟩∧PySem.W.codeIn K cdv qual=true
 kp:PySem.W.keepIn K (.ref f)=true
theorem aMy {x qual:Str}{st:Stmt}{f:Addr}{fd:FuncData}{N ps:List Str}{k:Nat}{sp:Sp}(F:aHf K x qual st f fd) (S:aS N ps (aB st)) (len:∀ vs H Q E,sp vs H Q E->vs.length=ps.length)
  (hbody:∀ (cdv:Value) (A:Around) (outer:List Env) (s:Shared) (H:Hp) (vs:List V) (Q:VK) (E:XK),cY k (A.deeper (envOfC qual (aB st) s.heap.objs.size f cdv))->sp vs H Q E ->
   (iH (CXE P w) P w K mg base N qual (aB st) f cdv A outer s H E).Body E ->
   ∃ t,PSs (iH (CXE P w) P w K mg base N qual (aB st) f cdv A outer s H E) (aF st) t∧t { nx:=fun _ H'=>Q .non H',rt:=Q } (start N vs) H):aX P w K mg base (CXE P w) (k+1) f fd ps sp:=by
 obtain⟨oc,od,dV,kV,doc,pm,an,cdv,ct,osl,rfl,lk,hcd⟩:=F.ex;exact aBb lk hcd S len fun A outer s H vs Q E hr hsp=>hbody cdv A outer s H vs Q E hr hsp aBf
end
end Ky
namespace Ky
open PySem L2 PySem.Spec PyProof.Rows PySem.W
abbrev Dr:=Str×Str×Str
structure cX (H:Hp) (d:Addr) (ds:List Dr):Prop where
 ex:∃ ts:List Addr,H d=some (.lst (ts.map V.ref))∧ts.length=ds.length∧∀ (i:Nat) (t:Addr) (x:Dr),ts[i]?=some t->ds[i]?=some x->H t=some (.tup [.str x.1,.str x.2.1,.str x.2.2])
theorem cX.same {H H':Hp}{d:Addr}{ds:List Dr}(D:cX H d ds) (sm:aP H H'):cX H' d ds:=by
 obtain⟨ts,h1,h2,h3⟩:=D.ex;exact⟨ts,sm _ _ h1,h2,fun i t x a b=>sm _ _ (h3 i t x a b)⟩
theorem smu {H:Hp}{p:Addr}{o:HO}(h:H p=none):aP H (upd H p o):=fun b u e=>by
 rw[aI (aG e h)];exact e
theorem jW {n:Nat}(h:n<=16000000):n<=sizeLine:=Nat.le_trans h (by decide)
def eF (ds:List Dr):List Str:=ds.flatMap fun x=>[x.1,x.2.2]
def cO (b:Str) (es:List Str) (ds:List Dr):List Str:=b::es++eF ds
theorem rR {ds:List Dr}{i:Nat}{x:Dr}(h:ds[i]?=some x):eF (ds.take (i+1))=eF (ds.take i)++[x.1]++[x.2.2]:=by
 unfold eF;rw[List.take_succ,h]
 simp
theorem lX (ds:List Dr):(eF ds).length=2*ds.length:=by
 induction ds with
 | nil=>rfl
 | cons x r ih => 
  have e:eF (x::r)=[x.1,x.2.2]++eF r:=rfl;have h2:([x.1,x.2.2]:List Str).length=2:=rfl;rw[e,List.length_append,ih,h2,List.length_cons];omega
inductive aAi (vs:List V) (H:Hp) (Q:VK) (E:XK):Prop
 | mk (b:Str) (e d:Addr) (es:List Str) (ds:List Dr) (h0_:vs=[.str b,.ref e,.ref d]) (h1_:H e=some (.lst (es.map V.str))) (h2_:cX H d ds) (h3_:es.length<=1000) (h4_:ds.length<=1000)
  (h5_:∀ (p:Addr) H',aP H H'->H p=none->H' p=some (.lst ((cO b es ds).map V.str))->Q (.ref p) H')
def iE (ss:List Str):Option Why:=if ss.all bX=true then none else some .noName
inductive qO (K:PySem.W.Frag) (cl:Why->Addr) (vs:List V) (H:Hp) (Q:VK) (E:XK):Prop
 | mk (a:Addr) (ss:List Str) (h0_:vs=[.ref a]) (h1_:SqL K H a (ss.map V.str)) (h2_:pV ss) (h3_:∀ H',aP H H'->ways cl (iE ss) (Q .non H') E H')
theorem sL {ss:List Str}{i:Nat}(h:(ss.take i).all bX=true):iE ss=iE (ss.drop i):=by
 unfold iE
 have e:ss.all bX=(ss.drop i).all bX:=by
  conv=>lhs; rw[← List.take_append_drop i ss]
  rw[List.all_append,h,Bool.true_and]
 rw[e]
def inn (ds:List Dr) (z:Str):List (Key×V):=ds.filterMap fun x=>if x.1=z then some (Sum.inr x.2.1,V.str x.2.2) else none
theorem aIx (ds:List Dr) (z:Str):(inn ds z).length<=ds.length:=List.length_filterMap_le ..
theorem xK {ds:List Dr}{i:Nat}{x:Dr}(h:ds[i]?=some x) (z:Str):inn (ds.take (i+1)) z=inn (ds.take i) z++(if x.1=z then [(Sum.inr x.2.1,V.str x.2.2)] else []):=by
 unfold inn;rw[List.take_succ,h,List.filterMap_append]
 by_cases e:x.1=z
 ·simp[e]
 ·simp[e]
theorem aBl {kvs:List (Key×V)}{k:Key}(h:∀ p∈kvs,p.1≠k):dH kvs k=none:=by
 unfold dH;rw[List.find?_eq_none.mpr (fun p hp=>by simpa using h p hp)];rfl
theorem xL {ds:List Dr}{z y:Str}(h:∀ x∈ds,x.1=z->x.2.1≠y):dH (inn ds z) (Sum.inr y)=none:=by
 refine aBl fun p hp=>?_;obtain⟨x,hx,e⟩:=List.mem_filterMap.mp hp
 by_cases ez:x.1=z
 ·rw[if_pos ez] at e;cases e;exact fun q=>h x hx ez (Sum.inr.inj q)
 ·rw[if_neg ez] at e;cases e
def Apart (ds:List Dr):Prop:=(ds.map fun x=>(x.1,x.2.1)).Nodup
theorem Apart.at {ds:List Dr}(h:Apart ds){i:Nat}{x:Dr}(hx:ds[i]?=some x):∀ y∈ds.take i,y.1=x.1->y.2.1≠x.2.1:=by
 intro y hy e1 e2;obtain⟨j,hj,ej⟩:=List.mem_iff_getElem.mp hy;rw[List.length_take] at hj;have hi:i<ds.length:=(List.getElem?_eq_some_iff.mp hx).1;have hji:j<i:=by omega
 have ey:ds[j]?=some y:=by
  rw[List.getElem_take] at ej;rw[List.getElem?_eq_getElem (by omega),ej]
 have:=(List.getElem?_inj (i:=j) (j:=i) (by rw[List.length_map]; omega) h).mp (by rw[List.getElem?_map,List.getElem?_map,ey,hx]; show some (y.1,y.2.1)=some (x.1,x.2.1); rw[e1,e2])
 omega
theorem kX (kvs:List (Key×V)) (k:Key):(kvs.any fun kv=>decide (kv.1=k))=(kvs.map (·.1)).any fun j=>decide (j=k):=by
 rw[List.any_map];rfl
theorem aBz {kvs kvs':List (Key×V)}(k:Key) (v v':V) (h:kvs.map (·.1)=kvs'.map (·.1)):(eP kvs k v).map (·.1)=(eP kvs' k v').map (·.1):=by
 have m:∀ (l:List (Key×V)) (u:V),(l.map fun kv=>if kv.1=k then (kv.1,u) else kv).map (·.1)=l.map (·.1):=fun l u=>by
  rw[List.map_map];refine List.map_congr_left fun p _=>?_;show (if p.1=k then (p.1,u) else p).1=p.1
  split <;> rfl
 unfold eP;rw[kX,kX,h]
 by_cases q:((kvs'.map (·.1)).any fun j=>decide (j=k))=true
 ·rw[if_pos q,if_pos q,m,m,h]
 ·rw[if_neg q,if_neg q,List.map_append,List.map_append,h];rfl
theorem xC:∀ (a:List Str) (z:Str) (k:List (Key×V)),mks (a++[z]) k=eP (mks a k) (Sum.inr z) (.bl true)
 | [],z,k=>rfl
 | s::r,z,k=>xC r z _
structure eB (H:Hp) (l:Addr) (rs:List Str) (ds:List Dr) (kvs:List (Key×V)) (g:Str->Addr):Prop where
 dk:H l=some (.dK kvs)
 keys:kvs.map (·.1)=(mks rs []).map (·.1)
 val:∀ z∈rs,dH kvs (Sum.inr z)=some (.ref (g z))
 dd:∀ z∈rs,H (g z)=some (.dK (inn ds z))
 inj:∀ z∈rs,∀ y∈rs,g z=g y->z=y
 ne:∀ z∈rs,g z≠l
theorem eB.same {H H':Hp}{l:Addr}{rs:List Str}{ds:List Dr}{kvs:List (Key×V)}{g:Str->Addr}(L:eB H l rs ds kvs g) (sm:aP H H'):eB H' l rs ds kvs g:=
 ⟨sm _ _ L.dk,L.keys,L.val,fun z hz=>sm _ _ (L.dd z hz),L.inj,L.ne⟩
theorem eB.more {H:Hp}{l d:Addr}{rs:List Str}{kvs:List (Key×V)}{g:Str->Addr}(L:eB H l rs [] kvs g) (hd:H d=none) (z:Str) :
  eB (upd (upd H d (.dK [])) l (.dK (eP kvs (Sum.inr z) (.ref d)))) l (rs++[z]) [] (eP kvs (Sum.inr z) (.ref d)) (fun y=>if y=z then d else g y):=by
 have dl:d≠l:=fun e=>by rw[e,L.dk] at hd; cases hd
 have gd:∀ y∈rs,g y≠d:=fun y hy e=>by have:=L.dd y hy; rw[e,hd] at this; cases this
 have mem:∀ y∈rs++[z],y≠z->y∈rs:=fun y hy n=>(List.mem_append.mp hy).resolve_right fun q=>n (List.mem_singleton.mp q);refine⟨aD,?_,fun y hy=>?_,fun y hy=>?_,fun y hy x hx e=>?_,fun y hy=>?_⟩
 ·rw[xC]; exact aBz _ _ _ L.keys
 ·rw[jU]
  by_cases e:y=z
  ·subst e;rw[if_pos rfl,if_pos rfl]
  ·rw[if_neg (fun q=>e (Sum.inr.inj q)),if_neg e];exact L.val y (mem y hy e)
 ·by_cases e:y=z
  ·subst e;rw[if_pos rfl,aI dl,aD];rfl
  ·rw[if_neg e,aI (L.ne y (mem y hy e)),aI (gd y (mem y hy e))];exact L.dd y (mem y hy e)
 ·by_cases e1:y=z
  ·by_cases e2:x=z
   ·rw[e1,e2]
   ·rw[if_pos e1,if_neg e2] at e;exact absurd e.symm (gd x (mem x hx e2))
  ·by_cases e2:x=z
   ·rw[if_neg e1,if_pos e2] at e;exact absurd e (gd y (mem y hy e1))
   ·rw[if_neg e1,if_neg e2] at e;exact L.inj y (mem y hy e1) x (mem x hx e2) e
 ·by_cases e:y=z
  ·rw[if_pos e]; exact dl
  ·rw[if_neg e]; exact L.ne y (mem y hy e)
theorem eB.door {H:Hp}{l:Addr}{rs:List Str}{ds:List Dr}{kvs:List (Key×V)}{g:Str->Addr}{i:Nat}{x:Dr}(L:eB H l rs (ds.take i) kvs g) (hx:ds[i]?=some x) (hr:x.1∈rs) (ha:Apart ds) :
  eB (upd H (g x.1) (.dK (eP (inn (ds.take i) x.1) (Sum.inr x.2.1) (.str x.2.2)))) l rs (ds.take (i+1)) kvs g:=by
 refine⟨?_,L.keys,L.val,fun z hz=>?_,L.inj,L.ne⟩
 ·rw[aI (Ne.symm (L.ne _ hr))]; exact L.dk
 ·by_cases e:z=x.1
  ·subst e;rw[aD,xK hx,if_pos rfl,aEz _ (xL (ha.at hx))]
  ·rw[aI (fun q=>e (L.inj z hz _ hr q)),xK hx,if_neg (fun q=>e q.symm),List.append_nil];exact L.dd z hz
inductive aAm (K:PySem.W.Frag) (vs:List V) (H:Hp) (Q:VK) (E:XK):Prop
 | mk (a d:Addr) (rs:List Str) (ds:List Dr) (h0_:vs=[.ref a,.ref d]) (h1_:SqL K H a (rs.map V.str)) (h2_:cX H d ds) (h3_:rs.length<=1000) (h4_:ds.length<=1000) (h5_:∀ x∈ds,x.1∈rs) (h6_:Apart ds)
  (h7_:∀ (l:Addr) (kvs:List (Key×V)) (g:Str->Addr) H',aP H H'->H l=none->(∀ z∈rs,H (g z)=none)->eB H' l rs ds kvs g->Q (.ref l) H')
theorem uR {X:Cx}{st:Stmt}:PS X st (fun _ _ _=>False):=fun _ _ _ _ _ _ h=>h.elim
def eK (ds:List Dr) (ms:List Str):List Str:=ds.map (·.2.1)++ms
abbrev aJv:List Str:=["deeds","begin","rooms","ends","knows","require_room","at","to","is_end","goes","behind"]
abbrev aJw (l dd e k:Addr) (b:Str):List (Str×V):=[("leads",.ref l),("deeds_made_of",.ref dd),("first_room",.str b),("end_marks",.ref e),("known_marks",.ref k)]
theorem gT (l dd e k:Addr) (b:Str):∀ m∈aJv,(aJw l dd e k b).lookup m=none:=by
 have h:∀ m∈aJv,(m==("leads" : Str))=false∧(m==("deeds_made_of" : Str))=false∧(m==("first_room" : Str))=false∧(m==("end_marks" : Str))=false∧(m==("known_marks" : Str))=false:=by decide +kernel
 intro m hm;obtain⟨h1,h2,h3,h4,h5⟩:=h m hm;simp only[List.lookup,h1,h2,h3,h4,h5]
structure MAt (CM:Addr) (H:Hp) (x dx l dd e k:Addr) (b:Str) (es kn:List Str) (ds:List Dr) (kvs:List (Key×V)) (g:Str->Addr):Prop where
 ins:H x=some (.ins CM dx (aJw l dd e k b))
 lead:eB H l (cO b es ds) ds kvs g
 ends:H e=some (.dK (mks es []))
 know:H k=some (.dK (mks kn []))
theorem MAt.same {CM:Addr}{H H':Hp}{x dx l dd e k:Addr}{b:Str}{es kn:List Str}{ds:List Dr}{kvs:List (Key×V)}{g:Str->Addr}(M:MAt CM H x dx l dd e k b es kn ds kvs g) (sm:aP H H'):MAt CM H' x dx l dd e k b es kn ds kvs g:=
 ⟨sm _ _ M.ins,M.lead.same sm,sm _ _ M.ends,sm _ _ M.know⟩
structure pN (K:PySem.W.Frag) (CM:Addr):Prop where
 cl:Cls K CM
 nl:fU K CM "leads"
 nd:fU K CM "deeds_made_of"
 nf:fU K CM "first_room"
 ne:fU K CM "end_marks"
 nk:fU K CM "known_marks"
inductive aAk (K:PySem.W.Frag) (C CM:Addr) (vs:List V) (H:Hp) (Q:VK) (E:XK):Prop
 | mk (x dd e d dx:Addr) (b:Str) (y:V) (es ms:List Str) (ds:List Dr) (wk:List (Key×V)) (h0_:vs=[.ref x,.ref dd,.str b,.ref e,.ref d,y]) (h1_:H x=some (.ins CM dx [])) (h2_:WAt C H dd wk)
  (h3_:H e=some (.lst (es.map V.str))) (h4_:cX H d ds) (h5_:(y=.non∧ms=[])∨∃ m,y=.ref m∧H m=some (.lst (ms.map V.str)))
  (h6_:es.length<=200∧ds.length<=200∧ms.length<=200) (h7_:(cO b es ds).all bX=true) (h8_:((eK ds ms).map V.str).all (eL wk)=true) (h9_:pV (eK ds ms)) (h10_:Apart ds) (h11_:(mks (cO b es ds) []).length<=60)
  (h12_:∀ (l e' k:Addr) (kvs:List (Key×V)) (g:Str->Addr) H',SameBut x H H'->MAt CM H' x dx l dd e' k b es (eK ds ms) ds kvs g->Q .non H')
theorem qR {ss:List Str}(h:ss.all bX=true):pV ss:=fun z hz=>Nat.le_trans (nP (List.all_eq_true.mp h z hz)) (by decide)
theorem aGu {b:Str}{es:List Str}{ds:List Dr}:∀ x∈ds,x.1∈cO b es ds:=fun x hx=>List.mem_append_right _ (List.mem_flatMap.mpr ⟨x,hx,by simp⟩)
theorem wG (b:Str) (es:List Str) (ds:List Dr):(cO b es ds).length=1+es.length+2*ds.length:=by
 unfold cO;rw[List.length_append,lX,List.length_cons];omega
inductive MM (CM:Addr) (H:Hp) (x dd:Addr) (b:Str) (es kn:List Str) (ds:List Dr):Prop
 | mk (dx l e k:Addr) (kvs:List (Key×V)) (g:Str->Addr) (m:MAt CM H x dx l dd e k b es kn ds kvs g)
theorem MM.same {CM:Addr}{H H':Hp}{x dd:Addr}{b:Str}{es kn:List Str}{ds:List Dr}(M:MM CM H x dd b es kn ds) (sm:aP H H'):MM CM H' x dd b es kn ds:=by
 obtain⟨dx,l,e,k,kvs,g,m⟩:=M;exact⟨dx,l,e,k,kvs,g,m.same sm⟩
def jO (ds:List Dr) (z y:Str):Option Str:=(ds.find? fun x=>decide (x.1=z)&&decide (x.2.1=y)).map (·.2.2)
theorem aIv {x:Dr}{r:List Dr}{z:Str}(e:x.1=z):inn (x::r) z=(Sum.inr x.2.1,V.str x.2.2)::inn r z:=by simp[inn,e]
theorem aIw {x:Dr}{r:List Dr}{z:Str}(e:¬ x.1=z):inn (x::r) z=inn r z:=by simp[inn,e]
theorem aIu (ds:List Dr) (z y:Str):dH (inn ds z) (Sum.inr y)=(jO ds z y).map V.str:=by
 induction ds with
 | nil=>rfl
 | cons x r ih=>
  unfold jO at ih ⊢;rw[List.find?_cons]
  by_cases e:x.1=z
  ·rw[aIv e]
   by_cases e2:x.2.1=y
   ·rw[eC (by show Sum.inr x.2.1=_; rw[e2]),decide_eq_true e,decide_eq_true e2];rfl
   ·have:dH ((Sum.inr x.2.1,V.str x.2.2)::inn r z) (Sum.inr y)=dH (inn r z) (Sum.inr y):=by
     unfold dH;rw[List.find?_cons,decide_eq_false (fun q=>e2 (Sum.inr.inj q))]
    rw[this,ih,decide_eq_true e,decide_eq_false e2];rfl
  ·rw[aIw e,decide_eq_false e,Bool.false_and,ih]
inductive vY (CM:Addr) (vs:List V) (H:Hp) (Q:VK) (E:XK):Prop
 | mk (x dd:Addr) (b:Str) (es kn:List Str) (ds:List Dr) (h0_:vs=[.ref x]) (h1_:MM CM H x dd b es kn ds) (h2_:Q (.str b) H)
def oV (o:Option Str):V:=(o.map V.str).getD .non
def pH (ds:List Dr) (kn:List Str) (z y:Str):Option Str:=if y∈kn then jO ds z y else some z
inductive aAl (CM:Addr) (vs:List V) (H:Hp) (Q:VK) (E:XK):Prop
 | mk (x dd:Addr) (b z y:Str) (es kn:List Str) (ds:List Dr) (h0_:vs=[.ref x,.str z,.str y]) (h1_:MM CM H x dd b es kn ds) (h2_:z∈cO b es ds) (h3_:Q (oV (pH ds kn z y)) H)
theorem cX.push {H:Hp}{d t:Addr}{ds:List Dr}(D:cX H d ds) (ht:H t=none) (x:Dr):∃ xs,H d=some (.lst xs)∧xs.length=ds.length∧cX (upd (upd H t (.tup [.str x.1,.str x.2.1,.str x.2.2])) d (.lst (xs++[.ref t]))) d (ds++[x]):=by
 obtain⟨ts,h1,h2,h3⟩:=D.ex;refine⟨_,h1,by rw[List.length_map,h2],⟨ts++[t],?_,?_,fun i u y hu hy=>?_⟩⟩
 ·rw[aD,List.map_append]; rfl
 ·rw[List.length_append,List.length_append,h2]; rfl
 ·by_cases hi:i<ts.length
  ·rw[List.getElem?_append_left hi] at hu;rw[List.getElem?_append_left (by rw[← h2]; exact hi)] at hy;have e:=h3 i u y hu hy;rw[aI (fun z=>by rw[z,h1] at e; cases e),aI (aG e ht)];exact e
  ·have hl:i=ts.length:=by
    have:=(List.getElem?_eq_some_iff.mp hu).1
    rw[List.length_append] at this;simp only[List.length_cons,List.length_nil] at this;omega
   subst hl;rw[List.getElem?_append_right (Nat.le_refl _),Nat.sub_self] at hu;rw[h2,List.getElem?_append_right (Nat.le_refl _),Nat.sub_self] at hy;cases hu;cases hy;rw[aI (fun z=>by rw[z,h1] at ht; cases ht),aD]
theorem cX.rev {H:Hp}{d:Addr}{ds:List Dr}(D:cX H d ds):∃ xs,H d=some (.lst xs)∧xs.length=ds.length∧cX (upd H d (.lst xs.reverse)) d ds.reverse:=by
 obtain⟨ts,h1,h2,h3⟩:=D.ex;refine⟨_,h1,by rw[List.length_map,h2],⟨ts.reverse,?_,?_,fun i u y hu hy=>?_⟩⟩
 ·rw[aD,List.map_reverse]
 ·rw[List.length_reverse,List.length_reverse,h2]
 ·have hi:i<ts.length:=by have:=(List.getElem?_eq_some_iff.mp hu).1; rw[List.length_reverse] at this; exact this
  rw[List.getElem?_reverse hi] at hu;rw[List.getElem?_reverse (by rw[← h2]; exact hi),← h2] at hy;have e:=h3 _ u y hu hy;rw[aI (fun z=>by rw[z,h1] at e; cases e)];exact e
def qX (p:Nat->Bool) (ss:List Str) (i:Nat):List Str:=(List.range i).filterMap fun k=>if p k=true then ss[k]? else none
theorem gR {p:Nat->Bool}{ss:List Str}{i:Nat}{z:Str}(h:ss[i]?=some z):qX p ss (i+1)=qX p ss i++(if p i=true then [z] else []):=by
 unfold qX;rw[List.range_succ,List.filterMap_append]
 by_cases e:p i=true
 ·simp[e,h]
 ·simp[e]
theorem jZ (p:Nat->Bool) (ss:List Str) (i:Nat):(qX p ss i).length<=i:=by
 refine Nat.le_trans (List.length_filterMap_le ..) ?_;rw[List.length_range];exact Nat.le_refl _
theorem wL {p:Nat->Bool}{ss:List Str}{i:Nat}:∀ z∈qX p ss i,z∈ss:=fun z hz=>by
 obtain⟨k,_,e⟩:=List.mem_filterMap.mp hz
 by_cases q:p k=true
 ·rw[if_pos q] at e; exact List.mem_of_getElem? e
 ·rw[if_neg q] at e; cases e
end Ky
namespace K21
open PySem L2 Ky
seal L2.PE L2.PS L2.PSs L2.PA L2.PT L2.PW L2.PG L2.PI L2.PTs L2.PO L2.PPs L2.OpR L2.IxR L2.CallR L2.MtM L2.MtR
def top (i:Nat):Stmt:=PySem.Challenge.pw_roomward_k21_woven_told.main.body.getD i (.Pass ⟨0,0,0,0⟩)
abbrev jP:Stmt:=top 25
abbrev lJ:Stmt:=top 26
abbrev iW:Stmt:=top 27
abbrev oN:Stmt:=top 28
abbrev yL:Stmt:=top 29
abbrev oM:Stmt:=top 32
abbrev gQ:Stmt:=top 33
abbrev oO:Stmt:=top 34
abbrev gZ:Stmt:=top 35
abbrev hJ:Stmt:=top 38
abbrev mJ:Stmt:=top 39
abbrev hU:Stmt:=top 40
abbrev iY:Stmt:=top 41
abbrev lZ:Stmt:=top 42
abbrev jY:Stmt:=top 44
abbrev tM:Stmt:=top 45
abbrev gI:Stmt:=top 46
abbrev hG:Stmt:=top 47
abbrev gX:Stmt:=top 48
abbrev dW:Stmt:=top 49
abbrev gY:Stmt:=top 50
abbrev tL:Stmt:=top 51
abbrev gC:Stmt:=top 52
abbrev tJ:Stmt:=top 53
abbrev mI:Stmt:=top 54
abbrev qS:Stmt:=top 55
abbrev tK:Stmt:=top 56
abbrev iI:Stmt:=top 58
abbrev fX:Stmt:=top 59
abbrev iR:Stmt:=top 60
abbrev nK:Stmt:=aE yL 0
abbrev yK:Stmt:=aE yL 3
abbrev iX:Stmt:=aE yL 4
abbrev gO:Stmt:=aE gZ 0
abbrev oY:Stmt:=aE gZ 1
abbrev oZ:Stmt:=aE gZ 2
abbrev oW:Stmt:=aE gZ 5
abbrev jA:Stmt:=aE gZ 6
abbrev oX:Stmt:=aE gZ 9
abbrev tU:Stmt:=aE gZ 10
abbrev sP:Stmt:=aE lZ 0
abbrev oG:Stmt:=aE lZ 1
abbrev oH:Stmt:=aE lZ 2
abbrev oE:Stmt:=aE lZ 3
abbrev wAt:Stmt:=aE lZ 4
abbrev wTo:Stmt:=aE lZ 5
abbrev oF:Stmt:=aE lZ 6
structure Txt (K:PySem.W.Frag) (mg:Str->Option Value):Prop where
 lett:∃ t,mg "LETTERS"=some (.str iO t)
 figu:∃ t,mg "FIGURES"=some (.str jN t)
 most:∃ t,mg "MOST_SIGNS"=some (.int 8 t)
 deeds:∃ t,mg "MOST_DEEDS"=some (.int 12 t)
 isi:mg "isinstance"=none
 str:mg "str"=none
 bool:mg "bool"=none
 int:mg "int"=none
 len:mg "len"=none
 all:mg "all"=none
 range:mg "range"=none
 sorted:mg "sorted"=none
 list:mg "list"=none
 enum:mg "enumerate"=none
section
variable {P:Program}{w:World}{K:PySem.W.Frag}{mg:Str->Option Value}{base:Heap}
theorem scM:aS ["_law_cell","_law_k","_law_one"] ["_law_cell","_law_k"] (aB jY):=⟨rfl,rfl,rfl,by decide +kernel,rfl,by decide +kernel,by decide +kernel⟩
theorem kG {f:Addr}{fd:FuncData}(F:Fun K "_law_mixed" "_law_mixed" jY f fd):aX P w K mg base CX0 1 f fd ["_law_cell","_law_k"] lG:=by
 refine F.ok scM (fun vs H Q E h=>?_) (fun cdv A outer s H vs Q E hr h=>?_)
 ·obtain⟨c,k,rfl,_⟩:=h;rfl
 ·obtain⟨c,k,rfl,q⟩:=h
  refine⟨_,aK (bU (i:=2) scM.nd rfl (Or.inl rfl) (aU dA (aU mU (aU eI (pv 0) (aU mU aN (pv 1))) aN) aN))
   (aL (bV (aU dA (aU mU (pv 2) (aU eI (aU eI (pv 2) (aU mU aN (pv 1))) aN)) aN))),?_⟩
  refine⟨_,rfl,_,rfl,_,_,rfl,rfl,.inl ⟨by decide,by decide⟩,_,_,rfl,rfl,_,_,rfl,rfl,.inr ⟨by decide,by decide⟩,_,_,rfl,rfl,(by show (0:Int)<2147483647; decide),?_⟩;have h0:0<=(c+7919*k)*48271%2147483647:=Int.emod_nonneg _ (by decide);have h1:(c+7919*k)*48271%2147483647<2147483647:=Int.emod_lt_of_pos _ (by decide);refine⟨_,rfl,_,rfl,_,rfl,_,_,rfl,rfl,.inl ⟨by decide,by decide⟩,_,_,rfl,rfl,_,_,rfl,rfl,_,_,rfl,rfl,.inl ⟨?_,?_⟩,_,_,rfl,rfl,(by show (0:Int)<2147483629; decide),q⟩
  ·exact Int.lt_of_lt_of_le (by decide) h0
  ·exact Int.lt_of_lt_of_le h1 (by decide)
theorem scC:aS ["_law_script","_law_k"] ["_law_script","_law_k"] (aB tM):=⟨rfl,rfl,rfl,by decide +kernel,rfl,by decide +kernel,by decide +kernel⟩
theorem aIi {f fM:Addr}{fd fdM:FuncData}(F:Fun K "_law_cell_at" "_law_cell_at" tM f fd) (T:Txt K mg) (FM:Fun K "_law_mixed" "_law_mixed" jY fM fdM) (bM:bJ K fdM ["_law_cell","_law_k"] []) (mM:mg "_law_mixed" = some (.ref fM)) :
  aX P w K mg base CX0 2 f fd ["_law_script","_law_k"] (aEk K):=by
 have GM:aX P w K mg base CX0 1 fM fdM ["_law_cell","_law_k"] lG:=kG FM;refine F.ok scC (fun vs H Q E h=>?_) (fun cdv A outer s H vs Q E hr h=>?_)
 ·obtain⟨a,ns,k,rfl,_⟩:=h;rfl
 ·obtain⟨a,ns,k,rfl,hS,q⟩:=h
  refine⟨_,aK (dL (cC aMv (pv 1) (cJ eA (by rfl) T.len PySem.boot_len (iN (pv 0) aJ)) (cM _))
    (aL (bV (aZ GM hr rfl mM FM.kp bM .nil bY (iN (cZ cQ (pv 0) (pv 1) (fun _ _=>rfl)) (iN (pv 1) aJ))))) cF)
   (aL (bV aN)),?_⟩
  refine⟨_,rfl,_,rfl,a,_,rfl,.inl hS,_,_,rfl,rfl,_,rfl,?_⟩;rw[List.length_map];refine gJ (fun hk=>?_) (fun hk=>?_)
  ·have hk':k<ns.length:=by have:=of_decide_eq_true hk; omega
   have ek:ns[k]?=some ns[k]:=by simp[hk']
   refine⟨_,rfl,_,rfl,a,_,_,_,rfl,rfl,hS,gH (v:=V.int ns[k]) (by rw[List.getElem?_map,ek]; rfl),_,rfl,ns[k],k,rfl,?_⟩;have e:RW.cellAt ns k=RW.mixed ns[k] k:=by unfold RW.cellAt; rw[ek]
   rw[← e];exact q
  ·have hk':¬ k<ns.length:=by intro z; exact hk (decide_eq_true (by omega))
   have e:RW.cellAt ns k=0:=by unfold RW.cellAt; rw[List.getElem?_eq_none (by omega)]
   rw[e] at q;exact q
theorem scN:aS ["thing","signs"] ["thing"] (aB jP):=⟨rfl,rfl,rfl,by decide +kernel,rfl,by decide +kernel,by decide +kernel⟩
theorem qE {f:Addr}{fd:FuncData}(F:Fun K "is_name" "is_name" jP f fd) (T:Txt K mg):aX P w K mg base CX0 1 f fd ["thing"] (qP K):=by
 obtain⟨tl,mL⟩:=T.lett;obtain⟨tf,mF⟩:=T.figu;obtain⟨tm,mM⟩:=T.most;refine F.ok scN (fun vs H Q E h=>?_) (fun cdv A outer s H vs Q E hr h=>?_)
 ·obtain⟨x,rfl,_⟩:=h;rfl
 ·obtain⟨x,rfl,h⟩:=h
  refine⟨_,aK (dL (nM (hZ (jH (cJ xU (by rfl) T.isi Bo.isinstance (iN (pv 0) (iN (uU (v:=.ty "str") (by rfl) T.str Bo.str rfl) aJ)))))
     (nM (hZ (wK (pv 0) (fun _=>rfl)))
     (mO (cC tQ (cJ vG (by rfl) T.len Bo.len (iN (pv 0) aJ)) (iM (v:=.int 8) (by rfl) mM ⟨_,rfl⟩) (cM _))))).pt
    (aL (bV lV)) cF)
   (aK (bU (i:=1) scN.nd rfl (Or.inr rfl) (aU yT (iM (v:=.str iO) (by rfl) mL ⟨_,rfl⟩) (iM (v:=.str jN) (by rfl) mF ⟨_,rfl⟩)))
   (aL (bV (yR (lN tP (cZ aLm (pv 0) aN (fun _ _=>rfl)) (iM (v:=.str iO) (by rfl) mL ⟨_,rfl⟩) (by with_unfolding_all rfl))
    (yQ (cJ (pJ rfl) (by rfl) T.all Bo.all (iN (dN (N':=["sign","signs"]) (nown:=1) (js:=[1]) rfl
     ⟨rfl,by decide +kernel,by decide +kernel⟩ (cG (aB jP) ["thing","signs"] rfl rfl (by decide +kernel))
     ⟨fun _ _ _ _=>aO (i:=0) (show List.Nodup (["sign","signs"]:List Str) by decide +kernel) rfl (Or.inl rfl) (.inr rfl),fun _ _ _ _=>dJ,fun _ _ _ _=>lN tP (pv 0) (pv 1) (by with_unfolding_all rfl)⟩
     (aKu (pv 0))) aJ))))))),?_⟩
  rcases h with⟨z,rfl,hz,q⟩ | ⟨t,ty,hk,q⟩
  ·refine⟨_,rfl,.str z,.ty "str",.type "str",.type "str",true,rfl,uQ,lR.str z,rfl,_,rfl,fZ ?_⟩;refine⟨_,rfl,_,⟨hz,rfl⟩,?_⟩
   by_cases h0:z.length=0
   ·rw[h0];refine kO (kO ?_)
    have e:bX z=false:=by
     have:z.cps.toList.length=0:=by rw[Array.length_toList]; exact h0
     unfold bX nQ;rw[List.length_eq_zero_iff.mp this];rfl
    have q':=q H (aP.refl H);rw[e] at q';exact q'
   ·have hb:((z.length:Int) != 0)=true:=by simp[h0]
    rw[hb];refine fZ ⟨_,rfl,z,rfl,hz,_,_,rfl,rfl,_,rfl,?_⟩;refine gJ (fun h8=>?_) (fun h8=>?_)
    ·have h8':8<z.length:=by have:=of_decide_eq_true h8; omega
     have e:bX z=false:=by
      have hl:z.cps.toList.length=z.length:=by simp[Str.length]
      unfold bX nQ;rw[decide_eq_false (by omega)];rfl
     have q':=q H (aP.refl H);rw[e] at q';exact q'
    ·have h8':z.length<=8:=by
      by_cases z8:z.length<=8
      ·exact z8
      ·exact absurd (decide_eq_true (show (8:Int)<(z.length:Int) by omega)) h8
     have hl:z.cps.toList.length=z.length:=by simp[Str.length]
     obtain⟨c,cs,ec⟩:∃ c cs,z.cps.toList=c::cs:=by
      cases e:z.cps.toList with
      | nil=>rw[e] at hl; exact absurd hl.symm h0
      | cons c cs=>exact⟨c,cs,rfl⟩
     have hat:atI z.cps.toList 0=some c:=by
      rw[ec];exact gH (j:=0) rfl
     have hn:bX z=(kQ c&&z.cps.toList.all mV):=by
      unfold bX nQ;rw[decide_eq_true (show 1<=z.cps.toList.length∧z.cps.toList.length<=8 by omega)];rw[ec];rfl
     refine⟨_,_,rfl,rfl,by decide +kernel,?_⟩;refine⟨_,rfl,z,0,c,rfl,rfl,hz,hat,_,_,rfl,rfl,_,rfl,?_⟩;rw[StrLaws.found_one,pP];refine gJ (fun hc=>?_) (fun hc=>?_)
     ·refine⟨_,rfl,z,rfl,fun D hD=>aJf (x:=z) (fun i σ' H'=>∃ v,σ'=[v,some (.str (iO++jN))]∧H' D=some (.lst (((z.cps.toList.take i).map mV).map V.bl))∧aP H H') ?_ ?_ ?_⟩
      ·exact⟨none,rfl,aD,fun b o e=>by rw[aI (aG e hD)]; exact e⟩
      ·rintro i d σ' H' hd ⟨v,rfl,hl',sm⟩;refine⟨_,rfl,_,rfl,_,_,rfl,rfl,_,hl',?_,some (aAp d),rfl,?_,?_⟩
       ·refine aQ ?_;rw[List.length_map,List.length_map,List.length_take];omega
       ·rw[aD,StrLaws.found_one,aCt];have hd':z.cps.toList[i]?=some d:=by rw[Array.getElem?_toList]; exact hd
        rw[List.take_succ,hd']
        simp
       ·intro b o e;have e':=sm b o e;rw[aI (aG e hD)];exact e'
      ·rintro σ' H' ⟨v,rfl,hl',sm⟩;refine⟨D,_,rfl,SqL.of hl',?_⟩;have q':=q H' sm;rw[hn,hc,Bool.true_and] at q'
       have ea:((z.cps.toList.take z.cps.size).map mV).all id=z.cps.toList.all mV:=by
        rw[List.take_of_length_le (by simp),List.all_map];rfl
       rw[ea];exact q'
     ·have q':=q H (aP.refl H);rw[hn,Bool.eq_false_iff.mpr hc,Bool.false_and] at q';exact q'
  ·refine⟨_,rfl,x,.ty "str",.type "str",t,false,rfl,uQ,ty,hk,_,rfl,kO (kO ?_)⟩;exact q
theorem scW:aS ["names","weights","weight","name"] ["names"] (aB iW):=⟨rfl,rfl,rfl,by decide +kernel,rfl,by decide +kernel,by decide +kernel⟩
theorem yU {f:Addr}{fd:FuncData}(F:Fun K "weights_of" "weights_of" iW f fd) (T:Txt K mg):aX P w K mg base CX0 1 f fd ["names"] (sX K):=by
 refine F.ok scW (fun vs H Q E h=>?_) (fun cdv A outer s H vs Q E hr h=>?_)
 ·obtain⟨a,ss,rfl,_⟩:=h;rfl
 ·obtain⟨a,ss,rfl,hS,h64,q⟩:=h;have hu:=jB hr
  refine⟨_,aK (bU (i:=1) scW.nd rfl (Or.inl rfl) kE)
   (aK (bU (i:=2) scW.nd rfl (Or.inl rfl) aN)
   (aK (eG PassesOwn.never rfl (cS (cJ nW (by rfl) T.sorted Bo.sorted (pac (pv 0) aJ))) (aO (i:=3) scW.nd rfl (Or.inl rfl))
    (aK (lL hu (pv 1) (pv 3) (pv 2) rfl) (aL (bU (i:=2) scW.nd rfl (Or.inl rfl) (aU mU (pv 2) aN)))))
   (aL (bV (pv 1))))),?_⟩
  intro d hd;have s0:aP H (upd H d (.dK [])):=fun b o e=>by rw[aI (aG e hd)]; exact e
  refine⟨_,rfl,a,ss,rfl,s0.seq hS,h64,fun p ss' hp pm so=>⟨p,rfl,⟨_,SqL.of aD⟩,?_⟩⟩;have hpd:p≠d:=fun z=>by rw[z,aD] at hp; cases hp
  have hpH:H p=none:=by rw[aI hpd] at hp; exact hp
  have hlen:ss'.length=ss.length:=pm.length_eq;refine dQ (xs:=ss'.map V.str) (fun i σ H'=>∃ wv kvs nv,σ=[some (.ref a),some (.ref d),some (.int wv),nv]∧H' d=some (.dK kvs)∧H' p=some (.lst (ss'.map V.str))∧aP H H'∧kvs.length<=i∧wts (ss'.drop i) wv kvs=wts ss' 1 []) ?_ ?_ ?_ ?_
  ·exact⟨1,[],none,rfl,by rw[aI (Ne.symm hpd),aD],aD,fun b o e=>by rw[aI (aG e hpH),aI (aG e hd)]; exact e,Nat.le_refl _,rfl⟩
  ·rintro i σ H' _ ⟨wv,kvs,nv,rfl,h1,h2,h3,h4,h5⟩;exact SqL.of h2
  ·rintro i x σ H' hx ⟨wv,kvs,nv,rfl,h1,h2,h3,h4,h5⟩;rw[List.getElem?_map] at hx;cases hz:ss'[i]? with
   | none=>rw[hz] at hx; cases hx
   | some z=>
    rw[hz] at hx;cases hx;have hi:i<ss'.length:=(List.getElem?_eq_some_iff.mp hz).1;refine⟨_,rfl,_,rfl,_,rfl,d,_,rfl,pZ.k (k:=Sum.inr z) h1 (aQ (by omega)),?_⟩;refine⟨_,rfl,_,_,rfl,rfl,.inr ⟨by decide,by decide⟩,wv*2,eP kvs (Sum.inr z) (.int wv),some (.str z),rfl,aD,by rw[aI hpd]; exact h2,fun b o e=>?_,?_,?_⟩
    ·rw[aI (aG e hd)]; exact h3 b o e
    ·exact Nat.le_trans (dS _ _ _) (by omega)
    ·rw[← h5,List.drop_eq_getElem_cons hi];rw[(List.getElem?_eq_some_iff.mp hz).2];rfl
  ·rintro σ H' ⟨wv,kvs,nv,rfl,h1,h2,h3,h4,h5⟩;rw[List.length_map,List.drop_length] at h5;refine⟨_,rfl,q d ss' H' h3 hd pm so ?_⟩;rw[h1];exact congrArg (fun z=>some (HO.dK z)) h5
theorem scK:aS ["names","marks","name"] ["names"] (aB oN):=⟨rfl,rfl,rfl,by decide +kernel,rfl,by decide +kernel,by decide +kernel⟩
theorem aFq {f:Addr}{fd:FuncData}(F:Fun K "marks_of" "marks_of" oN f fd) (T:Txt K mg):aX P w K mg base CX0 1 f fd ["names"] (qB K):=by
 refine F.ok scK (fun vs H Q E h=>?_) (fun cdv A outer s H vs Q E hr h=>?_)
 ·obtain⟨a,ss,rfl,_⟩:=h;rfl
 ·obtain⟨a,ss,rfl,hS,hlen,q⟩:=h;have hu:=jB hr
  refine⟨_,aK (bU (i:=1) scK.nd rfl (Or.inl rfl) kE)
   (aK (eG PassesOwn.never rfl (cS (pv 0)) (aO (i:=2) scK.nd rfl (Or.inl rfl)) (aL (lL hu (pv 1) (pv 2) lV rfl)))
   (aL (bV (pv 1)))),?_⟩
  intro d hd;have s0:aP H (upd H d (.dK [])):=fun b o e=>by rw[aI (aG e hd)]; exact e
  refine⟨_,rfl,a,rfl,⟨_,s0.seq hS⟩,?_⟩;refine dQ (xs:=ss.map V.str) (fun i σ H'=>∃ kvs nv,σ=[some (.ref a),some (.ref d),nv]∧H' d=some (.dK kvs)∧aP H H'∧kvs.length<=i∧mks (ss.drop i) kvs=mks ss []) ?_ ?_ ?_ ?_
  ·exact⟨[],none,rfl,aD,s0,Nat.le_refl _,rfl⟩
  ·rintro i σ H' _ ⟨kvs,nv,rfl,h1,h3,h4,h5⟩;exact h3.seq hS
  ·rintro i x σ H' hx ⟨kvs,nv,rfl,h1,h3,h4,h5⟩;rw[List.getElem?_map] at hx;cases hz:ss[i]? with
   | none=>rw[hz] at hx; cases hx
   | some z=>
    rw[hz] at hx;cases hx;have hi:i<ss.length:=(List.getElem?_eq_some_iff.mp hz).1;refine⟨_,rfl,_,rfl,d,_,rfl,pZ.k (k:=Sum.inr z) h1 (aQ (by omega)),eP kvs (Sum.inr z) (.bl true),some (.str z),rfl,aD,fun b o e=>?_,?_,?_⟩
    ·rw[aI (aG e hd)]; exact h3 b o e
    ·exact Nat.le_trans (dS _ _ _) (by omega)
    ·rw[← h5,List.drop_eq_getElem_cons hi];rw[(List.getElem?_eq_some_iff.mp hz).2];rfl
  ·rintro σ H' ⟨kvs,nv,rfl,h1,h3,h4,h5⟩;rw[List.length_map,List.drop_length] at h5;refine⟨_,rfl,q d H' h3 hd ?_⟩;rw[h1];exact congrArg (fun z=>some (HO.dK z)) h5
end
end K21
namespace K21
open PySem L2 Ky
seal L2.PE L2.PS L2.PSs L2.PA L2.PT L2.PW L2.PG L2.PI L2.PTs L2.PO L2.PPs L2.OpR L2.IxR L2.CallR L2.MtM L2.MtR
structure Exc (K:PySem.W.Frag) (mg:Str->Option Value) (cl:Why->Addr):Prop where
 nn:mg "NoName"=some (.ref (cl .noName))
 nd:mg "NoDeed"=some (.ref (cl .noDeed))
 tt:mg "TwiceTold"=some (.ref (cl .twice))
 tm:mg "TooMany"=some (.ref (cl .tooMany))
 x:∀ k,aAa K (cl k)
section
variable {P:Program}{w:World}{K:PySem.W.Frag}{mg:Str->Option Value}{base:Heap}
theorem scR:aS ["names","ahead","name"] ["names"] (aB lJ):=⟨rfl,rfl,rfl,by decide +kernel,rfl,by decide +kernel,by decide +kernel⟩
theorem aCm {f fN:Addr}{fd fdN:FuncData}{cl:Why->Addr}(F:Fun K "refuse_names" "refuse_names" lJ f fd) (T:Txt K mg) (Ex:Exc K mg cl)
  (FN:Fun K "is_name" "is_name" jP fN fdN) (bN:bJ K fdN ["thing"] []) (mN:mg "is_name" = some (.ref fN)) :
  aX P w K mg base (CXE P w) 2 f fd ["names"] (vW K cl):=by
 have GN:aX P w K mg base CX0 1 fN fdN ["thing"] (qP K):=qE FN T;obtain⟨tm,mD⟩:=T.deeds;refine okE F scR (fun vs H Q E h=>?_) (fun cdv A outer s H vs Q E hr h D=>?_)
 ·obtain⟨a,ss,rfl,_⟩:=h;rfl
 ·obtain⟨a,ss,rfl,hS,hsh,q⟩:=h;have hu:=jB hr
  refine⟨_,aK (dL (cC tQ (cJ eA (by rfl) T.len Bo.len (pac (pv 0) aJ)) (iM (v:=.int 12) (by rfl) mD ⟨_,rfl⟩) (cM _))
    (aL (iZ D rfl (by rfl) Ex.tm (Ex.x .tooMany) (pac aY aJ))) cF)
   (aK (bU (i:=1) scR.nd rfl (Or.inl rfl) kE)
   (aL (eG PassesOwn.leaving rfl (cS (pv 0)) (aO (i:=2) scR.nd rfl (Or.inl rfl))
    (aK (dL (hZ (jH (aZ GN hr rfl mN FN.kp bN .nil bY (pac (pv 2) aJ)))) (aL (iZ D rfl (by rfl) Ex.nn (Ex.x .noName) (pac aY aJ))) cF)
    (aK (dL (qV (rB hu (pv 2) (pv 1))) (aL (iZ D rfl (by rfl) Ex.tt (Ex.x .twice) (pac (aFe aY (aKv (pv 2)) aY) aJ))) cF)
    (aL (lL hu (pv 1) (pv 2) lV rfl))))))),?_⟩
  refine⟨_,rfl,a,_,rfl,.inl hS,_,_,rfl,rfl,_,rfl,?_⟩;rw[List.length_map]
  have fin:∀ (k:Why) H',aP H H'->iJ ss=some k->E (.ref (cl k)) none H':=fun k H' sm e=>by
   have:=q H' sm
   rw[e] at this;exact this
  refine gJ (fun h12=>?_) (fun h12=>?_)
  ·have h12':12<ss.length:=by have:=of_decide_eq_true h12; omega
   exact⟨by show 1<=sizeLine; decide,fin .tooMany H (aP.refl H) (if_pos h12')⟩
  ·have h12':¬ 12<ss.length:=fun z=>h12 (decide_eq_true (by omega));have er:iJ ss=sB [] ss:=if_neg h12';intro d hd;have s0:aP H (upd H d (.dK [])):=fun b o e=>by rw[aI (aG e hd)]; exact e
   refine⟨_,rfl,a,rfl,⟨_,s0.seq hS⟩,?_⟩;refine dQ (xs:=ss.map V.str) (fun i σ H'=>∃ kvs nv,σ=[some (.ref a),some (.ref d),nv]∧H' d=some (.dK kvs)∧aP H H'∧kvs.length<=i∧(∀ z,(dH kvs (Sum.inr z)).isSome=decide (z∈ss.take i))∧sB (ss.take i) (ss.drop i)=sB [] ss) ?_ ?_ ?_ ?_
   ·exact⟨[],none,rfl,aD,s0,Nat.le_refl _,fun z=>by simp[dH],rfl⟩
   ·rintro i σ H' _ ⟨kvs,nv,rfl,h1,h3,h4,h5,h6⟩;exact h3.seq hS
   ·rintro i x σ H' hx ⟨kvs,nv,rfl,h1,h3,h4,h5,h6⟩;rw[List.getElem?_map] at hx;cases hz:ss[i]? with
    | none=>rw[hz] at hx; cases hx
    | some z=>
     rw[hz] at hx;cases hx;obtain⟨hi,hzi⟩:=List.getElem?_eq_some_iff.mp hz;have hzl:z.length<=1000:=hsh z (List.mem_of_getElem? hz);have ed:ss.drop i=z::ss.drop (i+1):=by rw[List.drop_eq_getElem_cons hi,hzi]
     have et:ss.take (i+1)=ss.take i++[z]:=by rw[List.take_succ,hz]; rfl
     have sl:sizeLine=16777216:=sizeLine_eq;rw[ed] at h6;refine⟨_,rfl,.str z,rfl,.inl ⟨z,rfl,by omega,fun H2 sm2=>⟨_,rfl,?_⟩⟩⟩;have s2:aP H H2:=h3.trans sm2
     by_cases hn:bX z=true
     ·rw[hn];refine fZ ⟨_,rfl,_,rfl,d,_,rfl,fV.k (k:=Sum.inr z) (sm2 d _ h1),_,rfl,?_⟩;rw[h5 z]
      by_cases hm:z∈ss.take i
      ·rw[decide_eq_true hm];refine kO ⟨_,rfl,?_,_,rfl,z,rfl,by omega,_,rfl,?_,_,rfl,?_,?_,by show 1<=sizeLine; decide,fin .twice H2 s2 ?_⟩
       ·rw[gP]; show 0+9<=sizeLine; decide
       ·rw[gP,gP]; show 0+9+z.length<=sizeLine; omega
       ·rw[gP,gP,gP]; show 0+9+z.length+14<=sizeLine; omega
       ·rw[gP,gP,gP]; show 0+9+z.length+14<=sizeLine; omega
       ·rw[er,← h6];show (if bX z=true then (if z∈ss.take i then some Why.twice else sB (ss.take i++[z]) (ss.drop (i+1))) else some .noName)=_
        rw[if_pos hn,if_pos hm]
      ·rw[decide_eq_false hm];refine fZ ⟨_,rfl,_,rfl,d,_,rfl,pZ.k (k:=Sum.inr z) (sm2 d _ h1) (aQ (by omega)),eP kvs (Sum.inr z) (.bl true),some (.str z),rfl,aD,fun b o e=>?_,?_,fun y=>?_,?_⟩
       ·rw[aI (aG e hd)]; exact s2 b o e
       ·exact Nat.le_trans (dS _ _ _) (by omega)
       ·rw[jU,et]
        by_cases hy:y=z
        ·subst hy;rw[if_pos rfl]
         simp
        ·rw[if_neg (fun e=>hy (Sum.inr.inj e)),h5 y];simp[hy]
       ·rw[et,← h6];show _=if bX z=true then (if z∈ss.take i then some .twice else sB (ss.take i++[z]) (ss.drop (i+1))) else some .noName
        rw[if_pos hn,if_neg hm]
     ·rw[Bool.eq_false_iff.mpr hn];refine kO ⟨by show 1<=sizeLine; decide,fin .noName H2 s2 ?_⟩;rw[er,← h6];exact if_neg hn
   ·rintro σ H' ⟨kvs,nv,rfl,h1,h3,h4,h5,h6⟩;rw[List.length_map,List.drop_length,List.take_length] at h6
    have:=q H' h3
    rw[er,← h6] at this;exact this
structure aDq (K:PySem.W.Frag) (C:Addr):Prop where
 cl:Cls K C
 nw:fU K C "weights"
 nf:fU K C "free_marks"
theorem scH:aS ["self","thing"] ["self","thing"] (aB yK):=⟨rfl,rfl,rfl,by decide +kernel,rfl,by decide +kernel,by decide +kernel⟩
theorem aPr (K:PySem.W.Frag):PySem.W.kitOne K (.type "NoneType") (.type "str")=some false:=by
 unfold PySem.W.kitOne PySem.W.kitCls;rw[if_neg (by decide)];dsimp only;rw[if_pos (by decide +kernel)];show (PySem.fastBuiltinMro "NoneType").map _=_
 decide +kernel
theorem aPs (K:PySem.W.Frag):PySem.W.kitOne K (.type "int") (.type "str")=some false:=by
 unfold PySem.W.kitOne PySem.W.kitCls;rw[if_neg (by decide)];dsimp only;rw[if_pos (by decide +kernel)];show (PySem.fastBuiltinMro "int").map _=_
 decide +kernel
theorem aLc {f fN C:Addr}{fd fdN:FuncData}(F:Fun K "has" "Deeds.has" yK f fd) (T:Txt K mg) (DC:aDq K C)
  (FN:Fun K "is_name" "is_name" jP fN fdN) (bN:bJ K fdN ["thing"] []) (mN:mg "is_name" = some (.ref fN)) :
  aX P w K mg base CX0 2 f fd ["self","thing"] (aJr K C):=by
 have GN:aX P w K mg base CX0 1 fN fdN ["thing"] (qP K):=qE FN T;refine F.ok scH (fun vs H Q E h=>?_) (fun cdv A outer s H vs Q E hr h=>?_)
 ·obtain⟨p,x,kvs,rfl,_⟩:=h;rfl
 ·obtain⟨p,x,kvs,rfl,hz,⟨dx,fs,dw,o,hp,hm,hw,hk⟩,q⟩:=h;have hu:=jB hr;refine⟨_,aL (bV (yR (aZ GN hr rfl mN FN.kp bN .nil bY (pac (pv 1) aJ)) (yQ (aFg (rB hu (pv 1) (fO (pv 0) rfl)))))),?_⟩;rcases hz with⟨z,rfl,hz⟩ | rfl | rfl
  ·refine⟨_,rfl,.str z,rfl,.inl ⟨z,rfl,by have sl:sizeLine=16777216:=sizeLine_eq; omega,fun H2 s2=>⟨_,rfl,?_⟩⟩⟩;have q2:=q H2 s2;refine gJ (fun hn=>?_) (fun hn=>?_)
   ·rw[eL,hn,Bool.true_and] at q2;exact⟨_,rfl,_,rfl,p,C,dx,fs,_,rfl,s2 p _ hp,DC.cl,DC.nw,hw,dw,_,rfl,.inl ⟨kvs,Sum.inr z,.inr ⟨o,s2 dw _ hk⟩,rfl,rfl⟩,q2⟩
   ·rw[eL,Bool.eq_false_iff.mpr hn,Bool.false_and] at q2;exact q2
  ·exact⟨_,rfl,.non,rfl,.inr ⟨_,.non,aPr K,_,rfl,fZ (q H (aP.refl H))⟩⟩
  ·exact⟨_,rfl,.int 5,rfl,.inr ⟨_,.int 5,aPs K,_,rfl,fZ (q H (aP.refl H))⟩⟩
theorem scQ:aS ["self","row","deed"] ["self","row"] (aB iX):=⟨rfl,rfl,rfl,by decide +kernel,rfl,by decide +kernel,by decide +kernel⟩
theorem yW {f fN fH C:Addr}{fd fdN fdH:FuncData}{cl:Why->Addr}(F:Fun K "require" "Deeds.require" iX f fd) (T:Txt K mg) (Ex:Exc K mg cl) (DC:aDq K C)
  (FN:Fun K "is_name" "is_name" jP fN fdN) (bN:bJ K fdN ["thing"] []) (mN:mg "is_name" = some (.ref fN))
  (FH:Fun K "has" "Deeds.has" yK fH fdH) (bH:bJ K fdH ["self","thing"] []) (mH:eJ K C "has" fH) :
  aX P w K mg base (CXE P w) 3 f fd ["self","row"] (lF K C cl):=by
 have GH:aX P w K mg base CX0 2 fH fdH ["self","thing"] (aJr K C):=aLc FH T DC FN bN mN;refine okE F scQ (fun vs H Q E h=>?_) (fun cdv A outer s H vs Q E hr h D=>?_)
 ·obtain⟨p,b,fs,kvs,rfl,_⟩:=h;rfl
 ·obtain⟨p,b,fs,kvs,rfl,hS,hsh,⟨dx,fl,dw,o,hp,hm,hw,hk⟩,q⟩:=h
  refine⟨_,aL (eG PassesOwn.leaving rfl (cS (pv 1)) (aO (i:=2) scQ.nd rfl (Or.inl rfl))
    (aL (dL (hZ (jH (dO (pv 0) DC.cl mH GH hr bH .nil bY (pac (pv 2) aJ)))) (aL (iZ D rfl (by rfl) Ex.nd (Ex.x .noDeed) (pac aY aJ))) cF))),?_⟩
  refine⟨_,rfl,b,rfl,⟨_,hS⟩,?_⟩;refine dQ (xs:=fs) (fun i σ H'=>∃ nv,σ=[some (.ref p),some (.ref b),nv]∧aP H H'∧(fs.take i).all (eL kvs)=true) ?_ ?_ ?_ ?_
  ·exact⟨none,rfl,aP.refl H,rfl⟩
  ·rintro i σ H' _ ⟨nv,rfl,h3,h4⟩;exact h3.seq hS
  ·rintro i x σ H' hz ⟨nv,rfl,h3,h4⟩;refine⟨_,rfl,p,dx,fl,rfl,h3 p _ hp,hm "has" (by decide),_,rfl,p,x,kvs,rfl,hsh x (List.mem_of_getElem? hz),⟨dx,fl,dw,o,h3 p _ hp,hm,hw,h3 dw _ hk⟩,fun H2 s2=>⟨_,rfl,?_⟩⟩;cases hb:eL kvs x with
   | true=>
    refine fZ ⟨some x,rfl,h3.trans s2,?_⟩;rw[List.take_succ,hz,List.all_append,h4];simp[hb]
   | false=>
    refine kO ⟨by show 1<=sizeLine; decide,?_⟩
    have:=q H2 (h3.trans s2)
    rw[if_neg ?_] at this
    ·exact this
    ·intro z'
     have:=List.all_eq_true.mp z' x (List.mem_of_getElem? hz)
     rw[hb] at this;cases this
  ·rintro σ H' ⟨nv,rfl,h3,h4⟩;rw[List.take_length] at h4
   have:=q H' h3
   rw[if_pos h4] at this;exact this
end
end K21
namespace K21
open PySem L2 Ky
seal L2.PE L2.PS L2.PSs L2.PA L2.PT L2.PW L2.PG L2.PI L2.PTs L2.PO L2.PPs L2.OpR L2.IxR L2.CallR L2.MtM L2.MtR
theorem aKl {K:PySem.W.Frag}{H H':Hp}{a x C dx:Addr}{fs:List (Str×V)}{xs:List V}(e:SameBut x H H') (hx:H x=some (.ins C dx fs)) (h:SqL K H a xs):SqL K H' a xs:=by
 rcases h with (h | ⟨o,h⟩) | h
 ·exact .inl (.inl (e _ _ (fun z=>by rw[z,hx] at h; cases h) h))
 ·exact .inl (.inr ⟨o,e _ _ (fun z=>by rw[z,hx] at h; cases h) h⟩)
 ·exact .inr h
theorem noW (v:V):∀ m∈aFz,List.lookup m [(("weights" : Str),v)]=none:=by
 have h:∀ m∈aFz,(m==("weights" : Str))=false:=by decide +kernel
 intro m hm;simp only[List.lookup,h m hm]
theorem aPm (v u:V):∀ m∈aFz,List.lookup m [(("weights" : Str),v),(("free_marks" : Str),u)]=none:=by
 have h:∀ m∈aFz,(m==("weights" : Str))=false∧(m==("free_marks" : Str))=false:=by decide +kernel
 intro m hm;simp only[List.lookup,(h m hm).1,(h m hm).2]
theorem aHb (kvs:List (Key×V)) (fs:List Str):(fs.map V.str).all (eL kvs)=fs.all (fun z=>bX z&&(dH kvs (Sum.inr z)).isSome):=by
 rw[List.all_map];rfl
theorem sU {fs:List Str}(h:pV fs):∀ x∈fs.map V.str,xW x:=fun x hx=>by
 obtain⟨z,hz,rfl⟩:=List.mem_map.mp hx;exact .inl ⟨z,rfl,h z hz⟩
theorem nF:∀ (ss:List Str) (wv:Int) (kvs:List (Key×V)) (z:Str),(dH (wts ss wv kvs) (Sum.inr z)).isSome=(decide (z∈ss)||(dH kvs (Sum.inr z)).isSome)
 | [],_,kvs,z=>by simp[wts]
 | s::r,wv,kvs,z=>by
  rw[wts,nF r,jU]
  by_cases h:z=s
  ·subst h
   simp
  ·rw[if_neg fun e=>h (Sum.inr.inj e)];simp[h]
section
variable {P:Program}{w:World}{K:PySem.W.Frag}{mg:Str->Option Value}{base:Heap}
theorem scI:aS ["self","names","free","free_names"] ["self","names","free"] (aB nK):=⟨rfl,rfl,rfl,by decide +kernel,rfl,by decide +kernel,by decide +kernel⟩
theorem aIh {f fR fW fK fQ C:Addr}{fd fdR fdW fdK fdQ:FuncData}{cl:Why->Addr}(F:aHf K "__init__" "Deeds.__init__" nK f fd) (T:Txt K mg) (DC:aDq K C)
  (GR:aX P w K mg base (CXE P w) 2 fR fdR ["names"] (vW K cl)) (kR:PySem.W.keepIn K (.ref fR)=true) (bR:bJ K fdR ["names"] []) (mR:mg "refuse_names" = some (.ref fR))
  (GW:aX P w K mg base CX0 1 fW fdW ["names"] (sX K)) (kW:PySem.W.keepIn K (.ref fW)=true) (bW:bJ K fdW ["names"] []) (mW:mg "weights_of" = some (.ref fW))
  (GK:aX P w K mg base CX0 1 fK fdK ["names"] (qB K)) (kK:PySem.W.keepIn K (.ref fK)=true) (bK:bJ K fdK ["names"] []) (mK:mg "marks_of" = some (.ref fK))
  (GQ:aX P w K mg base (CXE P w) 3 fQ fdQ ["self","row"] (lF K C cl)) (bQ:bJ K fdQ ["self","row"] []) (mQ:eJ K C "require" fQ) :
  aX P w K mg base (CXE P w) 4 f fd ["self","names","free"] (aEj K C cl):=by
 refine aMy F scI (fun vs H Q E h=>?_) (fun cdv A outer s H vs Q E hr h D=>?_)
 ·obtain⟨x,a,y,dx,ss,fs,rfl,_⟩:=h;rfl
 ·obtain⟨x,a,y,dx,ss,fs,rfl,hx,hA,hB,hsh,hfh,hfl,q⟩:=h;have hr1:cY 1 _:=hr.mono (by decide);have hr2:cY 2 _:=hr.mono (by decide)
  refine⟨_,aK (cW (aZ GR hr2 rfl mR kR bR .nil (D.passes fun _ _ _ z=>z) (pac (pv 1) aJ)))
   (aK (jI (pv 0) (aCf (aZ GW hr1 rfl mW kW bW .nil bY (pac (pv 1) aJ))) rfl)
   (dY (fun σ H'=>∃ b d o ss',σ=[some (.ref x),some (.ref a),some y,some (.ref b)]∧H' x=some (.ins C dx [("weights",.ref d)])∧H' d=some (.frz o (.dK (wts ss' 1 [])))∧SameBut x H H'∧SqL K H' b (fs.map V.str)∧ss'.Perm ss∧PyProof.Rows.sortedS ss'=true)
    (bU (i:=3) scI.nd rfl (Or.inl rfl) (wO (cC aFn (pv 2) iA (cM _)) (dB aJ) (pv 2)))
   (aK (cW (dO (pv 0) DC.cl mQ GQ hr bQ .nil (D.passes fun _ _ _ z=>z) (pac (pv 3) aJ)))
   (aL (jI (pv 0) (aZ GK hr1 rfl mK kK bK .nil bY (pac (pv 3) aJ)) rfl))))),?_⟩
  refine⟨_,rfl,a,ss,rfl,hA,hsh,fun H1 s1=>?_⟩;have sb:∀ {H'},aP H H'->SameBut x H H':=fun sm b o _ e=>sm b o e;cases hR:iJ ss with
  | some k=>
   have:=q H1 (sb s1)
   unfold kU at this;rw[hR] at this;exact this
  | none=>
   have h12:ss.length<=12:=by
    unfold iJ at hR
    by_cases z:12<ss.length
    ·rw[if_pos z] at hR; cases hR
    ·omega
   refine⟨_,rfl,a,ss,rfl,s1.seq hA,by omega,fun d ss' H2 s2 hd pm so hd2=>⟨d,_,rfl,hd2,fun o=>?_⟩⟩;have hx2:=s2 x _ (s1 x _ hx);have ndx:d≠x:=fun z=>by rw[z,hx2] at hd2; cases hd2
   have hx2':(upd H2 d (.frz o (.dK (wts ss' 1 [])))) x=some (.ins C dx []):=by rw[aI (Ne.symm ndx)]; exact hx2
   refine⟨_,rfl,x,C,dx,[],rfl,hx2',DC.cl,DC.nw,by decide,?_⟩;generalize hH3:upd (upd H2 d (.frz o (.dK (wts ss' 1 [])))) x (.ins C dx (gA "weights" (.ref d) []))=H3;have hx3:H3 x=some (.ins C dx [("weights",.ref d)]):=by rw[← hH3,aD]; rfl
   have hd3:H3 d=some (.frz o (.dK (wts ss' 1 []))):=by rw[← hH3,aI ndx,aD]
   have hHd:H d=none:=by
    cases e:H d with
    | none=>rfl
    | some u=>rw[s1 d u e] at hd; cases hd
   have s3:SameBut x H H3:=fun b o n e=>by rw[← hH3,aI n,aI (aG e hHd)]; exact s2 b o (s1 b o e)
   have hB3:(y=.non∧fs=[])∨∃ b,y=.ref b∧SqL K H3 b (fs.map V.str):=hB.imp id fun ⟨b,e,h⟩=>⟨b,e,aKl s3 hx h⟩;refine⟨?_,?_⟩
   ·rcases hB3 with⟨rfl,rfl⟩ | ⟨b,rfl,hB3⟩
    ·refine⟨_,rfl,rfl,_,rfl,gJ (fun _=>⟨by show 0<=sizeLine; decide,fun l hl=>⟨l,d,o,ss',rfl,?_,?_,?_,SqL.of aD,pm,so⟩⟩) fun z=>absurd (decide_eq_true rfl) z⟩
     ·rw[aI (aG hx3 hl)]; exact hx3
     ·rw[aI (aG hd3 hl)]; exact hd3
     ·exact fun c u n e=>by rw[aI (aG (s3 c u n e) hl)]; exact s3 c u n e
    ·exact⟨_,rfl,rfl,_,rfl,gJ (fun z=>absurd (of_decide_eq_true z) (by intro z; cases z)) fun _=>⟨_,rfl,b,d,o,ss',rfl,hx3,hd3,s3,hB3,pm,so⟩⟩
   clear hB3 hd3 hx3 s3 hH3 H3 hx2' hx2 ndx hd2;rintro σ H3 ⟨b,d,o,ss',rfl,hx3,hd3,s3,hB3,pm,so⟩
   have e4:∀ z,(dH (wts ss' 1 []) (Sum.inr z)).isSome=decide (z∈ss):=fun z=>by
    rw[nF];simp[dH,pm.mem_iff]
   refine⟨_,rfl,x,dx,_,rfl,hx3,by rfl,_,rfl,x,b,fs.map V.str,_,rfl,hB3,sU hfh,⟨dx,_,d,o,hx3,noW _,by rfl,hd3⟩,fun H4 s4=>?_⟩;have s4':SameBut x H H4:=fun b o n e=>s4 b o (s3 b o n e);rw[aHb];simp only[e4];have q4:=q;unfold kU at q4;rw[hR] at q4;have ndx:d≠x:=fun z=>by rw[z,hx3] at hd3; cases hd3
   by_cases hall:fs.all (fun f=>bX f&&decide (f∈ss))=true
   ·simp only[if_pos hall] at q4 ⊢;refine⟨_,rfl,b,fs,rfl,s4.seq hB3,hfl,fun df H5 s5 hdf hdf5=>?_⟩;have hx5:=s5 x _ (s4 x _ hx3);have ndf:df≠x:=fun z=>by rw[z,hx5] at hdf5; cases hdf5
    refine⟨_,rfl,x,C,dx,_,rfl,hx5,DC.cl,DC.nf,by show 1<1000; decide,?_⟩;refine q4 _ (fun b o n e=>by rw[aI n]; exact s5 b o (s4' b o n e)) d df o ss' (by rw[aD]; rfl) (by rw[aI ndx]; exact s5 d _ (s4 d _ hd3)) (by rw[aI ndf]; exact hdf5) pm so
   ·simp only[if_neg hall] at q4 ⊢;exact q4 H4 s4'
end
end K21
namespace K21
open PySem L2 Ky
seal L2.PE L2.PS L2.PSs L2.PA L2.PT L2.PW L2.PG L2.PI L2.PTs L2.PO L2.PPs L2.OpR L2.IxR L2.CallR L2.MtM L2.MtR
abbrev gM:List Str:=["go","a","b1","stop","r0","r1","open","x","yy","z9","longname","c"]
def gB (c:Int):Int:=([1,5,7,11]:List Int).getD (c/12%4).toNat 1
def oQ (c:Int) (k:Nat):Str:=gM.getD ((c+gB c*k)%12).toNat ""
def dZ (c:Int) (n:Nat):List Str:=(List.range n).map (oQ c)
def gE (c:Int):Nat:=if c/8%16=1 then (c/128%2).toNat else ([2,3,3,4,4,5,6,12]:List Nat).getD (c%8).toNat 0
def pI (c:Int) (ss:List Str):List Str:=(List.range ss.length).filterMap fun (k:Nat)=>if RW.mixed c (k:Nat)%4=1 then ss[k]? else none
theorem iF {α β:Type}(f:α->β) (xs:List α) (d:α){i:Int}(h0:0<=i) (h1:i<xs.length):atI (xs.map f) i=some (f (xs.getD i.toNat d)):=by
 have hl:i.toNat<xs.length:=by omega
 have e:i=(i.toNat:Int):=by omega
 have h:=gH (xs:=xs.map f) (j:=i.toNat) (v:=f (xs.getD i.toNat d)) (by rw[List.getElem?_map,List.getD_eq_getElem?_getD,List.getElem?_eq_getElem hl]; rfl);rw[← e] at h;exact h
theorem cE (c:Int){m:Int}(h:0<m):0<=c%m∧c%m<m:=⟨Int.emod_nonneg _ (by omega),Int.emod_lt_of_pos _ h⟩
theorem aEd:∀ n,n<4->([1,5,7,11]:List Int).getD n 1=1∨([1,5,7,11]:List Int).getD n 1=5∨([1,5,7,11]:List Int).getD n 1=7∨([1,5,7,11]:List Int).getD n 1=11:=by decide +kernel
theorem jF (c:Int):gB c=1∨gB c=5∨gB c=7∨gB c=11:=by
 have h:=cE (c/12) (m:=4) (by decide);exact aEd _ (by omega)
theorem aGc:∀ n,n<8->([2,3,3,4,4,5,6,12]:List Nat).getD n 0<=12∧(([2,3,3,4,4,5,6,12]:List Int).getD n 0)=((([2,3,3,4,4,5,6,12]:List Nat).getD n 0:Nat):Int):=by decide +kernel
theorem tT (c:Int):([2,3,3,4,4,5,6,12]:List Nat).getD (c%8).toNat 0<=12∧(([2,3,3,4,4,5,6,12]:List Int).getD (c%8).toNat 0)=((([2,3,3,4,4,5,6,12]:List Nat).getD (c%8).toNat 0:Nat):Int):=by
 have h:=cE c (m:=8) (by decide);exact aGc _ (by omega)
theorem lP (c:Int):gE c<=12:=by
 unfold gE;split
 ·have h:=cE (c/128) (m:=2) (by decide);omega
 ·exact (tT c).1
def kT (c:Int) (ss:List Str) (i:Nat):List Str:=(List.range i).filterMap fun (k:Nat)=>if RW.mixed c (k:Nat)%4=1 then ss[k]? else none
inductive tE (K:PySem.W.Frag) (vs:List V) (H:Hp) (Q:VK) (x3_:XK):Prop
 | mk (c:Int) (n:Nat) (h0_:vs=[.int c,.int n]) (h1_:n<=1000) (h2_:∀ (l:Addr) H',aP H H'->H l=none->H' l=some (.lst ((dZ c n).map V.str))->Q (.ref l) H')
inductive tG (K:PySem.W.Frag) (vs:List V) (H:Hp) (Q:VK) (x3_:XK):Prop
 | mk (c:Int) (h0_:vs=[.int c]) (h1_:∀ (t l m:Addr) H',aP H H'->H' t=some (.tup [.ref l,.ref m])->H' l=some (.lst ((dZ (c/256) (gE c)).map V.str))->H' m=some (.lst ((pI c (dZ (c/256) (gE c))).map V.str))->Q (.ref t) H')
section
variable {P:Program}{w:World}{K:PySem.W.Frag}{mg:Str->Option Value}{base:Heap}
abbrev NB:List Str:=["_law_cell","_law_many","_law_some","_law_step_here"]
theorem scB:aS NB ["_law_cell","_law_many"] (aB gI):=⟨rfl,rfl,rfl,by decide +kernel,rfl,by decide +kernel,by decide +kernel⟩
theorem yY {f:Addr}{fd:FuncData}(F:Fun K "_law_names_by" "_law_names_by" gI f fd) (T:Txt K mg):aX P w K mg base CX0 1 f fd ["_law_cell","_law_many"] (tE K):=by
 refine F.ok scB (fun vs H Q E h=>?_) (fun cdv A outer s H vs Q E hr h=>?_)
 ·obtain⟨c,n,rfl,_⟩:=h;rfl
 ·obtain⟨c,n,rfl,hn,q⟩:=h
  refine⟨_,aK (bU (i:=2) scB.nd rfl (Or.inr rfl) (dB (pac aY (pac aY (pac aY (pac aY (pac aY (pac aY (pac aY (pac aY (pac aY (pac aY (pac aY (pac aY aJ))))))))))))))
   (aK (bU (i:=3) scB.nd rfl (Or.inr rfl) (cZ cQ (dB (pac aN (pac aN (pac aN (pac aN aJ))))) (aU dA (aU eU (pv 0) aN) aN) (fun _ _=>rfl)))
   (aL (bV (dN (N':=["_law_k","_law_some","_law_cell","_law_step_here"]) (nown:=1) (js:=[2,0,3]) rfl
     ⟨rfl,by decide +kernel,by decide +kernel⟩ (cG (aB gI) NB rfl rfl (by decide +kernel))
     ⟨fun _ _ _ _=>aO (i:=0) (show List.Nodup (["_law_k","_law_some","_law_cell","_law_step_here"]:List Str) by decide +kernel) rfl (Or.inl rfl) (.inr rfl),fun _ _ _ _=>dJ,
      fun _ _ _ _=>cZ (show IxR _ (aBy K) from cQ) (pv 1) (aU dA (aU eI (pv 2) (aU mU (pv 3) (pv 0))) aN) (fun _ _=>rfl)⟩
     (gS rfl T.range (pac (pv 1) aJ)))))),?_⟩
  have sl:sizeLine=16777216:=sizeLine_eq;have g4:=cE (c/12) (m:=4) (by decide);refine⟨by show 12<=sizeLine; decide,fun p hp=>⟨by show 4<=sizeLine; decide,fun p2 hp2=>⟨_,rfl,_,_,rfl,rfl,⟨by decide,by decide⟩,_,_,rfl,rfl,(by show (0:Int)<4; decide),p2,_,_,V.int (gB c),rfl,rfl,SqL.of aD,iF V.int [1,5,7,11] 1 g4.1 g4.2,?_⟩⟩⟩;have n12:p≠p2:=aG aD hp2;generalize hH2:upd (upd H p _) p2 _=H2;have e2:H2 p=some (.lst (gM.map V.str)):=by rw[← hH2,aI n12,aD]; rfl
  have s2:aP H H2:=fun b o e=>by
   have m1:b≠p:=aG e hp;have m2:b≠p2:=aG (show (upd H p _) b=some o by rw[aI m1]; exact e) hp2;rw[← hH2,aI m2,aI m1];exact e
  refine⟨_,rfl,n,rfl,by omega,by omega,fun D hD=>jC (n:=n) (fun i σ' H'=>∃ v,σ'=[v,some (.ref p),some (.int c),some (.int (gB c))]∧H' D=some (.lst ((dZ c i).map V.str))∧aP H2 H') ?_ ?_ ?_⟩
  ·exact⟨none,rfl,aD,fun b o e=>by rw[aI (aG e hD)]; exact e⟩
  ·rintro i σ' H' hi ⟨v,rfl,hl',sm⟩;have g12:=cE (c+gB c*(0+(i:Int))) (m:=12) (by decide);refine⟨_,rfl,_,rfl,_,rfl,_,rfl,_,_,rfl,rfl,.inl ?_,_,_,rfl,rfl,_,_,rfl,rfl,(by show (0:Int)<12; decide),p,_,_,V.str (oQ c i),rfl,rfl,SqL.of (sm p _ e2),?_,_,hl',?_,_,rfl,?_,?_⟩
   ·rcases jF c with h | h | h | h <;> (rw[h]; exact⟨by decide,by decide⟩)
   ·have h:=iF V.str gM "" g12.1 g12.2;rw[h,Int.zero_add];rfl
   ·refine aQ ?_;rw[List.length_map];unfold dZ;rw[List.length_map,List.length_range];omega
   ·rw[aD];unfold dZ;rw[List.range_succ,List.map_append,List.map_append];rfl
   ·intro b o e;rw[aI (aG e hD)];exact sm b o e
  ·rintro σ' H' ⟨v,rfl,hl',sm⟩;refine q D H' (s2.trans sm) ?_ hl';exact s2.free hD
abbrev ND:List Str:=["_law_cell","_law_many","_law_names"]
theorem scD:aS ND ["_law_cell"] (aB hG):=⟨rfl,rfl,rfl,by decide +kernel,rfl,by decide +kernel,by decide +kernel⟩
theorem zB {f fM fB:Addr}{fd fdM fdB:FuncData}(F:Fun K "_law_deeds_by" "_law_deeds_by" hG f fd) (T:Txt K mg)
  (FM:Fun K "_law_mixed" "_law_mixed" jY fM fdM) (bM:bJ K fdM ["_law_cell","_law_k"] []) (mM:mg "_law_mixed" = some (.ref fM))
  (FB:Fun K "_law_names_by" "_law_names_by" gI fB fdB) (bB:bJ K fdB ["_law_cell","_law_many"] []) (mB:mg "_law_names_by" = some (.ref fB)):aX P w K mg base CX0 2 f fd ["_law_cell"] (tG K):=by
 have GM:aX P w K mg base CX0 1 fM fdM ["_law_cell","_law_k"] lG:=kG FM;have GB:aX P w K mg base CX0 1 fB fdB ["_law_cell","_law_many"] (tE K):=yY FB T;refine F.ok scD (fun vs H Q E h=>?_) (fun cdv A outer s H vs Q E hr h=>?_)
 ·obtain⟨c,rfl,_⟩:=h;rfl
 ·obtain⟨c,rfl,q⟩:=h
  refine⟨_,aK (bU (i:=1) scD.nd rfl (Or.inl rfl) (cZ cQ (dB (pac aN (pac aN (pac aN (pac aN (pac aN (pac aN (pac aN (pac aN aJ))))))))) (aU dA (pv 0) aN) (fun _ _=>rfl)))
   (dY (fun σ H'=>σ=[some (.int c),some (.int (gE c)),none]∧aP H H')
    (dL (cC rD (aU dA (aU eU (pv 0) aN) aN) aN (cM _))
     (aL (bU (i:=1) scD.nd rfl (Or.inl rfl) (aU dA (aU eU (pv 0) aN) aN))) cF)
   (aK (bU (i:=2) scD.nd rfl (Or.inl rfl) (aZ GB hr rfl mB FB.kp bB .nil bY (pac (aU eU (pv 0) aN) (pac (pv 1) aJ))))
   (aL (bV (qZ (pac (pv 2) (pac (dN (N':=["_law_k","_law_name","_law_cell"]) (nown:=2) (js:=[0]) rfl
     ⟨rfl,by decide +kernel,by decide +kernel⟩ (cG (aB hG) ND rfl rfl (by decide +kernel))
     ⟨fun _ _ _ _=>show PG _ _ (sI K 2 (eV (dU 0) (eV (dU 1) sJ))) from eQ rfl (aW (aO (i:=0) (show List.Nodup (["_law_k","_law_name","_law_cell"]:List Str) by decide +kernel) rfl (Or.inl rfl) (.inr rfl)) (aW (aO (i:=1) (show List.Nodup (["_law_k","_law_name","_law_cell"]:List Str) by decide +kernel) rfl (Or.inl rfl) (.inr rfl)) dM)),
      fun _ _ _ _=>lK (cC rD (aU dA (aZ GM hr rfl mM FM.kp bM .nil bY (pac (pv 2) (pac (pv 0) aJ))) aN) aN (cM _)),
      fun _ _ _ _=>pv 1⟩
     (jJ rfl T.enum (pac (pv 2) aJ))) aJ))))))),?_⟩
  have sl:sizeLine=16777216:=sizeLine_eq;have g8:=cE c (m:=8) (by decide);refine⟨by show 8<=sizeLine; decide,fun p hp=>⟨_,rfl,_,_,rfl,rfl,(by show (0:Int)<8; decide),p,_,_,V.int _,rfl,rfl,SqL.of aD,iF V.int [2,3,3,4,4,5,6,12] 0 g8.1 g8.2,?_,?_⟩⟩
  ·have s1:∀ o,aP H (upd H p o):=fun o b u e=>by rw[aI (aG e hp)]; exact e
   refine⟨_,rfl,_,_,rfl,rfl,⟨by decide,by decide⟩,_,_,rfl,rfl,(by show (0:Int)<16; decide),rfl,_,rfl,gJ (fun h1=>?_) (fun h1=>?_)⟩
   ·have e1:c/8%16=1:=by have:=of_decide_eq_true h1; exact V.int.inj this
    have g2:=cE (c/128) (m:=2) (by decide);refine⟨_,rfl,_,_,rfl,rfl,⟨by decide,by decide⟩,_,_,rfl,rfl,(by show (0:Int)<2; decide),?_,s1 _⟩;have e:((gE c:Nat):Int)=c/128%2:=by unfold gE; rw[if_pos e1]; omega
    rw[e];rfl
   ·have e1:¬ c/8%16=1:=fun z=>h1 (decide_eq_true (congrArg V.int z));refine⟨?_,s1 _⟩;have e:((gE c:Nat):Int)=([2,3,3,4,4,5,6,12]:List Int).getD (c%8).toNat 0:=by unfold gE; rw[if_neg e1]; exact (tT c).2.symm
    rw[e];rfl
  ·rintro σ H1 ⟨rfl,s1⟩;refine⟨_,rfl,_,_,rfl,rfl,⟨by decide,by decide⟩,_,rfl,c/256,gE c,rfl,Nat.le_trans (lP c) (by decide),fun l H2 s2 hl hl2=>?_⟩;generalize hss:dZ (c/256) (gE c)=ss at *;have hlen:ss.length=gE c:=by rw[← hss]; unfold dZ; rw[List.length_map,List.length_range]
   have hle:=lP c;refine⟨_,rfl,_,rfl,l,rfl,⟨_,SqL.of hl2⟩,fun D hD=>nZ (xs:=ss.map V.str) (fun i σ' H'=>∃ v0 v1,σ'=[v0,v1,some (.int c)]∧H' D=some (.lst ((kT c ss i).map V.str))∧aP H2 H'∧(kT c ss i).length<=i) ?_ ?_ ?_ ?_⟩
   ·exact⟨none,none,rfl,aD,fun b o e=>by rw[aI (aG e hD)]; exact e,Nat.le_refl _⟩
   ·rintro i σ' H' _ ⟨v0,v1,rfl,h1,h2,h3⟩;exact SqL.of (h2 l _ hl2)
   ·rintro i x σ' H' t hx ⟨v0,v1,rfl,h1,h2,h3⟩ ht;rw[List.getElem?_map] at hx;cases hz:ss[i]? with
    | none=>rw[hz] at hx; cases hx
    | some z=>
     rw[hz] at hx;cases hx;have hi:i<ss.length:=(List.getElem?_eq_some_iff.mp hz).1;have nD:D≠t:=fun e=>by rw[e,ht] at h1; cases h1
     have sT:aP H2 (upd H' t (.tup [.int i,.str z])):=fun b o e=>by rw[aI (aG (h2 b o e) ht)]; exact h2 b o e
     refine⟨t,_,rfl,SqT.of aD,rfl,_,_,rfl,_,_,rfl,rfl,_,rfl,_,rfl,c,i,rfl,_,_,rfl,rfl,(by show (0:Int)<4; decide),rfl,_,rfl,gJ (fun h4=>?_) (fun h4=>?_)⟩
     ·have e4:RW.mixed c i%4=1:=by have:=of_decide_eq_true h4; exact V.int.inj this
      have eu:kT c ss (i+1)=kT c ss i++[z]:=by
       unfold kT;rw[List.range_succ,List.filterMap_append];simp[e4,hz]
      refine⟨_,rfl,_,by rw[aI nD]; exact h1,aQ (by rw[List.length_map]; omega),some (.int i),some (.str z),rfl,?_,?_,?_⟩
      ·rw[aD,eu,List.map_append];rfl
      ·intro b o e;rw[aI (aG e hD)];exact sT b o e
      ·rw[eu,List.length_append];show _+1<=_;omega
     ·have e4:¬ RW.mixed c i%4=1:=fun z=>h4 (decide_eq_true (congrArg V.int z))
      have eu:kT c ss (i+1)=kT c ss i:=by
       unfold kT;rw[List.range_succ,List.filterMap_append];simp[e4]
      refine⟨some (.int i),some (.str z),rfl,?_,sT,by rw[eu]; omega⟩;rw[aI nD,eu];exact h1
   ·rintro σ' H' ⟨v0,v1,rfl,h1,h2,h3⟩;refine⟨by show 2<=sizeLine; decide,fun t ht=>?_⟩;rw[List.length_map] at h1;have sT:∀ o,aP H' (upd H' t o):=fun o b u e=>by rw[aI (aG e ht)]; exact e
    exact q t l D _ (((s1.trans s2).trans h2).trans (sT _)) aD (sT _ _ _ (h2 l _ hl2)) (sT _ _ _ h1)
end
end K21
namespace K21
open PySem L2 Ky
seal L2.PE L2.PS L2.PSs L2.PA L2.PT L2.PW L2.PG L2.PI L2.PTs L2.PO L2.PPs L2.OpR L2.IxR L2.CallR L2.MtM L2.MtR

theorem aNz:bootBuiltins "ValueError" = some (.type "ValueError"):=by decide +kernel
theorem PE.weak {X:Cx}{e:Expr}{t t':TE}(h:PE X e t) (k:∀ σ H Q,t' σ H Q->t σ H Q):PE X e t':=by
 unfold PE at h ⊢;exact fun pins s σ H Q I q=>h pins s σ H Q I (k σ H Q q)
abbrev nms:List Str:=["NoName","NoDeed","NoRoom","TwiceTold","TooMany","NoRule","NoRow","NoHold","NoHolder","FreeDeed","NotNow","NoWarden","NoText","NoBook"]
abbrev gL:List Nat:=[1,2]
def oB (ds:Nat->Addr) (C:Addr):Option Str:=if C=ds 1 then some "NoDeed" else if C=ds 2 then some "NoRoom" else none
theorem sO {ds:Nat->Addr}{C:Addr}{x:Str}(h:oB ds C=some x):∃ i∈gL,C=ds i∧nms[i]?=some x:=by
 unfold oB at h
 by_cases h1:C=ds 1
 ·rw[if_pos h1] at h; cases h; exact⟨1,by decide,h1,rfl⟩
 rw[if_neg h1] at h
 by_cases h2:C=ds 2
 ·rw[if_pos h2] at h; cases h; exact⟨2,by decide,h2,rfl⟩
 rw[if_neg h2] at h;cases h
def aHh (mg:Str->Option Value):List Str->List Addr->Prop
 | n::ns,a::as=>mg n=some (.ref a)∧aHh mg ns as
 | [],_=>True
 | _,_=>False
theorem tZ {mg:Str->Option Value}:∀ {ns:List Str}{as:List Addr},aHh mg ns as->∀ (j:Nat) x,ns[j]?=some x->mg x=some (.ref (as.getD j 0))
 | [],_,_,j,x,h=>by simp at h
 | _::_,[],e,_,_,_=>e.elim
 | n::ns,a::as,e,0,x,h=>by
  have:n=x:=by simpa using h
  rw[← this];exact e.1
 | n::ns,a::as,e,j+1,x,h=>tZ e.2 j x (by simpa using h)
structure Wd (K:PySem.W.Frag) (mg:Str->Option Value) (ds:Nat->Addr):Prop where
 m:∀ (j:Nat) x,nms[j]?=some x->mg x=some (.ref (ds j))
 ek:∀ i∈gL,xZ K (ds i)
 kit:∀ i∈gL,∀ j,j<14->PySem.W.kitOne K (.ref (ds i)) (.ref (ds j))=some (decide (i=j))
 ve:∀ i∈gL,PySem.W.kitOne K (.ref (ds i)) (.type "ValueError")=some true
 mve:mg "ValueError"=none
def tWd (K:PySem.W.Frag) (W:Str) (d:Addr):TE:=fun σ H Q=>∃ e C b,σ[0]?=some (some (.ref e))∧aBi H e C∧xZ K C∧PySem.W.kitOne K (.ref C) (.ref d)=some b ∧
 ∀ p H',aP H H'->H' p=some (.lst ((if b then [W] else []).map V.str))->Q (.ref p) H'
def uJ (i n:Nat):List Str:=(List.range n).filterMap fun j=>if i=j then nms[j]? else none
theorem lC (i n:Nat){W:Str}(h:nms[n]?=some W):uJ i (n+1)=uJ i n++(if decide (i=n) then [W] else []):=by
 unfold uJ;rw[List.range_succ,List.filterMap_append]
 by_cases e:i=n
 ·subst e; simp[h]
 ·simp[e]
theorem aDw (i n:Nat):(uJ i n).length<=n:=by
 unfold uJ;exact Nat.le_trans (List.length_filterMap_le ..) (by rw[List.length_range]; exact Nat.le_refl _)
theorem aMe {H:Hp}{l p:Addr}{o o':HO}(hl:H l=none) (hp:(upd H l o) p=none):aP H (upd (upd H l o) p o'):=fun b u e=>by
 have m1:b≠l:=aG e hl;have m2:b≠p:=aG (show (upd H l o) b=some u by rw[aI m1]; exact e) hp;rw[aI m2,aI m1];exact e
theorem iL {X:Cx}{W:Str}{d:Addr}{j:Nat}{p1 p2 p3 p4 p5 p6 p7 p8 p9:Pos}(hN:X.N[0]?=some ("_law_e" : Str)) (hv:Vis X.env.scope ("_law_e" : Str)) (gi:Gl X "int") (mi:X.mg "int" = none) (gs:Gl X "isinstance") (ms:X.mg "isinstance" = none)
  (gW:Gl X W) (mW:X.mg W=some (.ref d)) (hd:(W==("__debug__" : Str))=false) :
  PE X (.BinOp (.List [.Constant (.str W) j p1] p2) .Mult (.Call (.Name "int" p3) [.Call (.Name "isinstance" p4) [.Name "_law_e" p5,.Name W p6] [] p7] [] p8) p9) (tWd X.K W d):=
 PE.weak (aU aFl (dB (pac aY aJ)) (eS aDm gi mi Bo.int (pac (cJ uB gs ms Bo.isinstance (pac (qY hN hv) (pac (iM (v:=.ref d) gW mW rfl hd) aJ)) (he:=cL rfl) (hpl:=rfl)) aJ) (he:=cL rfl) (hpl:=rfl)))
  (fun σ H Q ⟨e,C,b,h0,hx,ek,kt,q⟩=>⟨by show 1<=sizeLine; decide,fun l hl=>⟨_,h0,e,C,_,_,b,rfl,aHu,(show upd H l _ e=_ by rw[aI (aG hx hl)]; exact hx),ek,kt,.inr ⟨_,rfl,l,_,_,rfl,rfl,aD,by cases b <;> decide,by cases b <;> decide,(by cases b <;> (show _<=16777216; simp)),fun p hp=>q p _ (aMe hl hp) (by rw[aD]; cases b <;> rfl)⟩⟩⟩)
def wdJ (e:Addr) (H:Hp) (i n:Nat) (σ:St) (H':Hp):Prop:=∃ p,σ=[some (.ref e),some (.ref p)]∧aP H H'∧H' p=some (.lst ((uJ i n).map V.str))
section
variable {K:PySem.W.Frag}{mg:Str->Option Value}{ds:Nat->Addr}(W:Wd K mg ds){i:Nat}(hi:i∈gL){e:Addr}{H:Hp}(hx:aBi H e (ds i))
include W hi hx
theorem aDu {D:rY}{v:Option V}:aEc (tOp aHx (tWd K "NoName" (ds 0)) (tWd K "NoDeed" (ds 1))) (dU 1) { D with nx:=wdJ e H i 2 } [some (.ref e),v] H:=by
 have ek:=W.ek i hi;refine⟨e,_,_,rfl,hx,ek,W.kit i hi 0 (by decide),fun p0 H0 s0 h0=>⟨e,_,_,rfl,s0 e _ hx,ek,W.kit i hi 1 (by decide),fun p1 H1 s1 h1=>⟨p0,p1,_,_,rfl,rfl,s1 _ _ h0,h1,?_,fun p hp=>⟨p,rfl,(s0.trans s1).trans (fun b u z=>by rw[aI (aG z hp)]; exact z),?_⟩⟩⟩⟩
 ·have sl:sizeLine=16777216:=sizeLine_eq
  have:∀ (b:Bool) (x:Str),((if b then [x] else []).map V.str).length<=1:=fun b x=>by cases b <;> simp
  have a1:=this (decide (i=0)) "NoName";have a2:=this (decide (i=1)) "NoDeed";omega
 ·rw[aD,lC i 1 (W:="NoDeed") rfl,lC i 0 (W:="NoName") rfl,List.map_append,List.map_append];rfl
theorem oC {D:rY}{n:Nat}{U U':Str}(hn:n+1<14) (h1:nms[n]?=some U) (h2:nms[n+1]?=some U'){σ:St}{H1:Hp}(J:wdJ e H i n σ H1) :
  aEc (tOp aHx (tOp aHx (aBp 1) (tWd K U (ds n))) (tWd K U' (ds (n+1)))) (dU 1) { D with nx:=wdJ e H i (n+2) } σ H1:=by
 obtain⟨p,rfl,sm,hp⟩:=J;have ek:=W.ek i hi;have sl:sizeLine=16777216:=sizeLine_eq;have l1:∀ (b:Bool) (x:Str),((if b then [x] else []).map V.str).length<=1:=fun b x=>by cases b <;> simp
 have l2:=aDw i n;refine⟨_,rfl,e,_,_,rfl,sm e _ hx,ek,W.kit i hi n (by omega),fun pa Ha sa ha=>⟨p,pa,_,_,rfl,rfl,sa _ _ hp,ha,?_,fun pc hpc=>?_⟩⟩
 ·have:=l1 (decide (i=n)) U
  rw[List.length_map];omega
 have sc:aP Ha (upd Ha pc (.lst ((uJ i n).map V.str++(if decide (i=n) then [U] else []).map V.str))):=fun b u z=>by rw[aI (aG z hpc)]; exact z
 refine⟨e,_,_,rfl,sc e _ (sa e _ (sm e _ hx)),ek,W.kit i hi (n+1) hn,fun pb Hb sb hb=>⟨pc,pb,_,_,rfl,rfl,sb _ _ aD,hb,?_,fun pd hpd=>⟨pd,rfl,(((sm.trans sa).trans sc).trans sb).trans (fun b u z=>by rw[aI (aG z hpd)]; exact z),?_⟩⟩⟩
 ·have a1:=l1 (decide (i=n)) U;have a2:=l1 (decide (i=n+1)) U';rw[List.length_append,List.length_map];omega
 ·rw[aD,lC i (n+1) h2,lC i n h1,List.map_append,List.map_append]
end
section
variable {P:Program}{w:World}{K:PySem.W.Frag}{mg:Str->Option Value}{base:Heap}
abbrev NW:List Str:=["_law_e","_law_words"]
theorem wD:aS NW ["_law_e"] (aB tJ):=⟨rfl,rfl,rfl,by decide +kernel,rfl,by decide +kernel,by decide +kernel⟩
theorem aDx:∀ i∈gL,∀ x,nms[i]?=some x->uJ i 14=[x]:=by
 intro i hi x hx
 have:∀ i∈gL,uJ i 14=(nms[i]?).toList:=by decide +kernel
 rw[this i hi,hx];rfl
theorem aId {f:Addr}{fd:FuncData}{ds:Nat->Addr}(F:Fun K "_law_word" "_law_word" tJ f fd) (T:Txt K mg) (W:Wd K mg ds):xY P w K mg base 1 f fd ["_law_e"] (yF (oB ds)):=by
 refine F.okU wD (fun vs H Q E h=>?_) (fun cdv A outer s H vs Q hr h=>?_)
 ·obtain⟨e,C,x,rfl,_⟩:=h;rfl
 ·obtain⟨e,C,x,rfl,hx,hw,q⟩:=h;obtain⟨i,hi,rfl,hnm⟩:=sO hw
  refine⟨_,dY (wdJ e H i 2) (bU (i:=1) wD.nd rfl (Or.inl rfl) (aU dP (iL (W:="NoName") rfl (Or.inl rfl) rfl T.int rfl T.isi rfl (W.m 0 _ rfl) (by decide)) (iL (W:="NoDeed") rfl (Or.inl rfl) rfl T.int rfl T.isi rfl (W.m 1 _ rfl) (by decide))))
   (dY (wdJ e H i 4) (bU (i:=1) wD.nd rfl (Or.inl rfl) (aU dP (aU dP (pv 1) (iL (W:="NoRoom") rfl (Or.inl rfl) rfl T.int rfl T.isi rfl (W.m 2 _ rfl) (by decide))) (iL (W:="TwiceTold") rfl (Or.inl rfl) rfl T.int rfl T.isi rfl (W.m 3 _ rfl) (by decide))))
   (dY (wdJ e H i 6) (bU (i:=1) wD.nd rfl (Or.inl rfl) (aU dP (aU dP (pv 1) (iL (W:="TooMany") rfl (Or.inl rfl) rfl T.int rfl T.isi rfl (W.m 4 _ rfl) (by decide))) (iL (W:="NoRule") rfl (Or.inl rfl) rfl T.int rfl T.isi rfl (W.m 5 _ rfl) (by decide))))
   (dY (wdJ e H i 8) (bU (i:=1) wD.nd rfl (Or.inl rfl) (aU dP (aU dP (pv 1) (iL (W:="NoRow") rfl (Or.inl rfl) rfl T.int rfl T.isi rfl (W.m 6 _ rfl) (by decide))) (iL (W:="NoHold") rfl (Or.inl rfl) rfl T.int rfl T.isi rfl (W.m 7 _ rfl) (by decide))))
   (dY (wdJ e H i 10) (bU (i:=1) wD.nd rfl (Or.inl rfl) (aU dP (aU dP (pv 1) (iL (W:="NoHolder") rfl (Or.inl rfl) rfl T.int rfl T.isi rfl (W.m 8 _ rfl) (by decide))) (iL (W:="FreeDeed") rfl (Or.inl rfl) rfl T.int rfl T.isi rfl (W.m 9 _ rfl) (by decide))))
   (dY (wdJ e H i 12) (bU (i:=1) wD.nd rfl (Or.inl rfl) (aU dP (aU dP (pv 1) (iL (W:="NotNow") rfl (Or.inl rfl) rfl T.int rfl T.isi rfl (W.m 10 _ rfl) (by decide))) (iL (W:="NoWarden") rfl (Or.inl rfl) rfl T.int rfl T.isi rfl (W.m 11 _ rfl) (by decide))))
   (dY (wdJ e H i 14) (bU (i:=1) wD.nd rfl (Or.inl rfl) (aU dP (aU dP (pv 1) (iL (W:="NoText") rfl (Or.inl rfl) rfl T.int rfl T.isi rfl (W.m 12 _ rfl) (by decide))) (iL (W:="NoBook") rfl (Or.inl rfl) rfl T.int rfl T.isi rfl (W.m 13 _ rfl) (by decide))))
   (aK (dL (nM (cC aFm (cJ eA (by rfl) T.len Bo.len (pac (pv 1) aJ)) aN (cM _))
     (mO (hZ (jH (cJ uB (by rfl) T.isi Bo.isinstance (pac (pv 0) (pac (uU (v:=.ty "ValueError") (by rfl) W.mve aNz rfl) aJ))))))).pt
    (aL (bV aY)) cF)
   (aL (bV (cZ cQ (pv 1) aN (fun _ _=>rfl))))))))))),?_⟩
  refine⟨aDu W hi hx,fun σ1 K1 J1=>⟨oC W hi hx (n:=2) (by decide) rfl rfl J1,fun σ2 K2 J2=>⟨oC W hi hx (n:=4) (by decide) rfl rfl J2,fun σ3 K3 J3=>⟨oC W hi hx (n:=6) (by decide) rfl rfl J3,fun σ4 K4 J4=>⟨oC W hi hx (n:=8) (by decide) rfl rfl J4,
   fun σ5 K5 J5=>⟨oC W hi hx (n:=10) (by decide) rfl rfl J5,fun σ6 K6 J6=>⟨oC W hi hx (n:=12) (by decide) rfl rfl J6,fun σ7 K7 J7=>?_⟩⟩⟩⟩⟩⟩⟩
  obtain⟨p,rfl,sm,hp⟩:=J7;rw[aDx i hi x hnm] at hp;exact⟨_,rfl,p,_,rfl,.inl (SqL.of hp),rfl,_,rfl,fZ ⟨_,rfl,e,_,_,_,_,rfl,uQ,sm e _ hx,W.ek i hi,W.ve _ hi,_,rfl,fZ ⟨_,rfl,p,_,_,_,rfl,rfl,SqL.of hp,rfl,q K7 sm⟩⟩⟩
end
end K21
namespace K21
open PySem L2 Ky
seal L2.PE L2.PS L2.PSs L2.PA L2.PT L2.PW L2.PG L2.PI L2.PTs L2.PO L2.PPs L2.OpR L2.IxR L2.CallR L2.MtM L2.MtR
theorem aAy:∀ x y:List Nat,PySem.Spec.ltCps x y=false->PySem.Spec.ltCps y x=false->x=y
 | [],[],_,_=>rfl
 | [],_::_,h,_=>by simp[PySem.Spec.ltCps] at h
 | _::_,[],_,h=>by simp[PySem.Spec.ltCps] at h
 | a::r,b::t,h,h'=>by
  simp only[PySem.Spec.ltCps,Bool.or_eq_false_iff,decide_eq_false_iff_not,Bool.and_eq_false_iff,beq_eq_false_iff_ne] at h h';have e:a=b:=by omega
  subst e;have h1:PySem.Spec.ltCps r t=false:=by rcases h.2 with z | z; exact absurd rfl z; exact z
  have h2:PySem.Spec.ltCps t r=false:=by rcases h'.2 with z | z; exact absurd rfl z; exact z
  rw[aAy r t h1 h2]
theorem aJx:∀ x y z:List Nat,PySem.Spec.ltCps y x=false->PySem.Spec.ltCps z y=false->PySem.Spec.ltCps z x=false
 | [],_,[],_,_=>rfl
 | [],_,_::_,_,_=>rfl
 | _::_,[],_,h,_=>by simp[PySem.Spec.ltCps] at h
 | _::_,_::_,[],_,h=>by simp[PySem.Spec.ltCps] at h
 | a::r,b::t,c::u,h,h'=>by
  simp only[PySem.Spec.ltCps,Bool.or_eq_false_iff,decide_eq_false_iff_not,Bool.and_eq_false_iff,beq_eq_false_iff_ne] at h h' ⊢;refine⟨by omega,?_⟩
  by_cases e:c=a
  ·refine .inr ?_;have h1:PySem.Spec.ltCps t r=false:=by rcases h.2 with z | z; exact absurd (by omega) z; exact z
   have h2:PySem.Spec.ltCps u t=false:=by rcases h'.2 with z | z; exact absurd (by omega) z; exact z
   exact aJx r t u h1 h2
  ·exact .inl e
abbrev leS (a b:Str):Prop:=PySem.Spec.ltCps b.cps.toList a.cps.toList=false
theorem qU:∀ (r:List Str) (p:Str),PyProof.Rows.risingS p r=true->(∀ z∈r,leS p z)∧r.Pairwise leS
 | [],_,_=>⟨fun _ h=>absurd h (by simp),List.Pairwise.nil⟩
 | x::r,p,h=>by
  simp only[PyProof.Rows.risingS,Bool.and_eq_true,Bool.not_eq_true'] at h;obtain⟨h1,h2⟩:=qU r x h.2;refine⟨fun z hz=>?_,.cons h1 h2⟩;rcases List.mem_cons.mp hz with rfl | hz
  ·exact h.1
  ·exact aJx _ _ _ h.1 (h1 z hz)
theorem oK {l:List Str}(h:PyProof.Rows.sortedS l=true):l.Pairwise leS:=by
 cases l with
 | nil=>exact .nil
 | cons x r=>
  obtain⟨h1,h2⟩:=qU r x h;exact .cons h1 h2
theorem aAu:∀ (l m:List Str),l.Perm m->l.Pairwise leS->m.Pairwise leS->l=m
 | [],m,p,_,_=>(List.Perm.nil_eq p)
 | a::r,[],p,_,_=>by have:=p.length_eq; simp at this
 | a::r,b::t,p,h,h'=>by
  have e:a=b:=by
   by_cases e:a=b
   ·exact e
   ·have h1:a∈t:=by
     rcases List.mem_cons.mp (p.mem_iff.mp (List.mem_cons_self ..)) with z | z
     ·exact absurd z e
     ·exact z
    have h2:b∈r:=by
     rcases List.mem_cons.mp (p.mem_iff.mpr (List.mem_cons_self ..)) with z | z
     ·exact absurd z.symm e
     ·exact z
    have g1:leS a b:=List.rel_of_pairwise_cons h h2;have g2:leS b a:=List.rel_of_pairwise_cons h' h1;have g:=aAy _ _ g2 g1;obtain⟨⟨x⟩⟩:=a;obtain⟨⟨y⟩⟩:=b;have g':x=y:=g;rw[g']
  subst e;rw[aAu r t p.cons_inv (List.Pairwise.of_cons h) (List.Pairwise.of_cons h')]
theorem yG {l m s:List Str}(p:l.Perm s) (q:m.Perm s) (h:PyProof.Rows.sortedS l=true) (h':PyProof.Rows.sortedS m=true):l=m:=
 aAu l m (p.trans q.symm) (oK h) (oK h')
def aAx (r s k:Nat):Str:=gM.getD ((r+s*k)%12) ""
theorem aIo (c:Int) (m:Nat):((c+(m:Int))%12).toNat=((c%12).toNat+m)%12:=by
 have h:=cE c (m:=12) (by decide);have e:c%12=((c%12).toNat:Int):=(Int.toNat_of_nonneg h.1).symm;generalize (c%12).toNat=r at e;rw[← Int.emod_add_emod,e,← Int.natCast_add];exact congrArg Int.toNat (Int.natCast_emod (r+m) 12).symm
theorem aFy (c:Int) (k:Nat):oQ c k=aAx (c%12).toNat (gB c).toNat k:=by
 unfold oQ aAx;congr 1;rcases jF c with e | e | e | e
 ·rw[e];exact aIo c (1*k)
 ·rw[e];exact aIo c (5*k)
 ·rw[e];exact aIo c (7*k)
 ·rw[e];exact aIo c (11*k)
theorem kH {α:Type}{p:List α->Prop}(h:∀ a,p [a]):∀ us:List α,us.length=1->p us
 | [a],_=>h a
theorem lQ {α:Type}{p:List α->Prop}(h:∀ a b,p [a,b]):∀ us:List α,us.length=2->p us
 | [a,b],_=>h a b
theorem xJ {α:Type}{p:List α->Prop}(h:∀ a b c,p [a,b,c]):∀ us:List α,us.length=3->p us
 | [a,b,c],_=>h a b c
theorem aLe:∀ r,r<12->∀ s∈([1,5,7,11]:List Nat),((List.range 12).map (aAx r s)).Nodup:=by decide +kernel
theorem yH:∀ z∈gM,bX z=true:=by decide +kernel
theorem zH (c:Int) (k:Nat):oQ c k∈gM:=by
 unfold oQ;have h:=cE (c+gB c*k) (m:=12) (by decide);have hl:((c+gB c*k)%12).toNat<gM.length:=by show _<12; omega
 rw[List.getD_eq_getElem?_getD,List.getElem?_eq_getElem hl];exact List.getElem_mem hl
theorem xB {c:Int}{n:Nat}{z:Str}(h:z∈dZ c n):z∈gM:=by
 obtain⟨k,_,rfl⟩:=List.mem_map.mp h;exact zH c k
theorem sG (c:Int){n:Nat}(hn:n<=12):(dZ c n).Nodup:=by
 have h:=cE c (m:=12) (by decide);have hs:(gB c).toNat∈([1,5,7,11]:List Nat):=by rcases jF c with e | e | e | e <;> rw[e] <;> decide
 have hN:=aLe (c%12).toNat (by omega) _ hs
 have e:dZ c n=((List.range 12).map (aAx (c%12).toNat (gB c).toNat)).take n:=by
  unfold dZ;rw[← List.map_take,List.take_range,Nat.min_eq_left hn];exact List.map_congr_left fun k _=>aFy c k
 rw[e];exact hN.sublist (List.take_sublist n _)
theorem wC:∀ (pre seen suf:List Str),(∀ z∈pre,bX z=true)->(seen++pre).Nodup->sB seen (pre++suf)=sB (seen++pre) suf
 | [],seen,suf,_,_=>by simp
 | z::r,seen,suf,h,hn=>by
  show (if bX z=true then (if z∈seen then some Why.twice else sB (seen++[z]) (r++suf)) else some .noName)=_
  have hz:z∉seen:=fun m=>by
   have:=(List.nodup_append.mp hn).2.2 z m z (List.mem_cons_self ..)
   exact this rfl
  rw[if_pos (h z (List.mem_cons_self ..)),if_neg hz,wC r (seen++[z]) suf (fun y hy=>h y (List.mem_cons_of_mem _ hy)) (by simpa using hn)]
  simp
theorem yP {ss:List Str}(h:ss.length<=12) (hn:∀ z∈ss,bX z=true) (hd:ss.Nodup):iJ ss=none:=by
 unfold iJ;rw[if_neg (by omega)]
 have:=wC ss [] [] hn (by simpa using hd)
 rw[List.append_nil] at this;rw[this];rfl
theorem zQ {c:Int}{ss:List Str}{z:Str}(h:z∈pI c ss):z∈ss:=by
 unfold pI at h;obtain⟨k,_,e⟩:=List.mem_filterMap.mp h;split at e
 ·exact List.mem_of_getElem? e
 ·cases e
theorem zR (c:Int) (ss:List Str):(pI c ss).length<=ss.length:=by
 unfold pI;exact Nat.le_trans (List.length_filterMap_le ..) (by rw[List.length_range]; exact Nat.le_refl _)
theorem aGx {ss fs:List Str}(h:ss.length<=12) (hn:∀ z∈ss,bX z=true) (hd:ss.Nodup) (hf:∀ z∈fs,z∈ss):kU ss fs=none:=by
 unfold kU;rw[yP h hn hd];exact if_pos (List.all_eq_true.mpr fun z hz=>by rw[hn z (hf z hz),decide_eq_true (hf z hz)]; rfl)
end K21
namespace K21
open PySem L2 Ky
seal L2.PE L2.PS L2.PSs L2.PA L2.PT L2.PW L2.PG L2.PI L2.PTs L2.PO L2.PPs L2.OpR L2.IxR L2.CallR L2.MtM L2.MtR
unseal L2.MtM L2.MtR
section
variable {P:Program}{w:World}{K:PySem.W.Frag}{mg:Str->Option Value}{base:Heap}
theorem aEs:aS ["begin","ends","doors","rooms","room","deed","far"] ["begin","ends","doors"] (aB oM):=⟨rfl,rfl,rfl,by decide +kernel,rfl,by decide +kernel,by decide +kernel⟩
theorem aFp {f:Addr}{fd:FuncData}(F:Fun K "named_rooms" "named_rooms" oM f fd):aX P w K mg base CX0 1 f fd ["begin","ends","doors"] aAi:=by
 refine F.ok aEs (fun vs H Q E h=>?_) (fun cdv A outer s H vs Q E hr h=>?_)
 ·obtain⟨b,e,d,es,ds,rfl,_⟩:=h;rfl
 ·obtain⟨b,e,d,es,ds,rfl,hE,hD,hle,hld,q⟩:=h
  refine⟨_,aK (bU (i:=3) aEs.nd rfl (Or.inl rfl) (dB (pac (pv 0) aJ)))
   (aK (cW (jQ PySem.F.plainAttrs_list PySem.F.slot_list_extend PySem.F.type_list_extend oR (pv 3) (pac (pv 1) aJ)))
   (aK (eG PassesOwn.never rfl (cS (pv 2)) (eQ rfl (aW (aO (i:=4) aEs.nd rfl (Or.inl rfl)) (aW (aO (i:=5) aEs.nd rfl (Or.inl rfl)) (aW (aO (i:=6) aEs.nd rfl (Or.inl rfl)) dM))))
    (aK (cW (jQ PySem.F.plainAttrs_list PySem.F.slot_list_append PySem.F.type_list_append eE (pv 3) (pac (pv 4) aJ)))
    (aL (cW (jQ PySem.F.plainAttrs_list PySem.F.slot_list_append PySem.F.type_list_append eE (pv 3) (pac (pv 6) aJ))))))
   (aL (bV (pv 3))))),?_⟩
  obtain⟨ts,hd,htl,htt⟩:=hD.ex;refine⟨_,rfl,by show 1<=sizeLine; decide,fun p hp=>⟨_,rfl,.inl ⟨rfl,_,SqL.of aD⟩,_,rfl,p,e,_,_,rfl,rfl,aD,smu hp _ _ hE,jW (by rw[List.length_map]; show 1+_<=_; omega),?_⟩⟩;have s0:aP H _:=smu (o:=.lst [.str b]) hp;have s1:∀ ys,aP H (upd (upd H p (.lst [.str b])) p (.lst ys)):=fun ys c o h=>by rw[aI (aG h hp)]; exact s0 c o h
  refine⟨_,rfl,d,rfl,⟨_,SqL.of (s1 _ _ _ hd)⟩,?_⟩;refine dQ (xs:=ts.map V.ref) (fun i σ H'=>∃ x4 x5 x6,σ=[some (.str b),some (.ref e),some (.ref d),some (.ref p),x4,x5,x6]∧H' p=some (.lst ((b::es++eF (ds.take i)).map V.str))∧aP H H') ?_ ?_ ?_ ?_
  ·refine⟨none,none,none,rfl,?_,s1 _⟩;rw[aD];show some (HO.lst ([V.str b]++es.map V.str))=some (HO.lst ((b::es++[]).map V.str));rw[List.append_nil];rfl
  ·rintro i σ H' _ ⟨x4,x5,x6,rfl,h1,h2⟩;exact SqL.of (h2 _ _ hd)
  ·rintro i x σ H' hx ⟨x4,x5,x6,rfl,h1,h2⟩;rw[List.getElem?_map] at hx;cases ht:ts[i]? with
   | none=>rw[ht] at hx; cases hx
   | some t=>
    rw[ht] at hx;cases hx;have hi:i<ds.length:=by rw[← htl]; exact (List.getElem?_eq_some_iff.mp ht).1
    have hz:ds[i]?=some ds[i]:=List.getElem?_eq_getElem hi;generalize ds[i]=z at hz;have e1:=rR hz;have hl:(eF (ds.take i)).length<=2000:=by rw[lX,List.length_take]; omega
    refine⟨t,_,rfl,SqT.of (h2 _ _ (htt i t z ht hz)),rfl,_,_,rfl,_,_,rfl,_,_,rfl,rfl,?_⟩;refine⟨_,rfl,.inl ⟨rfl,_,SqL.of h1⟩,_,rfl,p,_,_,rfl,rfl,h1,?_,?_⟩
    ·rw[List.length_map,List.length_append,List.length_cons];exact Nat.lt_of_le_of_lt (m:=3001) (by omega) (by decide)
    refine⟨_,rfl,.inl ⟨rfl,_,SqL.of aD⟩,_,rfl,p,_,_,rfl,rfl,aD,?_,?_⟩
    ·rw[List.length_append,List.length_map,List.length_append,List.length_cons];exact Nat.lt_of_le_of_lt (m:=3002) (by show _+1<=_; omega) (by decide)
    refine⟨_,_,_,rfl,?_,fun c o h=>?_⟩
    ·rw[aD,e1]
     simp
    ·rw[aI (aG h hp),aI (aG h hp)];exact h2 c o h
  ·rintro σ H' ⟨x4,x5,x6,rfl,h1,h2⟩;rw[List.length_map,htl,List.take_length] at h1;exact⟨_,rfl,q p H' h2 hp h1⟩
end
theorem aMp:aS ["rooms","room"] ["rooms"] (aB gQ):=⟨rfl,rfl,rfl,by decide +kernel,rfl,by decide +kernel,by decide +kernel⟩
section
variable {P:Program}{w:World}{K:PySem.W.Frag}{mg:Str->Option Value}{base:Heap}
theorem wU {f fN:Addr}{fd fdN:FuncData}{cl:Why->Addr}(F:Fun K "refuse_rooms" "refuse_rooms" gQ f fd) (T:Txt K mg) (Ex:Exc K mg cl)
  (FN:Fun K "is_name" "is_name" jP fN fdN) (bN:bJ K fdN ["thing"] []) (mN:mg "is_name" = some (.ref fN)) :
  aX P w K mg base (CXE P w) 2 f fd ["rooms"] (qO K cl):=by
 have GN:aX P w K mg base CX0 1 fN fdN ["thing"] (qP K):=qE FN T;refine okE F aMp (fun vs H Q E h=>?_) (fun cdv A outer s H vs Q E hr h D=>?_)
 ·obtain⟨a,ss,rfl,_⟩:=h;rfl
 ·obtain⟨a,ss,rfl,hS,hsh,q⟩:=h
  refine⟨_,aL (eG PassesOwn.leaving rfl (cS (pv 0)) (aO (i:=1) aMp.nd rfl (Or.inl rfl))
    (aL (dL (hZ (jH (aZ GN hr rfl mN FN.kp bN .nil bY (pac (pv 1) aJ)))) (aL (iZ D rfl (by rfl) Ex.nn (Ex.x .noName) (pac aY aJ))) cF))),?_⟩
  refine⟨_,rfl,a,rfl,⟨_,hS⟩,?_⟩;refine dQ (xs:=ss.map V.str) (fun i σ H'=>∃ nv,σ=[some (.ref a),nv]∧aP H H'∧(ss.take i).all bX=true) ?_ ?_ ?_ ?_
  ·exact⟨none,rfl,aP.refl H,rfl⟩
  ·rintro i σ H' _ ⟨nv,rfl,h1,h2⟩;exact h1.seq hS
  ·rintro i x σ H' hx ⟨nv,rfl,h1,h2⟩;rw[List.getElem?_map] at hx;cases hz:ss[i]? with
   | none=>rw[hz] at hx; cases hx
   | some z=>
    rw[hz] at hx;cases hx;obtain⟨hi,hzi⟩:=List.getElem?_eq_some_iff.mp hz;have hzl:z.length<=1000:=hsh z (List.mem_of_getElem? hz);refine⟨_,rfl,.str z,rfl,.inl ⟨z,rfl,Nat.le_of_lt (aQ hzl),fun H2 sm2=>⟨_,rfl,?_⟩⟩⟩
    by_cases hn:bX z=true
    ·rw[hn];refine fZ ⟨some (.str z),rfl,h1.trans sm2,?_⟩;rw[List.take_succ,hz,List.all_append,h2];show (true&&(bX z&&true))=true;rw[hn];rfl
    ·rw[Bool.eq_false_iff.mpr hn];refine kO ⟨by show 1<=sizeLine; decide,?_⟩
     have:=q H2 (h1.trans sm2)
     rw[sL h2,List.drop_eq_getElem_cons hi,hzi] at this;unfold iE at this;rw[if_neg (by rw[List.all_cons,Bool.eq_false_iff.mpr hn]; exact Bool.false_ne_true)] at this;exact this
  ·rintro σ H' ⟨nv,rfl,h1,h2⟩;rw[List.length_map,List.take_length] at h2
   have:=q H' h1
   unfold iE at this;rw[if_pos h2] at this;exact this
end
theorem aBw:aS ["rooms","doors","leads","room","deed","far"] ["rooms","doors"] (aB oO):=⟨rfl,rfl,rfl,by decide +kernel,rfl,by decide +kernel,by decide +kernel⟩
section
variable {P:Program}{w:World}{K:PySem.W.Frag}{mg:Str->Option Value}{base:Heap}
theorem aFu {f:Addr}{fd:FuncData}(F:Fun K "leads_of" "leads_of" oO f fd):aX P w K mg base CX0 1 f fd ["rooms","doors"] (aAm K):=by
 refine F.ok aBw (fun vs H Q E h=>?_) (fun cdv A outer s H vs Q E hr h=>?_)
 ·obtain⟨a,d,rs,ds,rfl,_⟩:=h;rfl
 ·obtain⟨a,d,rs,ds,rfl,hR,hD,hlr,hld,hin,hap,q⟩:=h;have hu:=jB hr
  refine⟨_,aK (bU (i:=2) aBw.nd rfl (Or.inl rfl) kE)
   (aK (eG PassesOwn.never rfl (cS (pv 0)) (aO (i:=3) aBw.nd rfl (Or.inl rfl)) (aL (lL hu (pv 2) (pv 3) kE rfl)))
   (aK (eG PassesOwn.never rfl (cS (pv 1)) (eQ rfl (aW (aO (i:=3) aBw.nd rfl (Or.inl rfl)) (aW (aO (i:=4) aBw.nd rfl (Or.inl rfl)) (aW (aO (i:=5) aBw.nd rfl (Or.inl rfl)) dM))))
    (aK (dL (qV (rB hu (pv 4) (jK hu (pv 2) (pv 3) (fun _ _=>rfl)))) (aL uR) cF)
    (aL (lL hu (jK hu (pv 2) (pv 3) (fun _ _=>rfl)) (pv 4) (pv 5) rfl))))
   (aL (bV (pv 2))))),?_⟩
  obtain⟨ts,hd,htl,htt⟩:=hD.ex;intro l hl;have s0:aP H (upd H l (.dK [])):=smu hl;refine⟨_,rfl,a,rfl,⟨_,s0.seq hR⟩,?_⟩;refine dQ (xs:=rs.map V.str) (fun i σ H'=>∃ x3 kvs g,σ=[some (.ref a),some (.ref d),some (.ref l),x3,none,none]∧eB H' l (rs.take i) [] kvs g∧(∀ z∈rs.take i,H (g z)=none)∧kvs.length<=i∧aP H H') ?_ ?_ ?_ ?_
  ·exact⟨none,[],fun _=>0,rfl,⟨aD,rfl,fun z hz=>(nomatch hz),fun z hz=>(nomatch hz),fun z hz=>(nomatch hz),fun z hz=>(nomatch hz)⟩,fun z hz=>(nomatch hz),Nat.le_refl _,s0⟩
  ·rintro i σ H' _ ⟨x3,kvs,g,rfl,L,hg,hk,sm⟩;exact sm.seq hR
  ·rintro i x σ H' hx ⟨x3,kvs,g,rfl,L,hg,hk,sm⟩;rw[List.getElem?_map] at hx;cases hz:rs[i]? with
   | none=>rw[hz] at hx; cases hx
   | some z=>
    rw[hz] at hx;cases hx;have hi:i<rs.length:=(List.getElem?_eq_some_iff.mp hz).1;have et:rs.take (i+1)=rs.take i++[z]:=by rw[List.take_succ,hz]; rfl
    intro c hc;have cl:c≠l:=fun e=>by rw[e,L.dk] at hc; cases hc
    have hcH:H c=none:=by
     cases e:H c with
     | none=>rfl
     | some o=>rw[sm _ _ e] at hc; cases hc
    refine⟨_,rfl,_,rfl,l,_,rfl,pZ.k (k:=Sum.inr z) (by rw[aI (Ne.symm cl)]; exact L.dk) (aQ (by omega)),?_⟩;refine⟨_,_,_,rfl,by rw[et]; exact L.more hc z,fun y hy=>?_,?_,fun b o e=>?_⟩
    ·rw[et] at hy
     by_cases e:y=z
     ·show H (if y=z then c else g y)=none
      rw[if_pos e]; exact hcH
     ·show H (if y=z then c else g y)=none
      rw[if_neg e];exact hg y ((List.mem_append.mp hy).resolve_right fun w=>e (List.mem_singleton.mp w))
    ·exact Nat.le_trans (dS _ _ _) (Nat.succ_le_succ hk)
    ·rw[aI (aG e hl),aI (aG e hcH)];exact sm b o e
  ·rintro σ H1 ⟨x3,kvs,g,rfl,L,hg,hk,sm⟩;rw[List.length_map,List.take_length] at L hg;refine⟨_,rfl,d,rfl,⟨_,SqL.of (sm _ _ hd)⟩,?_⟩;refine dQ (xs:=ts.map V.ref) (fun i σ H'=>∃ x3 x4 x5,σ=[some (.ref a),some (.ref d),some (.ref l),x3,x4,x5]∧eB H' l rs (ds.take i) kvs g∧aP H H') ?_ ?_ ?_ ?_
   ·exact⟨_,_,_,rfl,L,sm⟩
   ·rintro i σ H' _ ⟨x3,x4,x5,rfl,h1,h2⟩;exact SqL.of (h2 _ _ hd)
   ·rintro i x σ H' hx ⟨x3,x4,x5,rfl,L',sm'⟩;rw[List.getElem?_map] at hx;cases ht:ts[i]? with
    | none=>rw[ht] at hx; cases hx
    | some t=>
     rw[ht] at hx;cases hx;have hi:i<ds.length:=by rw[← htl]; exact (List.getElem?_eq_some_iff.mp ht).1
     have hz:ds[i]?=some ds[i]:=List.getElem?_eq_getElem hi;generalize ds[i]=z at hz;have zin:=hin z (List.mem_of_getElem? hz)
     have gv:fV H' l (.str z.1) (some (.ref (g z.1))):=by
      have:=fV.k (k:=Sum.inr z.1) L'.dk
      rw[L'.val _ zin] at this;exact this
     have gi:=fV.k (k:=Sum.inr z.2.1) (L'.dd _ zin);rw[xL (hap.at hz)] at gi;refine⟨t,_,rfl,SqT.of (sm' _ _ (htt i t z ht hz)),rfl,_,_,rfl,_,_,rfl,_,_,rfl,rfl,?_⟩;refine⟨_,rfl,_,rfl,_,rfl,l,_,rfl,gv,g z.1,none,rfl,gi,_,rfl,fZ ?_⟩;refine⟨_,rfl,_,rfl,_,rfl,l,_,rfl,gv,_,rfl,g z.1,_,rfl,pZ.k (k:=Sum.inr z.2.1) (L'.dd _ zin) (aQ (Nat.le_trans (aIx _ _) (by rw[List.length_take]; omega))),?_⟩;refine⟨_,_,_,rfl,L'.door hz zin hap,fun b o e=>?_⟩;rw[aI (aG e (hg _ zin))];exact sm' b o e
   ·rintro σ H' ⟨x3,x4,x5,rfl,h1,h2⟩;rw[List.length_map,htl,List.take_length] at h1;exact⟨_,rfl,q l kvs g H' h2 hl hg h1⟩
end
end K21
namespace K21
open PySem L2 Ky
seal L2.PE L2.PS L2.PSs L2.PA L2.PT L2.PW L2.PG L2.PI L2.PTs L2.PO L2.PPs L2.OpR L2.IxR L2.CallR L2.MtM L2.MtR
unseal L2.MtM L2.MtR
abbrev NMI:List Str:=["self","deeds","begin","ends","doors","more","rooms","known"]
theorem aKo:aS NMI ["self","deeds","begin","ends","doors","more"] (aB gO):=⟨rfl,rfl,rfl,by decide +kernel,rfl,by decide +kernel,by decide +kernel⟩
section
variable {P:Program}{w:World}{K:PySem.W.Frag}{mg:Str->Option Value}{base:Heap}
theorem aFs {f fN fR fL fK fQ C CM:Addr}{fd fdN fdR fdL fdK fdQ:FuncData}{cl:Why->Addr}(F:aHf K "__init__" "Machine.__init__" gO f fd) (T:Txt K mg) (DC:aDq K C) (MC:pN K CM)
  (mMR:∃ t,mg "MOST_ROOMS"=some (.int 60 t))
  (GN:aX P w K mg base CX0 1 fN fdN ["begin","ends","doors"] aAi) (kN:PySem.W.keepIn K (.ref fN)=true) (bN:bJ K fdN ["begin","ends","doors"] []) (mN:mg "named_rooms" = some (.ref fN))
  (GR:aX P w K mg base (CXE P w) 2 fR fdR ["rooms"] (qO K cl)) (kR:PySem.W.keepIn K (.ref fR)=true) (bR:bJ K fdR ["rooms"] []) (mR:mg "refuse_rooms" = some (.ref fR))
  (GL:aX P w K mg base CX0 1 fL fdL ["rooms","doors"] (aAm K)) (kL:PySem.W.keepIn K (.ref fL)=true) (bL:bJ K fdL ["rooms","doors"] []) (mL:mg "leads_of" = some (.ref fL))
  (GK:aX P w K mg base CX0 1 fK fdK ["names"] (qB K)) (kK:PySem.W.keepIn K (.ref fK)=true) (bK:bJ K fdK ["names"] []) (mK:mg "marks_of" = some (.ref fK))
  (GQ:aX P w K mg base (CXE P w) 3 fQ fdQ ["self","row"] (lF K C cl)) (bQ:bJ K fdQ ["self","row"] []) (mQ:eJ K C "require" fQ) :
  aX P w K mg base (CXE P w) 4 f fd ["self","deeds","begin","ends","doors","more"] (aAk K C CM):=by
 obtain⟨tr,mMR⟩:=mMR;refine aMy F aKo (fun vs H Q E h=>?_) (fun cdv A outer s H vs Q E hr h D=>?_)
 ·obtain⟨x,dd,e,d,dx,b,y,es,ms,ds,wk,rfl,_⟩:=h;rfl
 ·obtain⟨x,dd,e,d,dx,b,y,es,ms,ds,wk,rfl,hx,hW,hE,hD,hM,⟨hle,hld,hlm⟩,hnm,hgd,hsh,hap,h60,q⟩:=h;have hr1:cY 1 _:=hr.mono (by decide);have hr2:cY 2 _:=hr.mono (by decide)
  refine⟨_,aK (bU (i:=6) aKo.nd rfl (Or.inl rfl) (aZ GN hr1 rfl mN kN bN .nil bY (pac (pv 2) (pac (pv 3) (pac (pv 4) aJ)))))
   (aK (cW (aZ GR hr2 rfl mR kR bR .nil (D.passes fun _ _ _ z=>z) (pac (pv 6) aJ)))
   (aK (gD (i:=7) (N':=["room","deed","far"]) (nown:=3) (js:=[]) rfl aKo.nd rfl rfl rfl
     ⟨rfl,by decide +kernel,by decide +kernel⟩ (cG (aB gO) NMI rfl rfl (by decide +kernel))
     ⟨fun _ _ _ _=>show PG _ _ (sI K 3 (eV (dU 0) (eV (dU 1) (eV (dU 2) sJ)))) from eQ rfl (aW (aO (i:=0) (show List.Nodup (["room","deed","far"]:List Str) by decide +kernel) rfl (Or.inl rfl) (.inr rfl)) (aW (aO (i:=1) (show List.Nodup (["room","deed","far"]:List Str) by decide +kernel) rfl (Or.inl rfl) (.inr rfl)) (aW (aO (i:=2) (show List.Nodup (["room","deed","far"]:List Str) by decide +kernel) rfl (Or.inl rfl) (.inr rfl)) dM))),
      fun _ _ _ _=>dJ,fun _ _ _ _=>pv 1⟩
     (cS (pv 4)))
   (dY (fun σ H'=>∃ p c,σ=[some (.ref x),some (.ref dd),some (.str b),some (.ref e),some (.ref d),some y,some (.ref p),some (.ref c)]∧H' p=some (.lst ((cO b es ds).map V.str))∧H' c=some (.lst ((eK ds ms).map V.str))∧aP H H')
    (dL (cC uV (pv 5) iA (cM _)) (aL (cW (jQ PySem.F.plainAttrs_list PySem.F.slot_list_extend PySem.F.type_list_extend oR (pv 7) (pac (pv 5) aJ)))) cF)
   (aK (cW (dO (pv 1) DC.cl mQ GQ hr bQ .nil (D.passes fun _ _ _ z=>z) (pac (pv 7) aJ)))
   (aK (jI (pv 0) (aZ GL hr1 rfl mL kL bL .nil bY (pac (pv 6) (pac (pv 4) aJ))) rfl)
   (aK (dL (cC tQ (cJ aDl (by rfl) T.len Bo.len (pac (fO (pv 0) rfl) aJ)) (iM (v:=.int 60) (by rfl) mMR ⟨_,rfl⟩) (cM _)) (aL uR) cF)
   (aK (jI (pv 0) (pv 1) rfl)
   (aK (jI (pv 0) (pv 2) rfl)
   (aK (jI (pv 0) (aZ GK hr1 rfl mK kK bK .nil bY (pac (pv 3) aJ)) rfl)
   (aL (jI (pv 0) (aZ GK hr1 rfl mK kK bK .nil bY (pac (pv 7) aJ)) rfl))))))))))),?_⟩
  have hxe:∀ {a:Addr}{o:HO},H a=some o->(∀ fs,o≠.ins CM dx fs)->a≠x:=fun {a o} h n e=>by rw[e,hx] at h; exact n _ (Option.some.inj h).symm
  refine⟨_,rfl,_,rfl,_,rfl,b,e,d,es,ds,rfl,hE,hD,by omega,by omega,fun p H1 s1 hp hp1=>?_⟩;refine⟨_,rfl,p,_,rfl,SqL.of hp1,qR hnm,fun H2 s2=>?_⟩;unfold iE;rw[if_pos hnm];have s12:=s1.trans s2;obtain⟨ts,hd,htl,htt⟩:=(hD.same s12).ex;have hp2:=s2 _ _ hp1;clear hp1;refine⟨_,rfl,d,rfl,⟨_,SqL.of hd⟩,fun c hc=>?_⟩;refine eZ (xs:=ts.map V.ref) (fun i σ' H'=>∃ v0 v1 v2,σ'=[v0,v1,v2]∧H' c=some (.lst (((ds.take i).map (·.2.1)).map V.str))∧aP H2 H') ?_ ?_ ?_ ?_
  ·exact⟨none,none,none,rfl,aD,smu hc⟩
  ·rintro i σ' H' _ ⟨v0,v1,v2,rfl,h1,h2⟩;exact SqL.of (h2 _ _ hd)
  ·rintro i v σ' H' hv ⟨v0,v1,v2,rfl,h1,h2⟩;rw[List.getElem?_map] at hv;cases ht:ts[i]? with
   | none=>rw[ht] at hv; cases hv
   | some t=>
    rw[ht] at hv;cases hv;have hi:i<ds.length:=by rw[← htl]; exact (List.getElem?_eq_some_iff.mp ht).1
    have hz:ds[i]?=some ds[i]:=List.getElem?_eq_getElem hi;generalize ds[i]=z at hz;refine⟨t,_,rfl,SqT.of (h2 _ _ (htt i t z ht hz)),rfl,_,_,rfl,_,_,rfl,_,_,rfl,rfl,?_⟩;refine⟨_,rfl,_,h1,aQ (by rw[List.length_map,List.length_map,List.length_take]; omega),some (.str z.1),some (.str z.2.1),some (.str z.2.2),rfl,?_,fun a o h=>?_⟩
    ·rw[aD,List.take_succ,hz]
     simp
    ·rw[aI (aG h hc)];exact h2 a o h
  ·rintro σ' H3 ⟨v0,v1,v2,rfl,h1,h2⟩;rw[List.length_map,htl,List.take_length] at h1
   have hcH:H c=none:=by
    cases h:H c with
    | none=>rfl
    | some o=>rw[s12 _ _ h] at hc; cases hc
   refine⟨?_,?_⟩
   ·rcases hM with⟨rfl,rfl⟩ | ⟨m,rfl,hm⟩
    ·refine⟨_,rfl,rfl,_,rfl,fZ ?_⟩;refine⟨p,c,rfl,h2 _ _ hp2,?_,s12.trans h2⟩;rw[h1];unfold eK;rw[List.append_nil]
    ·refine⟨_,rfl,rfl,_,rfl,kO ?_⟩;refine⟨_,rfl,.inl ⟨rfl,_,SqL.of h1⟩,_,rfl,c,m,_,_,rfl,rfl,h1,h2 _ _ (s12 _ _ hm),jW (by rw[List.length_map,List.length_map,List.length_map]; omega),p,c,rfl,?_,?_,fun a o h=>?_⟩
     ·rw[aI (aG hp2 hc)];exact h2 _ _ hp2
     ·rw[aD];unfold eK;rw[List.map_append]
     ·rw[aI (aG h hcH)];exact h2 _ _ (s12 _ _ h)
   ·clear h1 h2 hp2 s12 s1 s2 hd htl htt hc hcH;rintro σ H4 ⟨p,c,rfl,hp4,hc4,s4⟩;obtain⟨wx,wf,ww,wo,hw0,hw1,hw2,hw3⟩:=hW;refine⟨_,rfl,dd,wx,wf,rfl,s4 _ _ hw0,hw1 "require" (by decide),_,rfl,dd,c,_,wk,rfl,SqL.of hc4,sU hsh,⟨wx,wf,ww,wo,s4 _ _ hw0,hw1,hw2,s4 _ _ hw3⟩,fun H5 s5=>?_⟩;rw[if_pos hgd];have s45:=s4.trans s5;have hx5:=s45 _ _ hx;refine⟨_,rfl,_,rfl,p,d,_,ds,rfl,SqL.of (s5 _ _ hp4),hD.same s45,by rw[wG]; omega,by omega,aGu,hap,fun l kvs g H6 s6 hl hg L=>?_⟩;have hx6:=s6 _ _ hx5;have lx:l≠x:=fun z=>by rw[z,hx5] at hl; cases hl
    have gx:∀ z∈cO b es ds,g z≠x:=fun z hz z'=>by have:=hg z hz; rw[z',hx5] at this; cases this
    refine⟨_,rfl,x,CM,dx,[],rfl,hx6,MC.cl,MC.nl,by decide,?_⟩
    have hkl:kvs.length<=60:=by
     have:=congrArg List.length L.keys
     rw[List.length_map,List.length_map] at this;rw[this]; exact h60
    have L7:eB (upd H6 x (.ins CM dx (gA "leads" (.ref l) []))) l (cO b es ds) ds kvs g:=⟨by rw[aI lx]; exact L.dk,L.keys,L.val,fun z hz=>by rw[aI (gx z hz)]; exact L.dd z hz,L.inj,L.ne⟩;have hx7:(upd H6 x (.ins CM dx (gA "leads" (.ref l) []))) x=some (.ins CM dx [("leads",.ref l)]):=aD;have s7:SameBut x H (upd H6 x (.ins CM dx (gA "leads" (.ref l) []))):=fun a o n h=>by rw[aI n]; exact s6 _ _ (s45 _ _ h)
    have hc7:(upd H6 x (.ins CM dx (gA "leads" (.ref l) []))) c=some (.lst ((eK ds ms).map V.str)):=by
     rw[aI fun z=>by rw[z,s4 _ _ hx] at hc4; cases hc4];exact s6 _ _ (s5 _ _ hc4)
    generalize upd H6 x (.ins CM dx (gA "leads" (.ref l) []))=H7 at L7 hx7 s7 hc7 ⊢;have he7:=s7 _ _ (hxe hE fun _ z=>by cases z) hE;refine⟨_,rfl,x,CM,dx,_,.ref l,rfl,hx7,MC.cl,MC.nl,by rfl,l,kvs,rfl,L7.dk,_,_,rfl,rfl,_,rfl,gJ (fun z=>absurd (of_decide_eq_true z) (by omega)) fun _=>?_⟩;refine⟨_,rfl,_,rfl,x,CM,dx,_,rfl,hx7,MC.cl,MC.nd,by show 1<1000; decide,?_⟩;refine⟨_,rfl,_,rfl,x,CM,dx,_,rfl,aD,MC.cl,MC.nf,by show 2<1000; decide,?_⟩;have hL8:∀ (f2 f3:List (Str×V)),eB (upd (upd H7 x (.ins CM dx f2)) x (.ins CM dx f3)) l (cO b es ds) ds kvs g:=fun f2 f3=>⟨by rw[aI lx,aI lx]; exact L7.dk,L7.keys,L7.val,fun z hz=>by rw[aI (gx z hz),aI (gx z hz)]; exact L7.dd z hz,L7.inj,L7.ne⟩;have h8:∀ (f2 f3:List (Str×V)),SameBut x H7 (upd (upd H7 x (.ins CM dx f2)) x (.ins CM dx f3)):=fun f2 f3 a o n h=>by rw[aI n,aI n]; exact h
    have cx:c≠x:=fun z=>by rw[z,hx7] at hc7; cases hc7
    have ex:e≠x:=hxe hE fun _ z=>by cases z
    refine⟨_,rfl,e,es,rfl,SqL.of (h8 _ _ _ _ ex he7),by omega,fun de H9 s9 hde hde9=>?_⟩;have hx9:=s9 x _ aD;have dex:de≠x:=fun z=>by rw[z,aD] at hde; cases hde
    refine⟨_,rfl,x,CM,dx,_,rfl,hx9,MC.cl,MC.ne,by show 3<1000; decide,?_⟩;have s79:∀ f4:List (Str×V),SameBut x H7 (upd H9 x (.ins CM dx f4)):=fun f4 a o n h=>by rw[aI n]; exact s9 _ _ (h8 _ _ _ _ n h)
    refine⟨_,rfl,c,_,rfl,SqL.of (s79 _ _ _ cx hc7),by unfold eK; rw[List.length_append,List.length_map]; omega,fun dk H10 s10 hdk hdk10=>?_⟩;have hx10:=s10 x _ aD;have dkx:dk≠x:=fun z=>by rw[z,aD] at hdk; cases hdk
    refine⟨_,rfl,x,CM,dx,_,rfl,hx10,MC.cl,MC.nk,by show 4<1000; decide,?_⟩;have sF:∀ f5:List (Str×V),SameBut x H7 (upd H10 x (.ins CM dx f5)):=fun f5 a o n h=>by rw[aI n]; exact s10 _ _ (s79 _ _ _ n h)
    refine q l de dk kvs g _ (fun a o n h=>sF _ a o n (s7 a o n h)) ⟨by rw[aD]; rfl,⟨sF _ _ _ lx L7.dk,L7.keys,L7.val,fun z hz=>sF _ _ _ (gx z hz) (L7.dd z hz),L7.inj,L7.ne⟩,?_,?_⟩
    ·rw[aI dex];exact s10 _ _ (by rw[aI dex]; exact hde9)
    ·rw[aI dkx];exact hdk10
end
end K21
namespace K21
open PySem L2 Ky
seal L2.PE L2.PS L2.PSs L2.PA L2.PT L2.PW L2.PG L2.PI L2.PTs L2.PO L2.PPs L2.OpR L2.IxR L2.CallR L2.MtM L2.MtR
unseal L2.MtM L2.MtR
abbrev tabs:List (List Str):=[["a","b","c","d","e"],["r0","r1","r2","r3","r4"],["go","stop","x","room1","zz"],["a","ab","b","ba","aba"],["a","ab","b","ba","aba"]]
def bZ (c:Int) (k:Nat):Str:=(tabs.getD (c%5).toNat []).getD ((c/5+k)%5).toNat ""
def bO (c:Int) (n:Nat):List Str:=(List.range n).map (bZ c)
theorem dR (c:Int) (n:Nat):(bO c n).length=n:=by unfold bO; rw[List.length_map,List.length_range]
theorem aJo:∀ i,i<5->(tabs.getD i []).length=5∧(tabs.getD i []).all bX=true∧(tabs.getD i []).Nodup:=by decide +kernel
inductive sZ (vs:List V) (H:Hp) (Q:VK) (E:XK):Prop
 | mk (c:Int) (n:Nat) (h0_:vs=[.int c,.int n]) (h1_:n<=1000) (h2_:∀ (l:Addr) H',aP H H'->H l=none->H' l=some (.lst ((bO c n).map V.str))->Q (.ref l) H')
section
variable {P:Program}{w:World}{K:PySem.W.Frag}{mg:Str->Option Value}{base:Heap}
abbrev NRB:List Str:=["_law_cell","_law_many","_law_some"]
theorem aKm:aS NRB ["_law_cell","_law_many"] (aB gX):=⟨rfl,rfl,rfl,by decide +kernel,rfl,by decide +kernel,by decide +kernel⟩
theorem yV {f:Addr}{fd:FuncData}(F:Fun K "_law_rooms_by" "_law_rooms_by" gX f fd) (T:Txt K mg):aX P w K mg base CX0 1 f fd ["_law_cell","_law_many"] sZ:=by
 refine F.ok aKm (fun vs H Q E h=>?_) (fun cdv A outer s H vs Q E hr h=>?_)
 ·obtain⟨c,n,rfl,_⟩:=h;rfl
 ·obtain⟨c,n,rfl,hn,q⟩:=h
  refine⟨_,aK (bU (i:=2) aKm.nd rfl (Or.inr rfl) (dB (pac (dB (pac aY (pac aY (pac aY (pac aY (pac aY aJ)))))) (pac (dB (pac aY (pac aY (pac aY (pac aY (pac aY aJ)))))) aJ))))
   (aK (bU (i:=2) aKm.nd rfl (Or.inr rfl) (aU dP (aU dP (pv 2) (dB (pac (dB (pac aY (pac aY (pac aY (pac aY (pac aY aJ)))))) aJ)))
     (aU aFl (dB (pac (dB (pac aY (pac aY (pac aY (pac aY (pac aY aJ)))))) aJ)) aN)))
   (aL (bV (dN (N':=["_law_k","_law_some","_law_cell"]) (nown:=1) (js:=[2,0]) rfl
     ⟨rfl,by decide +kernel,by decide +kernel⟩ (cG (aB gX) NRB rfl rfl (by decide +kernel))
     ⟨fun _ _ _ _=>aO (i:=0) (show List.Nodup (["_law_k","_law_some","_law_cell"]:List Str) by decide +kernel) rfl (Or.inl rfl) (.inr rfl),fun _ _ _ _=>dJ,
      fun _ _ _ _=>cZ (show IxR _ (aBy K) from cQ) (cZ (show IxR _ (aBy K) from cQ) (pv 1) (aU dA (pv 2) aN) (fun _ _=>rfl)) (aU dA (aU eI (aU eU (pv 2) aN) (pv 0)) aN) (fun _ _=>rfl)⟩
     (gS rfl T.range (pac (pv 1) aJ)))))),?_⟩
  refine⟨by show 5<=sizeLine; decide,fun p1 h1=>⟨by show 5<=sizeLine; decide,fun p2 h2=>⟨by show 2<=sizeLine; decide,fun p3 h3=>⟨_,rfl,by show 5<=sizeLine; decide,fun p4 h4=>⟨by show 1<=sizeLine; decide,fun p5 h5=>⟨p3,p5,_,_,rfl,rfl,smu h5 _ _ (smu h4 _ _ aD),aD,by show 3<=sizeLine; decide,fun p6 h6=>⟨by show 5<=sizeLine; decide,fun p7 h7=>⟨by show 1<=sizeLine; decide,fun p8 h8=>⟨p8,2,_,rfl,rfl,aD,by decide,by decide,by show 1*2<=sizeLine; decide,fun p9 h9=>⟨p6,p9,_,_,rfl,rfl,smu h9 _ _ (smu h8 _ _ (smu h7 _ _ aD)),aD,by show 3+2<=sizeLine; decide,fun p10 h10=>?_⟩⟩⟩⟩⟩⟩⟩⟩⟩⟩;generalize hH2:upd (upd (upd (upd (upd (upd (upd (upd (upd (upd H p1 _) p2 _) p3 _) p4 _) p5 _) p6 _) p7 _) p8 _) p9 _) p10 _=H2;have s2:aP H H2:=by rw[← hH2]; exact (smu h1).trans ((smu h2).trans ((smu h3).trans ((smu h4).trans ((smu h5).trans ((smu h6).trans ((smu h7).trans ((smu h8).trans ((smu h9).trans (smu h10)))))))))
  have e10:H2 p10=some (.lst ([p1,p2,p4,p7,p7].map V.ref)):=by rw[← hH2,aD]; rfl
  have ee:∀ i,i<5->H2 ([p1,p2,p4,p7,p7].getD i 0)=some (.lst ((tabs.getD i []).map V.str)):=by
   rw[← hH2];intro i hi
   match i,hi with
   | 0,_=>exact smu h10 _ _ (smu h9 _ _ (smu h8 _ _ (smu h7 _ _ (smu h6 _ _ (smu h5 _ _ (smu h4 _ _ (smu h3 _ _ (smu h2 _ _ aD))))))))
   | 1,_=>exact smu h10 _ _ (smu h9 _ _ (smu h8 _ _ (smu h7 _ _ (smu h6 _ _ (smu h5 _ _ (smu h4 _ _ (smu h3 _ _ aD)))))))
   | 2,_=>exact smu h10 _ _ (smu h9 _ _ (smu h8 _ _ (smu h7 _ _ (smu h6 _ _ (smu h5 _ _ aD)))))
   | 3,_=>exact smu h10 _ _ (smu h9 _ _ (smu h8 _ _ aD))
   | 4,_=>exact smu h10 _ _ (smu h9 _ _ (smu h8 _ _ aD))
  clear hH2 h1 h2 h3 h4 h5 h6 h7 h8 h9 h10;refine⟨_,rfl,n,rfl,by omega,by omega,fun D hD=>jC (n:=n) (fun i σ' H'=>∃ v,σ'=[v,some (.ref p10),some (.int c)]∧H' D=some (.lst ((bO c i).map V.str))∧aP H2 H') ?_ ?_ ?_⟩
  ·exact⟨none,rfl,aD,smu hD⟩
  ·rintro i σ' H' hi ⟨v,rfl,hl',sm⟩;have g5:=cE c (m:=5) (by decide);have g5':=cE (c/5+(0+(i:Int))) (m:=5) (by decide);have ti:=aJo (c%5).toNat (by omega);have el:=ee (c%5).toNat (by omega);refine⟨_,rfl,_,rfl,_,_,rfl,rfl,(by show (0:Int)<5; decide),p10,_,_,V.ref ([p1,p2,p4,p7,p7].getD (c%5).toNat 0),rfl,rfl,SqL.of (sm _ _ e10),iF V.ref [p1,p2,p4,p7,p7] 0 g5.1 g5.2,?_⟩;refine⟨_,rfl,_,_,rfl,rfl,⟨by decide,by decide⟩,_,rfl,_,_,rfl,rfl,_,_,rfl,rfl,(by show (0:Int)<5; decide),_,_,_,V.str (bZ c i),rfl,rfl,SqL.of (sm _ _ el),?_,_,hl',?_,_,rfl,?_,?_⟩
   ·have h:=iF V.str (tabs.getD (c%5).toNat []) "" g5'.1 (by rw[ti.1]; exact g5'.2);rw[h,Int.zero_add];rfl
   ·exact aQ (by rw[List.length_map,dR]; omega)
   ·rw[aD];unfold bO;rw[List.range_succ,List.map_append,List.map_append];rfl
   ·intro b o e;rw[aI (aG e hD)];exact sm b o e
  ·rintro σ' H' ⟨v,rfl,hl',sm⟩;exact q D H' (s2.trans sm) (s2.free hD) hl'
end
end K21
namespace K21
open PySem L2 Ky
seal L2.PE L2.PS L2.PSs L2.PA L2.PT L2.PW L2.PG L2.PI L2.PTs L2.PO L2.PPs L2.OpR L2.IxR L2.CallR L2.MtM L2.MtR
unseal L2.MtM L2.MtR
section
variable {P:Program}{w:World}{K:PySem.W.Frag}{mg:Str->Option Value}{base:Heap}
abbrev NMB:List Str:=["_law_cell","_law_names","_law_many","_law_rooms","_law_known","_law_doors","_law_i","_law_room","_law_k","_law_deed","_law_draw","_law_ends","_law_more_here"]
theorem jX:aS NMB ["_law_cell","_law_names","_law_many"] (aB dW):=⟨rfl,rfl,rfl,by decide +kernel,rfl,by decide +kernel,by decide +kernel⟩
theorem aDe (fs:List Str):(fs.map V.str).all nR=true:=by
 rw[List.all_map,List.all_eq_true];intro z _;rfl
theorem uZ (z:Str) (fs:List Str):inV (.str z) (fs.map V.str)=decide (z∈fs):=by
 have e:∀ y:Str,eqV (.str y) (.str z)=(y==z):=fun _=>rfl;unfold inV;rw[List.any_map,Bool.eq_iff_iff,List.any_eq_true,decide_eq_true_iff];constructor
 ·rintro⟨y,hy,h⟩;have h':(y==z)=true:=h;rw[← eq_of_beq h']; exact hy
 ·exact fun h=>⟨z,h,(e z).trans (beq_self_eq_true z)⟩
def pK (c:Int) (k:Nat):Bool:=decide (RW.mixed c (300+(k:Int))%4>0)
def pE (c:Int) (k:Nat):Bool:=decide (RW.mixed c (400+(k:Int))%2=0)
def pM (c:Int) (k:Nat):Bool:=decide (RW.mixed c (500+(k:Int))%8=1)
def drw (c:Int) (i k:Nat):Int:=RW.mixed c (20*(i:Int)+(k:Int))
def dr (c:Int) (kn rs nm:List Str) (n i k:Nat):Option Dr:=match rs[i]?,nm[k]? with
 | some r,some d=>if (decide (d∈kn)&&decide (drw c i k%3>0))=true then some (r,d,rs.getD (drw c i k/3%n).toNat "") else none
 | _,_=>none
def uN (c:Int) (kn rs nm:List Str) (n i j:Nat):List Dr:=(List.range j).filterMap (dr c kn rs nm n i)
def mY (c:Int) (kn rs nm:List Str) (n i:Nat):List Dr:=(List.range i).flatMap fun a=>uN c kn rs nm n a nm.length
def cT (c:Int) (nm:List Str):List Str:=qX (pK c) nm nm.length
def aR (c:Int) (nm:List Str) (n:Nat):List Dr:=let d:=mY c (cT c nm) (bO c n) nm n n; if c/15%2=1 then d.reverse else d
def cV (c:Int) (n:Nat):List Str:=qX (pE c) (bO c n) n
def fY (c:Int) (nm:List Str):List Str:=qX (pM c) nm nm.length
theorem aBx {c:Int}{kn rs nm:List Str}{n i k:Nat}{r d:Str}(hr:rs[i]?=some r) (hd:nm[k]?=some d):uN c kn rs nm n i (k+1)=uN c kn rs nm n i k++(if (decide (d∈kn)&&decide (drw c i k%3>0))=true then [(r,d,rs.getD (drw c i k/3%n).toNat "")] else []):=by
 unfold uN;rw[List.range_succ,List.filterMap_append]
 have e:dr c kn rs nm n i k=if (decide (d∈kn)&&decide (drw c i k%3>0))=true then some (r,d,rs.getD (drw c i k/3%n).toNat "") else none:=by
  unfold dr;rw[hr,hd]
 by_cases q:(decide (d∈kn)&&decide (drw c i k%3>0))=true
 ·rw[if_pos q] at e ⊢;rw[List.filterMap_cons_some e];rfl
 ·rw[if_neg q] at e ⊢;rw[List.filterMap_cons_none e];rfl
theorem uG (c:Int) (kn rs nm:List Str) (n i:Nat):mY c kn rs nm n (i+1)=mY c kn rs nm n i++uN c kn rs nm n i nm.length:=by
 unfold mY;rw[List.range_succ,List.flatMap_append]
 simp
theorem wF (c:Int) (kn rs nm:List Str) (n i j:Nat):(uN c kn rs nm n i j).length<=j:=by
 refine Nat.le_trans (List.length_filterMap_le ..) ?_;rw[List.length_range];exact Nat.le_refl _
theorem rW (c:Int) (kn rs nm:List Str) (n:Nat):∀ i,(mY c kn rs nm n i).length<=nm.length*i
 | 0=>Nat.le_refl _
 | i+1=>by
  rw[uG,List.length_append,Nat.mul_succ];exact Nat.add_le_add (rW c kn rs nm n i) (wF ..)
inductive jV (K:PySem.W.Frag) (vs:List V) (H:Hp) (Q:VK) (E:XK):Prop
 | mk (c:Int) (a:Addr) (n:Nat) (ss:List Str) (h0_:vs=[.int c,.ref a,.int n]) (h1_:SqL K H a (ss.map V.str)) (h2_:1<=n) (h3_:n<=5) (h4_:ss.length<=12)
  (h5_:∀ (t e d m:Addr) H',aP H H'->H e=none->H d=none->H m=none->H' t=some (.tup [.str (bZ c 0),.ref e,.ref d,.ref m])->H' e=some (.lst ((cV c n).map V.str))->cX H' d (aR c ss n)->H' m=some (.lst ((fY c ss).map V.str))->Q (.ref t) H')
inductive J1 (H:Hp) (c:Int) (a:Addr) (n:Nat) (ss:List Str) (σ:St) (H':Hp):Prop
 | mk (l kn:Addr) (h0_:σ=[some (.int c),some (.ref a),some (.int n),some (.ref l),some (.ref kn),none,none,none,none,none,none,none,none]) (h1_:H' l=some (.lst ((bO c n).map V.str))) (h2_:H' kn=some (.lst ((cT c ss).map V.str))) (h3_:aP H H')
inductive J2 (H:Hp) (c:Int) (a:Addr) (n:Nat) (ss:List Str) (i:Nat) (ds:List Dr) (x11 x12:Option V) (σ:St) (H':Hp):Prop
 | mk (l kn d:Addr) (x6 x7 x8 x9 x10:Option V) (h0_:σ=[some (.int c),some (.ref a),some (.int n),some (.ref l),some (.ref kn),some (.ref d),x6,x7,x8,x9,x10,x11,x12]) (h1_:H' l=some (.lst ((bO c n).map V.str))) (h2_:H' kn=some (.lst ((cT c ss).map V.str))) (h3_:cX H' d ds) (h4_:H d=none) (h5_:l≠d) (h6_:kn≠d) (h7_:aP H H') (h8_:∀ p,(x11=some (.ref p)∨x12=some (.ref p))->p≠d∧H p=none)
abbrev nd3:List Str:=["_law_k","_law_name","_law_cell"]
abbrev nd4:List Str:=["_law_i","_law_room","_law_cell"]
theorem uX {f fM fR:Addr}{fd fdM fdR:FuncData}(F:Fun K "_law_machine_by" "_law_machine_by" dW f fd) (T:Txt K mg)
  (GM:aX P w K mg base CX0 1 fM fdM ["_law_cell","_law_k"] lG) (kM:PySem.W.keepIn K (.ref fM)=true) (bM:bJ K fdM ["_law_cell","_law_k"] []) (mM:mg "_law_mixed" = some (.ref fM))
  (GR:aX P w K mg base CX0 1 fR fdR ["_law_cell","_law_many"] sZ) (kR:PySem.W.keepIn K (.ref fR)=true) (bR:bJ K fdR ["_law_cell","_law_many"] []) (mR:mg "_law_rooms_by" = some (.ref fR)) :
  aX P w K mg base CX0 2 f fd ["_law_cell","_law_names","_law_many"] (jV K):=by
 refine F.ok jX (fun vs H Q E h=>?_) (fun cdv A outer s H vs Q E hr h=>?_)
 ·obtain⟨c,a,n,ss,rfl,_⟩:=h;rfl
 ·obtain⟨c,a,n,ss,rfl,hA,hn1,hn5,hs12,q⟩:=h
  refine⟨_,aK (bU (i:=3) jX.nd rfl (Or.inl rfl) (aZ GR hr rfl mR kR bR .nil bY (pac (pv 0) (pac (pv 2) aJ))))
   (dY (J1 H c a n ss) (gD (i:=4) (N':=nd3) (nown:=2) (js:=[0]) rfl jX.nd rfl rfl rfl
     ⟨rfl,by decide +kernel,by decide +kernel⟩ (cG (aB dW) NMB rfl rfl (by decide +kernel))
     ⟨fun _ _ _ _=>show PG _ _ (sI K 2 (eV (dU 0) (eV (dU 1) sJ))) from eQ rfl (aW (aO (i:=0) (show List.Nodup nd3 by decide +kernel) rfl (Or.inl rfl) (.inr rfl)) (aW (aO (i:=1) (show List.Nodup nd3 by decide +kernel) rfl (Or.inl rfl) (.inr rfl)) dM)),
      fun _ _ _ _=>lK (cC tQ (aU dA (aZ GM hr rfl mM kM bM .nil bY (pac (pv 2) (pac (aU eI aN (pv 0)) aJ))) aN) aN (cM _)),
      fun _ _ _ _=>pv 1⟩
     (jJ rfl T.enum (pac (pv 1) aJ)))
   (aK (bU (i:=5) jX.nd rfl (Or.inl rfl) (dB aJ))
   (dY (J2 H c a n ss n (mY c (cT c ss) (bO c n) ss n n) none none) (eG PassesOwn.never rfl (jJ rfl T.enum (pac (pv 3) aJ)) (eQ rfl (aW (aO (i:=6) jX.nd rfl (Or.inl rfl)) (aW (aO (i:=7) jX.nd rfl (Or.inl rfl)) dM)))
    (aL (eG PassesOwn.never rfl (jJ rfl T.enum (pac (pv 1) aJ)) (eQ rfl (aW (aO (i:=8) jX.nd rfl (Or.inl rfl)) (aW (aO (i:=9) jX.nd rfl (Or.inl rfl)) dM)))
     (aK (bU (i:=10) jX.nd rfl (Or.inl rfl) (aZ GM hr rfl mM kM bM .nil bY (pac (pv 0) (pac (aU eI (aU mU aN (pv 6)) (pv 8)) aJ))))
     (aL (dL (aKr (cC (show OpR _ _ (rIn K false) from oP) (pv 9) (pv 4) (by with_unfolding_all rfl)) (aHz (cC tQ (aU dA (pv 10) aN) aN (cM _)))).pt
      (aL (cW (jQ PySem.F.plainAttrs_list PySem.F.slot_list_append PySem.F.type_list_append eE (pv 5) (pac (qZ (pac (pv 7) (pac (pv 9) (pac (cZ cQ (pv 3) (aU dA (aU eU (pv 10) aN) (pv 2)) (fun _ _=>rfl)) aJ)))) aJ)))) cF))))))
   (dY (fun σ H'=>∃ e,J2 H c a n ss n (mY c (cT c ss) (bO c n) ss n n) (some (.ref e)) none σ H'∧H' e=some (.lst ((cV c n).map V.str))) (gD (i:=11) (N':=nd4) (nown:=2) (js:=[0]) rfl jX.nd rfl rfl rfl
     ⟨rfl,by decide +kernel,by decide +kernel⟩ (cG (aB dW) NMB rfl rfl (by decide +kernel))
     ⟨fun _ _ _ _=>show PG _ _ (sI K 2 (eV (dU 0) (eV (dU 1) sJ))) from eQ rfl (aW (aO (i:=0) (show List.Nodup nd4 by decide +kernel) rfl (Or.inl rfl) (.inr rfl)) (aW (aO (i:=1) (show List.Nodup nd4 by decide +kernel) rfl (Or.inl rfl) (.inr rfl)) dM)),
      fun _ _ _ _=>lK (cC rD (aU dA (aZ GM hr rfl mM kM bM .nil bY (pac (pv 2) (pac (aU eI aN (pv 0)) aJ))) aN) aN (cM _)),
      fun _ _ _ _=>pv 1⟩
     (jJ rfl T.enum (pac (pv 3) aJ)))
   (dY (fun σ H'=>∃ e m,J2 H c a n ss n (mY c (cT c ss) (bO c n) ss n n) (some (.ref e)) (some (.ref m)) σ H'∧H' e=some (.lst ((cV c n).map V.str))∧H' m=some (.lst ((fY c ss).map V.str))) (gD (i:=12) (N':=nd3) (nown:=2) (js:=[0]) rfl jX.nd rfl rfl rfl
     ⟨rfl,by decide +kernel,by decide +kernel⟩ (cG (aB dW) NMB rfl rfl (by decide +kernel))
     ⟨fun _ _ _ _=>show PG _ _ (sI K 2 (eV (dU 0) (eV (dU 1) sJ))) from eQ rfl (aW (aO (i:=0) (show List.Nodup nd3 by decide +kernel) rfl (Or.inl rfl) (.inr rfl)) (aW (aO (i:=1) (show List.Nodup nd3 by decide +kernel) rfl (Or.inl rfl) (.inr rfl)) dM)),
      fun _ _ _ _=>lK (cC rD (aU dA (aZ GM hr rfl mM kM bM .nil bY (pac (pv 2) (pac (aU eI aN (pv 0)) aJ))) aN) aN (cM _)),
      fun _ _ _ _=>pv 1⟩
     (jJ rfl T.enum (pac (pv 1) aJ)))
   (aK (dL (cC rD (aU dA (aU eU (pv 0) aN) aN) aN (cM _)) (aL (cW (aFh PySem.F.plainAttrs_list PySem.F.slot_list_reverse PySem.F.type_list_reverse zI (pv 5)))) cF)
   (aL (bV (qZ (pac (cZ cQ (pv 3) aN (fun _ _=>rfl)) (pac (pv 11) (pac (pv 5) (pac (pv 12) aJ))))))))))))),?_⟩
  refine⟨_,rfl,_,rfl,c,n,rfl,by omega,fun l H1 s1 hl hl1=>⟨?_,?_⟩⟩
  ·refine⟨_,rfl,a,rfl,⟨_,s1.seq hA⟩,fun D hD=>nZ (xs:=ss.map V.str) (fun i σ' H'=>∃ v0 v1,σ'=[v0,v1,some (.int c)]∧H' D=some (.lst ((qX (pK c) ss i).map V.str))∧aP H1 H') ?_ ?_ ?_ ?_⟩
   ·exact⟨none,none,rfl,aD,smu hD⟩
   ·rintro i σ' H' _ ⟨v0,v1,rfl,h1,h2⟩;exact h2.seq (s1.seq hA)
   ·rintro i x σ' H' t hx ⟨v0,v1,rfl,h1,h2⟩ ht;rw[List.getElem?_map] at hx;cases hz:(ss)[i]? with
    | none=>rw[hz] at hx; cases hx
    | some z=>
     rw[hz] at hx;cases hx;have hi:i<(ss).length:=(List.getElem?_eq_some_iff.mp hz).1;have nD:D≠t:=fun e=>by rw[e,ht] at h1; cases h1
     have sT:aP H1 (upd H' t (.tup [.int i,.str z])):=h2.trans (smu ht);have hlu:=jZ (pK c) (ss) i;refine⟨t,_,rfl,SqT.of aD,rfl,_,_,rfl,_,_,rfl,rfl,_,rfl,_,rfl,_,_,rfl,rfl,c,_,rfl,_,_,rfl,rfl,(by show (0:Int)<4; decide),_,_,rfl,rfl,_,rfl,gJ (fun h4=>?_) (fun h4=>?_)⟩
     ·have e4:pK c i=true:=h4;refine⟨_,rfl,_,by rw[aI nD]; exact h1,aQ (by rw[List.length_map]; omega),some (.int i),some (.str z),rfl,?_,?_⟩
      ·rw[aD,gR hz,if_pos e4,List.map_append];rfl
      ·intro b o e;rw[aI (aG e hD)];exact sT b o e
     ·have e4:¬ pK c i=true:=h4;refine⟨some (.int i),some (.str z),rfl,?_,sT⟩;rw[aI nD,gR hz,if_neg e4,List.append_nil];exact h1
   ·rintro σ' H' ⟨v0,v1,rfl,h1,h2⟩;rw[List.length_map] at h1;exact⟨l,D,rfl,h2 _ _ hl1,h1,s1.trans h2⟩
  rintro σ H2 ⟨l,kn,rfl,hl2,hk2,s2⟩;refine⟨by show 0<=sizeLine; decide,fun d hd=>⟨?_,?_⟩⟩
  ·have hdH:H d=none:=s2.free hd;have ld:l≠d:=aG hl2 hd;have kd:kn≠d:=aG hk2 hd;have sd:aP H2 (upd H2 d (.lst [])):=smu hd;have D0:cX (upd H2 d (.lst [])) d []:=⟨⟨[],aD,rfl,fun i t x h=>by cases h⟩⟩;refine⟨_,rfl,l,rfl,⟨_,SqL.of (sd _ _ hl2)⟩,?_⟩;have hl0:=sd _ _ hl2;have hk0:=sd _ _ hk2;have hA2:=sd.seq (s2.seq hA)
   have aA:∀ {H':Hp},(∀ b o,b≠d->H2 b=some o->H' b=some o)->(∃ ys,H' d=some (.lst ys))->SqL K H' a (ss.map V.str):=fun {H'} k z=>by
    rcases s2.seq hA with (h | ⟨o,h⟩) | h
    ·exact .inl (.inl (k _ _ (aG h hd) h))
    ·exact .inl (.inr ⟨o,k _ _ (aG h hd) h⟩)
    ·exact .inr h
   refine rN (xs:=(bO c n).map V.str) (fun i σ H'=>∃ x6 x7 x8 x9 x10,σ=[some (.int c),some (.ref a),some (.int n),some (.ref l),some (.ref kn),some (.ref d),x6,x7,x8,x9,x10,none,none]∧cX H' d (mY c (cT c ss) (bO c n) ss n i)∧∀ b o,b≠d->H2 b=some o->H' b=some o) ?_ ?_ ?_ ?_
   ·exact⟨none,none,none,none,none,rfl,D0,fun b o _ h=>sd _ _ h⟩
   ·rintro i σ H' _ ⟨x6,x7,x8,x9,x10,rfl,h1,h2⟩;exact SqL.of (h2 _ _ ld hl2)
   ·rintro i x σ H' t hx ⟨x6,x7,x8,x9,x10,rfl,h1,h2⟩ ht;rw[List.getElem?_map] at hx;cases hz:(bO c n)[i]? with
    | none=>rw[hz] at hx; cases hx
    | some r=>
     rw[hz] at hx;cases hx;have hi:i<n:=by have:=(List.getElem?_eq_some_iff.mp hz).1; rw[dR] at this; exact this
     have sT:=smu (o:=.tup [.int i,.str r]) ht;have h2':∀ b o,b≠d->H2 b=some o->upd H' t (.tup [.int i,.str r]) b=some o:=fun b o n h=>sT _ _ (h2 b o n h);have D1:=h1.same sT;refine⟨t,_,rfl,SqT.of aD,rfl,_,_,rfl,_,_,rfl,rfl,?_⟩;generalize upd H' t (.tup [.int i,.str r])=H3 at h2' D1 ⊢;refine⟨_,rfl,a,rfl,⟨_,aA h2' (let ⟨_,z,_⟩:=D1.ex; ⟨_,z⟩)⟩,?_⟩;refine rN (xs:=ss.map V.str) (fun k σ H'=>∃ x8 x9 x10,σ=[some (.int c),some (.ref a),some (.int n),some (.ref l),some (.ref kn),some (.ref d),some (.int i),some (.str r),x8,x9,x10,none,none]∧cX H' d (mY c (cT c ss) (bO c n) ss n i++uN c (cT c ss) (bO c n) ss n i k)∧∀ b o,b≠d->H2 b=some o->H' b=some o) ?_ ?_ ?_ ?_
     ·exact⟨x8,x9,x10,rfl,by rw[show uN c (cT c ss) (bO c n) ss n i 0=[] from rfl,List.append_nil]; exact D1,h2'⟩
     ·rintro k σ H' _ ⟨x8,x9,x10,rfl,h3,h4⟩;exact aA h4 (let ⟨_,z,_⟩:=h3.ex; ⟨_,z⟩)
     ·rintro k x σ H' t' hx ⟨x8,x9,x10,rfl,h3,h4⟩ ht';rw[List.getElem?_map] at hx;cases hy:ss[k]? with
      | none=>rw[hy] at hx; cases hx
      | some y=>
       rw[hy] at hx;cases hx;have hk:k<ss.length:=(List.getElem?_eq_some_iff.mp hy).1;have es:=aBx (c:=c) (kn:=cT c ss) (n:=n) hz hy;have sT':=smu (o:=.tup [.int k,.str y]) ht';have h4':∀ b o,b≠d->H2 b=some o->upd H' t' (.tup [.int k,.str y]) b=some o:=fun b o n h=>sT' _ _ (h4 b o n h);have D3:=h3.same sT';refine⟨t',_,rfl,SqT.of aD,rfl,_,_,rfl,_,_,rfl,rfl,?_⟩;generalize upd H' t' (.tup [.int k,.str y])=H4 at h4' D3 ⊢;refine⟨_,rfl,_,rfl,_,_,rfl,rfl,.inl ⟨by decide,by decide⟩,_,rfl,_,_,rfl,rfl,c,_,rfl,?_⟩;refine⟨_,rfl,_,rfl,kn,_,rfl,.inl (SqL.of (h4' _ _ kd hk2)),rfl,aDe _,_,rfl,?_⟩;have ei:inV (.str y) ((cT c ss).map V.str)=decide (y∈cT c ss):=uZ _ _
       have stay:(decide (y∈cT c ss)&&decide (drw c i k%3>0))=false->cX H4 d (mY c (cT c ss) (bO c n) ss n i++uN c (cT c ss) (bO c n) ss n i (k+1)):=fun z=>by
        rw[es,if_neg (by rw[z]; exact Bool.false_ne_true),List.append_nil];exact D3
       refine gJ (fun g1=>?_) (fun g1=>?_)
       ·have g1':decide (y∈cT c ss)=true:=ei.symm.trans g1;refine⟨_,rfl,_,_,rfl,rfl,(by show (0:Int)<3; decide),_,_,rfl,rfl,_,rfl,gJ (fun g2=>?_) (fun g2=>?_)⟩
        ·have g2':decide (drw c i k%3>0)=true:=g2;have gi:=cE (drw c i k/3) (m:=(n:Int)) (by omega);have hat:atI ((bO c n).map V.str) (drw c i k/3%n)=some (.str ((bO c n).getD (drw c i k/3%n).toNat "")):=iF V.str (bO c n) "" gi.1 (by rw[dR]; exact gi.2);obtain⟨_,hdd,_⟩:=D3.ex;refine⟨_,rfl,.inl ⟨rfl,_,SqL.of hdd⟩,_,rfl,_,rfl,_,rfl,_,rfl,_,_,rfl,rfl,⟨by decide,by decide⟩,_,rfl,_,_,rfl,rfl,(by show (0:Int)<n; omega),l,_,_,_,rfl,rfl,SqL.of (h4' _ _ ld hl2),hat,by show 3<=sizeLine; decide,fun t2 ht2=>?_⟩;obtain⟨xs,hx1,hx2,hx3⟩:=D3.push ht2 (r,y,(bO c n).getD (drw c i k/3%n).toNat "");have td:t2≠d:=fun z=>by rw[z,hx1] at ht2; cases ht2
         refine⟨d,xs,_,rfl,rfl,by rw[aI (Ne.symm td)]; exact hx1,?_,_,_,_,rfl,?_,fun b o nb h=>?_⟩
         ·have a1:=rW c (cT c ss) (bO c n) ss n i;have a2:=wF c (cT c ss) (bO c n) ss n i k;rw[hx2,List.length_append];have a3:ss.length*i<=12*5:=Nat.mul_le_mul hs12 (by omega);exact aQ (by omega)
         ·rw[es,if_pos (by rw[g1',g2']; rfl),← List.append_assoc];exact hx3
         ·rw[aI nb];exact smu ht2 _ _ (h4' b o nb h)
        ·exact⟨_,_,_,rfl,stay (by rw[g1',Bool.true_and]; exact Bool.eq_false_iff.mpr g2),h4'⟩
       ·have g1':¬ inV (.str y) ((cT c ss).map V.str)=true:=g1;exact⟨_,_,_,rfl,stay (by rw[← ei,Bool.eq_false_iff.mpr g1',Bool.false_and]),h4'⟩
     ·rintro σ H' ⟨x8,x9,x10,rfl,h3,h4⟩;rw[List.length_map,← uG] at h3;exact⟨_,_,_,_,_,rfl,h3,h4⟩
   ·rintro σ H' ⟨x6,x7,x8,x9,x10,rfl,h1,h2⟩;rw[List.length_map,dR] at h1;exact⟨l,kn,d,x6,x7,x8,x9,x10,rfl,h2 _ _ ld hl2,h2 _ _ kd hk2,h1,hdH,ld,kd,fun b o h=>h2 _ _ (aG h hdH) (s2 _ _ h),fun p h=>by rcases h with h | h <;> cases h⟩
  clear hl hl1 s1 hl2 hk2 s2 hd;rintro σ H3 ⟨l,kn,d,x6,x7,x8,x9,x10,rfl,hl3,hk3,hd3,hd0,n1,n2,s3,nn⟩;refine⟨?_,?_⟩
  ·refine⟨_,rfl,l,rfl,⟨_,SqL.of hl3⟩,fun D hD=>nZ (xs:=(bO c n).map V.str) (fun i σ' H'=>∃ v0 v1,σ'=[v0,v1,some (.int c)]∧H' D=some (.lst ((qX (pE c) (bO c n) i).map V.str))∧aP H3 H') ?_ ?_ ?_ ?_⟩
   ·exact⟨none,none,rfl,aD,smu hD⟩
   ·rintro i σ' H' _ ⟨v0,v1,rfl,h1,h2⟩;exact h2.seq (SqL.of hl3)
   ·rintro i x σ' H' t hx ⟨v0,v1,rfl,h1,h2⟩ ht;rw[List.getElem?_map] at hx;cases hz:((bO c n))[i]? with
    | none=>rw[hz] at hx; cases hx
    | some z=>
     rw[hz] at hx;cases hx;have hi:i<((bO c n)).length:=(List.getElem?_eq_some_iff.mp hz).1;have nD:D≠t:=fun e=>by rw[e,ht] at h1; cases h1
     have sT:aP H3 (upd H' t (.tup [.int i,.str z])):=h2.trans (smu ht);have hlu:=jZ (pE c) ((bO c n)) i;refine⟨t,_,rfl,SqT.of aD,rfl,_,_,rfl,_,_,rfl,rfl,_,rfl,_,rfl,_,_,rfl,rfl,c,_,rfl,_,_,rfl,rfl,(by show (0:Int)<2; decide),rfl,_,rfl,gJ (fun h4=>?_) (fun h4=>?_)⟩
     ·have e4:pE c i=true:=decide_eq_true (V.int.inj (of_decide_eq_true h4));refine⟨_,rfl,_,by rw[aI nD]; exact h1,aQ (by rw[List.length_map]; rw[dR] at hi; omega),some (.int i),some (.str z),rfl,?_,?_⟩
      ·rw[aD,gR hz,if_pos e4,List.map_append];rfl
      ·intro b o e;rw[aI (aG e hD)];exact sT b o e
     ·have e4:¬ pE c i=true:=fun z=>h4 (decide_eq_true (congrArg V.int (of_decide_eq_true z)));refine⟨some (.int i),some (.str z),rfl,?_,sT⟩;rw[aI nD,gR hz,if_neg e4,List.append_nil];exact h1
   ·rintro σ' H' ⟨v0,v1,rfl,h1,h2⟩;rw[List.length_map] at h1;rw[dR] at h1
    exact⟨D,⟨l,kn,d,x6,x7,x8,x9,x10,rfl,h2 _ _ hl3,h2 _ _ hk3,hd3.same h2,hd0,n1,n2,s3.trans h2,fun p h=>by
     obtain⟨_,hdd,_⟩:=hd3.ex;rcases h with h | h
     ·cases h; exact⟨Ne.symm (aG hdd hD),s3.free hD⟩
     ·cases h⟩,h1⟩
  clear hl3 hk3 hd3 hd0 n1 n2 s3 nn;rintro σ H4 ⟨e,⟨l,kn,d,x6,x7,x8,x9,x10,rfl,hl4,hk4,hd4,hd0,n1,n2,s4,nn⟩,he4⟩;refine⟨?_,?_⟩
  ·refine⟨_,rfl,a,rfl,⟨_,s4.seq hA⟩,fun D hD=>nZ (xs:=ss.map V.str) (fun i σ' H'=>∃ v0 v1,σ'=[v0,v1,some (.int c)]∧H' D=some (.lst ((qX (pM c) ss i).map V.str))∧aP H4 H') ?_ ?_ ?_ ?_⟩
   ·exact⟨none,none,rfl,aD,smu hD⟩
   ·rintro i σ' H' _ ⟨v0,v1,rfl,h1,h2⟩;exact h2.seq (s4.seq hA)
   ·rintro i x σ' H' t hx ⟨v0,v1,rfl,h1,h2⟩ ht;rw[List.getElem?_map] at hx;cases hz:(ss)[i]? with
    | none=>rw[hz] at hx; cases hx
    | some z=>
     rw[hz] at hx;cases hx;have hi:i<(ss).length:=(List.getElem?_eq_some_iff.mp hz).1;have nD:D≠t:=fun e=>by rw[e,ht] at h1; cases h1
     have sT:aP H4 (upd H' t (.tup [.int i,.str z])):=h2.trans (smu ht);have hlu:=jZ (pM c) (ss) i;refine⟨t,_,rfl,SqT.of aD,rfl,_,_,rfl,_,_,rfl,rfl,_,rfl,_,rfl,_,_,rfl,rfl,c,_,rfl,_,_,rfl,rfl,(by show (0:Int)<8; decide),rfl,_,rfl,gJ (fun h4=>?_) (fun h4=>?_)⟩
     ·have e4:pM c i=true:=decide_eq_true (V.int.inj (of_decide_eq_true h4));refine⟨_,rfl,_,by rw[aI nD]; exact h1,aQ (by rw[List.length_map]; omega),some (.int i),some (.str z),rfl,?_,?_⟩
      ·rw[aD,gR hz,if_pos e4,List.map_append];rfl
      ·intro b o e;rw[aI (aG e hD)];exact sT b o e
     ·have e4:¬ pM c i=true:=fun z=>h4 (decide_eq_true (congrArg V.int (of_decide_eq_true z)));refine⟨some (.int i),some (.str z),rfl,?_,sT⟩;rw[aI nD,gR hz,if_neg e4,List.append_nil];exact h1
   ·rintro σ' H' ⟨v0,v1,rfl,h1,h2⟩;rw[List.length_map] at h1
    exact⟨e,D,⟨l,kn,d,x6,x7,x8,x9,x10,rfl,h2 _ _ hl4,h2 _ _ hk4,hd4.same h2,hd0,n1,n2,s4.trans h2,fun p h=>by
     obtain⟨_,hdd,_⟩:=hd4.ex;rcases h with h | h
     ·exact nn p (.inl h)
     ·cases h; exact⟨Ne.symm (aG hdd hD),s4.free hD⟩⟩,h2 _ _ he4,h1⟩
  clear hl4 hk4 hd4 hd0 n1 n2 s4 he4 nn;rintro σ H5 ⟨e,m,⟨l,kn,d,x6,x7,x8,x9,x10,rfl,hl5,hk5,hd5,hd0,n1,n2,s5,nn⟩,he5,hm5⟩
  have r0:atI ((bO c n).map V.str) 0=some (.str (bZ c 0)):=by
   have:=gH (xs:=(bO c n).map V.str) (j:=0) (v:=.str (bZ c 0)) (by
    rw[List.getElem?_map];unfold bO;rw[List.getElem?_map,List.getElem?_range (by omega)];rfl)
   exact this
  refine⟨_,rfl,_,_,rfl,rfl,⟨by decide,by decide⟩,_,_,rfl,rfl,(by show (0:Int)<2; decide),rfl,_,rfl,gJ (fun h4=>?_) (fun h4=>?_)⟩
  ·have e4:c/15%2=1:=V.int.inj (of_decide_eq_true h4);obtain⟨xs,hx1,hx2,hx3⟩:=hd5.rev;have sb:∀ {b:Addr}{o:HO},H5 b=some o->b≠d->upd H5 d (.lst xs.reverse) b=some o:=fun h nb=>by rw[aI nb]; exact h
   refine⟨_,rfl,.inl ⟨rfl,_,SqL.of hx1⟩,d,xs,rfl,rfl,hx1,?_⟩;refine⟨_,rfl,l,_,_,_,rfl,rfl,SqL.of (sb hl5 n1),r0,_,rfl,_,rfl,_,rfl,by show 4<=sizeLine; decide,fun t ht=>?_⟩;refine q t e d m _ (fun b o h=>smu ht _ _ (by rw[aI (aG h hd0)]; exact s5 _ _ h)) (nn _ (.inl rfl)).2 hd0 (nn _ (.inr rfl)).2 aD (smu ht _ _ (sb he5 (nn _ (.inl rfl)).1)) ?_ (smu ht _ _ (sb hm5 (nn _ (.inr rfl)).1));unfold aR;rw[if_pos e4];exact hx3.same (smu ht)
  ·have e4:¬ c/15%2=1:=fun z=>h4 (decide_eq_true (congrArg V.int z));refine⟨_,rfl,l,_,_,_,rfl,rfl,SqL.of hl5,r0,_,rfl,_,rfl,_,rfl,by show 4<=sizeLine; decide,fun t ht=>?_⟩;refine q t e d m _ (s5.trans (smu ht)) (nn _ (.inl rfl)).2 hd0 (nn _ (.inr rfl)).2 aD (smu ht _ _ he5) ?_ (smu ht _ _ hm5);unfold aR;rw[if_neg e4];exact hd5.same (smu ht)
end
end K21
namespace K21
open PySem L2 Ky
seal L2.PE L2.PS L2.PSs L2.PA L2.PT L2.PW L2.PG L2.PI L2.PTs L2.PO L2.PPs L2.OpR L2.IxR L2.CallR L2.MtM L2.MtR
unseal L2.MtM L2.MtR
inductive xX (H:Hp) (t:Addr) (c:Int) (n:Nat) (ss:List Str):Prop
 | mk (e d m:Addr) (h0_:H t=some (.tup [.str (bZ c 0),.ref e,.ref d,.ref m])) (h1_:H e=some (.lst ((cV c n).map V.str))) (h2_:cX H d (aR c ss n)) (h3_:H m=some (.lst ((fY c ss).map V.str)))
theorem xX.same {H H':Hp}{t:Addr}{c:Int}{n:Nat}{ss:List Str}(R:xX H t c n ss) (sm:aP H H'):xX H' t c n ss:=by
 obtain⟨e,d,m,h0,h1,h2,h3⟩:=R;exact⟨e,d,m,sm _ _ h0,sm _ _ h1,h2.same sm,sm _ _ h3⟩
structure eN (H:Hp) (p:Addr) (l:List (Int×Nat)) (ss:List Str):Prop where
 ex:∃ ts:List Addr,H p=some (.lst (ts.map V.ref))∧ts.length=l.length∧∀ (i:Nat) (t:Addr) (x:Int×Nat),ts[i]?=some t->l[i]?=some x->xX H t x.1 x.2 ss
theorem eN.same {H H':Hp}{p:Addr}{l:List (Int×Nat)}{ss:List Str}(R:eN H p l ss) (sm:aP H H'):eN H' p l ss:=by
 obtain⟨ts,h0,h1,h2⟩:=R.ex;exact⟨ts,sm _ _ h0,h1,fun i t x a b=>(h2 i t x a b).same sm⟩
def z1 (c:Int):Nat:=1+(c/7%5).toNat
def z2 (c:Int):Nat:=1+(c/7%3).toNat
def z3 (c:Int):Nat:=1+(c/7%2).toNat
def pQ (c:Int):Nat:=([1,2,2,3]:List Nat).getD (c/35%4).toNat 1
def tN (c1 c2 c3:Int):List (Int×Nat):=[(c1,z1 c1),(c2,z2 c2),(c3,z3 c3)]
def plant (c1 c2 c3:Int):List (Int×Nat):=(tN c1 c2 c3).take (pQ c1)
theorem aCu:∀ n,n<4->1<=([1,2,2,3]:List Nat).getD n 1∧([1,2,2,3]:List Nat).getD n 1<=3∧([1,2,2,3]:List Int).getD n 1=((([1,2,2,3]:List Nat).getD n 1:Nat):Int):=by decide +kernel
theorem xI (c:Int):1<=pQ c∧pQ c<=3∧([1,2,2,3]:List Int).getD (c/35%4).toNat 1=((pQ c:Nat):Int):=by
 have h:=cE (c/35) (m:=4) (by decide);exact aCu _ (by omega)
theorem aJm (c1 c2 c3:Int):∀ x∈tN c1 c2 c3,1<=x.2∧x.2<=5:=by
 have h1:=cE (c1/7) (m:=5) (by decide);have h2:=cE (c2/7) (m:=3) (by decide);have h3:=cE (c3/7) (m:=2) (by decide);intro x hx;rcases List.mem_cons.mp hx with rfl | hx
 ·exact⟨by show 1<=z1 c1; unfold z1; omega,by show z1 c1<=5; unfold z1; omega⟩
 rcases List.mem_cons.mp hx with rfl | hx
 ·exact⟨by show 1<=z2 c2; unfold z2; omega,by show z2 c2<=5; unfold z2; omega⟩
 rcases List.mem_cons.mp hx with rfl | hx
 ·exact⟨by show 1<=z3 c3; unfold z3; omega,by show z3 c3<=5; unfold z3; omega⟩
 cases hx
theorem aEu (c1 c2 c3:Int) (i:Nat) (h:i<3):∃ x:Int×Nat,(tN c1 c2 c3)[i]?=some x∧atI ([c1,c2,c3].map V.int) (i:Int)=some (.int x.1)∧atI ([z1 c1,z2 c2,z3 c3].map fun n:Nat=>V.int n) (i:Int)=some (.int x.2):=by
 match i,h with
 | 0,_=>exact⟨_,rfl,rfl,rfl⟩
 | 1,_=>exact⟨_,rfl,rfl,rfl⟩
 | 2,_=>exact⟨_,rfl,rfl,rfl⟩
inductive pL (D:Addr) (H:Hp) (t:Addr) (c:Int) (n:Nat) (ss:List Str):Prop
 | mk (e d m:Addr) (h0_:H t=some (.tup [.str (bZ c 0),.ref e,.ref d,.ref m])) (h1_:H e=some (.lst ((cV c n).map V.str))) (h2_:cX H d (aR c ss n)) (h3_:H m=some (.lst ((fY c ss).map V.str))) (h4_:e≠D) (h5_:d≠D) (h6_:m≠D)
theorem pL.same {D:Addr}{H H':Hp}{t:Addr}{c:Int}{n:Nat}{ss:List Str}(R:pL D H t c n ss) (sm:aP H H'):pL D H' t c n ss:=by
 obtain⟨e,d,m,h0,h1,h2,h3,h4,h5,h6⟩:=R;exact⟨e,d,m,sm _ _ h0,sm _ _ h1,h2.same sm,sm _ _ h3,h4,h5,h6⟩
theorem pL.put {H:Hp}{t D:Addr}{c:Int}{n:Nat}{ss:List Str}{ys:List V}(R:pL D H t c n ss) (hD:∃ xs,H D=some (.lst xs)):pL D (upd H D (.lst ys)) t c n ss:=by
 obtain⟨e,d,m,h0,h1,h2,h3,h4,h5,h6⟩:=R;obtain⟨xs,hD⟩:=hD;obtain⟨ts,b1,b2,b3⟩:=h2.ex;refine⟨e,d,m,by rw[aI (fun z=>by rw[z,hD] at h0; cases h0)]; exact h0,by rw[aI h4]; exact h1,⟨ts,by rw[aI h5]; exact b1,b2,fun i u x hu hx=>?_⟩,by rw[aI h6]; exact h3,h4,h5,h6⟩
 have:=b3 i u x hu hx
 rw[aI (fun z=>by rw[z,hD] at this; cases this)];exact this
theorem pL.row {D:Addr}{H:Hp}{t:Addr}{c:Int}{n:Nat}{ss:List Str}(R:pL D H t c n ss):xX H t c n ss:=by
 obtain⟨e,d,m,h0,h1,h2,h3,_⟩:=R;exact⟨e,d,m,h0,h1,h2,h3⟩
inductive tD (K:PySem.W.Frag) (vs:List V) (H:Hp) (Q:VK) (E:XK):Prop
 | mk (a b:Addr) (c1 c2 c3:Int) (ss:List Str) (h0_:vs=[.ref a,.ref b]) (h1_:SqL K H a ([c1,c2,c3].map V.int)) (h2_:SqL K H b (ss.map V.str)) (h3_:ss.length<=12)
  (h4_:∀ (p:Addr) H',aP H H'->eN H' p (plant c1 c2 c3) ss->Q (.ref p) H')
section
variable {P:Program}{w:World}{K:PySem.W.Frag}{mg:Str->Option Value}{base:Heap}
abbrev NPB:List Str:=["_law_cells","_law_names","_law_sizes"]
theorem aMq:aS NPB ["_law_cells","_law_names"] (aB gY):=⟨rfl,rfl,rfl,by decide +kernel,rfl,by decide +kernel,by decide +kernel⟩
abbrev nd5:List Str:=["_law_k","_law_cells","_law_names","_law_sizes"]
theorem yX {f fB:Addr}{fd fdB:FuncData}(F:Fun K "_law_plant_by" "_law_plant_by" gY f fd) (T:Txt K mg)
  (GB:aX P w K mg base CX0 2 fB fdB ["_law_cell","_law_names","_law_many"] (jV K)) (kB:PySem.W.keepIn K (.ref fB)=true) (bB:bJ K fdB ["_law_cell","_law_names","_law_many"] []) (mB:mg "_law_machine_by" = some (.ref fB)) :
  aX P w K mg base CX0 3 f fd ["_law_cells","_law_names"] (tD K):=by
 refine F.ok aMq (fun vs H Q E h=>?_) (fun cdv A outer s H vs Q E hr h=>?_)
 ·obtain⟨a,b,c1,c2,c3,ss,rfl,_⟩:=h;rfl
 ·obtain⟨a,b,c1,c2,c3,ss,rfl,hA,hB,hs12,q⟩:=h
  refine⟨_,aK (bU (i:=2) aMq.nd rfl (Or.inr rfl) (dB (pac (aU eI aN (aU dA (aU eU (cZ cQ (pv 0) aN (fun _ _=>rfl)) aN) aN))
    (pac (aU eI aN (aU dA (aU eU (cZ cQ (pv 0) aN (fun _ _=>rfl)) aN) aN))
    (pac (aU eI aN (aU dA (aU eU (cZ cQ (pv 0) aN (fun _ _=>rfl)) aN) aN)) aJ)))))
   (aL (bV (dN (N':=nd5) (nown:=1) (js:=[0,1,2]) rfl
     ⟨rfl,by decide +kernel,by decide +kernel⟩ (cG (aB gY) NPB rfl rfl (by decide +kernel))
     ⟨fun _ _ _ _=>aO (i:=0) (show List.Nodup nd5 by decide +kernel) rfl (Or.inl rfl) (.inr rfl),fun _ _ _ _=>dJ,
      fun _ _ _ _=>aZ GB hr rfl mB kB bB .nil bY (pac (cZ (show IxR _ (aBy K) from cQ) (pv 1) (pv 0) (fun _ _=>rfl)) (pac (pv 2) (pac (cZ (show IxR _ (aBy K) from cQ) (pv 3) (pv 0) (fun _ _=>rfl)) aJ)))⟩
     (gS rfl T.range (pac (cZ cQ (dB (pac aN (pac aN (pac aN (pac aN aJ))))) (aU dA (aU eU (cZ cQ (pv 0) aN (fun _ _=>rfl)) aN) aN) (fun _ _=>rfl)) aJ))))),?_⟩
  have g1:=cE (c1/7) (m:=5) (by decide);have g2:=cE (c2/7) (m:=3) (by decide);have g3:=cE (c3/7) (m:=2) (by decide);have g4:=cE (c1/35) (m:=4) (by decide);have hm:=xI c1;refine⟨_,rfl,a,_,_,.int c1,rfl,rfl,hA,rfl,_,_,rfl,rfl,⟨by decide,by decide⟩,_,_,rfl,rfl,(by show (0:Int)<5; decide),_,_,rfl,rfl,_,rfl,a,_,_,.int c2,rfl,rfl,hA,rfl,_,_,rfl,rfl,⟨by decide,by decide⟩,_,_,rfl,rfl,(by show (0:Int)<3; decide),_,_,rfl,rfl,_,rfl,a,_,_,.int c3,rfl,rfl,hA,rfl,_,_,rfl,rfl,⟨by decide,by decide⟩,_,_,rfl,rfl,(by show (0:Int)<2; decide),_,_,rfl,rfl,by show 3<=sizeLine; decide,fun p1 hp1=>?_⟩
  have e1:(upd H p1 (.lst [.int (1+c1/7%5),.int (1+c2/7%3),.int (1+c3/7%2)])) p1=some (.lst ([z1 c1,z2 c2,z3 c3].map fun n:Nat=>V.int n)):=by
   rw[aD];have a1:1+c1/7%5=((z1 c1:Nat):Int):=by unfold z1; omega
   have a2:1+c2/7%3=((z2 c2:Nat):Int):=by unfold z2; omega
   have a3:1+c3/7%2=((z3 c3:Nat):Int):=by unfold z3; omega
   rw[a1,a2,a3];rfl
  have s1:aP H (upd H p1 (.lst [.int (1+c1/7%5),.int (1+c2/7%3),.int (1+c3/7%2)])):=smu hp1;generalize upd H p1 (.lst [.int (1+c1/7%5),.int (1+c2/7%3),.int (1+c3/7%2)])=H1 at e1 s1 ⊢;have hat:atI ([1,2,2,3].map V.int) (c1/35%4)=some (.int ((pQ c1:Nat):Int)):=by rw[← hm.2.2]; exact iF V.int [1,2,2,3] 1 g4.1 g4.2
  refine⟨by show 4<=sizeLine; decide,fun p2 hp2=>⟨_,rfl,a,_,_,.int c1,rfl,rfl,(s1.trans (smu hp2)).seq hA,rfl,_,_,rfl,rfl,⟨by decide,by decide⟩,_,_,rfl,rfl,(by show (0:Int)<4; decide),p2,_,_,_,rfl,rfl,SqL.of aD,hat,_,rfl,by omega,by omega,?_⟩⟩;have s2:=s1.trans (smu (o:=.lst ([1,2,2,3].map V.int)) hp2);have e2:=smu (o:=.lst ([1,2,2,3].map V.int)) hp2 _ _ e1;intro D hD;refine jC (n:=pQ c1) (fun i σ' H'=>∃ v,σ'=[v,some (.ref a),some (.ref b),some (.ref p1)]∧(∃ ts:List Addr,H' D=some (.lst (ts.map V.ref))∧ts.length=i∧∀ (j:Nat) (t:Addr) (x:Int×Nat),ts[j]?=some t->(tN c1 c2 c3)[j]?=some x->pL D H' t x.1 x.2 ss)∧∀ b o,b≠D->upd H1 p2 (.lst ([1,2,2,3].map V.int)) b=some o->H' b=some o) ?_ ?_ ?_
  ·exact⟨none,rfl,⟨[],aD,rfl,fun j t x h=>by cases h⟩,fun b o n h=>by rw[aI n]; exact h⟩
  ·rintro i σ' H' hi ⟨v,rfl,⟨ts,t1,t2,t3⟩,k⟩;obtain⟨x,hx0,hx1,hx2⟩:=aEu c1 c2 c3 i (by omega);have hxz:=aJm c1 c2 c3 x (List.mem_of_getElem? hx0)
   have sq:∀ {p:Addr}{xs:List V},SqL K (upd H1 p2 (.lst ([1,2,2,3].map V.int))) p xs->SqL K H' p xs:=fun {p xs} h=>by
    rcases h with (h | ⟨o,h⟩) | h
    ·exact .inl (.inl (k _ _ (aG h hD) h))
    ·exact .inl (.inr ⟨o,k _ _ (aG h hD) h⟩)
    ·exact .inr h
   refine⟨_,rfl,_,rfl,a,_,_,.int x.1,rfl,rfl,sq (s2.seq hA),by rw[Int.zero_add]; exact hx1,_,rfl,_,rfl,_,rfl,p1,_,_,.int x.2,rfl,rfl,sq (SqL.of e2),by rw[Int.zero_add]; exact hx2,x.1,b,x.2,ss,rfl,sq (s2.seq hB),hxz.1,hxz.2,hs12,fun t e d m H3 s3 he hd hm' ht he3 hd3 hm3=>?_⟩;have t13:=s3 _ _ t1;refine⟨_,t13,aQ (by rw[List.length_map]; omega),_,rfl,⟨ts++[t],by rw[aD,List.map_append]; rfl,by rw[List.length_append,t2]; rfl,fun j u y hu hy=>?_⟩,fun b o n h=>by rw[aI n]; exact s3 _ _ (k b o n h)⟩
   by_cases hj:j<ts.length
   ·rw[List.getElem?_append_left hj] at hu;exact ((t3 j u y hu hy).same s3).put ⟨_,t13⟩
   ·have hl:j=ts.length:=by
     have:=(List.getElem?_eq_some_iff.mp hu).1
     rw[List.length_append] at this;simp only[List.length_cons,List.length_nil] at this;omega
    subst hl;rw[List.getElem?_append_right (Nat.le_refl _),Nat.sub_self] at hu;cases hu;rw[t2,hx0] at hy;cases hy;have nD:∀ {p:Addr},H' p=none->p≠D:=fun h z=>by rw[z,t1] at h; cases h
    exact (pL.mk e d m ht he3 hd3 hm3 (nD he) (nD hd) (nD hm')).put ⟨_,t13⟩
  ·rintro σ' H' ⟨v,rfl,⟨ts,t1,t2,t3⟩,k⟩;refine q D H' (fun b o h=>k _ _ (aG h (s2.free hD)) (s2 _ _ h)) ⟨ts,t1,?_,fun j t x hj hx=>?_⟩
   ·rw[t2];unfold plant;rw[List.length_take];show _=min (pQ c1) 3;omega
   ·unfold plant at hx;have hjl:j<pQ c1:=by rw[← t2]; exact (List.getElem?_eq_some_iff.mp hj).1
    rw[List.getElem?_take_of_lt hjl] at hx;exact (t3 j t x hj hx).row
end
end K21
namespace K21
open PySem L2 Ky
seal L2.PE L2.PS L2.PSs L2.PA L2.PT L2.PW L2.PG L2.PI L2.PTs L2.PO L2.PPs L2.OpR L2.IxR L2.CallR L2.MtM L2.MtR
unseal L2.MtM L2.MtR
theorem oI {rs:List Str}{z:Str}:z∈unl rs []↔z∈rs:=by
 rw[aAc];exact⟨fun h=>h.elim (fun h=>nomatch h) id,.inr⟩
theorem aGk (k:List (Key×V)) (l:List Str) (s:Str) (v:V) (h:k.map (·.1)=l.map Sum.inr):(eP k (Sum.inr s) v).map (·.1)=(if s∈l then l else l++[s]).map Sum.inr:=by
 unfold eP;rw[kX,h]
 have m:(k.map fun kv=>if kv.1=(Sum.inr s:Key) then (kv.1,v) else kv).map (·.1)=k.map (·.1):=by
  rw[List.map_map];refine List.map_congr_left fun p _=>?_;show (if p.1=_ then (p.1,v) else p).1=p.1
  split <;> rfl
 by_cases q:s∈l
 ·rw[if_pos q,if_pos (by rw[List.any_eq_true]; exact⟨_,List.mem_map.mpr ⟨s,q,rfl⟩,decide_eq_true rfl⟩),m,h]
 ·rw[if_neg q,if_neg fun z=>by
   obtain⟨x,hx,e⟩:=List.any_eq_true.mp z;obtain⟨y,hy,rfl⟩:=List.mem_map.mp hx;exact q (Sum.inr.inj (of_decide_eq_true e)▸hy),List.map_append,h,List.map_append]
  rfl
theorem uY:∀ (ss:List Str) (k:List (Key×V)) (l:List Str),k.map (·.1)=l.map Sum.inr->(mks ss k).map (·.1)=(unl ss l).map Sum.inr
 | [],k,l,h=>h
 | s::r,k,l,h=>uY r _ _ (aGk k l s _ h)
theorem tS {kvs:List (Key×V)}{rs:List Str}(h:kvs.map (·.1)=(mks rs []).map (·.1)):kvs.map (fun kv=>L2.kV kv.1)=(unl rs []).map V.str:=by
 have e:kvs.map (fun kv=>L2.kV kv.1)=(kvs.map (·.1)).map L2.kV:=by rw[List.map_map]; rfl
 rw[e,h,uY rs [] [] rfl,List.map_map];rfl
theorem oT:∀ (fs:List Str) (kvs:List (Key×V)) (z:Str),(dH (mks fs kvs) (Sum.inr z)).isSome=(decide (z∈fs)||(dH kvs (Sum.inr z)).isSome)
 | [],kvs,z=>by simp[mks]
 | s::r,kvs,z=>by
  rw[mks,oT r,jU]
  by_cases h:z=s
  ·subst h
   simp
  ·rw[if_neg fun e=>h (Sum.inr.inj e)];simp[h]
theorem pB {kvs:List (Key×V)}{rs:List Str}(h:kvs.map (·.1)=(mks rs []).map (·.1)) (z:Str):(dH kvs (Sum.inr z)).isSome=decide (z∈rs):=by
 have:=oT rs [] z
 rw[show (dH ([]:List (Key×V)) (Sum.inr z)).isSome=false from rfl,Bool.or_false] at this
 rw[← this,← gU,← gU,kX,kX,h]
theorem eR {rs N:List Str}(h:∀ z∈rs,z∈N):(unl rs []).length<=N.length:=by
 have:∀ (l m:List Str),l.Nodup->(∀ z∈l,z∈m)->l.length<=m.length:=fun l m hd hs=>by
  induction l generalizing m with
  | nil=>exact Nat.zero_le _
  | cons x r ih=>
   have hn:=List.nodup_cons.mp hd;have h1:=ih (m.erase x) hn.2 (fun z hz=>(List.mem_erase_of_ne (fun (e:z=x)=>hn.1 (e▸hz))).mpr (hs z (List.mem_cons_of_mem _ hz)));have hx:=hs x (List.mem_cons_self ..);have h2:=List.length_pos_of_mem hx;rw[List.length_erase_of_mem hx] at h1;simp only[List.length_cons];omega
 exact this _ _ (iV _ _ .nil) fun z hz=>h z (oI.mp hz)
inductive vX (CM:Addr) (vs:List V) (H:Hp) (Q:VK) (E:XK):Prop
 | mk (x dd:Addr) (b:Str) (es kn:List Str) (ds:List Dr) (h0_:vs=[.ref x]) (h1_:MM CM H x dd b es kn ds) (h2_:Q (.ref dd) H)
inductive aAj (CM:Addr) (f:Str->List Str->List Str->List Dr->List Str) (vs:List V) (H:Hp) (Q:VK) (E:XK):Prop
 | mk (x dd:Addr) (b:Str) (es kn:List Str) (ds:List Dr) (h0_:vs=[.ref x]) (h1_:MM CM H x dd b es kn ds) (h2_:(unl (f b es kn ds) []).length<64)
  (h3_:∀ (l:Addr) (ts:List Str) H',aP H H'->H l=none->H' l=some (.lst (ts.map V.str))->PyProof.Rows.sortedS ts=true->ts.Perm (unl (f b es kn ds) [])->Q (.ref l) H')
abbrev aBa (b:Str) (es:List Str) (ds:List Dr) (z:Str):Prop:=bX z=true∧z∈cO b es ds
inductive uL (CM cR:Addr) (vs:List V) (H:Hp) (Q:VK) (E:XK):Prop
 | mk (x dd:Addr) (b z:Str) (es kn:List Str) (ds:List Dr) (h0_:vs=[.ref x,.str z]) (h1_:MM CM H x dd b es kn ds) (h2_:z.length<=1000) (h3_:aBa b es ds z->∀ H',aP H H'->Q .non H') (h4_:¬ aBa b es ds z->∀ H',aP H H'->E (.ref cR) none H')
inductive oJ (CM cR:Addr) (vs:List V) (H:Hp) (Q:VK) (E:XK):Prop
 | mk (x dd:Addr) (b z:Str) (es kn:List Str) (ds:List Dr) (h0_:vs=[.ref x,.str z]) (h1_:MM CM H x dd b es kn ds) (h2_:z.length<=1000) (h3_:aBa b es ds z->∀ H',aP H H'->Q (.bl (decide (z∈es))) H') (h4_:¬ aBa b es ds z->∀ H',aP H H'->E (.ref cR) none H')
section
variable {P:Program}{w:World}{K:PySem.W.Frag}{mg:Str->Option Value}{base:Heap}
theorem aPc:aS ["self"] ["self"] (aB oY):=⟨rfl,rfl,rfl,by decide +kernel,rfl,by decide +kernel,by decide +kernel⟩
theorem aCo {f CM:Addr}{fd:FuncData}(F:Fun K "deeds" "Machine.deeds" oY f fd) (MC:pN K CM):aX P w K mg base CX0 1 f fd ["self"] (vX CM):=by
 refine F.ok aPc (fun vs H Q E h=>?_) (fun cdv A outer s H vs Q E hr h=>?_)
 ·obtain⟨x,dd,b,es,kn,ds,rfl,_⟩:=h;rfl
 ·obtain⟨x,dd,b,es,kn,ds,rfl,⟨dx,l,e,k,kvs,g,M⟩,q⟩:=h;exact⟨_,aL (bV (fO (pv 0) rfl)),_,rfl,x,CM,dx,_,_,rfl,M.ins,MC.cl,MC.nd,by rfl,q⟩
theorem aPd:aS ["self"] ["self"] (aB oZ):=⟨rfl,rfl,rfl,by decide +kernel,rfl,by decide +kernel,by decide +kernel⟩
theorem aCp {f CM:Addr}{fd:FuncData}(F:Fun K "begin" "Machine.begin" oZ f fd) (MC:pN K CM):aX P w K mg base CX0 1 f fd ["self"] (vY CM):=by
 refine F.ok aPd (fun vs H Q E h=>?_) (fun cdv A outer s H vs Q E hr h=>?_)
 ·obtain⟨x,dd,b,es,kn,ds,rfl,_⟩:=h;rfl
 ·obtain⟨x,dd,b,es,kn,ds,rfl,⟨dx,l,e,k,kvs,g,M⟩,q⟩:=h;exact⟨_,aL (bV (fO (pv 0) rfl)),_,rfl,x,CM,dx,_,_,rfl,M.ins,MC.cl,MC.nf,by rfl,q⟩
abbrev aGr (_b:Str) (_es kn:List Str) (_ds:List Dr):List Str:=kn
theorem aOz:aS ["self"] ["self"] (aB oW):=⟨rfl,rfl,rfl,by decide +kernel,rfl,by decide +kernel,by decide +kernel⟩
theorem aCn {f CM:Addr}{fd:FuncData}(F:Fun K "knows" "Machine.knows" oW f fd) (T:Txt K mg) (MC:pN K CM):aX P w K mg base CX0 1 f fd ["self"] (aAj CM aGr):=by
 refine F.ok aOz (fun vs H Q E h=>?_) (fun cdv A outer s H vs Q E hr h=>?_)
 ·obtain⟨x,dd,b,es,kn,ds,rfl,_⟩:=h;rfl
 ·obtain⟨x,dd,b,es,kn,ds,rfl,⟨dx,l,e,k,kvs,g,M⟩,h64,q⟩:=h;refine⟨_,aL (bV (cJ (nX rfl) (by rfl) T.sorted Bo.sorted (pac (fO (pv 0) rfl) aJ))),?_⟩;exact⟨_,rfl,x,CM,dx,_,_,rfl,M.ins,MC.cl,MC.nk,by rfl,k,_,_,rfl,M.know,tS rfl,h64,fun p ts' hp pm so=>q p ts' _ (smu hp) hp aD so pm⟩
theorem aPn {CM:Addr}{H:Hp}{x dx l dd e k:Addr}{b:Str}{es kn:List Str}{ds:List Dr}{kvs:List (Key×V)}{g:Str->Addr}(M:MAt CM H x dx l dd e k b es kn ds kvs g){z:Str}(hz:z∈cO b es ds):fV H l (.str z) (some (.ref (g z))):=by
 have gv:=fV.k (k:=Sum.inr z) M.lead.dk;rw[M.lead.val z hz] at gv;exact gv
theorem aLd (ds:List Dr) (z y:Str):(dH (inn ds z) (Sum.inr y)).getD .non=oV (jO ds z y):=by rw[aIu]; rfl
theorem aOy:aS ["self","room"] ["self","room"] (aB jA):=⟨rfl,rfl,rfl,by decide +kernel,rfl,by decide +kernel,by decide +kernel⟩
theorem aFr {f fN CM cR:Addr}{fd fdN:FuncData}(F:Fun K "require_room" "Machine.require_room" jA f fd) (T:Txt K mg) (MC:pN K CM) (mR:mg "NoRoom" = some (.ref cR)) (xR:aAa K cR)
  (FN:Fun K "is_name" "is_name" jP fN fdN) (bN:bJ K fdN ["thing"] []) (mN:mg "is_name" = some (.ref fN)):aX P w K mg base (CXE P w) 2 f fd ["self","room"] (uL CM cR):=by
 have GN:aX P w K mg base CX0 1 fN fdN ["thing"] (qP K):=qE FN T;refine okE F aOy (fun vs H Q E h=>?_) (fun cdv A outer s H vs Q E hr h D=>?_)
 ·obtain⟨x,dd,b,z,es,kn,ds,rfl,_⟩:=h;rfl
 ·obtain⟨x,dd,b,z,es,kn,ds,rfl,⟨dx,l,e,k,kvs,g,M⟩,hz,q1,q2⟩:=h;have hu:=jB hr;refine⟨_,aL (dL (nM (hZ (jH (aZ GN hr (by rfl) mN FN.kp bN .nil bY (pac (pv 1) aJ)))) (mO (qV (tO hu (pv 1) (fO (pv 0) rfl))))).pt (aL (iZ D rfl (by rfl) mR xR (pac aY aJ))) cF),?_⟩;refine⟨_,rfl,.str z,rfl,.inl ⟨z,rfl,Nat.le_of_lt (aQ hz),fun H2 s2=>⟨_,rfl,?_⟩⟩⟩
  by_cases hn:bX z=true
  ·rw[hn];refine fZ ⟨_,rfl,_,rfl,x,CM,dx,_,_,rfl,s2 _ _ M.ins,MC.cl,MC.nl,by rfl,l,_,rfl,fV.k (k:=Sum.inr z) (s2 _ _ M.lead.dk),_,rfl,?_⟩;rw[pB M.lead.keys z]
   by_cases hm:z∈cO b es ds
   ·rw[decide_eq_true hm];exact fZ (q1 ⟨hn,hm⟩ H2 s2)
   ·rw[decide_eq_false hm];exact kO ⟨by show 1<=sizeLine; decide,q2 (fun g=>hm g.2) H2 s2⟩
  ·rw[Bool.eq_false_iff.mpr hn];exact kO ⟨by show 1<=sizeLine; decide,q2 (fun g=>hn g.1) H2 s2⟩
theorem aPb:aS ["self","room"] ["self","room"] (aB oX):=⟨rfl,rfl,rfl,by decide +kernel,rfl,by decide +kernel,by decide +kernel⟩
theorem yZ {f fR CM cR:Addr}{fd fdR:FuncData}(F:Fun K "is_end" "Machine.is_end" oX f fd) (MC:pN K CM)
  (GR:aX P w K mg base (CXE P w) 2 fR fdR ["self","room"] (uL CM cR)) (bR:bJ K fdR ["self","room"] []) (mR:eJ K CM "require_room" fR):aX P w K mg base (CXE P w) 3 f fd ["self","room"] (oJ CM cR):=by
 refine okE F aPb (fun vs H Q E h=>?_) (fun cdv A outer s H vs Q E hr h D=>?_)
 ·obtain⟨x,dd,b,z,es,kn,ds,rfl,_⟩:=h;rfl
 ·obtain⟨x,dd,b,z,es,kn,ds,rfl,⟨dx,l,e,k,kvs,g,M⟩,hz,q1,q2⟩:=h;have hu:=jB hr;refine⟨_,aK (cW (dO (pv 0) MC.cl mR GR hr bR .nil (D.passes fun _ _ _ z=>z) (pac (pv 1) aJ))) (aL (bV (aFg (rB hu (pv 1) (fO (pv 0) rfl))))),?_⟩;refine⟨_,rfl,x,dx,_,rfl,M.ins,gT _ _ _ _ _ _ (by decide),_,rfl,x,dd,b,z,es,kn,ds,rfl,⟨dx,l,e,k,kvs,g,M⟩,hz,fun good H2 s2=>?_,fun bad H2 s2=>q2 bad H2 s2⟩;have M2:=M.same s2;refine⟨_,rfl,_,rfl,x,CM,dx,_,_,rfl,M2.ins,MC.cl,MC.ne,by rfl,e,_,rfl,fV.k (k:=Sum.inr z) M2.ends,?_⟩;rw[pB rfl z];exact q1 good H2 s2
end
end K21
namespace K21
open PySem L2 Ky
seal L2.PE L2.PS L2.PSs L2.PA L2.PT L2.PW L2.PG L2.PI L2.PTs L2.PO L2.PPs L2.OpR L2.IxR L2.CallR L2.MtM L2.MtR
theorem nU {c:Int}{kn rs nm:List Str}{n i k:Nat}{x:Dr}(h:dr c kn rs nm n i k=some x):rs[i]?=some x.1∧nm[k]?=some x.2.1∧x.2.1∈kn∧x.2.2=rs.getD (drw c i k/3%n).toNat "":=by
 unfold dr at h;split at h
 ·rename_i r d hr hd
  by_cases q:(decide (d∈kn)&&decide (drw c i k%3>0))=true
  ·rw[if_pos q] at h;cases h;exact⟨hr,hd,of_decide_eq_true (Bool.and_eq_true_iff.mp q).1,rfl⟩
  ·rw[if_neg q] at h;cases h
 ·cases h
theorem qT (c:Int) (k:Nat):∃ T:List Str,T.length=5∧T.all bX=true∧T.Nodup∧∀ j:Nat,T[((c/5+j)%5).toNat]?=some (bZ c j):=by
 have g:=cE c (m:=5) (by decide);have t:=aJo (c%5).toNat (by omega);refine⟨tabs.getD (c%5).toNat [],t.1,t.2.1,t.2.2,fun j=>?_⟩;have g':=cE (c/5+(j:Int)) (m:=5) (by decide);unfold bZ;generalize tabs.getD (c%5).toNat []=T at t ⊢;rw[List.getD_eq_getElem?_getD,List.getElem?_eq_getElem (by rw[t.1]; omega)];rfl
theorem wH (c:Int) (k:Nat):bX (bZ c k)=true:=by
 obtain⟨T,_,h2,_,h4⟩:=qT c k;exact List.all_eq_true.mp h2 _ (List.mem_of_getElem? (h4 k))
theorem uO {c:Int}{n:Nat}:∀ z∈bO c n,bX z=true:=fun z hz=>by
 obtain⟨k,_,rfl⟩:=List.mem_map.mp hz;exact wH c k
theorem sE (c:Int){n:Nat}(hn:n<=5):(bO c n).Nodup:=by
 obtain⟨T,h1,_,h3,h4⟩:=qT c 0;unfold bO;refine List.pairwise_map.mpr (List.Pairwise.imp_of_mem (fun {i j} hi hj hlt e=>?_) (List.pairwise_lt_range (n:=n)));have hi':=List.mem_range.mp hi;have hj':=List.mem_range.mp hj;have g1:=cE (c/5+(i:Int)) (m:=5) (by decide);have g2:=cE (c/5+(j:Int)) (m:=5) (by decide)
 have:=(List.getElem?_inj (i:=((c/5+i)%5).toNat) (j:=((c/5+j)%5).toNat) (by rw[h1]; omega) h3).mp (by rw[h4,h4,e])
 omega
theorem yO {c:Int}{n i:Nat}(h:i<n):bZ c i∈bO c n:=List.mem_map.mpr ⟨i,List.mem_range.mpr h,rfl⟩
theorem aHc {c:Int}{kn rs nm:List Str}{n i:Nat}{x:Dr}(hn:rs.length=n) (h1:1<=n) (h:x∈mY c kn rs nm n i):x.1∈rs∧x.2.1∈nm∧x.2.2∈rs:=by
 obtain⟨a,_,hx⟩:=List.mem_flatMap.mp h;obtain⟨k,_,e⟩:=List.mem_filterMap.mp hx;obtain⟨e1,e2,_,e3⟩:=nU e;refine⟨List.mem_of_getElem? e1,List.mem_of_getElem? e2,?_⟩;have g:=cE (drw c a k/3) (m:=(n:Int)) (by omega);rw[e3,List.getD_eq_getElem?_getD,List.getElem?_eq_getElem (by omega)];exact List.getElem_mem _
theorem zW {c:Int}{kn rs nm:List Str}{n i:Nat}(hr:rs.Nodup) (hm:nm.Nodup):Apart (mY c kn rs nm n i):=by
 refine List.pairwise_map.mpr (List.pairwise_flatMap.mpr ⟨fun a _=>?_,?_⟩)
 ·refine List.pairwise_filterMap.mpr (List.Pairwise.imp (fun {k k'} hlt x hx y hy e=>?_) (List.pairwise_lt_range (n:=nm.length)));obtain⟨_,e2,_⟩:=nU hx;obtain⟨_,f2,_⟩:=nU hy
  have:=(List.getElem?_inj (i:=k) (j:=k') (List.getElem?_eq_some_iff.mp e2).1 hm).mp (by rw[e2,f2,(Prod.mk.inj e).2])
  omega
 ·refine List.Pairwise.imp (fun {a a'} hlt x hx y hy e=>?_) (List.pairwise_lt_range (n:=i));obtain⟨k,_,hx⟩:=List.mem_filterMap.mp hx;obtain⟨k',_,hy⟩:=List.mem_filterMap.mp hy;obtain⟨e1,_⟩:=nU hx;obtain⟨f1,_⟩:=nU hy
  have:=(List.getElem?_inj (i:=a) (j:=a') (List.getElem?_eq_some_iff.mp e1).1 hr).mp (by rw[e1,f1,(Prod.mk.inj e).1])
  omega
structure aBh (c:Int) (n:Nat) (ss:List Str):Prop where
 le:(cV c n).length<=200∧(aR c ss n).length<=200∧(fY c ss).length<=200
 nm:(cO (bZ c 0) (cV c n) (aR c ss n)).all bX=true
 ap:Apart (aR c ss n)
 dd:∀ x∈aR c ss n,x.2.1∈ss
 kn:∀ z∈eK (aR c ss n) (fY c ss),z∈ss
 rb:∀ z∈cO (bZ c 0) (cV c n) (aR c ss n),z∈bO c n
 sm:(cV c n).length<=5∧(aR c ss n).length<=60∧(fY c ss).length<=12
theorem xO {c:Int}{n:Nat}{ss:List Str}{x:Dr}(h:x∈aR c ss n):x∈mY c (cT c ss) (bO c n) ss n n:=by
 unfold aR at h;dsimp only at h;split at h
 ·exact List.mem_reverse.mp h
 ·exact h
theorem aMt {c:Int}{n:Nat}{ss:List Str}(h1:1<=n) (h5:n<=5) (hs:ss.length<=12) (hd:ss.Nodup):aBh c n ss:=by
 have mem:=fun (x:Dr) (h:x∈aR c ss n)=>aHc (dR c n) h1 (xO h)
 have rm:∀ z∈cO (bZ c 0) (cV c n) (aR c ss n),z∈bO c n:=fun z hz=>by
  rcases List.mem_append.mp hz with hz | hz
  ·rcases List.mem_cons.mp hz with rfl | hz
   ·exact yO (by omega)
   ·exact wL z hz
  ·obtain⟨x,hx,hz⟩:=List.mem_flatMap.mp hz;rcases List.mem_cons.mp hz with rfl | hz
   ·exact (mem x hx).1
   ·rw[List.mem_singleton.mp hz]; exact (mem x hx).2.2
 have dl:(aR c ss n).length<=60:=by
  have a1:=rW c (cT c ss) (bO c n) ss n n;have a3:ss.length*n<=12*5:=Nat.mul_le_mul hs h5;unfold aR;dsimp only;split
  ·rw[List.length_reverse]; omega
  ·omega
 have el:(cV c n).length<=5:=Nat.le_trans (jZ ..) (by omega);have ml:(fY c ss).length<=12:=Nat.le_trans (jZ ..) (by omega);refine⟨⟨by omega,by omega,by omega⟩,List.all_eq_true.mpr fun z hz=>uO z (rm z hz),?_,fun x hx=>(mem x hx).2.1,fun z hz=>?_,rm,el,dl,ml⟩
 ·have ap:Apart (mY c (cT c ss) (bO c n) ss n n):=zW (sE c h5) hd;unfold aR;dsimp only;split
  ·unfold Ky.Apart at ap ⊢;rw[List.map_reverse];exact List.pairwise_reverse.mpr (List.Pairwise.imp (fun h=>Ne.symm h) ap)
  ·exact ap
 ·rcases List.mem_append.mp hz with hz | hz
  ·obtain⟨x,hx,rfl⟩:=List.mem_map.mp hz;exact (mem x hx).2.1
  ·exact wL z hz
end K21
namespace K21
open PySem L2 Ky
seal L2.PE L2.PS L2.PSs L2.PA L2.PT L2.PW L2.PG L2.PI L2.PTs L2.PO L2.PPs L2.OpR L2.IxR L2.CallR L2.MtM L2.MtR
unseal L2.MtM L2.MtR
structure MW where
 b:Str
 es:List Str
 kn:List Str
 ds:List Dr
abbrev MW.rs (m:MW):List Str:=cO m.b m.es m.ds
def parts (ms:List MW) (room:List Str) (y:Str):List (Option Str):=List.zipWith (fun m z=>pH m.ds m.kn z y) ms room
def aBj (ms:List MW) (room:List Str) (y:Str):Option (List Str):=if (parts ms room y).any (fun o=>o.isNone)=true then none else some ((parts ms room y).map fun o=>o.getD "")
def wkn (ms:List MW):List Str:=ms.flatMap (·.kn)
def wto (ms:List MW) (room:List Str) (y:Str):Option (List Str):=if y∈wkn ms then aBj ms room y else none
def aKb (ms:List MW) (room:List Str):Bool:=(List.zipWith (fun m z=>decide (z∈m.es)) ms room).all id
structure ROk (ms:List MW) (room:List Str):Prop where
 len:ms.length=room.length
 mem:∀ (i:Nat) (m:MW) (z:Str),ms[i]?=some m->room[i]?=some z->bX z=true∧z∈m.rs
structure nC (CM:Addr) (H:Hp) (x p:Addr) (ms:List MW):Prop where
 ex:∃ Xs:List Addr,H p=some (.lst (Xs.map V.ref))∧Xs.length=ms.length∧∀ (i:Nat) (X:Addr) (m:MW),Xs[i]?=some X->ms[i]?=some m->MM CM H X x m.b m.es m.kn m.ds
theorem nC.same {CM:Addr}{H H':Hp}{x p:Addr}{ms:List MW}(M:nC CM H x p ms) (sm:aP H H'):nC CM H' x p ms:=by
 obtain⟨Xs,h0,h1,h2⟩:=M.ex;exact⟨Xs,sm _ _ h0,h1,fun i X m a b=>(h2 i X m a b).same sm⟩
def vL (H:Hp) (Q:VK):Option (List Str)->Prop
 | none=>∀ H',aP H H'->Q .non H'
 | some ss=>∀ (l:Addr) H',aP H H'->H l=none->H' l=some (.tup (ss.map V.str))->Q (.ref l) H'
inductive tH (CM:Addr) (vs:List V) (H:Hp) (Q:VK) (E:XK):Prop
 | mk (x p:Addr) (ms:List MW) (h0_:vs=[.ref p]) (h1_:nC CM H x p ms) (h2_:ms.length<=100) (h3_:vL H Q (some (ms.map (·.b))))
inductive aAo (K:PySem.W.Frag) (CM:Addr) (vs:List V) (H:Hp) (Q:VK) (E:XK):Prop
 | mk (x p t:Addr) (ms:List MW) (room:List Str) (y:Str) (h0_:vs=[.ref p,.ref t,.str y]) (h1_:nC CM H x p ms) (h2_:SqT K H t (room.map V.str)) (h3_:ROk ms room) (h4_:ms.length<=100) (h5_:vL H Q (aBj ms room y))
inductive tI (K:PySem.W.Frag) (CM:Addr) (vs:List V) (H:Hp) (Q:VK) (E:XK):Prop
 | mk (x p t:Addr) (ms:List MW) (room:List Str) (h0_:vs=[.ref p,.ref t]) (h1_:nC CM H x p ms) (h2_:SqT K H t (room.map V.str)) (h3_:ROk ms room) (h4_:ms.length<=100) (h5_:∀ H',aP H H'->Q (.bl (aKb ms room)) H')
inductive tF (CM:Addr) (vs:List V) (H:Hp) (Q:VK) (E:XK):Prop
 | mk (x p:Addr) (ms:List MW) (N:List Str) (h0_:vs=[.ref p]) (h1_:nC CM H x p ms) (h2_:ms.length<=10) (h3_:∀ m∈ms,∀ z∈m.kn,z∈N) (h4_:N.length<64)
  (h5_:∀ (l:Addr) (kn:List Str) H',aP H H'->H l=none->(∀ z,z∈kn↔z∈wkn ms)->H' l=some (.dK (mks kn []))->Q (.ref l) H')
theorem jS {α β γ:Type}{f:α->β->γ}:∀ {as:List α}{bs:List β}{i:Nat}{a:α}{b:β},as[i]?=some a->bs[i]?=some b->List.zipWith f (as.take (i+1)) (bs.take (i+1))=List.zipWith f (as.take i) (bs.take i)++[f a b]
 | [],_,_,_,_,h,_=>by simp at h
 | _::_,[],_,_,_,_,h=>by simp at h
 | a'::as,b'::bs,0,a,b,h1,h2=>by
  have e1:a'=a:=by simpa using h1
  have e2:b'=b:=by simpa using h2
  rw[e1,e2]
  simp
 | a'::as,b'::bs,i+1,a,b,h1,h2=>by
  have:=jS (f:=f) (as:=as) (bs:=bs) (i:=i) (a:=a) (b:=b) (by simpa using h1) (by simpa using h2)
  simp only[List.take_succ_cons,List.zipWith_cons_cons,List.cons_append] at this ⊢;rw[this]
section
variable {P:Program}{w:World}{K:PySem.W.Frag}{mg:Str->Option Value}{base:Heap}
theorem aPa:aS ["self","room","deed"] ["self","room","deed"] (aB tU):=⟨rfl,rfl,rfl,by decide +kernel,rfl,by decide +kernel,by decide +kernel⟩
theorem aFt {f CM:Addr}{fd:FuncData}(F:Fun K "goes" "Machine.goes" tU f fd) (MC:pN K CM):aX P w K mg base CX0 1 f fd ["self","room","deed"] (aAl CM):=by
 refine F.ok aPa (fun vs H Q E h=>?_) (fun cdv A outer s H vs Q E hr h=>?_)
 ·obtain⟨x,dd,b,z,y,es,kn,ds,rfl,_⟩:=h;rfl
 ·obtain⟨x,dd,b,z,y,es,kn,ds,rfl,⟨dx,l,e,k,kvs,g,M⟩,hz,q⟩:=h;have hu:=jB hr
  refine⟨_,aK (dL (qV (rB hu (pv 2) (fO (pv 0) rfl))) (aL (bV (wP hu (jK hu (fO (pv 0) rfl) (pv 1) (fun _ _=>rfl)) (pv 2) ⟨by rfl,by rfl,by rfl,by rfl⟩))) cF)
   (aL (bV (pv 1))),?_⟩
  refine⟨_,rfl,_,rfl,x,CM,dx,_,_,rfl,M.ins,MC.cl,MC.nk,by rfl,k,_,rfl,fV.k (k:=Sum.inr y) M.know,_,rfl,?_⟩;rw[oT];unfold pH at q
  by_cases hy:y∈kn
  ·rw[if_pos hy] at q;rw[decide_eq_true hy,Bool.true_or];refine kO ⟨_,rfl,x,CM,dx,_,_,rfl,M.ins,MC.cl,MC.nl,by rfl,_,rfl,l,_,rfl,aPn M hz,g z,rfl,?_,_,rfl,_,fV.k (k:=Sum.inr y) (M.lead.dd z hz),?_⟩
   ·exact .inl ⟨_,.inl (M.lead.dd z hz)⟩
   ·rw[aLd];exact q
  ·rw[if_neg hy] at q;rw[decide_eq_false hy];exact fZ ⟨_,rfl,q⟩
end
end K21
namespace K21
open PySem L2 Ky
seal L2.PE L2.PS L2.PSs L2.PA L2.PT L2.PW L2.PG L2.PI L2.PTs L2.PO L2.PPs L2.OpR L2.IxR L2.CallR L2.MtM L2.MtR
unseal L2.MtM L2.MtR
theorem dC {K:PySem.W.Frag}{H H':Hp}{a:Addr}{xs:List V}(h:SqT K H a xs) (e:aP H H'):SqT K H' a xs:=by
 rcases h with (h | ⟨o,h⟩) | h
 ·exact .inl (.inl (e _ _ h))
 ·exact .inl (.inr ⟨o,e _ _ h⟩)
 ·exact .inr h
theorem aFw:∀ {os:List (Option Str)},os.any (fun o=>o.isNone)=false->os.map oV=(os.map fun o=>o.getD "").map V.str
 | [],_=>rfl
 | none::_,h=>by simp at h
 | some z::os,h=>by
  rw[List.map_cons,List.map_cons,List.map_cons,aFw (by simpa using h)];rfl
section
variable {P:Program}{w:World}{K:PySem.W.Frag}{mg:Str->Option Value}{base:Heap}
theorem aPe:aS ["machines"] ["machines"] (aB hJ):=⟨rfl,rfl,rfl,by decide +kernel,rfl,by decide +kernel,by decide +kernel⟩
abbrev nd1:List Str:=["machine"]
theorem zC {f fB CM:Addr}{fd fdB:FuncData}(F:Fun K "begin_of" "begin_of" hJ f fd) (mT:mg "tuple" = none) (MC:pN K CM)
  (GB:aX P w K mg base CX0 1 fB fdB ["self"] (vY CM)) (bB:bJ K fdB ["self"] []) (mB:eJ K CM "begin" fB):aX P w K mg base CX0 2 f fd ["machines"] (tH CM):=by
 refine F.ok aPe (fun vs H Q E h=>?_) (fun cdv A outer s H vs Q E hr h=>?_)
 ·obtain⟨x,p,ms,rfl,_⟩:=h;rfl
 ·obtain⟨x,p,ms,rfl,M,hl,q⟩:=h
  refine⟨_,aL (bV (eS eY (by rfl) mT Bo.tuple (pac (dN (N':=nd1) (nown:=1) (js:=[]) rfl
     ⟨rfl,by decide +kernel,by decide +kernel⟩ (cG (aB hJ) ["machines"] rfl rfl (by decide +kernel))
     ⟨fun _ _ _ _=>aO (i:=0) (show List.Nodup nd1 by decide +kernel) rfl (Or.inl rfl) (.inr rfl),fun _ _ _ _=>dJ,fun _ _ _ _=>eX (pv 0) MC.cl mB GB hr bB .nil bY⟩
     (cS (pv 0))) aJ))),?_⟩
  obtain⟨Xs,h0,h1,h2⟩:=M.ex;refine⟨_,rfl,p,rfl,⟨_,SqL.of h0⟩,fun D hD=>eZ (xs:=Xs.map V.ref) (fun i σ' H'=>∃ v,σ'=[v]∧H' D=some (.lst (((ms.take i).map (·.b)).map V.str))∧aP H H') ?_ ?_ ?_ ?_⟩
  ·exact⟨none,rfl,aD,smu hD⟩
  ·rintro i σ' H' _ ⟨v,rfl,a1,a2⟩;exact SqL.of (a2 _ _ h0)
  ·rintro i v σ' H' hv ⟨v0,rfl,a1,a2⟩;rw[List.getElem?_map] at hv;cases hX:Xs[i]? with
   | none=>rw[hX] at hv; cases hv
   | some X=>
    rw[hX] at hv;cases hv;have hi:i<ms.length:=by rw[← h1]; exact (List.getElem?_eq_some_iff.mp hX).1
    have hm:=List.getElem?_eq_getElem hi;generalize ms[i]=m at hm;have MX:=(h2 i X m hX hm).same a2;obtain⟨dx,l,e,k,kvs,g,M0⟩:=MX;refine⟨_,rfl,X,dx,_,rfl,M0.ins,gT _ _ _ _ _ _ (by decide),X,x,m.b,m.es,m.kn,m.ds,rfl,⟨dx,l,e,k,kvs,g,M0⟩,_,a1,aQ (by rw[List.length_map,List.length_map,List.length_take]; omega),_,rfl,?_,fun b o z=>?_⟩
    ·rw[aD,List.take_succ,hm]
     simp
    ·rw[aI (aG z hD)];exact a2 b o z
  ·rintro σ' H' ⟨v,rfl,a1,a2⟩;rw[List.length_map,h1,List.take_length] at a1;exact⟨D,_,rfl,.inl ⟨SqL.of a1,fun l hl'=>q l _ (a2.trans (smu hl')) (a2.free hl') aD⟩⟩
abbrev NFO:List Str:=["machines","room","deed","parts"]
theorem aMr:aS NFO ["machines","room","deed"] (aB mJ):=⟨rfl,rfl,rfl,by decide +kernel,rfl,by decide +kernel,by decide +kernel⟩
abbrev ndf:List Str:=["machine","part","deed"]
theorem aFv {f fG CM:Addr}{fd fdG:FuncData}(F:Fun K "far_of" "far_of" mJ f fd) (mT:mg "tuple" = none) (mZ:mg "zip" = none) (MC:pN K CM)
  (GG:aX P w K mg base CX0 1 fG fdG ["self","room","deed"] (aAl CM)) (bG:bJ K fdG ["self","room","deed"] []) (mG:eJ K CM "goes" fG):aX P w K mg base CX0 2 f fd ["machines","room","deed"] (aAo K CM):=by
 refine F.ok aMr (fun vs H Q E h=>?_) (fun cdv A outer s H vs Q E hr h=>?_)
 ·obtain⟨x,p,t,ms,room,y,rfl,_⟩:=h;rfl
 ·obtain⟨x,p,t,ms,room,y,rfl,M,hT,R,hl,q⟩:=h
  refine⟨_,aK (gD (i:=3) (N':=ndf) (nown:=2) (js:=[2]) rfl aMr.nd rfl rfl rfl
     ⟨rfl,by decide +kernel,by decide +kernel⟩ (cG (aB mJ) NFO rfl rfl (by decide +kernel))
     ⟨fun _ _ _ _=>show PG _ _ (sI K 2 (eV (dU 0) (eV (dU 1) sJ))) from eQ rfl (aW (aO (i:=0) (show List.Nodup ndf by decide +kernel) rfl (Or.inl rfl) (.inr rfl)) (aW (aO (i:=1) (show List.Nodup ndf by decide +kernel) rfl (Or.inl rfl) (.inr rfl)) dM)),
      fun _ _ _ _=>dJ,fun _ _ _ _=>dO (pv 0) MC.cl mG GG hr bG .nil bY (pac (pv 1) (pac (pv 2) aJ))⟩
     (wM rfl mZ (pac (pv 0) (pac (pv 1) aJ))))
   (aL (bV (wO (cC aKx iA (pv 3) (by with_unfolding_all rfl)) iA (eS eY (by rfl) mT Bo.tuple (pac (pv 3) aJ))))),?_⟩
  obtain⟨Xs,h0,h1,h2⟩:=M.ex;refine⟨_,rfl,_,rfl,p,t,rfl,⟨_,SqL.of h0⟩,⟨_,hT⟩,fun D hD=>vH (xs:=Xs.map V.ref) (ys:=room.map V.str) (fun i σ' H'=>∃ v0 v1,σ'=[v0,v1,some (.str y)]∧H' D=some (.lst ((parts (ms.take i) (room.take i) y).map oV))∧aP H H') ?_ ?_ ?_ ?_ ?_⟩
  ·exact⟨none,none,rfl,aD,smu hD⟩
  ·rw[List.length_map,List.length_map,h1,R.len]
  ·rintro i σ' H' _ ⟨v0,v1,rfl,a1,a2⟩;exact⟨SqL.of (a2 _ _ h0),dC hT a2⟩
  ·rintro i v1 v2 σ' H' tt hv1 hv2 ⟨w0,w1,rfl,a1,a2⟩ htt;rw[List.getElem?_map] at hv1 hv2;cases hX:Xs[i]? with
   | none=>rw[hX] at hv1; cases hv1
   | some X=>
    cases hzz:room[i]? with
    | none=>rw[hzz] at hv2; cases hv2
    | some z=>
     rw[hX] at hv1;rw[hzz] at hv2;cases hv1;cases hv2;have hi:i<ms.length:=by rw[← h1]; exact (List.getElem?_eq_some_iff.mp hX).1
     have hm:=List.getElem?_eq_getElem hi;generalize ms[i]=m at hm;have s3:=a2.trans (smu (o:=.tup [.ref X,.str z]) htt);have a1':(upd H' tt (.tup [.ref X,.str z])) D=some (.lst ((parts (ms.take i) (room.take i) y).map oV)):=smu htt _ _ a1;have eT:(upd H' tt (.tup [.ref X,.str z])) tt=some (.tup [.ref X,.str z]):=aD;generalize upd H' tt (.tup [.ref X,.str z])=H3 at s3 a1' eT ⊢;obtain⟨dx,l,e,k,kvs,g,M0⟩:=(h2 i X m hX hm).same s3;refine⟨tt,_,rfl,SqT.of eT,rfl,_,_,rfl,_,_,rfl,rfl,_,rfl,X,dx,_,rfl,M0.ins,gT _ _ _ _ _ _ (by decide),_,rfl,_,rfl,X,x,m.b,z,y,m.es,m.kn,m.ds,rfl,⟨dx,l,e,k,kvs,g,M0⟩,(R.mem i m z hm hzz).2,_,a1',aQ ?_,_,_,rfl,?_,fun b o u=>?_⟩
     ·rw[List.length_map];unfold parts;rw[List.length_zipWith,List.length_take];omega
     ·rw[aD];unfold parts;rw[jS hm hzz,List.map_append];rfl
     ·rw[aI (aG u hD)];exact s3 b o u
  ·rintro σ' H' ⟨v0,v1,rfl,a1,a2⟩;have e1:ms.take (Xs.map V.ref).length=ms:=by rw[List.length_map,h1,List.take_length]
   have e2:room.take (Xs.map V.ref).length=room:=by rw[List.length_map,h1,R.len,List.take_length]
   rw[e1,e2] at a1;unfold aBj at q;refine⟨_,rfl,D,parts ms room y,rfl,rfl,SqL.of a1,_,rfl,gJ (fun hn=>?_) (fun hn=>?_)⟩
   ·rw[if_pos hn] at q;exact q H' a2
   ·rw[if_neg hn] at q;refine⟨_,rfl,D,_,rfl,.inl ⟨SqL.of a1,fun l hl'=>q l _ (a2.trans (smu hl')) (a2.free hl') ?_⟩⟩;rw[aD,aFw (Bool.eq_false_iff.mpr hn)]
end
end K21
namespace K21
open PySem L2 Ky
seal L2.PE L2.PS L2.PSs L2.PA L2.PT L2.PW L2.PG L2.PI L2.PTs L2.PO L2.PPs L2.OpR L2.IxR L2.CallR L2.MtM L2.MtR
unseal L2.MtM L2.MtR
theorem wS {P:Program}{w:World}{X:Cx}:gN (CXE P w) X E0:=by
 rintro pins σ H s e s' I ⟨_,_,_,_,_,_,_,_,_,_,_,_,_,_,_,_,_,h⟩;exact h.elim
theorem qH {ms:List MW}{i:Nat}{m:MW}(h:ms[i]?=some m) (z:Str):z∈wkn (ms.take (i+1))↔z∈wkn (ms.take i)∨z∈m.kn:=by
 unfold wkn;rw[List.take_succ,h]
 simp
section
variable {P:Program}{w:World}{K:PySem.W.Frag}{mg:Str->Option Value}{base:Heap}
theorem aPf:aS ["machines","room"] ["machines","room"] (aB hU):=⟨rfl,rfl,rfl,by decide +kernel,rfl,by decide +kernel,by decide +kernel⟩
abbrev nda:List Str:=["machine","part"]
theorem zD {f fE CM cR:Addr}{fd fdE:FuncData}(F:Fun K "all_at_ends" "all_at_ends" hU f fd) (T:Txt K mg) (mZ:mg "zip" = none) (MC:pN K CM)
  (GE:aX P w K mg base (CXE P w) 3 fE fdE ["self","room"] (oJ CM cR)) (bE:bJ K fdE ["self","room"] []) (mE:eJ K CM "is_end" fE):aX P w K mg base CX0 4 f fd ["machines","room"] (tI K CM):=by
 refine F.ok aPf (fun vs H Q E h=>?_) (fun cdv A outer s H vs Q E hr h=>?_)
 ·obtain⟨x,p,t,ms,room,rfl,_⟩:=h;rfl
 ·obtain⟨x,p,t,ms,room,rfl,M,hT,R,hl,q⟩:=h
  refine⟨_,aL (bV (cJ (pJ rfl) (by rfl) T.all Bo.all (pac (dN (N':=nda) (nown:=2) (js:=[]) rfl
     ⟨rfl,by decide +kernel,by decide +kernel⟩ (cG (aB hU) ["machines","room"] rfl rfl (by decide +kernel))
     ⟨fun _ _ _ _=>show PG _ _ (sI K 2 (eV (dU 0) (eV (dU 1) sJ))) from eQ rfl (aW (aO (i:=0) (show List.Nodup nda by decide +kernel) rfl (Or.inl rfl) (.inr rfl)) (aW (aO (i:=1) (show List.Nodup nda by decide +kernel) rfl (Or.inl rfl) (.inr rfl)) dM)),
      fun _ _ _ _=>dJ,fun _ _ _ _=>dO (pv 0) MC.cl mE GE hr bE .nil wS (pac (pv 1) aJ)⟩
     (wM rfl mZ (pac (pv 0) (pac (pv 1) aJ)))) aJ))),?_⟩
  obtain⟨Xs,h0,h1,h2⟩:=M.ex;refine⟨_,rfl,_,rfl,p,t,rfl,⟨_,SqL.of h0⟩,⟨_,hT⟩,fun D hD=>vH (xs:=Xs.map V.ref) (ys:=room.map V.str) (fun i σ' H'=>∃ v0 v1,σ'=[v0,v1]∧H' D=some (.lst ((List.zipWith (fun m z=>decide (z∈MW.es m)) (ms.take i) (room.take i)).map V.bl))∧aP H H') ?_ ?_ ?_ ?_ ?_⟩
  ·exact⟨none,none,rfl,aD,smu hD⟩
  ·rw[List.length_map,List.length_map,h1,R.len]
  ·rintro i σ' H' _ ⟨v0,v1,rfl,a1,a2⟩;exact⟨SqL.of (a2 _ _ h0),dC hT a2⟩
  ·rintro i v1 v2 σ' H' tt hv1 hv2 ⟨w0,w1,rfl,a1,a2⟩ htt;rw[List.getElem?_map] at hv1 hv2;cases hX:Xs[i]? with
   | none=>rw[hX] at hv1; cases hv1
   | some X=>
    cases hzz:room[i]? with
    | none=>rw[hzz] at hv2; cases hv2
    | some z=>
     rw[hX] at hv1;rw[hzz] at hv2;cases hv1;cases hv2;have hi:i<ms.length:=by rw[← h1]; exact (List.getElem?_eq_some_iff.mp hX).1
     have hm:=List.getElem?_eq_getElem hi;generalize ms[i]=m at hm;have s3:=a2.trans (smu (o:=.tup [.ref X,.str z]) htt);have a1':=smu (o:=.tup [.ref X,.str z]) htt _ _ a1;have eT:(upd H' tt (.tup [.ref X,.str z])) tt=some (.tup [.ref X,.str z]):=aD;generalize upd H' tt (.tup [.ref X,.str z])=H3 at s3 a1' eT ⊢;obtain⟨dx,l,e,k,kvs,g,M0⟩:=(h2 i X m hX hm).same s3;have gd:=R.mem i m z hm hzz;refine⟨tt,_,rfl,SqT.of eT,rfl,_,_,rfl,_,_,rfl,rfl,_,rfl,X,dx,_,rfl,M0.ins,gT _ _ _ _ _ _ (by decide),_,rfl,X,x,m.b,z,m.es,m.kn,m.ds,rfl,⟨dx,l,e,k,kvs,g,M0⟩,Nat.le_trans (nP gd.1) (by decide),fun _ H4 s4=>?_,fun bad=>absurd gd bad⟩;refine⟨_,s4 _ _ a1',aQ ?_,_,_,rfl,?_,fun b o u=>?_⟩
     ·rw[List.length_map,List.length_zipWith,List.length_take];omega
     ·rw[aD,jS hm hzz,List.map_append];rfl
     ·rw[aI (aG u hD)];exact s4 _ _ (s3 b o u)
  ·rintro σ' H' ⟨v0,v1,rfl,a1,a2⟩;have e1:ms.take (Xs.map V.ref).length=ms:=by rw[List.length_map,h1,List.take_length]
   have e2:room.take (Xs.map V.ref).length=room:=by rw[List.length_map,h1,R.len,List.take_length]
   rw[e1,e2] at a1;exact⟨D,_,rfl,SqL.of a1,q H' a2⟩
abbrev NKO:List Str:=["machines","known","machine"]
theorem aKp:aS NKO ["machines"] (aB iY):=⟨rfl,rfl,rfl,by decide +kernel,rfl,by decide +kernel,by decide +kernel⟩
theorem zA {f fKn fMk CM:Addr}{fd fdKn fdMk:FuncData}(F:Fun K "known_of" "known_of" iY f fd) (MC:pN K CM)
  (GKn:aX P w K mg base CX0 1 fKn fdKn ["self"] (aAj CM aGr)) (bKn:bJ K fdKn ["self"] []) (mKn:eJ K CM "knows" fKn)
  (GMk:aX P w K mg base CX0 1 fMk fdMk ["names"] (qB K)) (kMk:PySem.W.keepIn K (.ref fMk)=true) (bMk:bJ K fdMk ["names"] []) (mMk:mg "marks_of" = some (.ref fMk)):aX P w K mg base CX0 2 f fd ["machines"] (tF CM):=by
 refine F.ok aKp (fun vs H Q E h=>?_) (fun cdv A outer s H vs Q E hr h=>?_)
 ·obtain⟨x,p,ms,N,rfl,_⟩:=h;rfl
 ·obtain⟨x,p,ms,N,rfl,M,hl,hN,h64,q⟩:=h
  refine⟨_,aK (bU (i:=1) aKp.nd rfl (Or.inl rfl) (dB aJ))
   (aK (eG PassesOwn.never rfl (cS (pv 0)) (aO (i:=2) aKp.nd rfl (Or.inl rfl))
    (aL (cW (jQ PySem.F.plainAttrs_list PySem.F.slot_list_extend PySem.F.type_list_extend oR (pv 1) (pac (eX (pv 2) MC.cl mKn GKn hr bKn .nil bY) aJ)))))
   (aL (bV (aZ GMk hr rfl mMk kMk bMk .nil bY (pac (pv 1) aJ))))),?_⟩
  obtain⟨Xs,h0,h1,h2⟩:=M.ex;refine⟨by show 0<=sizeLine; decide,fun D hD=>⟨_,rfl,p,rfl,⟨_,SqL.of (smu hD _ _ h0)⟩,?_⟩⟩;refine dQ (xs:=Xs.map V.ref) (fun i σ H'=>∃ (x2:Option V) (kn:List Str),σ=[some (.ref p),some (.ref D),x2]∧(∀ z,z∈kn↔z∈wkn (ms.take i))∧kn.length<=64*i∧H' D=some (.lst (kn.map V.str))∧aP H H') ?_ ?_ ?_ ?_
  ·exact⟨none,[],rfl,fun z=>Iff.rfl,Nat.le_refl _,aD,smu hD⟩
  ·rintro i σ H' _ ⟨x2,kn,rfl,b1,b2,a1,a2⟩;exact SqL.of (a2 _ _ h0)
  ·rintro i v σ H' hv ⟨x2,kn,rfl,b1,b2,a1,a2⟩;rw[List.getElem?_map] at hv;cases hX:Xs[i]? with
   | none=>rw[hX] at hv; cases hv
   | some X=>
    rw[hX] at hv;cases hv;have hi:i<ms.length:=by rw[← h1]; exact (List.getElem?_eq_some_iff.mp hX).1
    have hm:=List.getElem?_eq_getElem hi;have hmm:ms[i]∈ms:=List.getElem_mem hi;generalize ms[i]=m at hm hmm;obtain⟨dx,l,e,k,kvs,g,M0⟩:=(h2 i X m hX hm).same a2;have u64:(unl m.kn []).length<64:=Nat.lt_of_le_of_lt (eR fun z hz=>hN m hmm z hz) h64;refine⟨_,rfl,.inl ⟨rfl,_,SqL.of a1⟩,_,rfl,X,dx,_,rfl,M0.ins,gT _ _ _ _ _ _ (by decide),X,x,m.b,m.es,m.kn,m.ds,rfl,⟨dx,l,e,k,kvs,g,M0⟩,u64,fun l1 ts H2 s2 n1 g1 _ pm=>?_⟩;have tl:ts.length<64:=by rw[pm.length_eq]; exact u64
    refine⟨D,l1,_,_,rfl,rfl,s2 _ _ a1,g1,jW (by rw[List.length_map,List.length_map]; omega),?_⟩;refine⟨_,kn++ts,rfl,fun z=>?_,by rw[List.length_append]; omega,by rw[aD,List.map_append],fun b o u=>?_⟩
    ·rw[List.mem_append,b1,qH hm,pm.mem_iff,oI]
    ·rw[aI (aG u hD)];exact s2 _ _ (a2 b o u)
  ·rintro σ H' ⟨x2,kn,rfl,b1,b2,a1,a2⟩;have e1:ms.take (Xs.map V.ref).length=ms:=by rw[List.length_map,h1,List.take_length]
   rw[e1] at b1;rw[List.length_map,h1] at b2;refine⟨_,rfl,D,kn,rfl,SqL.of a1,by omega,fun d H2 s2 n2 g2=>q d kn H2 (a2.trans s2) (a2.free n2) b1 g2⟩
end
end K21
namespace K21
open PySem L2 Ky
seal L2.PE L2.PS L2.PSs L2.PA L2.PT L2.PW L2.PG L2.PI L2.PTs L2.PO L2.PPs L2.OpR L2.IxR L2.CallR L2.MtM L2.MtR
unseal L2.MtM L2.MtR
def NLs (H H':Hp):Prop:=∀ b o,H b=some o->(∀ xs,o≠.lst xs)->H' b=some o
theorem aJu {CM:Addr}{H H':Hp}{x dd:Addr}{b:Str}{es kn:List Str}{ds:List Dr}(h:MM CM H x dd b es kn ds) (s:NLs H H'):MM CM H' x dd b es kn ds:=by
 obtain⟨dx,l,e,k,kvs,g,M⟩:=h;exact⟨dx,l,e,k,kvs,g,⟨s _ _ M.ins (fun _ z=>nomatch z),⟨s _ _ M.lead.dk (fun _ z=>nomatch z),M.lead.keys,M.lead.val,fun z hz=>s _ _ (M.lead.dd z hz) (fun _ z=>nomatch z),M.lead.inj,M.lead.ne⟩,s _ _ M.ends (fun _ z=>nomatch z),s _ _ M.know (fun _ z=>nomatch z)⟩⟩
theorem aAw {H:Hp}{l:Addr}{xs ys:List V}(hm:H l=some (.lst xs)):NLs H (upd H l (.lst ys)):=fun b o e n=>by
 rw[aI (fun z=>by rw[z,hm] at e; exact n _ (Option.some.inj e).symm)];exact e
abbrev aDv (lm lk:Addr):List (Str×V):=[("machines",.ref lm),("known_marks",.ref lk)]
abbrev aJn:List Str:=["deeds","begin","knows","at","to","is_end"]
theorem cU (lm lk:Addr):∀ m∈aJn,(aDv lm lk).lookup m=none:=by
 have h:∀ m∈aJn,(m==("machines" : Str))=false∧(m==("known_marks" : Str))=false:=by decide +kernel
 intro m hm;obtain⟨h1,h2⟩:=h m hm;simp only[List.lookup,h1,h2]
inductive Wv (CM CW:Addr) (H:Hp) (v x:Addr) (ms:List MW):Prop
 | mk (dv lm lk:Addr) (kn:List Str) (ins:H v=some (.ins CW dv (aDv lm lk))) (mm:nC CM H x lm ms) (dk:H lk=some (.dK (mks kn []))) (kk:∀ z,z∈kn↔z∈wkn ms)
theorem Wv.same {CM CW:Addr}{H H':Hp}{v x:Addr}{ms:List MW}(W:Wv CM CW H v x ms) (sm:aP H H'):Wv CM CW H' v x ms:=by
 obtain⟨dv,lm,lk,kn,h1,h2,h3,h4⟩:=W;exact⟨dv,lm,lk,kn,sm _ _ h1,h2.same sm,sm _ _ h3,h4⟩
structure sM (K:PySem.W.Frag) (CW:Addr):Prop where
 cl:Cls K CW
 nm:fU K CW "machines"
 nk:fU K CW "known_marks"
theorem aLf {CM CW:Addr}{H H':Hp}{v dv x p:Addr}{ms:List MW}(hv:H v=some (.ins CW dv [])) (s:SameBut v H H') (M:nC CM H x p ms):nC CM H' x p ms:=by
 have k:∀ {b:Addr}{o:HO},H b=some o->o≠.ins CW dv []->H' b=some o:=fun {b o} e n=>s b o (fun z=>n (by rw[z,hv] at e; exact (Option.some.inj e).symm)) e;obtain⟨Xs,h0,h1,h2⟩:=M.ex;refine⟨Xs,k h0 (fun z=>nomatch z),h1,fun i X m a b=>?_⟩;obtain⟨dx,l,e,kk,kvs,g,M0⟩:=h2 i X m a b;exact⟨dx,l,e,kk,kvs,g,⟨k M0.ins (fun z=>by cases z),⟨k M0.lead.dk (fun z=>nomatch z),M0.lead.keys,M0.lead.val,fun z hz=>k (M0.lead.dd z hz) (fun z=>nomatch z),M0.lead.inj,M0.lead.ne⟩,k M0.ends (fun z=>nomatch z),k M0.know (fun z=>nomatch z)⟩⟩
inductive aAh (CM CW:Addr) (vs:List V) (H:Hp) (Q:VK) (E:XK):Prop
 | mk (v dv x p:Addr) (ms:List MW) (N:List Str) (h0_:vs=[.ref v,.ref p]) (h1_:H v=some (.ins CW dv [])) (h2_:nC CM H x p ms) (h3_:1<=ms.length∧ms.length<=7) (h4_:∀ m∈ms,∀ z∈m.kn,z∈N) (h5_:N.length<64) (h6_:∀ H',SameBut v H H'->Wv CM CW H' v x ms->(∀ d xs,H d=some (.lst xs)->Wv CM CW (upd H' d (.lst [])) v x ms)->Q .non H')
inductive vT (CM CW:Addr) (vs:List V) (H:Hp) (Q:VK) (E:XK):Prop
 | mk (v x:Addr) (ms:List MW) (h0_:vs=[.ref v]) (h1_:Wv CM CW H v x ms) (h2_:1<=ms.length) (h3_:Q (.ref x) H)
inductive vU (CM CW:Addr) (vs:List V) (H:Hp) (Q:VK) (E:XK):Prop
 | mk (v x:Addr) (ms:List MW) (h0_:vs=[.ref v]) (h1_:Wv CM CW H v x ms) (h2_:ms.length<=100) (h3_:vL H Q (some (ms.map (·.b))))
structure Srt (ts:List Str) (p:Str->Prop):Prop where
 so:PyProof.Rows.sortedS ts=true
 nd:ts.Nodup
 mem:∀ z,z∈ts↔p z
theorem Srt.one {ts us:List Str}{p q:Str->Prop}(h:Srt ts p) (g:Srt us q) (e:∀ z,p z↔q z):ts=us:=
 yG (s:=us) ((List.perm_ext_iff_of_nodup h.nd g.nd).mpr fun z=>by rw[h.mem,g.mem,e]) (List.Perm.refl _) h.so g.so
inductive qM (CM CW:Addr) (vs:List V) (H:Hp) (Q:VK) (E:XK):Prop
 | mk (v x:Addr) (ms:List MW) (N:List Str) (h0_:vs=[.ref v]) (h1_:Wv CM CW H v x ms) (h2_:∀ z∈wkn ms,z∈N) (h3_:N.length<64) (h4_:∀ (l:Addr) (ts:List Str) H',aP H H'->H l=none->H' l=some (.lst (ts.map V.str))->Srt ts (fun z=>z∈wkn ms)->Q (.ref l) H')
inductive vS (K:PySem.W.Frag) (CM CW:Addr) (vs:List V) (H:Hp) (Q:VK) (E:XK):Prop
 | mk (v x t:Addr) (ms:List MW) (room:List Str) (h0_:vs=[.ref v,.ref t]) (h1_:Wv CM CW H v x ms) (h2_:SqT K H t (room.map V.str)) (h3_:ROk ms room) (h4_:ms.length<=100) (h5_:∀ H',aP H H'->Q (.bl (aKb ms room)) H')
section
variable {P:Program}{w:World}{K:PySem.W.Frag}{mg:Str->Option Value}{base:Heap}
theorem aOs:aS ["self","machines"] ["self","machines"] (aB sP):=⟨rfl,rfl,rfl,by decide +kernel,rfl,by decide +kernel,by decide +kernel⟩
theorem aFo {f fK CM CW:Addr}{fd fdK:FuncData}(F:Fun K "__init__" "Woven.__init__" sP f fd) (T:Txt K mg) (WC:sM K CW) (mMW:∃ t,mg "MOST_WOVEN" = some (.int 7 t))
  (GK:aX P w K mg base CX0 2 fK fdK ["machines"] (tF CM)) (kK:PySem.W.keepIn K (.ref fK)=true) (bK:bJ K fdK ["machines"] []) (mK:mg "known_of" = some (.ref fK)):aX P w K mg base CX0 3 f fd ["self","machines"] (aAh CM CW):=by
 obtain⟨tw,mMW⟩:=mMW;refine F.ok aOs (fun vs H Q E h=>?_) (fun cdv A outer s H vs Q E hr h=>?_)
 ·obtain⟨v,dv,x,p,ms,N,rfl,_⟩:=h;rfl
 ·obtain⟨v,dv,x,p,ms,N,rfl,hv,M,hl,hN,h64,q⟩:=h
  refine⟨_,aK (dL (nM (hZ (wK (pv 1) (fun _=>rfl))) (mO (cC tQ (cJ eA (by rfl) T.len Bo.len (pac (pv 1) aJ)) (iM (v:=.int 7) (by rfl) mMW ⟨_,rfl⟩) (cM _)))).pt (aL uR) cF)
   (aK (jI (pv 0) (eS nY (by rfl) T.list Bo.list (pac (pv 1) aJ)) rfl)
   (aL (jI (pv 0) (aZ GK hr rfl mK kK bK .nil bY (pac (pv 1) aJ)) rfl))),?_⟩
  obtain⟨Xs,h0,h1,h2⟩:=M.ex
  have hne:(Xs.map V.ref).isEmpty=false:=by
   cases Xs with
   | nil=>simp at h1; omega
   | cons _ _=>rfl
  refine⟨_,rfl,true,.inl ⟨_,SqL.of h0,by rw[hne]; rfl⟩,fZ ⟨_,rfl,p,_,rfl,.inl (SqL.of h0),_,_,rfl,rfl,_,rfl,gJ (fun z=>absurd (of_decide_eq_true z) (by rw[List.length_map]; omega)) fun _=>?_⟩⟩;refine⟨_,rfl,p,_,rfl,.inl (SqL.of h0),fun lm hlm=>⟨_,rfl,v,CW,dv,[],rfl,smu hlm _ _ hv,WC.cl,WC.nm,by decide,?_⟩⟩;have nv:lm≠v:=fun z=>by rw[z,hv] at hlm; cases hlm
  generalize hH2:upd (upd H lm _) v _=H2;have s2:SameBut v H H2:=fun b o n e=>by rw[← hH2,aI n]; exact smu hlm _ _ e
  have v2:H2 v=some (.ins CW dv [("machines",.ref lm)]):=by rw[← hH2,aD]; rfl
  have l2:H2 lm=some (.lst (Xs.map V.ref)):=by rw[← hH2,aI nv,aD]
  clear hH2;have M2:=aLf hv s2 M
  have M2':nC CM H2 x lm ms:=by
   obtain⟨Ys,k0,k1,k2⟩:=M2.ex;have pv':p≠v:=fun z=>by rw[z,hv] at h0; cases h0
   have e:=s2 _ _ pv' h0;rw[k0] at e;have e':Ys.map V.ref=Xs.map V.ref:=HO.lst.inj (Option.some.inj e);exact⟨Ys,by rw[e']; exact l2,k1,k2⟩
  refine⟨_,rfl,x,p,ms,N,rfl,M2,by omega,hN,h64,fun lk kn H3 s3 hlk hkn g3=>⟨_,rfl,v,CW,dv,_,rfl,s3 _ _ v2,WC.cl,WC.nk,by show 1<1000; decide,?_⟩⟩;have kv:lk≠v:=fun z=>by rw[z,v2] at hlk; cases hlk
  have M3:=M2'.same s3;have v3:=s3 _ _ v2;have sF:SameBut v H (upd H3 v (.ins CW dv (gA "known_marks" (.ref lk) [("machines",.ref lm)]))):=fun b o n e=>by rw[aI n]; exact s3 _ _ (s2 b o n e)
  have vF:(upd H3 v (.ins CW dv (gA "known_marks" (.ref lk) [("machines",.ref lm)]))) v=some (.ins CW dv (aDv lm lk)):=aD;have kF:(upd H3 v (.ins CW dv (gA "known_marks" (.ref lk) [("machines",.ref lm)]))) lk=some (.dK (mks kn [])):=by rw[aI kv]; exact g3
  have MF:nC CM (upd H3 v (.ins CW dv (gA "known_marks" (.ref lk) [("machines",.ref lm)]))) x lm ms:=by
   have k:∀ {b:Addr}{o:HO},H3 b=some o->o≠.ins CW dv [("machines",.ref lm)]->(upd H3 v (.ins CW dv (gA "known_marks" (.ref lk) [("machines",.ref lm)]))) b=some o:=fun {b o} e n=>by
    rw[aI (fun z=>n (by rw[z,v3] at e; exact (Option.some.inj e).symm))];exact e
   obtain⟨Ys,k0,k1,k2⟩:=M3.ex;refine⟨Ys,k k0 (fun z=>nomatch z),k1,fun i X m a b=>?_⟩;obtain⟨dx,l,e,kk,kvs,g,M0⟩:=k2 i X m a b;exact⟨dx,l,e,kk,kvs,g,⟨k M0.ins (fun z=>by cases z),⟨k M0.lead.dk (fun z=>nomatch z),M0.lead.keys,M0.lead.val,fun z hz=>k (M0.lead.dd z hz) (fun z=>nomatch z),M0.lead.inj,M0.lead.ne⟩,k M0.ends (fun z=>nomatch z),k M0.know (fun z=>nomatch z)⟩⟩
  refine q _ sF ⟨dv,lm,lk,kn,vF,MF,kF,hkn⟩ fun d xs hd=>?_;have dv':d≠v:=fun z=>by rw[z,hv] at hd; cases hd
  have hdF:=sF d _ dv' hd;have ld:lm≠d:=fun z=>by rw[z,hd] at hlm; cases hlm
  generalize upd H3 v (.ins CW dv (gA "known_marks" (.ref lk) [("machines",.ref lm)]))=HF at sF vF kF MF hdF;have nk:NLs HF (upd HF d (.lst [])):=aAw hdF;obtain⟨Ys,k0,k1,k2⟩:=MF.ex;exact⟨dv,lm,lk,kn,nk _ _ vF (fun _ z=>nomatch z),⟨Ys,by rw[aI ld]; exact k0,k1,fun i X m a b=>aJu (k2 i X m a b) nk⟩,nk _ _ kF (fun _ z=>nomatch z),hkn⟩
theorem aOu:aS ["self"] ["self"] (aB oG):=⟨rfl,rfl,rfl,by decide +kernel,rfl,by decide +kernel,by decide +kernel⟩
theorem aCj {f fD CM CW:Addr}{fd fdD:FuncData}(F:Fun K "deeds" "Woven.deeds" oG f fd) (WC:sM K CW) (MC:pN K CM)
  (GD:aX P w K mg base CX0 1 fD fdD ["self"] (vX CM)) (bD:bJ K fdD ["self"] []) (mD:eJ K CM "deeds" fD):aX P w K mg base CX0 2 f fd ["self"] (vT CM CW):=by
 refine F.ok aOu (fun vs H Q E h=>?_) (fun cdv A outer s H vs Q E hr h=>?_)
 ·obtain⟨v,x,ms,rfl,_⟩:=h;rfl
 ·obtain⟨v,x,ms,rfl,⟨dv,lm,lk,kn,hi,M,hk,hkn⟩,hl,q⟩:=h;refine⟨_,aL (bV (eX (cZ cQ (fO (pv 0) rfl) aN (fun _ _=>rfl)) MC.cl mD GD hr bD .nil bY)),?_⟩;obtain⟨Xs,h0,h1,h2⟩:=M.ex;have hX:=List.getElem?_eq_getElem (l:=Xs) (i:=0) (by omega);have hm:=List.getElem?_eq_getElem (l:=ms) (i:=0) (by omega);generalize Xs[0]'(by omega)=X at hX;generalize ms[0]'(by omega)=m at hm;obtain⟨dx,l,e,k,kvs,g,M0⟩:=h2 0 X m hX hm;exact⟨_,rfl,v,CW,dv,_,_,rfl,hi,WC.cl,WC.nm,by rfl,lm,_,_,.ref X,rfl,rfl,SqL.of h0,gH (j:=0) (by rw[List.getElem?_map,hX]; rfl),X,dx,_,rfl,M0.ins,gT _ _ _ _ _ _ (by decide),X,x,m.b,m.es,m.kn,m.ds,rfl,⟨dx,l,e,k,kvs,g,M0⟩,q⟩
theorem aOv:aS ["self"] ["self"] (aB oH):=⟨rfl,rfl,rfl,by decide +kernel,rfl,by decide +kernel,by decide +kernel⟩
theorem aCk {f fB CM CW:Addr}{fd fdB:FuncData}(F:Fun K "begin" "Woven.begin" oH f fd) (WC:sM K CW)
  (GB:aX P w K mg base CX0 2 fB fdB ["machines"] (tH CM)) (kB:PySem.W.keepIn K (.ref fB)=true) (bB:bJ K fdB ["machines"] []) (mB:mg "begin_of" = some (.ref fB)):aX P w K mg base CX0 3 f fd ["self"] (vU CM CW):=by
 refine F.ok aOv (fun vs H Q E h=>?_) (fun cdv A outer s H vs Q E hr h=>?_)
 ·obtain⟨v,x,ms,rfl,_⟩:=h;rfl
 ·obtain⟨v,x,ms,rfl,⟨dv,lm,lk,kn,hi,M,hk,hkn⟩,hl,q⟩:=h;exact⟨_,aL (bV (aZ GB hr (by rfl) mB kB bB .nil bY (pac (fO (pv 0) rfl) aJ))),_,rfl,v,CW,dv,_,_,rfl,hi,WC.cl,WC.nm,by rfl,x,lm,ms,rfl,M,hl,q⟩
theorem aOr:aS ["self"] ["self"] (aB oE):=⟨rfl,rfl,rfl,by decide +kernel,rfl,by decide +kernel,by decide +kernel⟩
theorem aCh {f CM CW:Addr}{fd:FuncData}(F:Fun K "knows" "Woven.knows" oE f fd) (T:Txt K mg) (WC:sM K CW):aX P w K mg base CX0 1 f fd ["self"] (qM CM CW):=by
 refine F.ok aOr (fun vs H Q E h=>?_) (fun cdv A outer s H vs Q E hr h=>?_)
 ·obtain⟨v,x,ms,N,rfl,_⟩:=h;rfl
 ·obtain⟨v,x,ms,N,rfl,⟨dv,lm,lk,kn,hi,M,hk,hkn⟩,hN,h64,q⟩:=h;refine⟨_,aL (bV (cJ (nX rfl) (by rfl) T.sorted Bo.sorted (pac (fO (pv 0) rfl) aJ))),?_⟩;exact⟨_,rfl,v,CW,dv,_,_,rfl,hi,WC.cl,WC.nk,by rfl,lk,_,_,rfl,hk,tS rfl,Nat.lt_of_le_of_lt (eR fun z hz=>hN z ((hkn z).mp hz)) h64,fun l ts hl' pm so=>q l ts _ (smu hl') hl' aD ⟨so,pm.nodup_iff.mpr (iV _ _ .nil),fun z=>by rw[pm.mem_iff,oI,hkn]⟩⟩
theorem aOt:aS ["self","room"] ["self","room"] (aB oF):=⟨rfl,rfl,rfl,by decide +kernel,rfl,by decide +kernel,by decide +kernel⟩
theorem aCi {f fA CM CW:Addr}{fd fdA:FuncData}(F:Fun K "is_end" "Woven.is_end" oF f fd) (WC:sM K CW)
  (GA:aX P w K mg base CX0 4 fA fdA ["machines","room"] (tI K CM)) (kA:PySem.W.keepIn K (.ref fA)=true) (bA:bJ K fdA ["machines","room"] []) (mA:mg "all_at_ends" = some (.ref fA)):aX P w K mg base CX0 5 f fd ["self","room"] (vS K CM CW):=by
 refine F.ok aOt (fun vs H Q E h=>?_) (fun cdv A outer s H vs Q E hr h=>?_)
 ·obtain⟨v,x,t,ms,room,rfl,_⟩:=h;rfl
 ·obtain⟨v,x,t,ms,room,rfl,⟨dv,lm,lk,kn,hi,M,hk,hkn⟩,hT,R,hl,q⟩:=h;exact⟨_,aL (bV (aZ GA hr (by rfl) mA kA bA .nil bY (pac (fO (pv 0) rfl) (pac (pv 1) aJ)))),_,rfl,v,CW,dv,_,_,rfl,hi,WC.cl,WC.nm,by rfl,_,rfl,x,lm,t,ms,room,rfl,M,hT,R,hl,q⟩
end
end K21
namespace K21
open PySem L2 Ky
seal L2.PE L2.PS L2.PSs L2.PA L2.PT L2.PW L2.PG L2.PI L2.PTs L2.PO L2.PPs L2.OpR L2.IxR L2.CallR L2.MtM L2.MtR
unseal L2.MtM L2.MtR
theorem rZ {l:List Str}{p:Str->Bool}(h:PyProof.Rows.sortedS l=true):PyProof.Rows.sortedS (l.filter p)=true:=PyProof.Rows.sortedS_of_pairwise _ ((oK h).filter p)
theorem Srt.filter {l:List Str}{q:Str->Prop}(h:Srt l q) (p:Str->Bool):Srt (l.filter p) (fun z=>q z∧p z=true):=
 ⟨rZ h.so,h.nd.filter p,fun z=>by rw[List.mem_filter,h.mem]⟩
inductive sY (K:PySem.W.Frag) (C CM CW cD:Addr) (vs:List V) (H:Hp) (Q:VK) (E:XK):Prop
 | mk (v x t:Addr) (y:V) (ms:List MW) (room:List Str) (wk:List (Key×V)) (h0_:vs=[.ref v,.ref t,y]) (h1_:Wv CM CW H v x ms) (h2_:SqT K H t (room.map V.str)) (h3_:ROk ms room) (h4_:1<=ms.length∧ms.length<=100) (h5_:WAt C H x wk) (h6_:xW y)
  (h7_:eL wk y=true->∀ u,y=.str u->vL H Q (wto ms room u)) (h8_:eL wk y=false->∀ H',aP H H'->E (.ref cD) none H')
inductive aEf (K:PySem.W.Frag) (C CM CW:Addr) (vs:List V) (H:Hp) (Q:VK) (E:XK):Prop
 | mk (v x t:Addr) (ms:List MW) (room N:List Str) (wk:List (Key×V)) (h0_:vs=[.ref v,.ref t]) (h1_:Wv CM CW H v x ms) (h2_:SqT K H t (room.map V.str)) (h3_:ROk ms room) (h4_:1<=ms.length∧ms.length<=100) (h5_:WAt C H x wk) (h6_:∀ z∈wkn ms,z∈N) (h7_:N.length<64) (h8_:∀ z∈N,eL wk (.str z)=true)
  (h9_:∀ (l:Addr) (ts:List Str) H',aP H H'->H l=none->H' l=some (.lst (ts.map V.str))->Srt ts (fun z=>z∈wkn ms∧(wto ms room z).isSome=true)->Q (.ref l) H')
theorem vL.mono {H H1:Hp}{Q:VK}{o:Option (List Str)}(h:vL H Q o) (s:aP H H1):vL H1 Q o:=by
 cases o with
 | none=>exact fun H' s'=>h H' (s.trans s')
 | some ss=>exact fun l H' s' n e=>h l H' (s.trans s') (s.free n) e
theorem jD {C:Addr}{H H':Hp}{p:Addr}{kvs:List (Key×V)}(W:WAt C H p kvs) (sm:aP H H'):WAt C H' p kvs:=by
 obtain⟨dx,fs,dw,o,h0,h1,h2,h3⟩:=W;exact⟨dx,fs,dw,o,sm _ _ h0,h1,h2,sm _ _ h3⟩
theorem pG {wk:List (Key×V)}{z:Str}(h:eL wk (.str z)=true):z.length<=1000:=Nat.le_trans (nP (Bool.and_eq_true_iff.mp h).1) (by decide)
section
variable {P:Program}{w:World}{K:PySem.W.Frag}{mg:Str->Option Value}{base:Heap}
theorem aOq:aS ["self","room","deed"] ["self","room","deed"] (aB wTo):=⟨rfl,rfl,rfl,by decide +kernel,rfl,by decide +kernel,by decide +kernel⟩
theorem aKz {f fD fQ fF C CM CW:Addr}{fd fdD fdQ fdF:FuncData}{cl:Why->Addr}(F:Fun K "to" "Woven.to" wTo f fd) (DC:aDq K C) (WC:sM K CW)
  (GD:aX P w K mg base CX0 2 fD fdD ["self"] (vT CM CW)) (bD:bJ K fdD ["self"] []) (mD:eJ K CW "deeds" fD)
  (GQ:aX P w K mg base (CXE P w) 3 fQ fdQ ["self","row"] (lF K C cl)) (bQ:bJ K fdQ ["self","row"] []) (mQ:eJ K C "require" fQ)
  (GF:aX P w K mg base CX0 2 fF fdF ["machines","room","deed"] (aAo K CM)) (kF:PySem.W.keepIn K (.ref fF)=true) (bF:bJ K fdF ["machines","room","deed"] []) (mF:mg "far_of" = some (.ref fF)) :
  aX P w K mg base (CXE P w) 4 f fd ["self","room","deed"] (sY K C CM CW (cl .noDeed)):=by
 refine okE F aOq (fun vs H Q E h=>?_) (fun cdv A outer s H vs Q E hr h D=>?_)
 ·obtain⟨v,x,t,y,ms,room,wk,rfl,_⟩:=h;rfl
 ·obtain⟨v,x,t,y,ms,room,wk,rfl,W,hT,R,hl,hW,hy,q1,q2⟩:=h;have hu:=jB hr;have hr2:cY 2 _:=hr.mono (by decide)
  refine⟨_,aK (cW (dO (eX (pv 0) WC.cl mD GD hr2 bD .nil bY) DC.cl mQ GQ hr bQ .nil (D.passes fun _ _ _ z=>z) (pac (dB (pac (pv 2) aJ)) aJ)))
   (aK (dL (qV (tO hu (pv 2) (fO (pv 0) rfl))) (aL (bV iA)) cF)
   (aL (bV (aZ GF hr2 (by rfl) mF kF bF .nil bY (pac (fO (pv 0) rfl) (pac (pv 1) (pac (pv 2) aJ))))))),?_⟩
  obtain⟨dv,lm,lk,kn,hi,M,hk,hkn⟩:=id W;obtain⟨wx,wf,ww,wo,hw0,hw1,hw2,hw3⟩:=id hW;refine⟨_,rfl,v,dv,_,rfl,hi,cU _ _ _ (by decide),v,x,ms,rfl,W,hl.1,x,wx,wf,rfl,hw0,hw1 "require" (by decide),_,rfl,by show 1<=sizeLine; decide,fun p hp=>?_⟩;have s3:=smu (o:=.lst [y]) hp;refine⟨x,p,_,wk,rfl,SqL.of aD,fun u hv=>?_,jD hW s3,fun H4 s4=>?_⟩
  ·rw[List.mem_singleton.mp hv];exact hy
  ·have e1:([y]:List V).all (eL wk)=eL wk y:=by rw[List.all_cons,List.all_nil,Bool.and_true]
   rw[e1]
   by_cases hg:eL wk y=true
   ·rw[if_pos hg]
    obtain⟨u,rfl⟩:∃ u,y=.str u:=by
     cases y with
     | str u=>exact⟨u,rfl⟩
     | _=>cases hg
    have s5:=s3.trans s4;have qq:=(q1 hg u rfl).mono s5;unfold wto at qq;refine⟨_,rfl,_,rfl,v,CW,dv,_,_,rfl,s5 _ _ hi,WC.cl,WC.nk,by rfl,lk,_,rfl,fV.k (k:=Sum.inr u) (s5 _ _ hk),_,rfl,?_⟩;rw[pB rfl u]
    by_cases hm:u∈wkn ms
    ·rw[decide_eq_true ((hkn u).mpr hm)];rw[if_pos hm] at qq;exact fZ ⟨_,rfl,v,CW,dv,_,_,rfl,s5 _ _ hi,WC.cl,WC.nm,by rfl,_,rfl,_,rfl,x,lm,t,ms,room,u,rfl,M.same s5,dC hT s5,R,hl.2,qq⟩
    ·rw[decide_eq_false fun z=>hm ((hkn u).mp z)];rw[if_neg hm] at qq;exact kO (qq H4 (aP.refl H4))
   ·rw[if_neg hg];exact q2 (Bool.eq_false_iff.mpr hg) H4 (s3.trans s4)
theorem aOw:aS ["self","room"] ["self","room"] (aB wAt):=⟨rfl,rfl,rfl,by decide +kernel,rfl,by decide +kernel,by decide +kernel⟩
abbrev ndw:List Str:=["deed","self","room"]
theorem aLa {f fK fT C CM CW cD:Addr}{fd fdK fdT:FuncData}(F:Fun K "at" "Woven.at" wAt f fd) (WC:sM K CW)
  (GK:aX P w K mg base CX0 1 fK fdK ["self"] (qM CM CW)) (bK:bJ K fdK ["self"] []) (mK:eJ K CW "knows" fK)
  (GT:aX P w K mg base (CXE P w) 4 fT fdT ["self","room","deed"] (sY K C CM CW cD)) (bT:bJ K fdT ["self","room","deed"] []) (mT:eJ K CW "to" fT) :
  aX P w K mg base CX0 5 f fd ["self","room"] (aEf K C CM CW):=by
 refine F.ok aOw (fun vs H Q E h=>?_) (fun cdv A outer s H vs Q E hr h=>?_)
 ·obtain⟨v,x,t,ms,room,N,wk,rfl,_⟩:=h;rfl
 ·obtain⟨v,x,t,ms,room,N,wk,rfl,W,hT,R,hl,hW,hN,h64,hg,q⟩:=h;have hr1:cY 1 _:=hr.mono (by decide)
  refine⟨_,aL (bV (dN (N':=ndw) (nown:=1) (js:=[0,1]) rfl
     ⟨rfl,by decide +kernel,by decide +kernel⟩ (cG (aB wAt) ["self","room"] rfl rfl (by decide +kernel))
     ⟨fun _ _ _ _=>aO (i:=0) (show List.Nodup ndw by decide +kernel) rfl (Or.inl rfl) (.inr rfl),
      fun _ _ _ _=>lK (cC uV (dO (pv 1) WC.cl mT GT hr bT .nil wS (pac (pv 2) (pac (pv 0) aJ))) iA (cM _)),
      fun _ _ _ _=>pv 0⟩
     (cS (eX (pv 0) WC.cl mK GK hr1 bK .nil bY)))),?_⟩
  obtain⟨dv,lm,lk,kn,hi,M,hk,hkn⟩:=id W;refine⟨_,rfl,v,dv,_,rfl,hi,cU _ _ _ (by decide),v,x,ms,N,rfl,W,hN,h64,fun l ts H2 s2 n2 g2 S2=>⟨l,rfl,⟨_,SqL.of g2⟩,fun D hD=>?_⟩⟩
  have lts:ts.length<64:=by
   have:ts.length<=N.length:=by
    have:=eR (rs:=ts) (N:=N) fun z hz=>hN z ((S2.mem z).mp hz)
    rw[← (iK (m:=unl ts []) S2.nd (fun z hz=>oI.mpr hz) (eR fun z hz=>hz)).length_eq] at this;exact this
   omega
  refine eZ (xs:=ts.map V.str) (fun i σ' H'=>∃ v0,σ'=[v0,some (.ref v),some (.ref t)]∧H' D=some (.lst (((ts.take i).filter fun z=>(wto ms room z).isSome).map V.str))∧aP H2 H') ?_ ?_ ?_ ?_
  ·exact⟨none,rfl,aD,smu hD⟩
  ·rintro i σ' H' _ ⟨v0,rfl,a1,a2⟩;exact SqL.of (a2 _ _ g2)
  ·rintro i u σ' H' hv ⟨v0,rfl,a1,a2⟩;rw[List.getElem?_map] at hv;cases hz:ts[i]? with
   | none=>rw[hz] at hv; cases hv
   | some z=>
    rw[hz] at hv;cases hv;have sA:=s2.trans a2;have hzk:=(S2.mem z).mp (List.mem_of_getElem? hz);have gz:=hg z (hN z hzk)
    have ef:(ts.take (i+1)).filter (fun z=>(wto ms room z).isSome)=(ts.take i).filter (fun z=>(wto ms room z).isSome)++(if (wto ms room z).isSome=true then [z] else []):=by
     rw[List.take_succ,hz,List.filter_append];congr 1;show List.filter _ [z]=_;rw[List.filter_cons,List.filter_nil]
    have lf:((ts.take i).filter fun z=>(wto ms room z).isSome).length<=63:=Nat.le_trans (List.length_filter_le ..) (by rw[List.length_take]; omega);refine⟨_,rfl,v,dv,_,rfl,sA _ _ hi,cU _ _ _ (by decide),_,rfl,_,rfl,v,x,t,.str z,ms,room,wk,rfl,W.same sA,dC hT sA,R,hl,jD hW sA,.inl ⟨z,rfl,pG gz⟩,fun _ u' eu=>?_,fun bad=>absurd (gz.symm.trans bad) (by decide)⟩;cases eu;cases ho:wto ms room z with
    | none=>
     intro H3 s3;refine⟨rfl,_,rfl,fZ ⟨_,rfl,?_,a2.trans s3⟩⟩;rw[ef,ho]
     simpa using s3 _ _ a1
    | some ss=>
     intro l3 H3 s3 n3 e3;refine⟨rfl,_,rfl,kO ⟨_,rfl,_,s3 _ _ a1,aQ (by rw[List.length_map]; omega),_,rfl,?_,fun b o e=>?_⟩⟩
     ·rw[aD,ef,ho,List.map_append];rfl
     ·rw[aI (aG e hD)];exact s3 _ _ (a2 b o e)
  ·rintro σ' H' ⟨v0,rfl,a1,a2⟩;rw[List.length_map,List.take_length] at a1;exact q D _ H' (s2.trans a2) (s2.free hD) a1 (S2.filter _)
end
end K21
namespace K21
open PySem L2 Ky
seal L2.PE L2.PS L2.PSs L2.PA L2.PT L2.PW L2.PG L2.PI L2.PTs L2.PO L2.PPs L2.OpR L2.IxR L2.CallR L2.MtM L2.MtR
unseal L2.MtM L2.MtR
abbrev aHg (l:List (Int×Nat)):Prop:=∀ x∈l,1<=x.2∧x.2<=5
inductive aEh (K:PySem.W.Frag) (vs:List V) (H:Hp) (Q:VK) (E:XK):Prop
 | mk (p n:Addr) (c:Int) (l:List (Int×Nat)) (ss:List Str) (h0_:vs=[.ref p,.int c,.ref n]) (h1_:eN H p l ss) (h2_:SqL K H n (ss.map V.str)) (h3_:ss.length<=12) (h4_:1<=l.length∧l.length<=3) (h5_:aHg l)
  (h6_:∀ (D:Addr) (l':List (Int×Nat)) H',aP H H'->H D=none->eN H' D l' ss->1<=l'.length∧l'.length<=7->aHg l'->Q (.ref D) H')
structure PlG (D:Addr) (H:Hp) (l:List (Int×Nat)) (ss:List Str):Prop where
 ex:∃ ts:List Addr,H D=some (.lst (ts.map V.ref))∧ts.length=l.length∧∀ (j:Nat) (t:Addr) (x:Int×Nat),ts[j]?=some t->l[j]?=some x->pL D H t x.1 x.2 ss
theorem PlG.same {D:Addr}{H H':Hp}{l:List (Int×Nat)}{ss:List Str}(G:PlG D H l ss) (s:aP H H'):PlG D H' l ss:=by
 obtain⟨ts,h0,h1,h2⟩:=G.ex;exact⟨ts,s _ _ h0,h1,fun j t x a b=>(h2 j t x a b).same s⟩
theorem PlG.plant {D:Addr}{H:Hp}{l:List (Int×Nat)}{ss:List Str}(G:PlG D H l ss):eN H D l ss:=by
 obtain⟨ts,h0,h1,h2⟩:=G.ex;exact⟨ts,h0,h1,fun j t x a b=>(h2 j t x a b).row⟩
theorem PlG.push {D t:Addr}{H:Hp}{l:List (Int×Nat)}{ss:List Str}{c:Int}{n:Nat}(G:PlG D H l ss) (R:pL D H t c n ss):∃ xs,H D=some (.lst xs)∧xs.length=l.length∧PlG D (upd H D (.lst (xs++[.ref t]))) (l++[(c,n)]) ss:=by
 obtain⟨ts,h0,h1,h2⟩:=G.ex;refine⟨_,h0,by rw[List.length_map,h1],⟨ts++[t],by rw[aD,List.map_append]; rfl,by rw[List.length_append,List.length_append,h1]; rfl,fun j u y hu hy=>?_⟩⟩
 by_cases hj:j<ts.length
 ·rw[List.getElem?_append_left hj] at hu;rw[List.getElem?_append_left (by omega)] at hy;exact (h2 j u y hu hy).put ⟨_,h0⟩
 ·have hl:j=ts.length:=by
   have:=(List.getElem?_eq_some_iff.mp hu).1
   rw[List.length_append] at this;simp only[List.length_cons,List.length_nil] at this;omega
  subst hl;rw[List.getElem?_append_right (Nat.le_refl _),Nat.sub_self] at hu;rw[h1,List.getElem?_append_right (Nat.le_refl _),Nat.sub_self] at hy;cases hu;cases hy;exact R.put ⟨_,h0⟩
inductive aNq (H:Hp) (p n:Addr) (c:Int) (ss:List Str) (σ:St) (H':Hp):Prop
 | mk (D:Addr) (x4:Option V) (l':List (Int×Nat)) (h0_:σ=[some (.ref p),some (.int c),some (.ref n),some (.ref D),x4]) (h1_:PlG D H' l' ss) (h2_:1<=l'.length∧l'.length<=7) (h3_:aHg l') (h4_:H D=none) (h5_:aP H H')
section
variable {P:Program}{w:World}{K:PySem.W.Frag}{mg:Str->Option Value}{base:Heap}
abbrev NMo:List Str:=["_law_plant","_law_cell","_law_names","_law_found","_law_k"]
theorem aKn:aS NMo ["_law_plant","_law_cell","_law_names"] (aB tL):=⟨rfl,rfl,rfl,by decide +kernel,rfl,by decide +kernel,by decide +kernel⟩
theorem aIf {f fB fM:Addr}{fd fdB fdM:FuncData}(F:Fun K "_law_more" "_law_more" tL f fd) (T:Txt K mg)
  (GM:aX P w K mg base CX0 1 fM fdM ["_law_cell","_law_k"] lG) (kM:PySem.W.keepIn K (.ref fM)=true) (bM:bJ K fdM ["_law_cell","_law_k"] []) (mM:mg "_law_mixed" = some (.ref fM))
  (GB:aX P w K mg base CX0 2 fB fdB ["_law_cell","_law_names","_law_many"] (jV K)) (kB:PySem.W.keepIn K (.ref fB)=true) (bB:bJ K fdB ["_law_cell","_law_names","_law_many"] []) (mB:mg "_law_machine_by" = some (.ref fB)) :
  aX P w K mg base CX0 3 f fd ["_law_plant","_law_cell","_law_names"] (aEh K):=by
 refine F.ok aKn (fun vs H Q E h=>?_) (fun cdv A outer s H vs Q E hr h=>?_)
 ·obtain⟨p,n,c,l,ss,rfl,_⟩:=h;rfl
 ·obtain⟨p,n,c,l,ss,rfl,hP,hN,h12,hl,hf,q⟩:=h;have hr1:cY 1 _:=hr.mono (by decide)
  refine⟨_,aK (bU (i:=3) aKn.nd rfl (Or.inl rfl) (eS nY (by rfl) T.list Bo.list (pac (pv 0) aJ)))
   (dY (aNq H p n c ss) (dL (cC rD (aU dA (pv 1) aN) aN (cM _))
    (aL (eG PassesOwn.never rfl (gS rfl T.range (pac (aU aKw (aU eI aN (aU dA (aU eU (pv 1) aN) aN)) (cJ eA (by rfl) T.len Bo.len (pac (pv 0) aJ))) aJ)) (aO (i:=4) aKn.nd rfl (Or.inl rfl))
     (aL (cW (jQ PySem.F.plainAttrs_list PySem.F.slot_list_append PySem.F.type_list_append eE (pv 3) (pac (aZ GB hr rfl mB kB bB .nil bY (pac (aZ GM hr1 rfl mM kM bM .nil bY (pac (pv 1) (pac (aU eI aN (pv 4)) aJ))) (pac (pv 2) (pac (aU eI aN (aU dA (aU dA (aU eU (pv 1) aN) (aU eI aN (pv 4))) aN)) aJ)))) aJ)))))) cF)
   (aL (bV (pv 3)))),?_⟩
  obtain⟨ts,h0,h1,h2⟩:=hP.ex;refine⟨_,rfl,p,_,rfl,.inl (SqL.of h0),fun D hD=>?_⟩;have s1:aP H (upd H D (.lst (ts.map V.ref))):=smu hD
  have G1:PlG D (upd H D (.lst (ts.map V.ref))) l ss:=by
   refine⟨ts,aD,h1,fun j t x a b=>?_⟩;obtain⟨e,d,m,r0,r1,r2,r3⟩:=h2 j t x a b;obtain⟨us,rd,_⟩:=id r2.ex;exact⟨e,d,m,s1 _ _ r0,s1 _ _ r1,r2.same s1,s1 _ _ r3,aG r1 hD,aG rd hD,aG r3 hD⟩
  have h0':=s1 _ _ h0;generalize upd H D (.lst (ts.map V.ref))=H1 at s1 G1 h0' ⊢;refine⟨⟨_,rfl,_,_,rfl,rfl,(by show (0:Int)<5; decide),rfl,_,rfl,gJ (fun _=>?_) (fun _=>⟨D,none,l,rfl,G1,⟨hl.1,by omega⟩,hf,hD,s1⟩)⟩,?_⟩
  ·have g4:=cE (c/5) (m:=4) (by decide);refine⟨_,rfl,_,_,rfl,rfl,⟨by decide,by decide⟩,_,_,rfl,rfl,(by show (0:Int)<4; decide),_,_,rfl,rfl,_,rfl,p,_,rfl,.inl (SqL.of h0'),_,_,rfl,rfl,_,rfl,by rw[List.length_map]; omega,by rw[List.length_map]; omega,?_⟩;refine tX (n:=(4+c/5%4-((ts.map V.ref).length:Int)).toNat) (fun i σ H'=>∃ (x4:Option V) (l':List (Int×Nat)),σ=[some (.ref p),some (.int c),some (.ref n),some (.ref D),x4]∧PlG D H' l' ss∧l'.length=l.length+i∧aHg l'∧aP H H') ?_ ?_ ?_
   ·exact⟨none,l,rfl,G1,rfl,hf,s1⟩
   ·rintro i σ H' hi ⟨x4,l',rfl,G,b1,b2,a2⟩;rw[List.length_map] at hi;obtain⟨xs,d0,d1,_⟩:∃ xs,H' D=some (.lst xs)∧xs.length=l'.length∧True:=let ⟨us,e0,e1,_⟩:=G.ex; ⟨_,e0,by rw[List.length_map,e1],trivial⟩
    obtain⟨nk,ek,hk1,hk2⟩:∃ nk:Nat,1+c/20%(1+(0+(i:Int)))%2=(nk:Int)∧1<=nk∧nk<=5:=by
     have g:=cE (c/20%(1+(0+(i:Int)))) (m:=2) (by decide);exact⟨(1+c/20%(1+(0+(i:Int)))%2).toNat,by omega,by omega,by omega⟩
    refine⟨_,rfl,.inl ⟨rfl,_,SqL.of d0⟩,_,rfl,_,rfl,_,_,rfl,rfl,c,_,rfl,_,rfl,_,rfl,_,_,rfl,rfl,⟨by decide,by decide⟩,_,rfl,_,_,rfl,rfl,_,_,rfl,rfl,(by omega),_,_,rfl,rfl,(by show (0:Int)<2; decide),_,_,rfl,rfl,RW.mixed c (700+(0+(i:Int))),n,nk,ss,by rw[ek]; rfl,a2.seq hN,hk1,hk2,h12,fun t e d m H3 s3 he hd hm ht he3 hd3 hm3=>?_⟩;have nD:∀ {p:Addr},H' p=none->p≠D:=fun h z=>by rw[z,d0] at h; cases h
    obtain⟨ys,y0,y1,y2⟩:=(G.same s3).push (pL.mk e d m ht he3 hd3 hm3 (nD he) (nD hd) (nD hm));refine⟨D,ys,_,rfl,rfl,y0,aQ (by omega),_,_,rfl,y2,by rw[List.length_append,b1]; rfl,fun x hx=>?_,fun b o u=>?_⟩
    ·rcases List.mem_append.mp hx with h | h
     ·exact b2 x h
     ·rw[List.mem_singleton.mp h]; exact⟨hk1,hk2⟩
    ·rw[aI (aG u hD)];exact s3 _ _ (a2 b o u)
   ·rintro σ H' ⟨x4,l',rfl,G,b1,b2,a2⟩;rw[List.length_map] at b1;exact⟨D,x4,l',rfl,G,by omega,b2,hD,a2⟩
  ·rintro σ H' ⟨D',x4,l',rfl,G,hl',hf',hD',s'⟩;exact⟨_,rfl,q D' l' H' s' hD' G.plant hl' hf'⟩
end
end K21
namespace K21
open PySem L2 Ky
seal L2.PE L2.PS L2.PSs L2.PA L2.PT L2.PW L2.PG L2.PI L2.PTs L2.PO L2.PPs L2.OpR L2.IxR L2.CallR L2.MtM L2.MtR
unseal L2.MtM L2.MtR
def DT (kvs:List (List Key×V)) (ds:List Dr):Prop:=∀ z y:Str,dH kvs [Sum.inr z,Sum.inr y]=(jO ds z y).map V.str
theorem aMb:DT [] []:=fun _ _=>rfl
theorem xP {ds:List Dr}{x:Dr}(h:∀ y∈ds,y.1=x.1->y.2.1≠x.2.1) (z y:Str):jO (ds++[x]) z y=if z=x.1∧y=x.2.1 then some x.2.2 else jO ds z y:=by
 unfold jO;rw[List.find?_append]
 by_cases q:z=x.1∧y=x.2.1
 ·rw[if_pos q]
  have n:ds.find? (fun u=>decide (u.1=z)&&decide (u.2.1=y))=none:=List.find?_eq_none.mpr fun u hu e=>by
   have e':=Bool.and_eq_true_iff.mp e;exact h u hu ((of_decide_eq_true e'.1).trans q.1) ((of_decide_eq_true e'.2).trans q.2)
  rw[n];simp[q.1,q.2]
 ·rw[if_neg q]
  have n:[x].find? (fun u=>decide (u.1=z)&&decide (u.2.1=y))=none:=List.find?_eq_none.mpr fun u hu e=>by
   rw[List.mem_singleton.mp hu] at e;have e':=Bool.and_eq_true_iff.mp e;exact q ⟨(of_decide_eq_true e'.1).symm,(of_decide_eq_true e'.2).symm⟩
  rw[n,Option.or_none]
theorem aMa {kvs:List (List Key×V)}{ds:List Dr}{x:Dr}(h:DT kvs ds) (ha:∀ y∈ds,y.1=x.1->y.2.1≠x.2.1):DT (eP kvs [Sum.inr x.1,Sum.inr x.2.1] (.str x.2.2)) (ds++[x]):=fun z y=>by
 rw[jU,xP ha]
 by_cases q:z=x.1∧y=x.2.1
 ·rw[if_pos (by rw[q.1,q.2]),if_pos q];rfl
 ·rw[if_neg (fun e=>q (by
   have e':=List.cons.inj e;exact⟨Sum.inr.inj e'.1,Sum.inr.inj (List.cons.inj e'.2).1⟩)),if_neg q]
  exact h z y
theorem aIy {S ss:List Str}(pm:S.Perm ss) (hn:∀ z∈ss,bX z=true):∀ z∈ss,eL (wts S 1 []) (.str z)=true:=fun z hz=>by
 rw[eL,nF,hn z hz];simp[pm.mem_iff.mpr hz]

def iB (ss:List Str) (x:Int×Nat):MW:=⟨bZ x.1 0,cV x.1 x.2,eK (aR x.1 ss x.2) (fY x.1 ss),aR x.1 ss x.2⟩
abbrev nB (l:List (Int×Nat)) (ss:List Str):Prop:=∀ x∈l,aBh x.1 x.2 ss∧x.2<=5
theorem aIp (rs:List Str):(mks rs []).length=(unl rs []).length:=by
 have:=congrArg List.length (uY rs [] [] rfl)
 simpa using this
theorem aBh.ul {c:Int}{n:Nat}{ss:List Str}(R:aBh c n ss) (h5:n<=5):(unl (cO (bZ c 0) (cV c n) (aR c ss n)) []).length<=5:=by
 have:=eR R.rb
 rw[dR] at this;omega
theorem aQb {wk:List (Key×V)}{ss l:List Str}(hg:∀ z∈ss,eL wk (.str z)=true) (h:∀ z∈l,z∈ss):(l.map V.str).all (eL wk)=true:=List.all_eq_true.mpr fun y hy=>by
 obtain⟨z,hz,rfl⟩:=List.mem_map.mp hy;exact hg z (h z hz)
inductive qQ (C CM:Addr) (vs:List V) (H:Hp) (Q:VK) (E:XK):Prop
 | mk (x p:Addr) (l:List (Int×Nat)) (ss:List Str) (wk:List (Key×V)) (h0_:vs=[.ref x,.ref p]) (h1_:WAt C H x wk) (h2_:eN H p l ss) (h3_:l.length<=10) (h4_:nB l ss) (h5_:∀ z∈ss,eL wk (.str z)=true)
  (h6_:∀ (D:Addr) H',aP H H'->H D=none->nC CM H' x D (l.map (iB ss))->Q (.ref D) H')
section
variable {P:Program}{w:World}{K:PySem.W.Frag}{mg:Str->Option Value}{base:Heap}
theorem aOx:aS ["_law_deeds","_law_plant"] ["_law_deeds","_law_plant"] (aB gC):=⟨rfl,rfl,rfl,by decide +kernel,rfl,by decide +kernel,by decide +kernel⟩
abbrev ndp:List Str:=["_law_begin","_law_ends","_law_doors","_law_more_here","_law_deeds"]
theorem wV {f fMI C CM:Addr}{fd fdMI:FuncData}(F:Fun K "_law_machines" "_law_machines" gC f fd)
  (GMI:aX P w K mg base (CXE P w) 4 fMI fdMI ["self","deeds","begin","ends","doors","more"] (aAk K C CM)) (MMk:Mk K CM fMI) (bMI:bJ K fdMI ["self","deeds","begin","ends","doors","more"] []) (mMa:mg "Machine" = some (.ref CM)) :
  aX P w K mg base CX0 6 f fd ["_law_deeds","_law_plant"] (qQ C CM):=by
 refine F.ok aOx (fun vs H Q E h=>?_) (fun cdv A outer s H vs Q E hr h=>?_)
 ·obtain⟨x,p,l,ss,wk,rfl,_⟩:=h;rfl
 ·obtain⟨x,p,l,ss,wk,rfl,hW,hP,hl,hR,hg,q⟩:=h
  refine⟨_,aL (bV (dN (N':=ndp) (nown:=4) (js:=[0]) rfl
     ⟨rfl,by decide +kernel,by decide +kernel⟩ (cG (aB gC) ["_law_deeds","_law_plant"] rfl rfl (by decide +kernel))
     ⟨fun _ _ _ _=>show PG _ _ (sI K 4 (eV (dU 0) (eV (dU 1) (eV (dU 2) (eV (dU 3) sJ))))) from eQ rfl (aW (aO (i:=0) (show List.Nodup ndp by decide +kernel) rfl (Or.inl rfl) (.inr rfl)) (aW (aO (i:=1) (show List.Nodup ndp by decide +kernel) rfl (Or.inl rfl) (.inr rfl)) (aW (aO (i:=2) (show List.Nodup ndp by decide +kernel) rfl (Or.inl rfl) (.inr rfl)) (aW (aO (i:=3) (show List.Nodup ndp by decide +kernel) rfl (Or.inl rfl) (.inr rfl)) dM)))),
      fun _ _ _ _=>dJ,fun _ _ _ _=>qD MMk GMI hr rfl mMa bMI .nil wS (pac (pv 4) (pac (pv 0) (pac (pv 1) (pac (pv 2) (pac (pv 3) aJ)))))⟩
     (cS (pv 1)))),?_⟩
  obtain⟨ts,h0,h1,h2⟩:=hP.ex;refine⟨_,rfl,p,rfl,⟨_,SqL.of h0⟩,fun D hD=>eZ (xs:=ts.map V.ref) (fun i σ' H'=>∃ v0 v1 v2 v3,σ'=[v0,v1,v2,v3,some (.ref x)]∧nC CM H' x D ((l.take i).map (iB ss))∧aP H H') ?_ ?_ ?_ ?_⟩
  ·exact⟨none,none,none,none,rfl,⟨[],aD,rfl,fun i X m z=>nomatch z⟩,smu hD⟩
  ·rintro i σ' H' _ ⟨v0,v1,v2,v3,rfl,a1,a2⟩;exact SqL.of (a2 _ _ h0)
  ·rintro i v σ' H' hv ⟨v0,v1,v2,v3,rfl,a1,a2⟩;rw[List.getElem?_map] at hv;cases ht:ts[i]? with
   | none=>rw[ht] at hv; cases hv
   | some t=>
    rw[ht] at hv;cases hv;have hi:i<l.length:=by rw[← h1]; exact (List.getElem?_eq_some_iff.mp ht).1
    have hx:=List.getElem?_eq_getElem hi;have hxm:l[i]∈l:=List.getElem_mem hi;generalize l[i]=cn at hx hxm;obtain⟨RO,n5⟩:=hR cn hxm;obtain⟨e,d,m,r0,r1,r2,r3⟩:=(h2 i t cn ht hx).same a2;refine⟨t,_,rfl,SqT.of r0,rfl,_,_,rfl,_,_,rfl,_,_,rfl,_,_,rfl,rfl,_,rfl,_,rfl,_,rfl,_,rfl,_,rfl,fun X dX hX hdX _=>?_⟩;have k1:aP H' (upd (upd H' dX (.own X)) X (.ins CM dX [])):=fun b o' e'=>by rw[aI (aG e' hX),aI (aG e' hdX)]; exact e'
    refine⟨X,x,e,d,dX,bZ cn.1 0,.ref m,cV cn.1 cn.2,fY cn.1 ss,aR cn.1 ss cn.2,wk,rfl,aD,jD hW (a2.trans k1),k1 _ _ r1,r2.same k1,.inr ⟨m,rfl,k1 _ _ r3⟩,RO.le,RO.nm,aQb hg RO.kn,fun z hz=>pG (hg z (RO.kn z hz)),RO.ap,by rw[aIp]; exact Nat.le_trans (RO.ul n5) (by decide),fun lM eM kM kvs g H5 sb M5=>⟨rfl,?_⟩⟩;have s5:aP H' H5:=fun b u e'=>sb b u (aG e' hX) (k1 b u e');obtain⟨Xs,b0,b1,b2⟩:=a1.ex;rw[List.length_map,List.length_take] at b1;have b05:=s5 _ _ b0;have en:(l.take (i+1)).map (iB ss)=(l.take i).map (iB ss)++[iB ss cn]:=by rw[List.take_succ,hx,List.map_append]; rfl
    refine⟨_,b05,aQ (by rw[List.length_map]; omega),_,_,_,_,rfl,⟨Xs++[X],by rw[aD,List.map_append]; rfl,by rw[en,List.length_append,List.length_append,b1,List.length_map,List.length_take]; rfl,fun j Y mw hY hm=>aJu ?_ (aAw b05)⟩,fun b o u=>?_⟩
    ·rw[en] at hm
     by_cases hj:j<Xs.length
     ·rw[List.getElem?_append_left hj] at hY;rw[List.getElem?_append_left (by rw[List.length_map,List.length_take]; omega)] at hm;exact (b2 j Y mw hY hm).same s5
     ·have hl':j=Xs.length:=by
       have:=(List.getElem?_eq_some_iff.mp hY).1
       rw[List.length_append] at this;simp only[List.length_cons,List.length_nil] at this;omega
      subst hl';rw[List.getElem?_append_right (Nat.le_refl _),Nat.sub_self] at hY;rw[List.getElem?_append_right (by rw[List.length_map,List.length_take]; omega),show Xs.length-((l.take i).map (iB ss)).length=0 by rw[List.length_map,List.length_take]; omega] at hm;cases hY;cases hm;exact⟨dX,lM,eM,kM,kvs,g,M5⟩
    ·rw[aI (aG u hD)];exact s5 _ _ (a2 b o u)
  ·rintro σ' H' ⟨v0,v1,v2,v3,rfl,a1,a2⟩;rw[List.length_map,h1,List.take_length] at a1;exact q D H' a2 hD a1
end
end K21
namespace K21
open PySem L2 Ky
seal L2.PE L2.PS L2.PSs L2.PA L2.PT L2.PW L2.PG L2.PI L2.PTs L2.PO L2.PPs L2.OpR L2.IxR L2.CallR L2.MtM L2.MtR
unseal L2.MtM L2.MtR
def mpD (b:Str) (e g k:Addr):List (Key×V):=oU [] [(Sum.inr "begin",.str b),(Sum.inr "ends",.ref e),(Sum.inr "go",.ref g),(Sum.inr "known",.ref k)]
theorem aGb (b:Str) (e g k:Addr):dH (mpD b e g k) (Sum.inr "known")=some (.ref k):=by rfl
theorem aNa (b:Str) (e g k:Addr):dH (mpD b e g k) (Sum.inr "go")=some (.ref g):=by rfl
theorem aIn (b:Str) (e g k:Addr):dH (mpD b e g k) (Sum.inr "ends")=some (.ref e):=by rfl
inductive Mp (D:Addr) (H:Hp) (q:Addr) (m:MW):Prop
 | mk (e g k:Addr) (kvs:List (List Key×V)) (h0_:H q=some (.dK (mpD m.b e g k))) (h1_:H e=some (.lst (m.es.map V.str))) (h2_:H g=some (.dT kvs)) (h3_:DT kvs m.ds) (h4_:H k=some (.lst (m.kn.map V.str))) (h5_:e≠D) (h6_:k≠D)
theorem Mp.same {D:Addr}{H H':Hp}{q:Addr}{m:MW}(M:Mp D H q m) (s:aP H H'):Mp D H' q m:=by
 obtain⟨e,g,k,kvs,h0,h1,h2,h3,h4,h5,h6⟩:=M;exact⟨e,g,k,kvs,s _ _ h0,s _ _ h1,s _ _ h2,h3,s _ _ h4,h5,h6⟩
theorem Mp.put {D:Addr}{H:Hp}{q:Addr}{m:MW}{xs ys:List V}(M:Mp D H q m) (hD:H D=some (.lst xs)):Mp D (upd H D (.lst ys)) q m:=by
 obtain⟨e,g,k,kvs,h0,h1,h2,h3,h4,h5,h6⟩:=M;exact⟨e,g,k,kvs,by rw[aI fun z=>by rw[z,hD] at h0; cases h0]; exact h0,by rw[aI h5]; exact h1,by rw[aI fun z=>by rw[z,hD] at h2; cases h2]; exact h2,h3,by rw[aI h6]; exact h4,h5,h6⟩
structure gF (H:Hp) (D:Addr) (ms:List MW):Prop where
 ex:∃ qs:List Addr,H D=some (.lst (qs.map V.ref))∧qs.length=ms.length∧∀ (i:Nat) (q:Addr) (m:MW),qs[i]?=some q->ms[i]?=some m->Mp D H q m
theorem gF.same {H H':Hp}{D:Addr}{ms:List MW}(M:gF H D ms) (s:aP H H'):gF H' D ms:=by
 obtain⟨qs,h0,h1,h2⟩:=M.ex;exact⟨qs,s _ _ h0,h1,fun i q m a b=>(h2 i q m a b).same s⟩
theorem gF.push {H:Hp}{D q:Addr}{ms:List MW}{m:MW}(M:gF H D ms) (R:Mp D H q m):∃ xs,H D=some (.lst xs)∧xs.length=ms.length∧gF (upd H D (.lst (xs++[.ref q]))) D (ms++[m]):=by
 obtain⟨ts,h0,h1,h2⟩:=M.ex;refine⟨_,h0,by rw[List.length_map,h1],⟨ts++[q],by rw[aD,List.map_append]; rfl,by rw[List.length_append,List.length_append,h1]; rfl,fun j u y hu hy=>?_⟩⟩
 by_cases hj:j<ts.length
 ·rw[List.getElem?_append_left hj] at hu;rw[List.getElem?_append_left (by omega)] at hy;exact (h2 j u y hu hy).put h0
 ·have hl:j=ts.length:=by
   have:=(List.getElem?_eq_some_iff.mp hu).1
   rw[List.length_append] at this;simp only[List.length_cons,List.length_nil] at this;omega
  subst hl;rw[List.getElem?_append_right (Nat.le_refl _),Nat.sub_self] at hu;rw[h1,List.getElem?_append_right (Nat.le_refl _),Nat.sub_self] at hy;cases hu;cases hy;exact R.put h0
inductive aEi (vs:List V) (H:Hp) (Q:VK) (E:XK):Prop
 | mk (p:Addr) (l:List (Int×Nat)) (ss:List Str) (h0_:vs=[.ref p]) (h1_:eN H p l ss) (h2_:l.length<=10) (h3_:nB l ss) (h4_:∀ (D:Addr) H',aP H H'->H D=none->gF H' D (l.map (iB ss))->Q (.ref D) H')
section
variable {P:Program}{w:World}{K:PySem.W.Frag}{mg:Str->Option Value}{base:Heap}
abbrev NMp:List Str:=["_law_plant","_law_found","_law_begin","_law_ends","_law_doors","_law_more_here","_law_go","_law_one","_law_deed","_law_other"]
theorem sC:aS NMp ["_law_plant"] (aB qS):=⟨rfl,rfl,rfl,by decide +kernel,rfl,by decide +kernel,by decide +kernel⟩
abbrev ndD:List Str:=["_law_door"]
theorem aIg {f:Addr}{fd:FuncData}(F:Fun K "_law_maps" "_law_maps" qS f fd):aX P w K mg base CX0 1 f fd ["_law_plant"] aEi:=by
 refine F.ok sC (fun vs H Q E h=>?_) (fun cdv A outer s H vs Q E hr h=>?_)
 ·obtain⟨p,l,ss,rfl,_⟩:=h;rfl
 ·obtain⟨p,l,ss,rfl,hP,hl,hR,q⟩:=h;have hu:=jB hr
  refine⟨_,aK (bU (i:=1) sC.nd rfl (Or.inl rfl) (dB aJ))
   (aK (eG PassesOwn.never rfl (cS (pv 0)) (eQ rfl (aW (aO (i:=2) sC.nd rfl (Or.inl rfl)) (aW (aO (i:=3) sC.nd rfl (Or.inl rfl)) (aW (aO (i:=4) sC.nd rfl (Or.inl rfl)) (aW (aO (i:=5) sC.nd rfl (Or.inl rfl)) dM)))))
    (aK (bU (i:=6) sC.nd rfl (Or.inl rfl) aFf)
    (aK (eG PassesOwn.never rfl (cS (pv 4)) (eQ rfl (aW (aO (i:=7) sC.nd rfl (Or.inl rfl)) (aW (aO (i:=8) sC.nd rfl (Or.inl rfl)) (aW (aO (i:=9) sC.nd rfl (Or.inl rfl)) dM))))
     (aL (lL hu (pv 6) (qZ (pac (pv 7) (pac (pv 8) aJ))) (pv 9) rfl)))
    (aL (cW (jQ PySem.F.plainAttrs_list PySem.F.slot_list_append PySem.F.type_list_append eE (pv 1) (pac (aIc (nN aY (pv 2) (nN aY (pv 3) (nN aY (pv 6) (nN aY (aU dP (dN (N':=ndD) (nown:=1) (js:=[]) rfl
      ⟨rfl,by decide +kernel,by decide +kernel⟩ (cG (aB qS) NMp rfl rfl (by decide +kernel))
      ⟨fun _ _ _ _=>aO (i:=0) (show List.Nodup ndD by decide +kernel) rfl (Or.inl rfl) (.inr rfl),fun _ _ _ _=>dJ,fun _ _ _ _=>cZ (show IxR _ (aEy K) from iS) (pv 0) aN (fun _ _=>rfl)⟩
      (cS (pv 4))) (pv 5)) aIa)))) rfl rfl (fun z=>nomatch z) (by show 4<=15; decide)) aJ)))))))
   (aL (bV (pv 1)))),?_⟩
  obtain⟨ts,h0,h1,h2⟩:=hP.ex;refine⟨by show 0<=sizeLine; decide,fun D hD=>⟨_,rfl,p,rfl,⟨_,SqL.of (smu hD _ _ h0)⟩,?_⟩⟩;refine dQ (xs:=ts.map V.ref) (fun i σ H'=>∃ (x2 x3 x4 x5 x6 x7 x8 x9:Option V),σ=[some (.ref p),some (.ref D),x2,x3,x4,x5,x6,x7,x8,x9]∧gF H' D ((l.take i).map (iB ss))∧aP H H') ?_ ?_ ?_ ?_
  ·exact⟨none,none,none,none,none,none,none,none,rfl,⟨[],aD,rfl,fun i q m z=>nomatch z⟩,smu hD⟩
  ·rintro i σ H' _ ⟨x2,x3,x4,x5,x6,x7,x8,x9,rfl,a1,a2⟩;exact SqL.of (a2 _ _ h0)
  ·rintro i v σ H' hv ⟨x2,x3,x4,x5,x6,x7,x8,x9,rfl,a1,a2⟩;rw[List.getElem?_map] at hv;cases ht:ts[i]? with
   | none=>rw[ht] at hv; cases hv
   | some t=>
    rw[ht] at hv;cases hv;have hi:i<l.length:=by rw[← h1]; exact (List.getElem?_eq_some_iff.mp ht).1
    have hx:=List.getElem?_eq_getElem hi;have hxm:l[i]∈l:=List.getElem_mem hi;generalize l[i]=cn at hx hxm;obtain⟨RO,n5⟩:=hR cn hxm;obtain⟨e,d,m,r0,r1,r2,r3⟩:=(h2 i t cn ht hx);have eD:e≠D:=aG r1 hD;have rle:=RO.le;obtain⟨us,hd,hul,hut⟩:=r2.ex;refine⟨t,_,rfl,SqT.of (a2 _ _ r0),rfl,_,_,rfl,_,_,rfl,_,_,rfl,_,_,rfl,rfl,?_⟩;intro g hg;have s3:aP H' (upd H' g (.dT [])):=smu hg;refine⟨_,rfl,d,rfl,⟨_,SqL.of (s3 _ _ (a2 _ _ hd))⟩,?_⟩;refine dQ (xs:=us.map V.ref) (fun i σ H3=>∃ (y7 y8 y9:Option V),σ=[some (.ref p),some (.ref D),some (.str (bZ cn.1 0)),some (.ref e),some (.ref d),some (.ref m),some (.ref g),y7,y8,y9]∧(∃ kvs,H3 g=some (.dT kvs)∧DT kvs ((aR cn.1 ss cn.2).take i)∧kvs.length<=i)∧aP H' H3) ?_ ?_ ?_ ?_
    ·exact⟨_,_,_,rfl,⟨[],aD,aMb,Nat.le_refl _⟩,s3⟩
    ·rintro i σ H3 _ ⟨y7,y8,y9,rfl,_,c2⟩;exact SqL.of (c2 _ _ (a2 _ _ hd))
    ·rintro i v σ H3 hv ⟨y7,y8,y9,rfl,⟨kvs',c1,c3,c4⟩,c2⟩;rw[List.getElem?_map] at hv;cases hu':us[i]? with
     | none=>rw[hu'] at hv; cases hv
     | some u=>
      rw[hu'] at hv;cases hv;have hi':i<(aR cn.1 ss cn.2).length:=by rw[← hul]; exact (List.getElem?_eq_some_iff.mp hu').1
      have hzz:=List.getElem?_eq_getElem hi';generalize (aR cn.1 ss cn.2)[i]=z at hzz;refine⟨u,_,rfl,SqT.of (c2 _ _ (a2 _ _ (hut i u z hu' hzz))),rfl,_,_,rfl,_,_,rfl,_,_,rfl,rfl,?_⟩;refine⟨_,rfl,_,rfl,_,rfl,_,rfl,by show 2<=sizeLine; decide,fun tt htt=>⟨g,_,rfl,pZ.t (k:=[Sum.inr z.1,Sum.inr z.2.1]) (smu htt _ _ c1) aD (aQ (by omega)),?_⟩⟩;refine⟨_,_,_,rfl,⟨_,aD,?_,Nat.le_trans (dS _ _ _) (Nat.succ_le_succ c4)⟩,fun b o' e'=>?_⟩
      ·rw[show (aR cn.1 ss cn.2).take (i+1)=(aR cn.1 ss cn.2).take i++[z] from by rw[List.take_succ,hzz]; rfl]
       exact aMa c3 (RO.ap.at hzz)
      ·rw[aI (aG e' hg)];exact smu htt _ _ (c2 _ _ e')
    rintro σ H3 ⟨y7,y8,y9,rfl,⟨kvs',c1,c3,c4⟩,c2⟩;rw[List.length_map,hul,List.take_length] at c3;have a23:=a2.trans c2;have a13:=a1.same c2;obtain⟨xs0,d0,_⟩:∃ xs,H3 D=some (.lst xs)∧True:=let ⟨_,e0,_⟩:=a13.ex; ⟨_,e0,trivial⟩;refine⟨_,rfl,.inl ⟨rfl,_,SqL.of d0⟩,fun q5 hq5=>⟨_,rfl,_,rfl,_,rfl,_,rfl,d,rfl,⟨_,SqL.of (smu hq5 _ _ (a23 _ _ hd))⟩,fun c hc=>?_⟩⟩;have s4:aP H3 (upd H3 q5 (.dK [])):=smu hq5;have e5:(upd H3 q5 (.dK [])) q5=some (.dK []):=aD;generalize upd H3 q5 (.dK [])=H4 at s4 e5 hc ⊢;refine eZ (xs:=us.map V.ref) (fun i σ' H5=>∃ v,σ'=[v]∧H5 c=some (.lst ((((aR cn.1 ss cn.2).take i).map (·.2.1)).map V.str))∧aP H4 H5) ?_ ?_ ?_ ?_
    ·exact⟨none,rfl,aD,smu hc⟩
    ·rintro i σ' H5 _ ⟨v,rfl,b1,b2⟩;exact SqL.of (b2 _ _ (s4 _ _ (a23 _ _ hd)))
    ·rintro i v σ' H5 hv ⟨v0,rfl,b1,b2⟩;rw[List.getElem?_map] at hv;cases hu':us[i]? with
     | none=>rw[hu'] at hv; cases hv
     | some u=>
      rw[hu'] at hv;cases hv;have hi':i<(aR cn.1 ss cn.2).length:=by rw[← hul]; exact (List.getElem?_eq_some_iff.mp hu').1
      have hzz:=List.getElem?_eq_getElem hi';generalize (aR cn.1 ss cn.2)[i]=z at hzz;refine⟨_,rfl,u,_,_,.str z.2.1,rfl,rfl,SqT.of (b2 _ _ (s4 _ _ (a23 _ _ (hut i u z hu' hzz)))),rfl,_,b1,aQ (by rw[List.length_map,List.length_map,List.length_take]; omega),_,rfl,?_,fun b o' e'=>?_⟩
      ·rw[aD,List.take_succ,hzz]
       simp
      ·rw[aI (aG e' hc)];exact b2 _ _ e'
    rintro σ' H5 ⟨v,rfl,b1,b2⟩;rw[List.length_map,hul,List.take_length] at b1;have s35:=s4.trans b2;have s05:=a23.trans s35;refine⟨_,rfl,c,m,_,_,rfl,rfl,b1,s05 _ _ r3,jW (by rw[List.length_map,List.length_map,List.length_map]; omega),fun k hk=>?_⟩;have s6:=smu (o:=.lst (((aR cn.1 ss cn.2).map (·.2.1)).map V.str++(fY cn.1 ss).map V.str)) hk
    have e6:(upd H5 k (.lst (((aR cn.1 ss cn.2).map (·.2.1)).map V.str++(fY cn.1 ss).map V.str))) k=some (.lst ((eK (aR cn.1 ss cn.2) (fY cn.1 ss)).map V.str)):=by
     rw[aD];unfold eK;rw[List.map_append]
    generalize upd H5 k (.lst (((aR cn.1 ss cn.2).map (·.2.1)).map V.str++(fY cn.1 ss).map V.str))=H6 at s6 e6 ⊢;have s36:=s35.trans s6;have kD:k≠D:=fun z=>by rw[z,s35 _ _ d0] at hk; cases hk
    have kq:k≠q5:=fun z=>by rw[z,b2 _ _ e5] at hk; cases hk
    refine⟨s6 _ _ (b2 _ _ e5),[(Sum.inr "begin",.str (bZ cn.1 0)),(Sum.inr "ends",.ref e),(Sum.inr "go",.ref g),(Sum.inr "known",.ref k)],rfl,by show 4<=15; decide,?_⟩;have s06:=a23.trans s36;have nq:∀ {b:Addr}{o:HO},H3 b=some o->b≠q5:=fun h=>aG h hq5;have s37:aP H3 (upd H6 q5 (.dK (mpD (bZ cn.1 0) e g k))):=fun b o h=>by rw[aI (nq h)]; exact s36 _ _ h
    have R7:Mp D (upd H6 q5 (.dK (mpD (bZ cn.1 0) e g k))) q5 (iB ss cn):=⟨e,g,k,kvs',aD,s37 _ _ (a23 _ _ r1),s37 _ _ c1,c3,by rw[aI kq]; exact e6,eD,kD⟩;have s07:=a23.trans s37;obtain⟨ys,y0,y1,y2⟩:=(a13.same s37).push R7;rw[List.length_map,List.length_take] at y1;refine⟨D,ys,_,rfl,rfl,y0,aQ (by omega),?_⟩;refine⟨_,_,_,_,_,_,_,_,rfl,?_,fun b o u=>?_⟩
    ·have en:(l.take (i+1)).map (iB ss)=(l.take i).map (iB ss)++[iB ss cn]:=by rw[List.take_succ,hx,List.map_append]; rfl
     rw[en];exact y2
    ·rw[aI (aG u hD)];exact s07 _ _ u
  ·rintro σ H' ⟨x2,x3,x4,x5,x6,x7,x8,x9,rfl,a1,a2⟩;rw[List.length_map,h1,List.take_length] at a1;exact⟨_,rfl,q D H' a2 hD a1⟩
end
end K21
namespace K21
open PySem L2 Ky
seal L2.PE L2.PS L2.PSs L2.PA L2.PT L2.PW L2.PG L2.PI L2.PTs L2.PO L2.PPs L2.OpR L2.IxR L2.CallR L2.MtM L2.MtR
unseal L2.MtM L2.MtR
theorem aGp {H:Hp}{q e g k:Addr}{b:Str}(h:H q=some (.dK (mpD b e g k))):fV H q (.str "known") (some (.ref k)):=by
 have:=fV.k (k:=Sum.inr "known") h
 rw[aGb] at this;exact this
theorem gGo {H:Hp}{q e g k:Addr}{b:Str}(h:H q=some (.dK (mpD b e g k))):fV H q (.str "go") (some (.ref g)):=by
 have:=fV.k (k:=Sum.inr "go") h
 rw[aNa] at this;exact this
theorem aNg {H:Hp}{q e g k:Addr}{b:Str}(h:H q=some (.dK (mpD b e g k))):fV H q (.str "ends") (some (.ref e)):=by
 have:=fV.k (k:=Sum.inr "ends") h
 rw[aIn] at this;exact this
theorem rC {ms:List MW}{room:List Str}{y:Str}{i:Nat}{m:MW}{z:Str}(hm:ms[i]?=some m) (hz:room[i]?=some z):parts (ms.take (i+1)) (room.take (i+1)) y=parts (ms.take i) (room.take i) y++[pH m.ds m.kn z y]:=by
 unfold parts;exact jS hm hz
theorem aFj {ms:List MW}{room:List Str}{y:Str}{i:Nat}{m:MW}{z:Str}(hm:ms[i]?=some m) (hz:room[i]?=some z):(parts ms room y)[i]?=some (pH m.ds m.kn z y):=by
 unfold parts;rw[List.getElem?_zipWith,hm,hz]
theorem aIz {ds:List Dr}{kn:List Str}{z y:Str}(h:pH ds kn z y=none):y∈kn:=by
 unfold pH at h
 by_cases q:y∈kn
 ·exact q
 ·rw[if_neg q] at h; cases h
theorem aDs {ms:List MW}{room:List Str}{y:Str}{i:Nat}{m:MW}{z:Str}(hm:ms[i]?=some m) (hz:room[i]?=some z) (hk:y∈m.kn) (h:pH m.ds m.kn z y=none):wto ms room y=none:=by
 unfold wto aBj;rw[if_pos (show y∈wkn ms from List.mem_flatMap.mpr ⟨m,List.mem_of_getElem? hm,hk⟩),if_pos (List.any_eq_true.mpr ⟨none,List.mem_of_getElem? (by rw[aFj hm hz,h]),rfl⟩)]
theorem aDr {ms:List MW}{room:List Str}{y:Str}{fs:List Str}(hk:y∈wkn ms) (h:parts ms room y=fs.map some):wto ms room y=some fs:=by
 unfold wto aBj;rw[if_pos hk,h,if_neg (by simp),List.map_map];exact congrArg some (List.map_id fs)
inductive aEg (K:PySem.W.Frag) (vs:List V) (H:Hp) (Q:VK) (E:XK):Prop
 | mk (D t:Addr) (ms:List MW) (room:List Str) (y:Str) (h0_:vs=[.ref D,.ref t,.str y]) (h1_:gF H D ms) (h2_:SqT K H t (room.map V.str)) (h3_:ms.length=room.length) (h4_:ms.length<=10) (h5_:vL H Q (wto ms room y))
section
variable {P:Program}{w:World}{K:PySem.W.Frag}{mg:Str->Option Value}{base:Heap}
abbrev NSt:List Str:=["_law_maps_here","_law_room","_law_deed","_law_found","_law_many","_law_k","_law_one"]
theorem yJ:aS NSt ["_law_maps_here","_law_room","_law_deed"] (aB tK):=⟨rfl,rfl,rfl,by decide +kernel,rfl,by decide +kernel,by decide +kernel⟩
theorem aIe {f:Addr}{fd:FuncData}(F:Fun K "_law_step" "_law_step" tK f fd) (T:Txt K mg) (mT:mg "tuple" = none):aX P w K mg base CX0 1 f fd ["_law_maps_here","_law_room","_law_deed"] (aEg K):=by
 refine F.ok yJ (fun vs H Q E h=>?_) (fun cdv A outer s H vs Q E hr h=>?_)
 ·obtain⟨D,t,ms,room,y,rfl,_⟩:=h;rfl
 ·obtain⟨D,t,ms,room,y,rfl,M,hT,hlen,hl,q⟩:=h;have hu:=jB hr
  refine⟨_,aK (bU (i:=3) yJ.nd rfl (Or.inl rfl) (dB aJ))
   (aK (bU (i:=4) yJ.nd rfl (Or.inl rfl) aN)
   (aK (eG PassesOwn.never rfl (gS rfl T.range (pac (cJ eA (by rfl) T.len Bo.len (pac (pv 0) aJ)) aJ)) (aO (i:=5) yJ.nd rfl (Or.inl rfl))
    (aK (bU (i:=6) yJ.nd rfl (Or.inl rfl) (cZ iS (pv 1) (pv 5) (fun _ _=>rfl)))
    (aK (dL (cC (show OpR _ _ (rIn K false) from oP) (pv 2) (jK hu (cZ cQ (pv 0) (pv 5) (fun _ _=>rfl)) aY (fun _ _=>rfl)) (by with_unfolding_all rfl))
     (aK (bU (i:=4) yJ.nd rfl (Or.inl rfl) (aU eI (pv 4) aN))
     (aL (bU (i:=6) yJ.nd rfl (Or.inl rfl) (wP hu (jK hu (cZ cQ (pv 0) (pv 5) (fun _ _=>rfl)) aY (fun _ _=>rfl)) (qZ (pac (cZ iS (pv 1) (pv 5) (fun _ _=>rfl)) (pac (pv 2) aJ))) ⟨by rfl,by rfl,by rfl,by rfl⟩)))) cF)
    (aK (dL (cC aFn (pv 6) iA (cM _)) (aL (bV iA)) cF)
    (aL (cW (jQ PySem.F.plainAttrs_list PySem.F.slot_list_append PySem.F.type_list_append eE (pv 3) (pac (pv 6) aJ))))))))
   (aK (dL (cC rD (pv 4) aN (cM _)) (aL (bV iA)) cF)
   (aL (bV (eS eY (by rfl) mT Bo.tuple (pac (pv 3) aJ))))))),?_⟩
  obtain⟨qs,h0,h1,h2⟩:=M.ex;refine⟨by show 0<=sizeLine; decide,fun Fd hF=>⟨_,rfl,D,_,rfl,.inl (SqL.of (smu hF _ _ h0)),_,rfl,by rw[List.length_map]; omega,by rw[List.length_map]; omega,?_⟩⟩;refine tX (n:=((qs.map V.ref).length:Int).toNat) (fun i σ H'=>∃ (x5 x6:Option V) (fs:List Str) (n:Nat),σ=[some (.ref D),some (.ref t),some (.str y),some (.ref Fd),some (.int n),x5,x6]∧H' Fd=some (.lst (fs.map V.str))∧parts (ms.take i) (room.take i) y=fs.map some∧(n=0↔y∉wkn (ms.take i))∧aP H H') ?_ ?_ ?_
  ·exact⟨none,none,[],0,rfl,aD,rfl,⟨fun _ z=>(nomatch z),fun _=>rfl⟩,smu hF⟩
  ·rintro i σ H' hi ⟨x5,x6,fs,n,rfl,a1,b1,b2,a2⟩;rw[List.length_map] at hi;have hiq:i<qs.length:=by omega
   have hq:=List.getElem?_eq_getElem hiq;generalize qs[i]=q' at hq;have him:i<ms.length:=by omega
   have hm:=List.getElem?_eq_getElem him;generalize ms[i]=m at hm;have hir:i<room.length:=by omega
   have hz:=List.getElem?_eq_getElem hir;generalize room[i]=z at hz
   have fl:fs.length=i:=by
    have:=congrArg List.length b1
    unfold parts at this;rw[List.length_zipWith,List.length_take,List.length_take,List.length_map] at this;omega
   obtain⟨e,g,k,kvs,m0,m1,m2,m3,m4,_,_⟩:=(h2 i q' m hq hm).same a2;have hT':=dC hT a2;have aq:atI (qs.map V.ref) (0+(i:Int))=some (.ref q'):=by rw[Int.zero_add]; exact gH (by rw[List.getElem?_map,hq]; rfl)
   have az:atI (room.map V.str) (0+(i:Int))=some (.str z):=by rw[Int.zero_add]; exact gH (by rw[List.getElem?_map,hz]; rfl)
   refine⟨_,rfl,_,rfl,t,_,_,.str z,rfl,rfl,hT',az,?_⟩;refine⟨_,rfl,_,rfl,_,rfl,D,_,_,.ref q',rfl,rfl,SqL.of (a2 _ _ h0),aq,q',_,rfl,aGp m0,k,_,rfl,.inl (SqL.of m4),rfl,by rw[List.all_map]; exact List.all_eq_true.mpr fun _ _=>rfl,decide (y∈m.kn),congrArg V.bl (uZ y m.kn),?_⟩
   by_cases hk:y∈m.kn
   ·rw[decide_eq_true hk];refine kO ⟨_,rfl,_,_,rfl,rfl,?_⟩;refine⟨_,rfl,_,rfl,D,_,_,.ref q',rfl,rfl,SqL.of (a2 _ _ h0),aq,q',_,rfl,gGo m0,g,rfl,.inr ⟨_,.inl m2⟩,_,rfl,_,rfl,t,_,_,.str z,rfl,rfl,hT',az,_,rfl,by show 2<=sizeLine; decide,fun tt htt=>?_⟩;have s3:aP H' (upd H' tt (.tup [.str z,.str y])):=smu htt;have gt:=fV.t (k:=[Sum.inr z,Sum.inr y]) (s3 _ _ m2) (show (upd H' tt (.tup [.str z,.str y])) tt=some (.tup ([Sum.inr z,Sum.inr y].map kV)) from aD)
    rw[m3] at gt;refine⟨_,gt,?_⟩;have eo:((jO m.ds z y).map V.str).getD .non=oV (pH m.ds m.kn z y):=by unfold pH; rw[if_pos hk]; rfl
    rw[eo];generalize upd H' tt (.tup [.str z,.str y])=H3 at s3 ⊢;have a23:=a2.trans s3;refine⟨_,rfl,rfl,_,rfl,?_⟩;cases ho:pH m.ds m.kn z y with
    | none=>
     have hk':y∈m.kn:=aIz ho;rw[aDs hm hz hk' ho] at q
     skip
     exact kO (q _ a23)
    | some u=>
     skip
     refine fZ ⟨_,rfl,.inl ⟨rfl,_,SqL.of (s3 _ _ a1)⟩,_,rfl,Fd,_,_,rfl,rfl,s3 _ _ a1,aQ (by rw[List.length_map,fl]; omega),?_⟩;refine⟨_,_,fs++[u],n+1,rfl,by rw[aD,List.map_append]; rfl,by rw[rC hm hz,ho,b1,List.map_append]; rfl,⟨fun z=>by omega,fun z=>absurd ((qH hm y).mpr (.inr hk)) z⟩,fun b o e=>?_⟩;rw[aI (aG e hF)];exact a23 _ _ e
   ·rw[decide_eq_false hk];refine fZ ?_;have eo:pH m.ds m.kn z y=some z:=by unfold pH; rw[if_neg hk]
    refine⟨_,rfl,rfl,_,rfl,fZ ⟨_,rfl,.inl ⟨rfl,_,SqL.of a1⟩,_,rfl,Fd,_,_,rfl,rfl,a1,aQ (by rw[List.length_map,fl]; omega),?_⟩⟩;refine⟨_,_,fs++[z],n,rfl,by rw[aD,List.map_append]; rfl,by rw[rC hm hz,eo,b1,List.map_append]; rfl,?_,fun b o e=>?_⟩
    ·rw[b2,qH hm y];exact⟨fun h h'=>h'.elim h hk,fun h h'=>h (.inl h')⟩
    ·rw[aI (aG e hF)];exact a2 _ _ e
  ·rintro σ H' ⟨x5,x6,fs,n,rfl,a1,b1,b2,a2⟩;have e1:ms.take ((qs.map V.ref).length:Int).toNat=ms:=by rw[List.length_map,List.take_of_length_le (by omega)]
   have e2:room.take ((qs.map V.ref).length:Int).toNat=room:=by rw[List.length_map,List.take_of_length_le (by omega)]
   rw[e1,e2] at b1;rw[e1] at b2;refine⟨_,rfl,rfl,_,rfl,gJ (fun h=>?_) (fun h=>?_)⟩
   ·have hn:n=0:=by have:=V.int.inj (of_decide_eq_true h); omega
    have e:wto ms room y=none:=by unfold wto; rw[if_neg (b2.mp hn)]
    rw[e] at q;exact q H' a2
   ·have hk:y∈wkn ms:=Classical.byContradiction fun z=>h (decide_eq_true (by rw[b2.mpr z]; rfl));rw[aDr hk b1] at q;exact⟨_,rfl,Fd,_,rfl,.inl ⟨SqL.of a1,fun l hl'=>q l _ (a2.trans (smu hl')) (a2.free hl') aD⟩⟩
end
end K21
namespace K21
open PySem L2 Ky
seal L2.PE L2.PS L2.PSs L2.PA L2.PT L2.PW L2.PG L2.PI L2.PTs L2.PO L2.PPs L2.OpR L2.IxR L2.CallR L2.MtM L2.MtR
unseal L2.MtM L2.MtR
theorem yN (b:Str) (es:List Str) (ds:List Dr):∀ z,z∈[b]++es++ds.map (·.1)++ds.map (·.2.2)↔z∈cO b es ds:=fun z=>by
 unfold cO eF;simp only[List.mem_append,List.mem_singleton,List.mem_cons,List.mem_map,List.mem_flatMap,List.not_mem_nil,or_false];constructor
 ·rintro (((rfl | h) | ⟨x,hx,rfl⟩) | ⟨x,hx,rfl⟩)
  ·exact .inl (.inl rfl)
  ·exact .inl (.inr h)
  ·exact .inr ⟨x,hx,.inl rfl⟩
  ·exact .inr ⟨x,hx,.inr rfl⟩
 ·rintro ((rfl | h) | ⟨x,hx,rfl | rfl⟩)
  ·exact .inl (.inl (.inl rfl))
  ·exact .inl (.inl (.inr h))
  ·exact .inl (.inr ⟨x,hx,rfl⟩)
  ·exact .inr ⟨x,hx,rfl⟩
inductive vV (vs:List V) (H:Hp) (Q:VK) (E:XK):Prop
 | mk (p:Addr) (c:Int) (l:List (Int×Nat)) (ss:List Str) (h0_:vs=[.ref p,.int c]) (h1_:eN H p l ss) (h2_:l.length<=10) (h3_:nB l ss) (h4_:∀ room,ROk (l.map (iB ss)) room->vL H Q (some room))
section
variable {P:Program}{w:World}{K:PySem.W.Frag}{mg:Str->Option Value}{base:Heap}
abbrev NRb:List Str:=["_law_plant","_law_cell","_law_room","_law_k","_law_row","_law_some"]
theorem aEq:aS NRb ["_law_plant","_law_cell"] (aB iI):=⟨rfl,rfl,rfl,by decide +kernel,rfl,by decide +kernel,by decide +kernel⟩
theorem aCl {f fM:Addr}{fd fdM:FuncData}(F:Fun K "_law_room_by" "_law_room_by" iI f fd) (T:Txt K mg) (mT:mg "tuple" = none)
  (GM:aX P w K mg base CX0 1 fM fdM ["_law_cell","_law_k"] lG) (kM:PySem.W.keepIn K (.ref fM)=true) (bM:bJ K fdM ["_law_cell","_law_k"] []) (mM:mg "_law_mixed" = some (.ref fM)):aX P w K mg base CX0 2 f fd ["_law_plant","_law_cell"] vV:=by
 refine F.ok aEq (fun vs H Q E h=>?_) (fun cdv A outer s H vs Q E hr h=>?_)
 ·obtain⟨p,c,l,ss,rfl,_⟩:=h;rfl
 ·obtain⟨p,cc,l,ss,rfl,hP,hl,hR,q⟩:=h
  refine⟨_,aK (bU (i:=2) aEq.nd rfl (Or.inl rfl) (dB aJ))
   (aK (eG PassesOwn.never rfl (jJ rfl T.enum (pac (pv 0) aJ)) (eQ rfl (aW (aO (i:=3) aEq.nd rfl (Or.inl rfl)) (aW (aO (i:=4) aEq.nd rfl (Or.inl rfl)) dM)))
    (aK (bU (i:=5) aEq.nd rfl (Or.inl rfl) (aU dP (aU dP (aU dP (dB (pac (cZ iS (pv 4) aN (fun _ _=>rfl)) aJ)) (cZ iS (pv 4) aN (fun _ _=>rfl)))
     (dN (N':=ndD) (nown:=1) (js:=[]) rfl
      ⟨rfl,by decide +kernel,by decide +kernel⟩ (cG (aB iI) NRb rfl rfl (by decide +kernel))
      ⟨fun _ _ _ _=>aO (i:=0) (show List.Nodup ndD by decide +kernel) rfl (Or.inl rfl) (.inr rfl),fun _ _ _ _=>dJ,fun _ _ _ _=>cZ (show IxR _ (aEy K) from iS) (pv 0) aN (fun _ _=>rfl)⟩
      (cS (cZ iS (pv 4) aN (fun _ _=>rfl)))))
     (dN (N':=ndD) (nown:=1) (js:=[]) rfl
      ⟨rfl,by decide +kernel,by decide +kernel⟩ (cG (aB iI) NRb rfl rfl (by decide +kernel))
      ⟨fun _ _ _ _=>aO (i:=0) (show List.Nodup ndD by decide +kernel) rfl (Or.inl rfl) (.inr rfl),fun _ _ _ _=>dJ,fun _ _ _ _=>cZ (show IxR _ (aEy K) from iS) (pv 0) aN (fun _ _=>rfl)⟩
      (cS (cZ iS (pv 4) aN (fun _ _=>rfl))))))
    (aL (cW (jQ PySem.F.plainAttrs_list PySem.F.slot_list_append PySem.F.type_list_append eE (pv 2) (pac (cZ cQ (pv 5) (aU dA (aZ GM hr rfl mM kM bM .nil bY (pac (pv 1) (pac (pv 3) aJ))) (cJ eA (by rfl) T.len Bo.len (pac (pv 5) aJ))) (fun _ _=>rfl)) aJ))))))
   (aL (bV (eS eY (by rfl) mT Bo.tuple (pac (pv 2) aJ))))),?_⟩
  obtain⟨ts,h0,h1,h2⟩:=hP.ex;refine⟨by show 0<=sizeLine; decide,fun D hD=>⟨_,rfl,p,rfl,⟨_,SqL.of (smu hD _ _ h0)⟩,?_⟩⟩;refine rN (xs:=ts.map V.ref) (fun i σ H'=>∃ (x3 x4 x5:Option V) (rm:List Str),σ=[some (.ref p),some (.int cc),some (.ref D),x3,x4,x5]∧H' D=some (.lst (rm.map V.str))∧rm.length=i∧(∀ (j:Nat) (x:Int×Nat) (z:Str),l[j]?=some x->rm[j]?=some z->bX z=true∧z∈(iB ss x).rs)∧aP H H') ?_ ?_ ?_ ?_
  ·exact⟨none,none,none,[],rfl,aD,rfl,fun j x z _ h=>(nomatch h),smu hD⟩
  ·rintro i σ H' _ ⟨x3,x4,x5,rm,rfl,a1,b1,b2,a2⟩;exact SqL.of (a2 _ _ h0)
  ·rintro i v σ H' tt hv ⟨x3,x4,x5,rm,rfl,a1,b1,b2,a2⟩ htt;rw[List.getElem?_map] at hv;cases ht:ts[i]? with
   | none=>rw[ht] at hv; cases hv
   | some t=>
    rw[ht] at hv;cases hv;have hi:i<l.length:=by rw[← h1]; exact (List.getElem?_eq_some_iff.mp ht).1
    have hx:=List.getElem?_eq_getElem hi;have hxm:l[i]∈l:=List.getElem_mem hi;generalize l[i]=cn at hx hxm;obtain⟨RO,n5⟩:=hR cn hxm;have rle:=RO.le;have s1:=a2.trans (smu (o:=.tup [.int i,.ref t]) htt);have sD:=smu (o:=.tup [.int i,.ref t]) htt;have eT:(upd H' tt (.tup [.int i,.ref t])) tt=some (.tup [.int i,.ref t]):=aD;generalize upd H' tt (.tup [.int i,.ref t])=H1 at s1 sD eT ⊢;obtain⟨e,d,m,r0,r1,r2,r3⟩:=(h2 i t cn ht hx).same s1;obtain⟨us,hd,hul,hut⟩:=r2.ex;refine⟨tt,_,rfl,SqT.of eT,rfl,_,_,rfl,_,_,rfl,rfl,?_⟩;refine⟨_,rfl,t,_,_,.str (bZ cn.1 0),rfl,rfl,SqT.of r0,rfl,by show 1<=sizeLine; decide,fun p1 hp1=>⟨_,rfl,t,_,_,.ref e,rfl,rfl,SqT.of (smu hp1 _ _ r0),rfl,p1,e,_,_,rfl,rfl,aD,smu hp1 _ _ r1,jW (by rw[List.length_map]; show 1+_<=_; omega),fun p2 hp2=>?_⟩⟩;have s2:=(smu (o:=.lst [.str (bZ cn.1 0)]) hp1).trans (smu (o:=.lst ([.str (bZ cn.1 0)]++(cV cn.1 cn.2).map V.str)) hp2);have e2:(upd (upd H1 p1 (.lst [.str (bZ cn.1 0)])) p2 (.lst ([.str (bZ cn.1 0)]++(cV cn.1 cn.2).map V.str))) p2=some (.lst (([bZ cn.1 0]++cV cn.1 cn.2).map V.str)):=by rw[aD,List.map_append]; rfl
    generalize upd (upd H1 p1 (.lst [.str (bZ cn.1 0)])) p2 (.lst ([.str (bZ cn.1 0)]++(cV cn.1 cn.2).map V.str))=H2 at s2 e2 ⊢;refine⟨_,rfl,t,_,_,.ref d,rfl,rfl,SqT.of (s2 _ _ r0),rfl,d,rfl,⟨_,SqL.of (s2 _ _ hd)⟩,fun c hc=>?_⟩;refine eZ (xs:=us.map V.ref) (fun i σ' H5=>∃ v0,σ'=[v0]∧H5 c=some (.lst (((aR cn.1 ss cn.2).take i |>.map (·.1)).map V.str))∧aP H2 H5) ?_ ?_ ?_ ?_
    ·exact⟨none,rfl,aD,smu hc⟩
    ·rintro i σ' H5 _ ⟨v0,rfl,b1,b2⟩;exact SqL.of (b2 _ _ (s2 _ _ hd))
    ·rintro i v σ' H5 hv ⟨v0,rfl,b1,b2⟩;rw[List.getElem?_map] at hv;cases hu':us[i]? with
     | none=>rw[hu'] at hv; cases hv
     | some u=>
      rw[hu'] at hv;cases hv;have hi':i<(aR cn.1 ss cn.2).length:=by rw[← hul]; exact (List.getElem?_eq_some_iff.mp hu').1
      have hzz:=List.getElem?_eq_getElem hi';generalize (aR cn.1 ss cn.2)[i]=z at hzz;refine⟨_,rfl,u,_,_,.str z.1,rfl,rfl,SqT.of (b2 _ _ (s2 _ _ (hut i u z hu' hzz))),rfl,_,b1,aQ (by rw[List.length_map,List.length_map,List.length_take]; omega),_,rfl,?_,fun b o' e'=>?_⟩
      ·rw[aD,List.take_succ,hzz]
       simp
      ·rw[aI (aG e' hc)];exact b2 _ _ e'
    rintro σ' H3 ⟨v0,rfl,b31,s3⟩;rw[List.length_map,hul,List.take_length] at b31;refine⟨p2,c,_,_,rfl,rfl,s3 _ _ e2,b31,jW (by rw[List.length_map,List.length_map,List.length_map,List.length_append]; show 1+_+_<=_; omega),fun p4 hp4=>?_⟩;have s4:=(s2.trans s3).trans (smu (o:=.lst (([bZ cn.1 0]++cV cn.1 cn.2).map V.str++((aR cn.1 ss cn.2).map (·.1)).map V.str)) hp4);have e4:(upd H3 p4 (.lst (([bZ cn.1 0]++cV cn.1 cn.2).map V.str++((aR cn.1 ss cn.2).map (·.1)).map V.str))) p4=some (.lst (([bZ cn.1 0]++cV cn.1 cn.2++(aR cn.1 ss cn.2).map (·.1)).map V.str)):=by rw[aD,← List.map_append]
    generalize upd H3 p4 (.lst (([bZ cn.1 0]++cV cn.1 cn.2).map V.str++((aR cn.1 ss cn.2).map (·.1)).map V.str))=H4 at s4 e4 ⊢;clear hc b31;refine⟨_,rfl,t,_,_,.ref d,rfl,rfl,SqT.of (s4 _ _ r0),rfl,d,rfl,⟨_,SqL.of (s4 _ _ hd)⟩,fun c hc=>?_⟩;refine eZ (xs:=us.map V.ref) (fun i σ' H5=>∃ v0,σ'=[v0]∧H5 c=some (.lst (((aR cn.1 ss cn.2).take i |>.map (·.2.2)).map V.str))∧aP H4 H5) ?_ ?_ ?_ ?_
    ·exact⟨none,rfl,aD,smu hc⟩
    ·rintro i σ' H5 _ ⟨v0,rfl,b1,b2⟩;exact SqL.of (b2 _ _ (s4 _ _ hd))
    ·rintro i v σ' H5 hv ⟨v0,rfl,b1,b2⟩;rw[List.getElem?_map] at hv;cases hu':us[i]? with
     | none=>rw[hu'] at hv; cases hv
     | some u=>
      rw[hu'] at hv;cases hv;have hi':i<(aR cn.1 ss cn.2).length:=by rw[← hul]; exact (List.getElem?_eq_some_iff.mp hu').1
      have hzz:=List.getElem?_eq_getElem hi';generalize (aR cn.1 ss cn.2)[i]=z at hzz;refine⟨_,rfl,u,_,_,.str z.2.2,rfl,rfl,SqT.of (b2 _ _ (s4 _ _ (hut i u z hu' hzz))),rfl,_,b1,aQ (by rw[List.length_map,List.length_map,List.length_take]; omega),_,rfl,?_,fun b o' e'=>?_⟩
      ·rw[aD,List.take_succ,hzz]
       simp
      ·rw[aI (aG e' hc)];exact b2 _ _ e'
    rintro σ' H5 ⟨v0,rfl,b51,s5⟩;rw[List.length_map,hul,List.take_length] at b51;refine⟨p4,c,_,_,rfl,rfl,s5 _ _ e4,b51,jW (by simp only[List.length_map,List.length_append,List.length_cons,List.length_nil]; omega),fun p6 hp6=>?_⟩;obtain⟨so,eso⟩:∃ so,so=[bZ cn.1 0]++cV cn.1 cn.2++(aR cn.1 ss cn.2).map (·.1)++(aR cn.1 ss cn.2).map (·.2.2):=⟨_,rfl⟩;have s6:=(s4.trans s5).trans (smu (o:=.lst (([bZ cn.1 0]++cV cn.1 cn.2++(aR cn.1 ss cn.2).map (·.1)).map V.str++((aR cn.1 ss cn.2).map (·.2.2)).map V.str)) hp6);have e6:(upd H5 p6 (.lst (([bZ cn.1 0]++cV cn.1 cn.2++(aR cn.1 ss cn.2).map (·.1)).map V.str++((aR cn.1 ss cn.2).map (·.2.2)).map V.str))) p6=some (.lst (so.map V.str)):=by rw[aD,← List.map_append,eso]
    generalize upd H5 p6 (.lst (([bZ cn.1 0]++cV cn.1 cn.2++(aR cn.1 ss cn.2).map (·.1)).map V.str++((aR cn.1 ss cn.2).map (·.2.2)).map V.str))=H6 at s6 e6 ⊢;have sol:1<=so.length:=by rw[eso]; simp only[List.length_append,List.length_cons,List.length_nil]; omega
    have a16:H6 D=some (.lst (rm.map V.str)):=s6 _ _ (sD _ _ a1);have gm:=cE (RW.mixed cc i) (m:=(so.length:Int)) (by omega);obtain⟨j,ej,hj⟩:∃ j:Nat,RW.mixed cc i%(so.length:Int)=(j:Int)∧j<so.length:=⟨(RW.mixed cc i%(so.length:Int)).toNat,by omega,by omega⟩;have hz:=List.getElem?_eq_getElem hj;have hzm:so[j]∈so:=List.getElem_mem hj;generalize so[j]=z at hz hzm;refine⟨_,rfl,.inl ⟨rfl,_,SqL.of a16⟩,_,rfl,_,rfl,_,rfl,cc,i,rfl,_,rfl,p6,_,rfl,.inl (SqL.of e6),_,_,rfl,rfl,(by rw[List.length_map]; omega),p6,_,_,.str z,rfl,rfl,SqL.of e6,(by rw[List.length_map,ej]; exact gH (by rw[List.getElem?_map,hz]; rfl)),D,_,_,rfl,rfl,a16,aQ (by rw[List.length_map]; omega),?_⟩;refine⟨_,_,_,rm++[z],rfl,by rw[aD,List.map_append]; rfl,by rw[List.length_append,b1]; rfl,fun j' x' z' h1' h2'=>?_,fun b o u=>?_⟩
    ·by_cases hj':j'<rm.length
     ·rw[List.getElem?_append_left hj'] at h2';exact b2 j' x' z' h1' h2'
     ·have hl':j'=rm.length:=by
       have:=(List.getElem?_eq_some_iff.mp h2').1
       rw[List.length_append] at this;simp only[List.length_cons,List.length_nil] at this;omega
      subst hl';rw[List.getElem?_append_right (Nat.le_refl _),Nat.sub_self] at h2';rw[b1,hx] at h1';cases h1';cases h2';have hr':z∈cO (bZ cn.1 0) (cV cn.1 cn.2) (aR cn.1 ss cn.2):=(yN _ _ _ z).mp (by rw[← eso]; exact hzm);exact⟨List.all_eq_true.mp RO.nm z hr',hr'⟩
    ·rw[aI (aG u hD)];exact s6 _ _ (s1 _ _ u)
  ·rintro σ H' ⟨x3,x4,x5,rm,rfl,a1,b1,b2,a2⟩;rw[List.length_map,h1] at b1
   have RK:ROk (l.map (iB ss)) rm:=⟨by rw[List.length_map,b1],fun i m z hm hz=>by
    rw[List.getElem?_map] at hm;cases hx:l[i]? with
    | none=>rw[hx] at hm; cases hm
    | some x=>rw[hx] at hm; cases hm; exact b2 i x z hx hz⟩
   exact⟨_,rfl,D,_,rfl,.inl ⟨SqL.of a1,fun t ht=>q rm RK t _ (a2.trans (smu ht)) (a2.free ht) aD⟩⟩
end
end K21
namespace K21
open PySem L2 Ky
seal L2.PE L2.PS L2.PSs L2.PA L2.PT L2.PW L2.PG L2.PI L2.PTs L2.PO L2.PPs L2.OpR L2.IxR L2.CallR L2.MtM L2.MtR
unseal L2.MtM L2.MtR
theorem aDt {ms:List MW}{room:List Str}{y:Str}(h:(wto ms room y).isSome=true):y∈wkn ms:=by
 unfold wto at h
 by_cases q:y∈wkn ms
 ·exact q
 ·rw[if_neg q] at h; cases h
inductive qN (K:PySem.W.Frag) (C CM CW:Addr) (vs:List V) (H:Hp) (Q:VK) (E:XK):Prop
 | mk (v x D n t:Addr) (ms:List MW) (room ss:List Str) (wk:List (Key×V)) (h0_:vs=[.ref v,.ref D,.ref n,.ref t]) (h1_:Wv CM CW H v x ms) (h2_:gF H D ms) (h3_:SqL K H n (ss.map V.str)) (h4_:SqT K H t (room.map V.str)) (h5_:ROk ms room) (h6_:1<=ms.length∧ms.length<=10) (h7_:WAt C H x wk)
  (h8_:∀ z∈wkn ms,z∈ss) (h9_:ss.length<=12) (h10_:ss.Nodup) (h11_:∀ z∈ss,eL wk (.str z)=true) (h12_:∀ H',aP H H'->Q (.bl true) H')
section
variable {P:Program}{w:World}{K:PySem.W.Frag}{mg:Str->Option Value}{base:Heap}
abbrev NRG:List Str:=["_law_woven","_law_maps_here","_law_names","_law_room","_law_due","_law_found","_law_end","_law_deed"]
theorem aEr:aS NRG ["_law_woven","_law_maps_here","_law_names","_law_room"] (aB fX):=⟨rfl,rfl,rfl,by decide +kernel,rfl,by decide +kernel,by decide +kernel⟩
abbrev ndg:List Str:=["_law_deed","_law_maps_here","_law_room"]
abbrev ndo:List Str:=["_law_one","_law_row"]
theorem wT {f fS fA fE fT C CM CW cD:Addr}{fd fdS fdA fdE fdT:FuncData}(F:Fun K "_law_room_good" "_law_room_good" fX f fd) (T:Txt K mg) (mZ:mg "zip" = none) (WC:sM K CW)
  (GS:aX P w K mg base CX0 1 fS fdS ["_law_maps_here","_law_room","_law_deed"] (aEg K)) (kS:PySem.W.keepIn K (.ref fS)=true) (bS:bJ K fdS ["_law_maps_here","_law_room","_law_deed"] []) (mS:mg "_law_step" = some (.ref fS))
  (GA:aX P w K mg base CX0 5 fA fdA ["self","room"] (aEf K C CM CW)) (bA:bJ K fdA ["self","room"] []) (mA:eJ K CW "at" fA)
  (GE:aX P w K mg base CX0 5 fE fdE ["self","room"] (vS K CM CW)) (bE:bJ K fdE ["self","room"] []) (mE:eJ K CW "is_end" fE)
  (GT:aX P w K mg base (CXE P w) 4 fT fdT ["self","room","deed"] (sY K C CM CW cD)) (bT:bJ K fdT ["self","room","deed"] []) (mT:eJ K CW "to" fT) :
  aX P w K mg base CX0 6 f fd ["_law_woven","_law_maps_here","_law_names","_law_room"] (qN K C CM CW):=by
 refine F.ok aEr (fun vs H Q E h=>?_) (fun cdv A outer s H vs Q E hr h=>?_)
 ·obtain⟨v,x,D,n,t,ms,room,ss,wk,rfl,_⟩:=h;rfl
 ·obtain⟨v,x,D,n,t,ms,room,ss,wk,rfl,W,M,hN,hT,R,hl,hW,hk,h12,hnd,hg,q⟩:=h;have hr1:cY 1 _:=hr.mono (by decide);have hr4:cY 4 _:=hr.mono (by decide);have hu:=jB hr;have hu0:=Nat.lt_of_succ_lt hu
  refine⟨_,aK (gD (i:=4) (N':=ndg) (nown:=1) (js:=[1,3]) rfl aEr.nd rfl rfl rfl
     ⟨rfl,by decide +kernel,by decide +kernel⟩ (cG (aB fX) NRG rfl rfl (by decide +kernel))
     ⟨fun _ _ _ _=>aO (i:=0) (show List.Nodup ndg by decide +kernel) rfl (Or.inl rfl) (.inr rfl),
      fun _ _ _ _=>lK (cC uV (aZ GS hr1 rfl mS kS bS .nil bY (pac (pv 1) (pac (pv 2) (pac (pv 0) aJ)))) iA (cM _)),
      fun _ _ _ _=>pv 0⟩
     (cS (cJ nW (by rfl) T.sorted Bo.sorted (pac (pv 2) aJ))))
   (aK (bU (i:=5) aEr.nd rfl (Or.inl rfl) (dO (pv 0) WC.cl mA GA hr bA .nil bY (pac (pv 3) aJ)))
   (aK (bU (i:=6) aEr.nd rfl (Or.inl rfl) (cJ (pJ rfl) (by rfl) T.all Bo.all (pac (dN (N':=ndo) (nown:=2) (js:=[]) rfl
     ⟨rfl,by decide +kernel,by decide +kernel⟩ (cG (aB fX) NRG rfl rfl (by decide +kernel))
     ⟨fun _ _ _ _=>show PG _ _ (sI K 2 (eV (dU 0) (eV (dU 1) sJ))) from eQ rfl (aW (aO (i:=0) (show List.Nodup ndo by decide +kernel) rfl (Or.inl rfl) (.inr rfl)) (aW (aO (i:=1) (show List.Nodup ndo by decide +kernel) rfl (Or.inl rfl) (.inr rfl)) dM)),
      fun _ _ _ _=>dJ,fun _ _ _ _=>lN (show OpR _ _ (rIn K false) from oP) (pv 0) (jK hu (pv 1) aY (fun _ _=>rfl)) (by with_unfolding_all rfl)⟩
     (aFb rfl mZ (pac (pv 3) (pac (pv 1) aJ)))) aJ)))
   (aK (dL (nM (cC (uW hu0) (pv 5) (pv 4) (cM _)) (nM (hZ (jH (cJ xU (by rfl) T.isi Bo.isinstance (pac (dO (pv 0) WC.cl mE GE hr bE .nil bY (pac (pv 3) aJ)) (pac (uU (v:=.ty "bool") (by rfl) T.bool Bo.bool rfl) aJ)))))
     (mO (cC aFm (dO (pv 0) WC.cl mE GE hr bE .nil bY (pac (pv 3) aJ)) (pv 6) (cM _))))).pt (aL (bV lV)) cF)
   (aK (cW (jQ PySem.F.plainAttrs_list PySem.F.slot_list_append PySem.F.type_list_append eE (pv 5) (pac aY aJ)))
   (aK (eG PassesOwn.never rfl (cS (pv 2)) (aO (i:=7) aEr.nd rfl (Or.inl rfl))
    (aL (dL (cC (yS hu0) (dO (pv 0) WC.cl mT GT hr4 bT .nil wS (pac (pv 3) (pac (pv 7) aJ))) (aZ GS hr1 (by rfl) mS kS bS .nil bY (pac (pv 1) (pac (pv 3) (pac (pv 7) aJ)))) (cM _)) (aL (bV lV)) cF)))
   (aL (bV (lN (aAv hu0) (dO (pv 0) WC.cl mA GA hr bA .nil bY (pac (pv 3) aJ)) (pv 4) (cM _))))))))),?_⟩
  obtain⟨dv,lm,lk,kn,hi,MM0,hlk,hkn⟩:=id W;refine⟨_,rfl,n,ss,rfl,hN,by omega,fun p ts hp pm so=>⟨p,rfl,⟨_,SqL.of aD⟩,fun F1 hF1=>?_⟩⟩;have S0:Srt ts (fun z=>z∈ss):=⟨so,pm.nodup_iff.mpr hnd,fun z=>pm.mem_iff⟩;have tl:ts.length<=12:=by rw[pm.length_eq]; exact h12
  have s1:aP H (upd H p (.lst (ts.map V.str))):=smu hp;have e1:(upd H p (.lst (ts.map V.str))) p=some (.lst (ts.map V.str)):=aD;generalize upd H p (.lst (ts.map V.str))=H1 at s1 e1 hF1 ⊢;refine eZ (xs:=ts.map V.str) (fun i σ' H'=>∃ v0,σ'=[v0,some (.ref D),some (.ref t)]∧H' F1=some (.lst (((ts.take i).filter fun z=>(wto ms room z).isSome).map V.str))∧aP H1 H') ?_ ?_ ?_ ?_
  ·exact⟨none,rfl,aD,smu hF1⟩
  ·rintro i σ' H' _ ⟨v0,rfl,a1,a2⟩;exact SqL.of (a2 _ _ e1)
  ·rintro i u σ' H' hv ⟨v0,rfl,a1,a2⟩;rw[List.getElem?_map] at hv;cases hz:ts[i]? with
   | none=>rw[hz] at hv; cases hv
   | some z=>
    rw[hz] at hv;cases hv;have sA:=s1.trans a2
    have ef:(ts.take (i+1)).filter (fun z=>(wto ms room z).isSome)=(ts.take i).filter (fun z=>(wto ms room z).isSome)++(if (wto ms room z).isSome=true then [z] else []):=by
     rw[List.take_succ,hz,List.filter_append];congr 1;show List.filter _ [z]=_;rw[List.filter_cons,List.filter_nil]
    have lf:((ts.take i).filter fun z=>(wto ms room z).isSome).length<=63:=Nat.le_trans (List.length_filter_le ..) (by rw[List.length_take]; omega);refine⟨_,rfl,_,rfl,_,rfl,D,t,ms,room,z,rfl,M.same sA,dC hT sA,R.len,hl.2,?_⟩;cases ho:wto ms room z with
    | none=>
     intro H3 s3;refine⟨rfl,_,rfl,fZ ⟨_,rfl,?_,a2.trans s3⟩⟩;rw[ef,ho]
     simpa using s3 _ _ a1
    | some ss'=>
     intro l3 H3 s3 n3 e3;refine⟨rfl,_,rfl,kO ⟨_,rfl,_,s3 _ _ a1,aQ (by rw[List.length_map]; omega),_,rfl,?_,fun b o e=>?_⟩⟩
     ·rw[aD,ef,ho,List.map_append];rfl
     ·rw[aI (aG e hF1)];exact s3 _ _ (a2 b o e)
  rintro σ' H2 ⟨v0,rfl,a1,a2⟩;rw[List.length_map,List.take_length] at a1;have s2:=s1.trans a2;have Sd:=S0.filter fun z=>(wto ms room z).isSome;generalize ts.filter (fun z=>(wto ms room z).isSome)=due at a1 Sd;have W2:=W.same s2;have M2:=M.same s2;have hT2:=dC hT s2;have hN2:=s2.seq hN;have hW2:=jD hW s2;have hi2:=s2 _ _ hi;have hNN:∀ z∈wkn ms,z∈ss:=hk;refine⟨_,rfl,v,dv,_,rfl,hi2,cU _ _ _ (by decide),_,rfl,v,x,t,ms,room,ss,wk,rfl,W2,hT2,R,⟨hl.1,by omega⟩,hW2,hNN,by omega,hg,fun l5 fo H3 s3 n5 g5 S5=>?_⟩;have efo:fo=due:=S5.one Sd fun z=>⟨fun h=>⟨hk z h.1,h.2⟩,fun h=>⟨aDt h.2,h.2⟩⟩;subst efo;obtain⟨qs,k0,k1,k2⟩:=(M2.same s3).ex;refine⟨_,rfl,_,rfl,t,D,rfl,⟨_,dC hT2 s3⟩,⟨_,SqL.of k0⟩,fun F2 hF2=>?_⟩;refine vH (xs:=room.map V.str) (ys:=qs.map V.ref) (fun i σ' H'=>∃ v0 v1,σ'=[v0,v1]∧H' F2=some (.lst ((List.zipWith (fun m z=>decide (z∈MW.es m)) (ms.take i) (room.take i)).map V.bl))∧aP H3 H') ?_ ?_ ?_ ?_ ?_
  ·exact⟨none,none,rfl,aD,smu hF2⟩
  ·rw[List.length_map,List.length_map,k1,R.len]
  ·rintro i σ' H' _ ⟨v0,v1,rfl,b1,b2⟩;exact⟨dC (dC hT2 s3) b2,SqL.of (b2 _ _ k0)⟩
  ·rintro i v1 v2 σ' H' tt hv1 hv2 ⟨w0,w1,rfl,b1,b2⟩ htt;rw[List.getElem?_map] at hv1 hv2;cases hq:qs[i]? with
   | none=>rw[hq] at hv2; cases hv2
   | some q'=>
    cases hzz:room[i]? with
    | none=>rw[hzz] at hv1; cases hv1
    | some z=>
     rw[hq] at hv2;rw[hzz] at hv1;cases hv1;cases hv2;have him:i<ms.length:=by rw[← k1]; exact (List.getElem?_eq_some_iff.mp hq).1
     have hm:=List.getElem?_eq_getElem him;generalize ms[i]=m at hm;have s4:=b2.trans (smu (o:=.tup [.str z,.ref q']) htt);have b1':=smu (o:=.tup [.str z,.ref q']) htt _ _ b1;have eT:(upd H' tt (.tup [.str z,.ref q'])) tt=some (.tup [.str z,.ref q']):=aD;generalize upd H' tt (.tup [.str z,.ref q'])=H4 at s4 b1' eT ⊢;obtain⟨e,g,k,kvs,m0,m1,m2,m3,m4,_,_⟩:=(k2 i q' m hq hm).same s4;refine⟨tt,_,rfl,SqT.of eT,rfl,_,_,rfl,_,_,rfl,rfl,_,rfl,_,rfl,q',_,rfl,aNg m0,e,_,rfl,.inl (SqL.of m1),rfl,by rw[List.all_map]; exact List.all_eq_true.mpr fun _ _=>rfl,?_⟩;refine⟨_,b1',aQ ?_,_,_,rfl,?_,fun b o u=>?_⟩
     ·rw[List.length_map,List.length_zipWith,List.length_take];omega
     ·rw[aD,jS hm hzz,List.map_append,show (if false=true then !inV (.str z) (m.es.map V.str) else inV (.str z) (m.es.map V.str))=decide (z∈m.es) from uZ _ _]
      rfl
     ·rw[aI (aG u hF2)];exact s4 _ _ u
  rintro σ' H5 ⟨v0',v1',rfl,b1,b2⟩;have e3:ms.take (room.map V.str).length=ms:=by rw[List.length_map,← R.len,List.take_length]
  have e4:room.take (room.map V.str).length=room:=by rw[List.length_map,List.take_length]
  rw[e3,e4] at b1;refine⟨F2,_,rfl,SqL.of b1,?_⟩;have s35:=s3.trans b2;refine⟨_,rfl,_,rfl,l5,F1,fo,fo,rfl,rfl,SqL.of (b2 _ _ g5),SqL.of (s35 _ _ a1),_,rfl,gJ (fun y=>absurd y (by simp)) fun _=>?_⟩;refine⟨_,rfl,v,dv,_,rfl,s35 _ _ hi2,cU _ _ _ (by decide),_,rfl,v,x,t,ms,room,rfl,W2.same s35,dC hT2 s35,R,by omega,fun H6 s6=>?_⟩;refine⟨_,.ty "bool",.type "bool",.type "bool",true,rfl,uQ,lR.bl _,rfl,_,rfl,fZ ?_⟩;have s36:=s35.trans s6;refine⟨_,rfl,v,dv,_,rfl,s36 _ _ hi2,cU _ _ _ (by decide),_,rfl,v,x,t,ms,room,rfl,W2.same s36,dC hT2 s36,R,by omega,fun H7 s7=>?_⟩;refine⟨_,rfl,rfl,_,rfl,gJ (fun y=>absurd y (by unfold aKb; simp)) fun _=>?_⟩;have s37:=s36.trans s7;have g57:=s7 _ _ (s6 _ _ (b2 _ _ g5));refine⟨_,rfl,.inl ⟨rfl,_,SqL.of g57⟩,l5,_,_,rfl,rfl,g57,aQ (by rw[List.length_map]; have:=Sd.nd; have h1:=eR (rs:=fo) (N:=ss) fun z hz=>((Sd.mem z).mp hz).1; rw[← (iK (m:=unl fo []) Sd.nd (fun z hz=>oI.mpr hz) (eR fun z hz=>hz)).length_eq] at h1; omega),?_⟩;have s8:aP H2 (upd H7 l5 (.lst (fo.map V.str++[.str "none"]))):=fun b o e=>by rw[aI (aG e n5)]; exact s37 _ _ e
  generalize upd H7 l5 (.lst (fo.map V.str++[.str "none"]))=H8 at s8 ⊢;refine⟨_,rfl,n,rfl,⟨_,s8.seq hN2⟩,?_⟩;refine dQ (xs:=ss.map V.str) (fun i σ H'=>∃ (x6 x7:Option V),σ=[some (.ref v),some (.ref D),some (.ref n),some (.ref t),some (.ref F1),some (.ref l5),x6,x7]∧aP H2 H') ?_ ?_ ?_ ?_
  ·exact⟨_,_,rfl,s8⟩
  ·rintro i σ H' _ ⟨x6,x7,rfl,c2⟩;exact c2.seq hN2
  ·rintro i u σ H' hv ⟨x6,x7,rfl,c2⟩;rw[List.getElem?_map] at hv;cases hz:ss[i]? with
   | none=>rw[hz] at hv; cases hv
   | some z=>
    rw[hz] at hv;cases hv;have gz:=hg z (List.mem_of_getElem? hz);refine⟨_,rfl,v,dv,_,rfl,c2 _ _ hi2,cU _ _ _ (by decide),_,rfl,_,rfl,v,x,t,.str z,ms,room,wk,rfl,W2.same c2,dC hT2 c2,R,⟨hl.1,by omega⟩,jD hW2 c2,.inl ⟨z,rfl,pG gz⟩,fun _ u' eu=>?_,fun bad=>absurd (gz.symm.trans bad) (by decide)⟩;cases eu;cases ho:wto ms room z with
    | none=>
     intro H9 s9;have c9:=c2.trans s9;refine⟨_,rfl,_,rfl,_,rfl,D,t,ms,room,z,rfl,M2.same c9,dC hT2 c9,R.len,hl.2,?_⟩;rw[ho];intro H10 s10;exact .nn rfl rfl ⟨_,rfl,fZ ⟨_,_,rfl,c9.trans s10⟩⟩
    | some ss'=>
     intro l9 H9 s9 n9 e9;have c9:=c2.trans s9;refine⟨_,rfl,_,rfl,_,rfl,D,t,ms,room,z,rfl,M2.same c9,dC hT2 c9,R.len,hl.2,?_⟩;rw[ho];intro l10 H10 s10 n10 e10;exact .tt l9 l10 ss' rfl rfl (SqT.of (s10 _ _ e9)) (SqT.of e10) ⟨_,rfl,fZ ⟨_,_,rfl,c9.trans s10⟩⟩
  ·rintro σ H' ⟨x6,x7,rfl,c2⟩;refine⟨_,rfl,v,dv,_,rfl,c2 _ _ hi2,cU _ _ _ (by decide),_,rfl,v,x,t,ms,room,ss,wk,rfl,W2.same c2,dC hT2 c2,R,⟨hl.1,by omega⟩,jD hW2 c2,hNN,by omega,hg,fun l6 fo' H9 s9 n6 g6 S6=>?_⟩;have efo:fo'=fo:=S6.one Sd fun z=>⟨fun h=>⟨hk z h.1,h.2⟩,fun h=>⟨aDt h.2,h.2⟩⟩;subst efo;refine⟨_,rfl,l6,F1,fo',fo',rfl,rfl,SqL.of g6,SqL.of (s9 _ _ (c2 _ _ a1)),?_⟩
   have:=q H9 (s2.trans (c2.trans s9))
   simpa using this
end
end K21
namespace K21
open PySem L2 Ky
seal L2.PE L2.PS L2.PSs L2.PA L2.PT L2.PW L2.PG L2.PI L2.PTs L2.PO L2.PPs L2.OpR L2.IxR L2.CallR L2.MtM L2.MtR
unseal L2.MtM L2.MtR
theorem qA {ms:List MW}(z:Str):z∈wkn ms.reverse↔z∈wkn ms:=by
 unfold wkn;simp only[List.mem_flatMap,List.mem_reverse]
theorem aCg {ms:List MW}{room:List Str}(h:ms.length=room.length) (y:Str):parts ms.reverse room.reverse y=(parts ms room y).reverse:=by
 unfold parts;rw[List.reverse_zipWith h]
theorem aHk {ms:List MW}{room:List Str}(h:ms.length=room.length) (y:Str):(wto ms.reverse room.reverse y).isSome=(wto ms room y).isSome:=by
 unfold wto aBj;rw[aCg h]
 by_cases q:y∈wkn ms
 ·rw[if_pos q,if_pos ((qA y).mpr q),List.any_reverse]
  by_cases r:((parts ms room y).any fun o=>o.isNone)=true
  ·rw[if_pos r,if_pos r]
  ·rw[if_neg r,if_neg r];rfl
 ·rw[if_neg q,if_neg fun z=>q ((qA y).mp z)]
theorem ROk.rev {ms:List MW}{room:List Str}(R:ROk ms room):ROk ms.reverse room.reverse:=by
 have hl:=R.len;refine⟨by rw[List.length_reverse,List.length_reverse,hl],fun i m z hm hz=>?_⟩;have hi:i<ms.length:=by have:=(List.getElem?_eq_some_iff.mp hm).1; rw[List.length_reverse] at this; exact this
 rw[List.getElem?_reverse hi] at hm;rw[List.getElem?_reverse (by omega),← hl] at hz;exact R.mem _ m z hm hz
def off (H:Hp) (P:Addr):Hp:=fun b=>if b=P then none else H b
theorem rE {H:Hp}{P b:Addr}{o:HO}(e:off H P b=some o):b≠P∧H b=some o:=by
 unfold off at e
 by_cases q:b=P
 ·rw[if_pos q] at e; cases e
 ·rw[if_neg q] at e; exact⟨q,e⟩
theorem aIj {H H':Hp}{P:Addr}(sm:aP (off H P) H'):aP (off H P) (off H' P):=fun b o e=>by
 have n:=(rE e).1;unfold off;rw[if_neg n];exact sm _ _ e
theorem wW {H:Hp}{P:Addr}:aP (off H P) H:=fun _ _ z=>(rE z).2
def NTb (H H':Hp):Prop:=∀ b o,H b=some o->(∀ ps,o≠.tbl ps)->H' b=some o
theorem zF {H:Hp}{P:Addr}{ps:Array Value}(hP:H P=some (.tbl ps)):NTb H (off H P):=fun b o e n=>by
 unfold off;rw[if_neg (fun z=>by rw[z,hP] at e; exact n ps (Option.some.inj e).symm)];exact e
section
variable {K:PySem.W.Frag}{H H':Hp}
theorem ntL {p:Addr}{xs:List V}(s:NTb H H') (h:SqL K H p xs):SqL K H' p xs:=by
 rcases h with (h | ⟨o,h⟩) | h
 ·exact .inl (.inl (s _ _ h (fun _ z=>nomatch z)))
 ·exact .inl (.inr ⟨o,s _ _ h (fun _ z=>nomatch z)⟩)
 ·exact .inr h
theorem ntD {d:Addr}{ds:List Dr}(s:NTb H H') (h:cX H d ds):cX H' d ds:=by
 obtain⟨ts,h1,h2,h3⟩:=h.ex;exact⟨ts,s _ _ h1 (fun _ z=>nomatch z),h2,fun i t x a b=>s _ _ (h3 i t x a b) (fun _ z=>nomatch z)⟩
theorem ntP {p:Addr}{l:List (Int×Nat)}{ss:List Str}(s:NTb H H') (h:eN H p l ss):eN H' p l ss:=by
 obtain⟨ts,h0,h1,h2⟩:=h.ex;refine⟨ts,s _ _ h0 (fun _ z=>nomatch z),h1,fun i t x a b=>?_⟩;obtain⟨e,d,m,r0,r1,r2,r3⟩:=h2 i t x a b;exact⟨e,d,m,s _ _ r0 (fun _ z=>nomatch z),s _ _ r1 (fun _ z=>nomatch z),ntD s r2,s _ _ r3 (fun _ z=>nomatch z)⟩
theorem ntW {C p:Addr}{kvs:List (Key×V)}(s:NTb H H') (h:WAt C H p kvs):WAt C H' p kvs:=by
 obtain⟨dx,fs,dw,o,h0,h1,h2,h3⟩:=h;exact⟨dx,fs,dw,o,s _ _ h0 (fun _ z=>nomatch z),h1,h2,s _ _ h3 (fun _ z=>nomatch z)⟩
theorem ntM {CM x dd:Addr}{b:Str}{es kn:List Str}{ds:List Dr}(s:NTb H H') (h:MM CM H x dd b es kn ds):MM CM H' x dd b es kn ds:=by
 obtain⟨dx,l,e,k,kvs,g,M⟩:=h;exact⟨dx,l,e,k,kvs,g,⟨s _ _ M.ins (fun _ z=>nomatch z),⟨s _ _ M.lead.dk (fun _ z=>nomatch z),M.lead.keys,M.lead.val,fun z hz=>s _ _ (M.lead.dd z hz) (fun _ z=>nomatch z),M.lead.inj,M.lead.ne⟩,s _ _ M.ends (fun _ z=>nomatch z),s _ _ M.know (fun _ z=>nomatch z)⟩⟩
theorem ntV {CM CW v x:Addr}{ms:List MW}(s:NTb H H') (W:Wv CM CW H v x ms):Wv CM CW H' v x ms:=by
 obtain⟨dv,lm,lk,kn,h1,h2,h3,h4⟩:=W;obtain⟨Xs,a0,a1,a2⟩:=h2.ex;exact⟨dv,lm,lk,kn,s _ _ h1 (fun _ z=>nomatch z),⟨Xs,s _ _ a0 (fun _ z=>nomatch z),a1,fun i X m a b=>ntM s (a2 i X m a b)⟩,s _ _ h3 (fun _ z=>nomatch z),h4⟩
theorem aPl {D:Addr}{ms:List MW}(s:NTb H H') (M:gF H D ms):gF H' D ms:=by
 obtain⟨qs,h0,h1,h2⟩:=M.ex;refine⟨qs,s _ _ h0 (fun _ z=>nomatch z),h1,fun i q m a b=>?_⟩;obtain⟨e,g,k,kvs,m0,m1,m2,m3,m4,m5,m6⟩:=h2 i q m a b;exact⟨e,g,k,kvs,s _ _ m0 (fun _ z=>nomatch z),s _ _ m1 (fun _ z=>nomatch z),s _ _ m2 (fun _ z=>nomatch z),m3,s _ _ m4 (fun _ z=>nomatch z),m5,m6⟩
end
structure aQf (H:Hp) (q bg:Addr) (ms:List MW):Prop where
 ex:∃ ts:List Addr,H q=some (.lst (ts.map V.ref))∧ts.length=7∧ts[0]?=some bg∧∀ (i:Nat) (t:Addr),ts[i]?=some t->∃ room:List Str,H t=some (.tup (room.map V.str))∧ROk ms room
structure S21 (K:PySem.W.Frag) (C CM CW:Addr) (H:Hp) (a n x pl mp v bg kn rs:Addr) (ns:List Int) (ss:List Str) (wk:List (Key×V)) (l:List (Int×Nat)) (ms:List MW) (kns:List Str):Prop where
 sc:SqL K H a (ns.map V.int)
 nm:H n=some (.lst (ss.map V.str))
 wa:WAt C H x wk
 pa:eN H pl l ss
 mq:gF H mp ms
 wv:Wv CM CW H v x ms
 hb:H bg=some (.tup ((ms.map (·.b)).map V.str))
 hk:H kn=some (.lst (kns.map V.str))
 hr:aQf H rs bg ms
section
variable {K:PySem.W.Frag}{C CM CW:Addr}{H H':Hp}{a n x pl mp v bg kn rs:Addr}{ns:List Int}{ss:List Str}{wk:List (Key×V)}{l:List (Int×Nat)}{ms:List MW}{kns:List Str}
theorem S21.nt (S:S21 K C CM CW H a n x pl mp v bg kn rs ns ss wk l ms kns) (s:NTb H H'):S21 K C CM CW H' a n x pl mp v bg kn rs ns ss wk l ms kns:=by
 obtain⟨ts,t0,t1,t2,t3⟩:=S.hr.ex;exact⟨ntL s S.sc,s _ _ S.nm (fun _ z=>nomatch z),ntW s S.wa,ntP s S.pa,aPl s S.mq,ntV s S.wv,s _ _ S.hb (fun _ z=>nomatch z),s _ _ S.hk (fun _ z=>nomatch z),⟨ts,s _ _ t0 (fun _ z=>nomatch z),t1,t2,fun i t h=>let ⟨r,e,k⟩:=t3 i t h; ⟨r,s _ _ e (fun _ z=>nomatch z),k⟩⟩⟩
theorem S21.same (S:S21 K C CM CW H a n x pl mp v bg kn rs ns ss wk l ms kns) (s:aP H H'):S21 K C CM CW H' a n x pl mp v bg kn rs ns ss wk l ms kns:=S.nt fun b o e _=>s b o e
end
abbrev aLh:Pos:=⟨388,22,388,64⟩
abbrev aNb:Str:="law.<locals>."++"<lambda>"
def Tab (P:Addr) (H:Hp):Prop:=H P=some (.tbl #[])∨∃ c',H P=some (.tbl #[rawInt aLh.line,rawInt aLh.col,.ref c'])∧H c'=some (.ext (iT c' aNb))
theorem Tab.same {P:Addr}{H H':Hp}(T:Tab P H) (s:aP H H'):Tab P H':=T.elim (fun h=>.inl (s _ _ h)) fun ⟨c',h1,h2⟩=>.inr ⟨c',s _ _ h1,s _ _ h2⟩
theorem aMn {Pt:Addr}{word:Addr->Option Str}{js:List Nat}{te:XK->TE}{σ:St}{H:Hp}{Q:VK}(T:Tab Pt H) (h:∀ H1,aP (off H Pt) H1->Tab Pt H1->te (iC word Q) (cN 0 js σ) H1 (fun _ H2=>Q (.str "") H2)):aAe Pt aLh aNb word js te σ H Q:=by
 rcases id T with hP | ⟨c',hP,hc⟩
 ·refine .made ⟨#[],hP,trivial,rfl,fun c' H1 hc hn e=>h H1 (fun b o z=>?_) (.inr ⟨c',?_,?_⟩)⟩
  ·obtain⟨z1,z2⟩:=rE z;rw[e,aI (aG z2 hc),aI z1];exact z2
  ·rw[e,aI (Ne.symm hn),aD]
   first | done | rfl
  ·rw[e,aD]
 ·exact .hit ⟨_,c',hP,⟨⟩,rfl,hc,h H wW T⟩
theorem aHa {S ss:List Str}(pm:S.Perm ss) (h12:∀ z∈ss,z∈gM){u:Str}(hu:u∉gM):eL (wts S 1 []) (.str u)=false:=by
 rw[eL,nF]
 have:¬ u∈S:=fun h=>hu (h12 _ (pm.mem_iff.mp h))
 simp[this,dH]
abbrev wX:List V:=[.str "none",.str "",.non,.str "A"]
theorem aQa {S ss:List Str}(pm:S.Perm ss) (h12:∀ z∈ss,z∈gM):∀ y∈wX,eL (wts S 1 []) y=false:=by
 intro y hy;rcases List.mem_cons.mp hy with rfl | hy
 ·exact aHa pm h12 (by decide +kernel)
 rcases List.mem_cons.mp hy with rfl | hy
 ·exact aHa pm h12 (by decide +kernel)
 rcases List.mem_cons.mp hy with rfl | hy
 ·rfl
 rw[List.mem_singleton.mp hy];exact aHa pm h12 (by decide +kernel)
theorem aIl (c:Int):∃ y∈wX,atI wX (c%4)=some y:=by
 have h:=cE c (m:=4) (by decide);generalize c%4=r at h;rcases (show r=0∨r=1∨r=2∨r=3 by omega) with rfl | rfl | rfl | rfl <;> exact⟨_,by simp,rfl⟩
theorem zE:∀ y∈wX,xW y:=by
 intro y hy;rcases List.mem_cons.mp hy with rfl | hy
 ·exact .inl ⟨_,rfl,by decide +kernel⟩
 rcases List.mem_cons.mp hy with rfl | hy
 ·exact .inl ⟨_,rfl,by decide +kernel⟩
 rcases List.mem_cons.mp hy with rfl | hy
 ·exact .inr (.inl rfl)
 rw[List.mem_singleton.mp hy];exact .inl ⟨_,rfl,by decide +kernel⟩
abbrev ix:Why->Nat
 | .noName=>0
 | .noDeed=>1
 | .twice=>3
 | .tooMany=>4
theorem aMd {K:PySem.W.Frag}{mg:Str->Option Value}{ds:Nat->Addr}(W:Wd K mg ds):oB ds (ds 1)=some "NoDeed":=if_pos rfl
theorem xV {l:List (Int×Nat)}{ss:List Str}(hR:nB l ss):ROk (l.map (iB ss)) ((l.map (iB ss)).map (·.b)):=by
 refine⟨by simp,fun i m z hm hz=>?_⟩;rw[List.getElem?_map,hm] at hz;cases hz;rw[List.getElem?_map] at hm;cases hx:l[i]? with
 | none=>rw[hx] at hm; cases hm
 | some x=>
  rw[hx] at hm;cases hm;have RO:=(hR x (List.mem_of_getElem? hx)).1
  have:bZ x.1 0∈cO (bZ x.1 0) (cV x.1 x.2) (aR x.1 ss x.2):=List.mem_append_left _ (List.mem_cons_self ..)
  exact⟨List.all_eq_true.mp RO.nm _ this,this⟩
theorem aKa {l:List (Int×Nat)}{ss:List Str}(hR:nB l ss):∀ z∈wkn (l.map (iB ss)),z∈ss:=fun z hz=>by
 obtain⟨m,hm,hz⟩:=List.mem_flatMap.mp hz;obtain⟨x,hx,rfl⟩:=List.mem_map.mp hm;exact (hR x hx).1.kn z hz
section
variable {P:Program}{w:World}{K:PySem.W.Frag}{mg:Str->Option Value}{base:Heap}
theorem scT:aS NT ["_law_deed"] (aB mI):=⟨rfl,rfl,rfl,by decide +kernel,rfl,by decide +kernel,by decide +kernel⟩
abbrev fJ (ns:List Int):List Str:=dZ (RW.cellAt ns 0/256) (gE (RW.cellAt ns 0))
abbrev aLq (ns:List Int):List Str:=pI (RW.cellAt ns 0) (fJ ns)
abbrev aIb (ns:List Int):List (Int×Nat):=plant (RW.cellAt ns 1) (RW.cellAt ns 2) (RW.cellAt ns 3)
abbrev N21:List Str:=["_law_script","_law_names","_law_free","_law_deeds","_law_plant","_law_maps_here","_law_handed","_law_begin","_law_known","_law_held","_law_rooms","_law_other","_law_odd","_law_room","_law_woven"]
theorem scL:aS N21 ["_law_script"] (aB iR):=⟨rfl,rfl,rfl,by decide +kernel,rfl,by decide +kernel,by decide +kernel⟩
abbrev ndk:List Str:=["_law_k","_law_script"]
abbrev ndr:List Str:=["_law_row"]
abbrev ndm:List Str:=["_law_k","_law_plant","_law_script"]
inductive aAn (K:PySem.W.Frag) (Pt:Addr) (vs:List V) (H:Hp) (Q:VK) (E:XK):Prop
 | mk (a:Addr) (ns:List Int) (h0_:vs=[.ref a]) (h1_:SqL K H a (ns.map V.int)) (h2_:ns.length<=63) (h3_:H Pt=some (.tbl #[])) (h4_:∀ H',Q (.bl true) H')
theorem aLb {f fC fD fI fP fMo fMp fMs fWI fWK fWB fWA fWT fRB fRG ft fw C CM CW W c0 Pt:Addr}{fdC fdD fdI fdP fdMo fdMp fdMs fdWI fdWK fdWB fdWA fdWT fdRB fdRG fdt fdw:FuncData}{ds:Nat->Addr}{oc kV doc pm ct:Value}{an od:Option Addr}{osl:Array (Option Value)}
  (lk:K.lookup f=some ⟨oc,od,.func (PySem.W.fnOf "law" "law" (aH iR) (aF iR) (aB iR) .none kV doc pm an (.ref c0) ct),osl⟩) (hcd:PySem.W.codeIn K (.ref c0) "law" = true) (hhd:PySem.W.codeHdIn K c0 Pt=true) (bm:lA mg base)
  (T:Txt K mg) (WC:sM K CW) (Wf:Wd K mg ds) (hkw:∀ i∈gL,PySem.W.exmOne K (.ref (ds i)) (.ref W)=some true) (mWd:mg "WardError" = some (.ref W)) (mTu:mg "tuple" = none) (mSe:mg "set" = none) (mSum:mg "sum" = none)
  (GC:aX P w K mg base CX0 2 fC fdC ["_law_script","_law_k"] (aEk K)) (kC:PySem.W.keepIn K (.ref fC)=true) (bC:bJ K fdC ["_law_script","_law_k"] []) (mC:mg "_law_cell_at" = some (.ref fC))
  (GD:aX P w K mg base CX0 2 fD fdD ["_law_cell"] (tG K)) (kD:PySem.W.keepIn K (.ref fD)=true) (bD:bJ K fdD ["_law_cell"] []) (mD:mg "_law_deeds_by" = some (.ref fD))
  (GI:aX P w K mg base (CXE P w) 4 fI fdI ["self","names","free"] (aEj K C fun k=>ds (ix k))) (MI:Mk K C fI) (bI:bJ K fdI ["self","names","free"] []) (mDs:mg "Deeds" = some (.ref C))
  (GP:aX P w K mg base CX0 3 fP fdP ["_law_cells","_law_names"] (tD K)) (kP:PySem.W.keepIn K (.ref fP)=true) (bP:bJ K fdP ["_law_cells","_law_names"] []) (mP:mg "_law_plant_by" = some (.ref fP))
  (GMo:aX P w K mg base CX0 3 fMo fdMo ["_law_plant","_law_cell","_law_names"] (aEh K)) (kMo:PySem.W.keepIn K (.ref fMo)=true) (bMo:bJ K fdMo ["_law_plant","_law_cell","_law_names"] []) (mMo:mg "_law_more" = some (.ref fMo))
  (GMp:aX P w K mg base CX0 1 fMp fdMp ["_law_plant"] aEi) (kMp:PySem.W.keepIn K (.ref fMp)=true) (bMp:bJ K fdMp ["_law_plant"] []) (mMp:mg "_law_maps" = some (.ref fMp))
  (GMs:aX P w K mg base CX0 6 fMs fdMs ["_law_deeds","_law_plant"] (qQ C CM)) (kMs:PySem.W.keepIn K (.ref fMs)=true) (bMs:bJ K fdMs ["_law_deeds","_law_plant"] []) (mMs:mg "_law_machines" = some (.ref fMs))
  (GWI:aX P w K mg base CX0 3 fWI fdWI ["self","machines"] (aAh CM CW)) (WMk:Mk K CW fWI) (bWI:bJ K fdWI ["self","machines"] []) (mWv:mg "Woven" = some (.ref CW))
  (GWK:aX P w K mg base CX0 1 fWK fdWK ["self"] (qM CM CW)) (bWK:bJ K fdWK ["self"] []) (mWK:eJ K CW "knows" fWK)
  (GWB:aX P w K mg base CX0 3 fWB fdWB ["self"] (vU CM CW)) (bWB:bJ K fdWB ["self"] []) (mWB:eJ K CW "begin" fWB)
  (GWA:aX P w K mg base CX0 5 fWA fdWA ["self","room"] (aEf K C CM CW)) (bWA:bJ K fdWA ["self","room"] []) (mWA:eJ K CW "at" fWA)
  (GWT:aX P w K mg base (CXE P w) 4 fWT fdWT ["self","room","deed"] (sY K C CM CW (ds 1))) (bWT:bJ K fdWT ["self","room","deed"] []) (mWT:eJ K CW "to" fWT)
  (GRB:aX P w K mg base CX0 2 fRB fdRB ["_law_plant","_law_cell"] vV) (kRB:PySem.W.keepIn K (.ref fRB)=true) (bRB:bJ K fdRB ["_law_plant","_law_cell"] []) (mRB:mg "_law_room_by" = some (.ref fRB))
  (GRG:aX P w K mg base CX0 6 fRG fdRG ["_law_woven","_law_maps_here","_law_names","_law_room"] (qN K C CM CW)) (kRG:PySem.W.keepIn K (.ref fRG)=true) (bRG:bJ K fdRG ["_law_woven","_law_maps_here","_law_names","_law_room"] []) (mRG:mg "_law_room_good" = some (.ref fRG))
  (FT:Fun K "_law_tried" "_law_tried" mI ft fdt) (bT:bJ K fdt ["_law_deed"] []) (mT:mg "_law_tried" = some (.ref ft))
  (GW:xY P w K mg base 1 fw fdw ["_law_e"] (yF (oB ds))) (kW:PySem.W.keepIn K (.ref fw)=true) (bW:bJ K fdw ["_law_e"] []) (mW:mg "_law_word" = some (.ref fw)) :
  aX P w K mg base CX0 9 f (PySem.W.fnOf "law" "law" (aH iR) (aF iR) (aB iR) .none kV doc pm an (.ref c0) ct) ["_law_script"] (aAn K Pt):=by
 refine aBb lk hcd scL (fun vs H Q E h=>?_) (fun A outer s H vs Q E hr h=>?_)
 ·obtain⟨a,ns,rfl,_⟩:=h;rfl
 ·obtain⟨a,ns,rfl,hS,hlen,hP,k⟩:=h
  have TR:aBg (iH CX0 P w K mg base N21 "law" (aB iR) f (.ref c0) A outer s H E).nox mI ft fdt W fw fdw (oB ds):=⟨FT,scT,⟨_,_,_,_,_,_,_,_,_,_,_,_,_,rfl⟩,bT,mT,mWd,mW,kW,bW,GW,rfl,rfl,rfl,rfl,fun C x h=>by
   obtain⟨i,hi,rfl,_⟩:=sO h;exact hkw i hi⟩
  have hr1:cY 1 _:=hr.mono (by decide);have hr2:cY 2 _:=hr.mono (by decide);have hr3:cY 3 _:=hr.mono (by decide);have hr4:cY 4 _:=hr.mono (by decide);have hr5:cY 5 _:=hr.mono (by decide);have hr6:cY 6 _:=hr.mono (by decide);have hu:=jB hr;have hu0:=Nat.lt_of_succ_lt hu
  suffices main:∃ t,PSs (iH CX0 P w K mg base N21 "law" (aB iR) f (.ref c0) A outer s H E).nox (aF iR) t∧t { nx:=fun _ H'=>Q .non H',rt:=Q } (start N21 [.ref a]) H by
   obtain⟨t,h1,h2⟩:=main;exact⟨t,h1.nox,h2⟩
  refine⟨_,aK (aKs (aZ GD hr2 rfl mD kD bD .nil bY (pac (aZ GC hr2 rfl mC kC bC .nil bY (pac (pv 0) (pac aN aJ))) aJ)) (eQ rfl (aW (aO (i:=1) scL.nd rfl (Or.inl rfl)) (aW (aO (i:=2) scL.nd rfl (Or.inl rfl)) dM))))
   (aK (bU (i:=3) scL.nd rfl (Or.inl rfl) (qD MI GI hr5 rfl mDs bI .nil wS (pac (pv 1) (pac (pv 2) aJ))))
   (aK (bU (i:=4) scL.nd rfl (Or.inr rfl) (aZ GP hr3 rfl mP kP bP .nil bY (pac (dN (N':=ndk) (nown:=1) (js:=[0]) rfl
     ⟨rfl,by decide +kernel,by decide +kernel⟩ (cG (aB iR) N21 rfl rfl (by decide +kernel))
     ⟨fun _ _ _ _=>aO (i:=0) (show List.Nodup ndk by decide +kernel) rfl (Or.inl rfl) (.inr rfl),fun _ _ _ _=>dJ,fun _ _ _ _=>aZ GC hr2 rfl mC kC bC .nil bY (pac (pv 1) (pac (pv 0) aJ))⟩
     (aCd rfl T.range (pac aN (pac aN aJ)))) (pac (pv 1) aJ))))
   (aK (bU (i:=4) scL.nd rfl (Or.inr rfl) (aZ GMo hr3 rfl mMo kMo bMo .nil bY (pac (pv 4) (pac (aZ GC hr2 rfl mC kC bC .nil bY (pac (pv 0) (pac aN aJ))) (pac (pv 1) aJ)))))
   (aK (bU (i:=5) scL.nd rfl (Or.inl rfl) (aZ GMp hr1 rfl mMp kMp bMp .nil bY (pac (pv 4) aJ)))
   (aK (bU (i:=6) scL.nd rfl (Or.inl rfl) (aZ GMs hr6 rfl mMs kMs bMs .nil bY (pac (pv 3) (pac (pv 4) aJ))))
   (aK (bU (i:=14) scL.nd rfl (Or.inr rfl) (qD WMk GWI hr4 rfl mWv bWI .nil bY (pac (pv 6) aJ)))
   (aK (cW (aFh PySem.F.plainAttrs_list PySem.F.slot_list_clear PySem.F.type_list_clear aGa (pv 6)))
   (aK (bU (i:=7) scL.nd rfl (Or.inl rfl) (eS eY (by rfl) mTu Bo.tuple (pac (dN (N':=ndr) (nown:=1) (js:=[]) rfl
     ⟨rfl,by decide +kernel,by decide +kernel⟩ (cG (aB iR) N21 rfl rfl (by decide +kernel))
     ⟨fun _ _ _ _=>aO (i:=0) (show List.Nodup ndr by decide +kernel) rfl (Or.inl rfl) (.inr rfl),fun _ _ _ _=>dJ,fun _ _ _ _=>cZ (show IxR _ (aEy K) from iS) (pv 0) aN (fun _ _=>rfl)⟩
     (cS (pv 4))) aJ)))
   (aK (bU (i:=8) scL.nd rfl (Or.inl rfl) (cJ (vE rfl) (by rfl) T.sorted Bo.sorted (pac (eS (aGz rfl) (by rfl) mSe Bo.set (pac (cJ (aDj rfl) (by rfl) mSum Bo.sum (pac (dN (N':=ndr) (nown:=1) (js:=[]) rfl
     ⟨rfl,by decide +kernel,by decide +kernel⟩ (cG (aB iR) N21 rfl rfl (by decide +kernel))
     ⟨fun _ _ _ _=>aO (i:=0) (show List.Nodup ndr by decide +kernel) rfl (Or.inl rfl) (.inr rfl),fun _ _ _ _=>dJ,fun _ _ _ _=>jK hu (pv 0) aY (fun _ _=>rfl)⟩
     (cS (pv 5))) (pac (dB aJ) aJ))) aJ)) aJ)))
   (aK (bU (i:=9) scL.nd rfl (Or.inl rfl) (eX (pv 14) WC.cl mWK GWK hr1 bWK .nil bY))
   (aK (dL (nM (cC (yS hu0) (eX (pv 14) WC.cl mWB GWB hr3 bWB .nil bY) (pv 7) (cM _)) (mO (cC (uW hu0) (pv 9) (pv 8) (cM _)))).pt (aL (bV lV)) cF)
   (aK (cW (jQ PySem.F.plainAttrs_list PySem.F.slot_list_append PySem.F.type_list_append eE (pv 9) (pac aY aJ)))
   (aK (bU (i:=10) scL.nd rfl (Or.inl rfl) (aU dP (dB (pac (pv 7) aJ)) (dN (N':=ndm) (nown:=1) (js:=[4,0]) rfl
     ⟨rfl,by decide +kernel,by decide +kernel⟩ (cG (aB iR) N21 rfl rfl (by decide +kernel))
     ⟨fun _ _ _ _=>aO (i:=0) (show List.Nodup ndm by decide +kernel) rfl (Or.inl rfl) (.inr rfl),fun _ _ _ _=>dJ,
      fun _ _ _ _=>aZ GRB hr2 rfl mRB kRB bRB .nil bY (pac (pv 1) (pac (aZ GC hr2 rfl mC kC bC .nil bY (pac (pv 2) (pac (aU eI aN (pv 0)) aJ))) aJ))⟩
     (gS rfl T.range (pac aN aJ)))))
   (aK (eG PassesOwn.never rfl (cS (pv 10)) (aO (i:=13) scL.nd rfl (Or.inr rfl))
    (aK (dL (hZ (jH (aZ GRG hr6 (by rfl) mRG kRG bRG .nil bY (pac (pv 14) (pac (pv 5) (pac (pv 1) (pac (pv 13) aJ))))))) (aL (bV lV)) cF)
    (aK (bU (i:=12) scL.nd rfl (Or.inr rfl) (cZ cQ (dB (pac aY (pac aY (pac iA (pac aY aJ))))) (aU dA (aZ GC hr2 rfl mC kC bC .nil bY (pac (pv 0) (pac aN aJ))) aN) (fun _ _=>rfl)))
    (aL (dL (cC aFm (aCe (k:=5) (P:=Pt) (NL:=["_law_woven","_law_room","_law_odd"]) (js:=[14,13,12]) (te:=fun Ew=>aEa CW "to" (sY K C CM CW (ds 1)) [] Ew (aBp 0) (aAf (aBp 1) (aAf (aBp 2) aKe))) TR (fun _=>rfl) rfl hr rfl rfl hhd bm ⟨rfl,rfl,rfl,by decide +kernel,by decide +kernel⟩
      (cG (aB iR) N21 rfl rfl (by decide +kernel)) rfl (fun _ _ _ _=>rfl)
      (fun Ew cdv A outer s H pn E f c' s' H' hr=>dO (E:=Ew) (pv 0) WC.cl mWT GWT (hr.mono (by decide)) bWT .nil (aJe.passes fun _ _ _ z=>z) (pac (pv 1) (pac (pv 2) aJ)))) aY (cM _)) (aL (bV lV)) cF)))))
   (aK (bU (i:=11) scL.nd rfl (Or.inl rfl) (qD WMk GWI hr4 rfl mWv bWI .nil bY (pac (aZ GMs hr6 rfl mMs kMs bMs .nil bY (pac (pv 3) (pac (aFi (pv 4) (uS (aFc yB aN))) aJ))) aJ)))
   (aK (dL (nM (cC (yS hu0) (eX (pv 11) WC.cl mWB GWB hr3 bWB .nil bY) (wR (pv 7) (uS (aFc yB aN))) (cM _))
     (mO (cC (uW hu0) (dO (pv 11) WC.cl mWA GWA hr5 bWA .nil bY (pac (wR (cZ cQ (pv 10) aN (fun _ _=>rfl)) (uS (aFc yB aN))) aJ)) (dO (pv 14) WC.cl mWA GWA hr5 bWA .nil bY (pac (cZ cQ (pv 10) aN (fun _ _=>rfl)) aJ)) (cM _)))).pt (aL (bV lV)) cF)
   (aK (dL (hZ (jH (aZ GRG hr6 (by rfl) mRG kRG bRG .nil bY (pac (pv 14) (pac (pv 5) (pac (pv 1) (pac (cZ cQ (pv 10) aN (fun _ _=>rfl)) aJ))))))) (aL (bV lV)) cF)
   (aL (bV (yR (lN (aAv hu0) (eX (pv 14) WC.cl mWK GWK hr1 bWK .nil bY) (pv 8) (cM _)) (yQ (lN (aKy hu0) (eX (pv 14) WC.cl mWB GWB hr3 bWB .nil bY) (pv 7) (cM _))))))))))))))))))))))),?_⟩
  have h12:(fJ ns).length<=12:=by show (dZ _ _).length<=12; unfold dZ; rw[List.length_map,List.length_range]; exact lP _
  have hS12:∀ z∈fJ ns,z∈gM:=fun z hz=>xB hz;have hnm:∀ z∈fJ ns,bX z=true:=fun z hz=>yH z (hS12 z hz);have hnd:(fJ ns).Nodup:=sG _ (lP _);have hF:∀ z∈aLq ns,z∈fJ ns:=fun z hz=>zQ hz;have hFl:(aLq ns).length<=12:=Nat.le_trans (zR _ _) h12;have sh:pV (fJ ns):=fun z hz=>Nat.le_trans (nP (hnm z hz)) (by decide);refine⟨_,rfl,a,ns,0,rfl,hS,RW.cellAt ns 0,rfl,fun t l m H1 s1 ht hl hm=>⟨t,_,rfl,SqT.of ht,rfl,_,_,rfl,_,_,rfl,rfl,?_⟩⟩;refine⟨_,rfl,_,rfl,fun x dx hx hdx _=>?_⟩;have k1:aP H1 (upd (upd H1 dx (.own x)) x (.ins C dx [])):=fun b o e=>by rw[aI (aG e hx),aI (aG e hdx)]; exact e
  refine⟨x,l,.ref m,dx,fJ ns,aLq ns,rfl,aD,SqL.of (k1 _ _ hl),.inr ⟨m,rfl,SqL.of (k1 _ _ hm)⟩,sh,fun z hz=>sh z (hF z hz),by omega,fun H2 sb=>?_⟩;rw[aGx h12 hnm hnd hF];intro dw df o S e1 e2 e3 pm so;have s2:aP H1 H2:=fun b u e=>sb b u (aG e hx) (k1 b u e);have W2:WAt C H2 x (wts S 1 []):=⟨dx,_,dw,o,e1,aPm _ _,by rfl,e2⟩;have hS2:=(s1.trans s2).seq hS;have hl2:=s2 _ _ hl;have hP2:=s2 _ _ (s1 _ _ hP);refine⟨rfl,?_⟩;clear hx hdx k1 sb e1 e2 e3;refine⟨1,4,rfl,⟨by decide,by decide,by decide,by decide⟩,fun D hD=>jC (n:=3) (fun i σ' H'=>∃ v,σ'=[v,some (.ref a)]∧H' D=some (.lst (([RW.cellAt ns 1,RW.cellAt ns 2,RW.cellAt ns 3].take i).map V.int))∧aP H2 H') ?_ ?_ ?_⟩
  ·exact⟨none,rfl,aD,smu hD⟩
  ·rintro i σ' H' hi ⟨v,rfl,h1,h2⟩;refine⟨_,rfl,_,rfl,a,ns,1+i,by rw[Int.natCast_add]; rfl,h2.seq hS2,_,h1,aQ (by rw[List.length_map,List.length_take]; omega),_,rfl,?_,fun b o' e=>?_⟩
   ·rw[aD]
    match i,hi with
    | 0,_=>rfl
    | 1,_=>rfl
    | 2,_=>rfl
   ·rw[aI (aG e hD)];exact h2 _ _ e
  rintro σ' H3 ⟨v,rfl,h3,s3⟩;refine⟨_,rfl,D,l,RW.cellAt ns 1,RW.cellAt ns 2,RW.cellAt ns 3,fJ ns,rfl,SqL.of h3,SqL.of (s3 _ _ hl2),h12,fun p H4 s4 PA=>?_⟩;have s24:=s3.trans s4;have hgood:=aIy pm hnm;have hbad:=aQa pm hS12
  have pln:1<=(aIb ns).length∧(aIb ns).length<=3:=by
   show 1<=((tN _ _ _).take _).length∧((tN _ _ _).take _).length<=3
   have:=xI (RW.cellAt ns 1)
   rw[List.length_take];show 1<=min _ 3∧min _ 3<=3;omega
  have plf:aHg (aIb ns):=fun y hy=>aJm _ _ _ y (List.mem_of_mem_take hy);refine⟨_,rfl,_,rfl,a,ns,11,rfl,s24.seq hS2,_,rfl,p,l,RW.cellAt ns 11,aIb ns,fJ ns,rfl,PA,SqL.of (s24 _ _ hl2),h12,pln,plf,fun pl L H5 s5 n5 PA5 hL hF5=>?_⟩;have hR:nB L (fJ ns):=fun y hy=>⟨aMt (hF5 y hy).1 (hF5 y hy).2 h12 hnd,(hF5 y hy).2⟩;have s25:=s24.trans s5;refine⟨_,rfl,pl,L,fJ ns,rfl,PA5,by omega,hR,fun mp H6 s6 n6 MA6=>?_⟩;have s26:=s25.trans s6;have W6:=jD W2 s26;have hS6:=s26.seq hS2;have hl6:=s26 _ _ hl2;have hP6:=s26 _ _ hP2;have PA6:=PA5.same s6;clear hD h3 s3 s4 hS2 hl2 hP2 W2 s24 s2 PA s5 s6 s25 s26 PA5;refine⟨_,rfl,_,rfl,x,pl,L,fJ ns,wts S 1 [],rfl,W6,PA6,by omega,hR,hgood,fun hd H7 s7 n7 MS7=>?_⟩;have hwk:=aKa hR;have msl:(L.map (iB (fJ ns))).length=L.length:=List.length_map ..;refine⟨_,rfl,fun v dv hv hdv _=>?_⟩;have k1:aP H7 (upd (upd H7 dv (.own v)) v (.ins CW dv [])):=fun b o' e=>by rw[aI (aG e hv),aI (aG e hdv)]; exact e
  refine⟨v,dv,x,hd,L.map (iB (fJ ns)),fJ ns,rfl,aD,MS7.same k1,⟨by omega,by omega⟩,fun mw hm z hz=>hwk z (List.mem_flatMap.mpr ⟨mw,hm,hz⟩),by omega,fun H8 sb W8 clr=>⟨rfl,?_⟩⟩;have s8:aP H7 H8:=fun b u e=>sb b u (aG e hv) (k1 b u e);obtain⟨Xs,hx0,hx1,_⟩:=MS7.ex;refine⟨_,rfl,.inl ⟨rfl,_,SqL.of (s8 _ _ hx0)⟩,hd,_,rfl,rfl,s8 _ _ hx0,?_⟩;have W9:=clr hd _ (k1 _ _ hx0);have s9:aP H6 (upd H8 hd (.lst [])):=fun b o' e=>by rw[aI (aG e n7)]; exact s8 _ _ (s7 _ _ e)
  generalize upd H8 hd (.lst [])=H9 at W9 s9 ⊢;have PA9:=PA6.same s9;have MA9:=MA6.same s9;have W9':=jD W6 s9;have hS9:=s9.seq hS6;have hl9:=s9 _ _ hl6;have hP9:=s9 _ _ hP6;clear hv hdv k1 sb clr W8 s8 hx0 hx1 s9 PA6 MA6 W6 hS6 hl6 hP6 s7 n7 MS7;generalize hms:L.map (iB (fJ ns))=ms at *;obtain⟨ts,p0,p1,p2⟩:=PA9.ex;refine⟨_,rfl,pl,rfl,⟨_,SqL.of p0⟩,fun D1 hD1=>eZ (xs:=ts.map V.ref) (fun i σ' H'=>∃ u,σ'=[u]∧H' D1=some (.lst (((ms.take i).map (·.b)).map V.str))∧aP H9 H') ?_ ?_ ?_ ?_⟩
  ·exact⟨none,rfl,aD,smu hD1⟩
  ·rintro i σ' H' _ ⟨u,rfl,a1,a2⟩;exact SqL.of (a2 _ _ p0)
  ·rintro i u σ' H' hv ⟨u0,rfl,a1,a2⟩;rw[List.getElem?_map] at hv;cases ht':ts[i]? with
   | none=>rw[ht'] at hv; cases hv
   | some t'=>
    rw[ht'] at hv;cases hv;have hi:i<L.length:=by rw[← p1]; exact (List.getElem?_eq_some_iff.mp ht').1
    have hx:=List.getElem?_eq_getElem hi;generalize L[i]=cn at hx;obtain⟨e,d,m',r0,r1,r2,r3⟩:=p2 i t' cn ht' hx;have hm':ms[i]?=some (iB (fJ ns) cn):=by rw[← hms,List.getElem?_map,hx]; rfl
    refine⟨_,rfl,t',_,_,.str (bZ cn.1 0),rfl,rfl,SqT.of (a2 _ _ r0),rfl,_,a1,aQ (by rw[List.length_map,List.length_map,List.length_take]; omega),_,rfl,?_,fun b o' e'=>?_⟩
    ·rw[aD,List.take_succ,hm'];simp[iB]
    ·rw[aI (aG e' hD1)];exact a2 _ _ e'
  rintro σ' H10 ⟨u,rfl,a1,a2⟩;have etk:ms.take (ts.map V.ref).length=ms:=by rw[List.length_map,p1,← msl,List.take_length]
  rw[etk] at a1;refine⟨D1,_,rfl,.inl ⟨SqL.of a1,fun bg hbg=>?_⟩⟩;have s11:aP H9 (upd H10 bg (.tup ((ms.map (·.b)).map V.str))):=a2.trans (smu hbg);have e11:(upd H10 bg (.tup ((ms.map (·.b)).map V.str))) bg=some (.tup ((ms.map (·.b)).map V.str)):=aD;generalize upd H10 bg (.tup ((ms.map (·.b)).map V.str))=H11 at s11 e11 ⊢;clear hD1 a1 a2 hbg;obtain⟨qs,q0,q1,q2⟩:=(MA9.same s11).ex;refine⟨_,rfl,mp,rfl,⟨_,SqL.of q0⟩,fun D2 hD2=>eZ (xs:=qs.map V.ref) (fun i σ' H'=>∃ (u:Option V) (ks:List Addr),σ'=[u]∧H' D2=some (.lst (ks.map V.ref))∧ks.length=i∧(∀ (j:Nat) (kk:Addr) (mw:MW),ks[j]?=some kk->ms[j]?=some mw->H11 kk=some (.lst (mw.kn.map V.str)))∧aP H11 H') ?_ ?_ ?_ ?_⟩
  ·exact⟨none,[],rfl,aD,rfl,fun j kk mw z=>(nomatch z),smu hD2⟩
  ·rintro i σ' H' _ ⟨u,ks,rfl,a1,b1,b2,a2⟩;exact SqL.of (a2 _ _ q0)
  ·rintro i u σ' H' hv ⟨u0,ks,rfl,a1,b1,b2,a2⟩;rw[List.getElem?_map] at hv;cases hq:qs[i]? with
   | none=>rw[hq] at hv; cases hv
   | some q'=>
    rw[hq] at hv;cases hv;have hi:i<ms.length:=by rw[← q1]; exact (List.getElem?_eq_some_iff.mp hq).1
    have hm':=List.getElem?_eq_getElem hi;generalize ms[i]=mw at hm';obtain⟨e,g,kk,kvs,m0,m1,m2,m3,m4,m5,m6⟩:=q2 i q' mw hq hm';refine⟨_,rfl,q',_,rfl,aGp (a2 _ _ m0),_,a1,aQ (by rw[List.length_map]; omega),_,ks++[kk],rfl,by rw[aD,List.map_append]; rfl,by rw[List.length_append,b1]; rfl,fun j k2 mw2 z1 z2=>?_,fun b o' e'=>?_⟩
    ·by_cases hj:j<ks.length
     ·rw[List.getElem?_append_left hj] at z1;exact b2 j k2 mw2 z1 z2
     ·have hl':j=ks.length:=by
       have:=(List.getElem?_eq_some_iff.mp z1).1
       rw[List.length_append] at this;simp only[List.length_cons,List.length_nil] at this;omega
      subst hl';rw[List.getElem?_append_right (Nat.le_refl _),Nat.sub_self] at z1;rw[b1,hm'] at z2;cases z1;cases z2;exact m4
    ·rw[aI (aG e' hD2)];exact a2 _ _ e'
  rintro σ' H12 ⟨u,ks,rfl,a1,b1,b2,a2⟩;rw[List.length_map,q1] at b1
  have sumle:((ms.map (·.kn)).map List.length).sum<=1000:=by
   have:((ms.map (·.kn)).map List.length).sum<=100*ms.length:=by
    have each:∀ mw∈ms,mw.kn.length<=100:=fun mw hm=>by
     rw[← hms] at hm;obtain⟨y,hy,rfl⟩:=List.mem_map.mp hm
     have:=(hR y hy).1.sm
     show (eK _ _).length<=100;unfold eK;rw[List.length_append,List.length_map];omega
    clear hms msl etk b2 b1 q1 q2 MA9 hwk W9 s11 e11;revert each;generalize ms=ms'
    induction ms' with
    | nil=>exact fun _=>Nat.le_refl _
    | cons y r ih=>
     intro each;have h1:=each y (List.mem_cons_self ..);have h2:=ih fun mw hm=>each mw (List.mem_cons_of_mem _ hm);simp only[List.map_cons,List.sum_cons,List.length_cons];omega
   omega
  have fle:(wkn ms).length<=1000:=by
   have e:(wkn ms).length=((ms.map (·.kn)).map List.length).sum:=by
    show ((ms.map (·.kn)).flatten).length=_;rw[List.length_flatten]
   rw[e];exact sumle
  refine⟨by show 0<=sizeLine; decide,fun e0 he0=>⟨D2,e0,ks,ms.map (·.kn),rfl,SqL.of (smu he0 _ _ a1),aD,by rw[List.length_map,b1],fun j b ss' hb hs=>?_,by omega,sumle,fun p6 hp6=>?_⟩⟩
  ·rw[List.getElem?_map] at hs;cases hm':ms[j]? with
   | none=>rw[hm'] at hs; cases hs
   | some mw=>rw[hm'] at hs; cases hs; exact smu he0 _ _ (a2 _ _ (b2 j b mw hb hm'))
  refine⟨p6,wkn ms,rfl,SqL.of aD,fle,fun p7 hp7=>⟨p7,_,rfl,aD,Nat.lt_of_le_of_lt (eR hwk) (by omega),fun kn9 kns hp8 pm8 so8=>?_⟩⟩;generalize hH13:upd (upd (upd (upd H12 e0 _) p6 _) p7 _) kn9 _=H13;have s13:aP H11 H13:=by rw[← hH13]; exact a2.trans ((smu he0).trans ((smu hp6).trans ((smu hp7).trans (smu hp8))))
  have e13:H13 kn9=some (.lst (kns.map V.str)):=by rw[← hH13,aD]
  clear hH13 he0 hp6 hp7 hp8 a1 a2 hD2 b2;have Skn:Srt kns (fun z=>z∈wkn ms):=⟨so8,pm8.nodup_iff.mpr (iV _ _ .nil),fun z=>by rw[pm8.mem_iff,oI]⟩;have knl:kns.length<=12:=by rw[pm8.length_eq]; exact Nat.le_trans (eR hwk) h12
  have s913:=s11.trans s13;have W13:=W9.same s913;obtain⟨dv,lm,lk',kn',hi13,Mx,hk',hkn'⟩:=id W13;refine⟨_,rfl,v,dv,_,rfl,hi13,cU _ _ _ (by decide),v,x,ms,fJ ns,rfl,W13,hwk,by omega,fun l9 t9 H14 s14 n14 g14 S14=>?_⟩;have et9:t9=kns:=S14.one Skn fun z=>Iff.rfl;subst et9;refine⟨_,rfl,v,dv,_,rfl,s14 _ _ hi13,cU _ _ _ (by decide),v,x,ms,rfl,W13.same s14,by omega,?_⟩;intro b2 H15 s15 n15 e15;refine⟨_,rfl,.tt b2 bg _ rfl rfl (SqT.of e15) (SqT.of (s15 _ _ (s14 _ _ (s13 _ _ e11)))) ⟨_,rfl,fZ ?_⟩⟩;refine⟨_,rfl,_,rfl,l9,kn9,t9,t9,rfl,rfl,SqL.of (s15 _ _ g14),SqL.of (s15 _ _ (s14 _ _ e13)),_,rfl,gJ (fun y=>absurd y (by simp)) fun _=>?_⟩;refine⟨_,rfl,.inl ⟨rfl,_,SqL.of (s15 _ _ g14)⟩,l9,_,_,rfl,rfl,s15 _ _ g14,aQ (by rw[List.length_map]; omega),?_⟩;have s16:aP H13 (upd H15 l9 (.lst (t9.map V.str++[.str "none"]))):=fun b o' e'=>by rw[aI (aG e' n14)]; exact s15 _ _ (s14 _ _ e')
  generalize upd H15 l9 (.lst (t9.map V.str++[.str "none"]))=H16 at s16 ⊢;have s916:=s913.trans s16;have bg16:=s16 _ _ (s13 _ _ e11);have kn16:=s16 _ _ e13;clear s14 n14 g14 s15 n15 e15 s13 e13 s11 e11 W13 hi13 Mx hk' s913 s16;refine⟨_,rfl,by show 1<=sizeLine; decide,fun r1 hr1'=>?_⟩;have s17:aP H16 (upd H16 r1 (.lst [.ref bg])):=smu hr1';have e17:(upd H16 r1 (.lst [.ref bg])) r1=some (.lst [.ref bg]):=aD;generalize upd H16 r1 (.lst [.ref bg])=H17 at s17 e17 ⊢;have s917:=s916.trans s17;refine⟨6,rfl,by decide,by decide,fun D3 hD3=>jC (n:=6) (fun i σ' H'=>∃ (u:Option V) (us:List Addr),σ'=[u,some (.ref pl),some (.ref a)]∧H' D3=some (.lst (us.map V.ref))∧us.length=i∧(∀ (j:Nat) (t':Addr),us[j]?=some t'->∃ room:List Str,H' t'=some (.tup (room.map V.str))∧ROk ms room)∧aP H17 H') ?_ ?_ ?_⟩
  ·exact⟨none,[],rfl,aD,rfl,fun j t' z=>(nomatch z),smu hD3⟩
  ·rintro i σ' H' hi ⟨u,us,rfl,a1,b1,b2,a2⟩;have sA:=s917.trans a2;refine⟨_,rfl,_,rfl,_,rfl,_,_,rfl,rfl,a,ns,4+i,by rw[Int.natCast_add,Int.zero_add]; rfl,sA.seq hS9,pl,_,L,fJ ns,rfl,PA9.same sA,by omega,hR,fun room RK=>?_⟩;intro t' H3' s3' n3' e3';rw[hms] at RK;refine⟨_,s3' _ _ a1,aQ (by rw[List.length_map]; omega),_,us++[t'],rfl,by rw[aD,List.map_append]; rfl,by rw[List.length_append,b1]; rfl,fun j u' z=>?_,fun b o' e'=>?_⟩
   ·have nD:∀ {b:Addr}{xs:List V},H3' b=some (.tup xs)->b≠D3:=fun h q=>by rw[q,s3' _ _ a1] at h; cases h
    by_cases hj:j<us.length
    ·rw[List.getElem?_append_left hj] at z;obtain⟨rm,er,kr⟩:=b2 j u' z;exact⟨rm,by rw[aI (nD (s3' _ _ er))]; exact s3' _ _ er,kr⟩
    ·have hl':j=us.length:=by
      have:=(List.getElem?_eq_some_iff.mp z).1
      rw[List.length_append] at this;simp only[List.length_cons,List.length_nil] at this;omega
     subst hl';rw[List.getElem?_append_right (Nat.le_refl _),Nat.sub_self] at z;cases z;exact⟨room,by rw[aI (nD e3')]; exact e3',RK⟩
   ·rw[aI (aG e' hD3)];exact s3' _ _ (a2 _ _ e')
  rintro σ' H18 ⟨u,us,rfl,a1,b1,b2,a2⟩;refine⟨r1,D3,_,_,rfl,rfl,a2 _ _ e17,a1,jW (by rw[List.length_map,b1]; show 1+6<=_; decide),fun rs hrs=>?_⟩;have s19:=(s917.trans a2).trans (smu (o:=.lst ([.ref bg]++us.map V.ref)) hrs);have s1619:=(s17.trans a2).trans (smu (o:=.lst ([.ref bg]++us.map V.ref)) hrs);have sl:=smu (o:=.lst ([.ref bg]++us.map V.ref)) hrs;have e19:(upd H18 rs (.lst ([.ref bg]++us.map V.ref))) rs=some (.lst ((bg::us).map V.ref)):=by rw[aD]; rfl
  generalize upd H18 rs (.lst ([.ref bg]++us.map V.ref))=H19 at s19 s1619 sl e19 ⊢
  have RS:∀ (i:Nat) (t':Addr),(bg::us)[i]?=some t'->∃ room:List Str,H19 t'=some (.tup (room.map V.str))∧ROk ms room:=fun i t' z=>by
   cases i with
   | zero=>cases z; exact⟨ms.map (·.b),s1619 _ _ bg16,by rw[← hms]; exact xV hR⟩
   | succ j=>
    obtain⟨rm,er,kr⟩:=b2 j t' (by simpa using z);exact⟨rm,sl _ _ er,kr⟩
  have S19:S21 K C CM CW H19 a l x pl mp v bg kn9 rs ns (fJ ns) (wts S 1 []) L ms t9:=⟨s19.seq hS9,s19 _ _ hl9,jD W9' s19,PA9.same s19,MA9.same s19,W9.same s19,s1619 _ _ bg16,s1619 _ _ kn16,⟨bg::us,e19,by rw[List.length_cons,b1],rfl,RS⟩⟩;have hP19:=s19 _ _ hP9;clear b2 a1 a2 hD3 hrs s19 s1619 sl s17 e17 hr1' s917 s916 bg16 kn16 hS9 hl9 W9' PA9 MA9 W9 hP9 p0 p1 p2 q0 q1 q2 etk;have SB:=S19.nt (zF hP19);have t0B:off H19 Pt rs=some (.lst ((bg::us).map V.ref)):=zF hP19 _ _ e19 (fun _ z=>nomatch z)
  have RSB:∀ (i:Nat) (t':Addr),(bg::us)[i]?=some t'->∃ room:List Str,off H19 Pt t'=some (.tup (room.map V.str))∧ROk ms room:=fun i t' z=>by
   obtain⟨rm,er,kr⟩:=RS i t' z;exact⟨rm,zF hP19 _ _ er (fun _ z=>nomatch z),kr⟩
  refine⟨_,rfl,rs,rfl,⟨_,SqL.of e19⟩,?_⟩;refine dQ (xs:=(bg::us).map V.ref) (fun i σ H'=>∃ (x12 x13:Option V),σ=[some (.ref a),some (.ref l),some (.ref m),some (.ref x),some (.ref pl),some (.ref mp),some (.ref hd),some (.ref bg),some (.ref kn9),some (.ref l9),some (.ref rs),none,x12,x13,some (.ref v)]∧aP (off H19 Pt) H'∧Tab Pt H') ?_ ?_ ?_ ?_
  ·exact⟨_,_,rfl,wW,.inl hP19⟩
  ·rintro i σ H' _ ⟨x12,x13,rfl,sm,tb⟩;exact SqL.of (sm _ _ t0B)
  ·rintro i u σ H' hv ⟨x12,x13,rfl,sm,tb⟩;rw[List.getElem?_map] at hv;cases ht':(bg::us)[i]? with
   | none=>rw[ht'] at hv; cases hv
   | some t'=>
    rw[ht'] at hv;cases hv;obtain⟨room,er,RK⟩:=RSB i t' ht';have SS:=SB.same sm;refine⟨_,rfl,_,rfl,_,rfl,_,rfl,v,x,mp,l,t',ms,room,fJ ns,wts S 1 [],rfl,SS.wv,SS.mq,SqL.of SS.nm,SqT.of (sm _ _ er),RK,⟨by omega,by omega⟩,SS.wa,hwk,h12,hnd,hgood,fun H20 s20=>⟨_,rfl,fZ ?_⟩⟩;obtain⟨y,hy4,ey⟩:=aIl (RW.cellAt ns 10);have sm20:=sm.trans s20;refine⟨by show 4<=sizeLine; decide,fun p1 hp1=>⟨_,rfl,a,ns,10,rfl,(sm20.trans (smu hp1)).seq SB.sc,_,_,rfl,rfl,(by show (0:Int)<4; decide),p1,_,_,y,rfl,rfl,SqL.of aD,ey,?_⟩⟩;have s21:=smu (o:=.lst wX) hp1;have sm21:aP (off H19 Pt) (upd H20 p1 (.lst wX)):=sm20.trans s21;have tb21:Tab Pt (upd H20 p1 (.lst wX)):=(tb.same s20).same s21;generalize upd H20 p1 (.lst wX)=H21 at sm21 tb21 ⊢;refine aMn tb21 fun H22 a22 tb22=>?_;have sm22:aP (off H19 Pt) H22:=(aIj sm21).trans a22;have S22:=SB.same sm22;obtain⟨dv2,lm2,lk2,kn2,hi2,_⟩:=id S22.wv;refine⟨_,rfl,v,dv2,_,rfl,hi2,cU _ _ _ (by decide),_,rfl,_,rfl,v,x,t',y,ms,room,wts S 1 [],rfl,S22.wv,SqT.of (sm22 _ _ er),RK,⟨by omega,by omega⟩,S22.wa,zE y hy4,fun gd=>absurd (gd.symm.trans (hbad y hy4)) (by decide),fun _ H23 s23=>⟨ds 1,_,rfl,aMd Wf,fun H24 s24=>⟨rfl,_,rfl,gJ (fun y=>absurd y (by decide)) fun _=>⟨_,_,rfl,sm22.trans (s23.trans s24),(tb22.same s23).same s24⟩⟩⟩⟩
  rintro σ H25 ⟨x12,x13,rfl,sm,tb⟩;have S25:=SB.same sm;obtain⟨ts,p0,p1,p2⟩:=S25.pa.ex;refine⟨_,rfl,_,rfl,_,rfl,_,rfl,pl,_,rfl,rfl,SqL.of p0,fun pr hpr=>?_⟩;have s26:=smu (o:=.lst (ts.map V.ref).reverse) hpr
  have P26:eN (upd H25 pr (.lst (ts.map V.ref).reverse)) pr L.reverse (fJ ns):=by
   refine⟨ts.reverse,by rw[aD,List.map_reverse],by rw[List.length_reverse,List.length_reverse,p1],fun i t' y h1 h2=>?_⟩;have hi:i<ts.length:=by have:=(List.getElem?_eq_some_iff.mp h1).1; rw[List.length_reverse] at this; exact this
   rw[List.getElem?_reverse hi] at h1;rw[List.getElem?_reverse (by omega),← p1] at h2;exact (p2 _ t' y h1 h2).same s26
  have S26:=S25.same s26;have sm26:=sm.trans s26;generalize upd H25 pr (.lst (ts.map V.ref).reverse)=H26 at P26 S26 sm26 ⊢;have hRr:nB L.reverse (fJ ns):=fun y hy=>hR y (List.mem_reverse.mp hy);refine⟨x,pr,L.reverse,fJ ns,wts S 1 [],rfl,S26.wa,P26,by rw[List.length_reverse]; omega,hRr,hgood,fun hd2 H27 s27 n27 MS27=>?_⟩;rw[List.map_reverse,hms] at MS27;intro v2 dw2 hv2 hdw2 _;have k1:aP H27 (upd (upd H27 dw2 (.own v2)) v2 (.ins CW dw2 [])):=fun b o' e=>by rw[aI (aG e hv2),aI (aG e hdw2)]; exact e
  have mrl:ms.reverse.length=ms.length:=List.length_reverse ..;have hwr:∀ z∈wkn ms.reverse,z∈fJ ns:=fun z hz=>hwk z ((qA z).mp hz);refine⟨v2,dw2,x,hd2,ms.reverse,fJ ns,rfl,aD,MS27.same k1,⟨by omega,by omega⟩,fun mw hm z hz=>hwr z (List.mem_flatMap.mpr ⟨mw,hm,hz⟩),by omega,fun H28 sb2 W28 _=>⟨rfl,?_⟩⟩;have s28:aP H27 H28:=fun b u e=>sb2 b u (aG e hv2) (k1 b u e);have S28:=S26.same (s27.trans s28);have sm28:=sm26.trans (s27.trans s28);clear k1 sb2 hv2 hdw2 MS27 S26 S25 sm26 s27 s28 P26 p0 p1 p2;obtain⟨dv2,lm2,lk2,kn2,hi2,_⟩:=id W28;obtain⟨dv1,lm1,lk1,kn1,hi1,_⟩:=id S28.wv;refine⟨_,rfl,v2,dv2,_,rfl,hi2,cU _ _ _ (by decide),v2,x,ms.reverse,rfl,W28,by omega,?_⟩;intro b3 H29 s29 n29 e29;refine⟨_,rfl,_,rfl,_,rfl,bg,_,rfl,rfl,SqT.of (s29 _ _ S28.hb),fun b4 hb4=>?_⟩;have ebr:((ms.map (·.b)).map V.str).reverse=(ms.reverse.map (·.b)).map V.str:=by rw[List.map_reverse,List.map_reverse]
  refine .tt b3 b4 _ rfl rfl (SqT.of (smu hb4 _ _ e29)) (SqT.of (by rw[aD,ebr])) ⟨_,rfl,fZ ?_⟩;have s30:=s29.trans (smu (o:=.tup ((ms.map (·.b)).map V.str).reverse) hb4);generalize upd H29 b4 (.tup ((ms.map (·.b)).map V.str).reverse)=H30 at s30 ⊢;have us6:us.length=6:=b1;obtain⟨t1,ht1⟩:∃ t1,(bg::us)[1]?=some t1:=⟨_,List.getElem?_eq_getElem (by rw[List.length_cons]; omega)⟩;obtain⟨room,er,RK⟩:=RSB 1 t1 ht1;have sm30:=sm28.trans s30;have at1:atI ((bg::us).map V.ref) 1=some (.ref t1):=gH (j:=1) (by rw[List.getElem?_map,ht1]; rfl);refine⟨_,rfl,v2,dv2,_,rfl,s30 _ _ hi2,cU _ _ _ (by decide),_,rfl,rs,_,_,.ref t1,rfl,rfl,SqL.of (sm30 _ _ t0B),at1,_,rfl,_,rfl,t1,_,rfl,rfl,SqT.of (sm30 _ _ er),fun tr htr=>?_⟩;have s31:=s30.trans (smu (o:=.tup (room.map V.str).reverse) htr);have e31:(upd H30 tr (.tup (room.map V.str).reverse)) tr=some (.tup (room.reverse.map V.str)):=by rw[aD,List.map_reverse]
  generalize upd H30 tr (.tup (room.map V.str).reverse)=H31 at s31 e31 ⊢;have S31:=S28.same s31;refine⟨v2,x,tr,ms.reverse,room.reverse,fJ ns,wts S 1 [],rfl,W28.same s31,SqT.of e31,RK.rev,⟨by omega,by omega⟩,S31.wa,hwr,by omega,hgood,fun l32 f32 H32 s32 n32 g32 S32=>?_⟩;have s3132:=s31.trans s32;have S33:=S28.same s3132;have sm32:=sm28.trans s3132;refine⟨_,rfl,v,dv1,_,rfl,s3132 _ _ hi1,cU _ _ _ (by decide),_,rfl,rs,_,_,.ref t1,rfl,rfl,SqL.of (sm32 _ _ t0B),at1,v,x,t1,ms,room,fJ ns,wts S 1 [],rfl,S33.wv,SqT.of (sm32 _ _ er),RK,⟨by omega,by omega⟩,S33.wa,hwk,by omega,hgood,fun l34 f34 H34 s34 n34 g34 S34=>?_⟩;have ef:f32=f34:=S32.one S34 fun z=>by rw[qA,aHk RK.len]
  subst ef;refine⟨l32,l34,f32,f32,rfl,rfl,SqL.of (s34 _ _ g32),SqL.of g34,_,rfl,gJ (fun y=>absurd y (by simp)) fun _=>?_⟩;have S34':=S33.same s34;have sm34:=sm32.trans s34;refine⟨_,rfl,_,rfl,_,rfl,_,rfl,rs,_,_,.ref bg,rfl,rfl,SqL.of (sm34 _ _ t0B),gH (j:=0) rfl,v,x,mp,l,bg,ms,ms.map (·.b),fJ ns,wts S 1 [],rfl,S34'.wv,S34'.mq,SqL.of S34'.nm,SqT.of S34'.hb,by rw[← hms]; exact xV hR,⟨by omega,by omega⟩,S34'.wa,hwk,h12,hnd,hgood,fun H35 s35=>⟨_,rfl,fZ ?_⟩⟩;have S35:=S34'.same s35;obtain⟨dv3,lm3,lk3,kn3,hi3,_⟩:=id S35.wv;refine⟨_,rfl,v,dv3,_,rfl,hi3,cU _ _ _ (by decide),v,x,ms,fJ ns,rfl,S35.wv,hwk,by omega,fun l36 f36 H36 s36 n36 g36 S36=>?_⟩;have ef:f36=t9:=S36.one Skn fun z=>Iff.rfl;subst ef;have S36':=S35.same s36;refine⟨_,rfl,l36,kn9,f36,f36,rfl,rfl,SqL.of g36,SqL.of S36'.hk,_,rfl,gJ (fun _=>?_) (fun y=>absurd (by simp) y)⟩;refine⟨_,rfl,v,dv3,_,rfl,s36 _ _ hi3,cU _ _ _ (by decide),v,x,ms,rfl,S36'.wv,by omega,?_⟩;intro b37 H37 s37 n37 e37;exact⟨_,rfl,.tt b37 bg _ rfl rfl (SqT.of e37) (SqT.of (s37 _ _ S36'.hb)) (k H37)⟩
end
end K21
namespace K21
open PySem L2 Ky
theorem aPq {α:Type}{p:List α->Prop}(h:∀ a b c d,p [a,b,c,d]):∀ us:List α,us.length=4->p us
 | [a,b,c,d],_=>h a b c d
theorem aPo {α:Type}{p:List α->Prop}(h:∀ a b c d e f,p [a,b,c,d,e,f]):∀ us:List α,us.length=6->p us
 | [a,b,c,d,e,f],_=>h a b c d e f
theorem aPp {α:Type}{p:List α->Prop}(h:∀ a b c d e,p [a,b,c,d,e]):∀ us:List α,us.length=5->p us
 | [a,b,c,d,e],_=>h a b c d e
def aPt (K:PySem.W.Frag) (ds:List Addr):Bool:=gL.all fun i=>(List.range 14).all fun j=>PySem.W.kitOne K (.ref (ds.getD i 0)) (.ref (ds.getD j 0))==some (decide (i=j))
def veB (K:PySem.W.Frag) (ds:List Addr):Bool:=gL.all fun i=>PySem.W.kitOne K (.ref (ds.getD i 0)) (.type "ValueError")==some true
def exB (K:PySem.W.Frag) (ds:List Addr) (W:Addr):Bool:=gL.all fun i=>PySem.W.exmOne K (.ref (ds.getD i 0)) (.ref W)==some true
theorem all_mk {l:PySem.W.OpenLaw}{w:World}{K:PySem.W.Frag}{h:Heap}{mg:Str->Option Value}{fa f1 f2 f3 f4 f5 f6 f7 f8 f9 f10 f11 f12 f13 f14 f15 f16 f17 f18 f19 f20 f21 f22 f23 f24 f25 f26 f27 fm0 fm1 fM0 fM1 fM2 fM3 fM4 fM5 fV0 fV1 fV2 fV3 fV4 fV5 fV6 fMI fI C CM CW W c0 Pt Td Te d0 d1 d2 d3 d4 d5 d6 d7 d8 d9 d10 d11 d12 d13:Addr}(X:K.In h) (G:h.Ns mainGlobals mg) (hfa:mg "law"=some (.ref fa))
  {oc1 kV1 dc1 pm1 ct1 cd1:Value}{od1 an1:Option Addr}{sl1:Array (Option Value)}{oc2 kV2 dc2 pm2 ct2 cd2:Value}{od2 an2:Option Addr}{sl2:Array (Option Value)}{oc3 kV3 dc3 pm3 ct3 cd3:Value}{od3 an3:Option Addr}{sl3:Array (Option Value)}{oc4 kV4 dc4 pm4 ct4 cd4:Value}{od4 an4:Option Addr}{sl4:Array (Option Value)}{oc5 kV5 dc5 pm5 ct5 cd5:Value}{od5 an5:Option Addr}{sl5:Array (Option Value)}{oc6 kV6 dc6 pm6 ct6 cd6:Value}{od6 an6:Option Addr}{sl6:Array (Option Value)}{oc7 kV7 dc7 pm7 ct7 cd7:Value}{od7 an7:Option Addr}{sl7:Array (Option Value)}{oc8 kV8 dc8 pm8 ct8 cd8:Value}{od8 an8:Option Addr}{sl8:Array (Option Value)}{oc9 kV9 dc9 pm9 ct9 cd9:Value}{od9 an9:Option Addr}{sl9:Array (Option Value)}{oc10 kV10 dc10 pm10 ct10 cd10:Value}{od10 an10:Option Addr}{sl10:Array (Option Value)}{oc11 kV11 dc11 pm11 ct11 cd11:Value}{od11 an11:Option Addr}{sl11:Array (Option Value)}{oc12 kV12 dc12 pm12 ct12 cd12:Value}{od12 an12:Option Addr}{sl12:Array (Option Value)}{oc13 kV13 dc13 pm13 ct13 cd13:Value}{od13 an13:Option Addr}{sl13:Array (Option Value)}{oc14 kV14 dc14 pm14 ct14 cd14:Value}{od14 an14:Option Addr}{sl14:Array (Option Value)}{oc15 kV15 dc15 pm15 ct15 cd15:Value}{od15 an15:Option Addr}{sl15:Array (Option Value)}{oc16 kV16 dc16 pm16 ct16 cd16:Value}{od16 an16:Option Addr}{sl16:Array (Option Value)}{oc17 kV17 dc17 pm17 ct17 cd17:Value}{od17 an17:Option Addr}{sl17:Array (Option Value)}{oc18 kV18 dc18 pm18 ct18 cd18:Value}{od18 an18:Option Addr}{sl18:Array (Option Value)}{oc19 kV19 dc19 pm19 ct19 cd19:Value}{od19 an19:Option Addr}{sl19:Array (Option Value)}{oc20 kV20 dc20 pm20 ct20 cd20:Value}{od20 an20:Option Addr}{sl20:Array (Option Value)}{oc21 kV21 dc21 pm21 ct21 cd21:Value}{od21 an21:Option Addr}{sl21:Array (Option Value)}{oc22 kV22 dc22 pm22 ct22 cd22:Value}{od22 an22:Option Addr}{sl22:Array (Option Value)}{oc23 kV23 dc23 pm23 ct23 cd23:Value}{od23 an23:Option Addr}{sl23:Array (Option Value)}{oc24 kV24 dc24 pm24 ct24 cd24:Value}{od24 an24:Option Addr}{sl24:Array (Option Value)}{oc25 kV25 dc25 pm25 ct25 cd25:Value}{od25 an25:Option Addr}{sl25:Array (Option Value)}{oc26 kV26 dc26 pm26 ct26 cd26:Value}{od26 an26:Option Addr}{sl26:Array (Option Value)}{oc27 kV27 dc27 pm27 ct27:Value}{od27 an27:Option Addr}{sl27:Array (Option Value)}{ocm0 kVm0 dcm0 pmm0 ctm0 cdm0:Value}{odm0 anm0:Option Addr}{slm0:Array (Option Value)}{ocm1 kVm1 dcm1 pmm1 ctm1 cdm1:Value}{odm1 anm1:Option Addr}{slm1:Array (Option Value)}{ocM0 kVM0 dcM0 pmM0 ctM0 cdM0:Value}{odM0 anM0:Option Addr}{slM0:Array (Option Value)}{ocM1 kVM1 dcM1 pmM1 ctM1 cdM1:Value}{odM1 anM1:Option Addr}{slM1:Array (Option Value)}{ocM2 kVM2 dcM2 pmM2 ctM2 cdM2:Value}{odM2 anM2:Option Addr}{slM2:Array (Option Value)}{ocM3 kVM3 dcM3 pmM3 ctM3 cdM3:Value}{odM3 anM3:Option Addr}{slM3:Array (Option Value)}{ocM4 kVM4 dcM4 pmM4 ctM4 cdM4:Value}{odM4 anM4:Option Addr}{slM4:Array (Option Value)}{ocM5 kVM5 dcM5 pmM5 ctM5 cdM5:Value}{odM5 anM5:Option Addr}{slM5:Array (Option Value)}{ocV0 kVV0 dcV0 pmV0 ctV0 cdV0:Value}{odV0 anV0:Option Addr}{slV0:Array (Option Value)}{ocV1 kVV1 dcV1 pmV1 ctV1 cdV1:Value}{odV1 anV1:Option Addr}{slV1:Array (Option Value)}{ocV2 kVV2 dcV2 pmV2 ctV2 cdV2:Value}{odV2 anV2:Option Addr}{slV2:Array (Option Value)}{ocV3 kVV3 dcV3 pmV3 ctV3 cdV3:Value}{odV3 anV3:Option Addr}{slV3:Array (Option Value)}{ocV4 kVV4 dcV4 pmV4 ctV4 cdV4:Value}{odV4 anV4:Option Addr}{slV4:Array (Option Value)}{ocV5 kVV5 dcV5 pmV5 ctV5 cdV5:Value}{odV5 anV5:Option Addr}{slV5:Array (Option Value)}{ocV6 kVV6 dcV6 pmV6 ctV6 cdV6:Value}{odV6 anV6:Option Addr}{slV6:Array (Option Value)}{ocMI kVMI dcMI pmMI ctMI cdMI:Value}{odMI anMI:Option Addr}{slMI:Array (Option Value)}{ocE:Value}{odE:Option Addr}{slE:Array (Option Value)}{nE:Nat}{ocI kVI dcI pmI ctI cdI:Value}{odI anI:Option Addr}{slI:Array (Option Value)}{ocT:Value}{odT:Option Addr}{slT:Array (Option Value)}{nT:Nat}{t0 t1 t2 t3 t4 t5:Tok}
  (a1:PySem.W.nsIn K mainGlobals "_law_mixed"=some (some (.ref f1)))
  (l1:K.lookup f1=some ⟨oc1,od1,.func (PySem.W.fnOf "_law_mixed" "_law_mixed" (aH jY) (aF jY) (aB jY) .none kV1 dc1 pm1 an1 cd1 ct1),sl1⟩)
  (c1:PySem.W.codeIn K cd1 "_law_mixed"=true)
  (k1:PySem.W.keepIn K (.ref f1)=true)
  (a2:PySem.W.nsIn K mainGlobals "_law_cell_at"=some (some (.ref f2)))
  (l2:K.lookup f2=some ⟨oc2,od2,.func (PySem.W.fnOf "_law_cell_at" "_law_cell_at" (aH tM) (aF tM) (aB tM) .none kV2 dc2 pm2 an2 cd2 ct2),sl2⟩)
  (c2:PySem.W.codeIn K cd2 "_law_cell_at"=true)
  (k2:PySem.W.keepIn K (.ref f2)=true)
  (a3:PySem.W.nsIn K mainGlobals "is_name"=some (some (.ref f3)))
  (l3:K.lookup f3=some ⟨oc3,od3,.func (PySem.W.fnOf "is_name" "is_name" (aH jP) (aF jP) (aB jP) .none kV3 dc3 pm3 an3 cd3 ct3),sl3⟩)
  (c3:PySem.W.codeIn K cd3 "is_name"=true)
  (k3:PySem.W.keepIn K (.ref f3)=true)
  (a4:PySem.W.nsIn K mainGlobals "refuse_names"=some (some (.ref f4)))
  (l4:K.lookup f4=some ⟨oc4,od4,.func (PySem.W.fnOf "refuse_names" "refuse_names" (aH lJ) (aF lJ) (aB lJ) .none kV4 dc4 pm4 an4 cd4 ct4),sl4⟩)
  (c4:PySem.W.codeIn K cd4 "refuse_names"=true)
  (k4:PySem.W.keepIn K (.ref f4)=true)
  (a5:PySem.W.nsIn K mainGlobals "weights_of"=some (some (.ref f5)))
  (l5:K.lookup f5=some ⟨oc5,od5,.func (PySem.W.fnOf "weights_of" "weights_of" (aH iW) (aF iW) (aB iW) .none kV5 dc5 pm5 an5 cd5 ct5),sl5⟩)
  (c5:PySem.W.codeIn K cd5 "weights_of"=true)
  (k5:PySem.W.keepIn K (.ref f5)=true)
  (a6:PySem.W.nsIn K mainGlobals "marks_of"=some (some (.ref f6)))
  (l6:K.lookup f6=some ⟨oc6,od6,.func (PySem.W.fnOf "marks_of" "marks_of" (aH oN) (aF oN) (aB oN) .none kV6 dc6 pm6 an6 cd6 ct6),sl6⟩)
  (c6:PySem.W.codeIn K cd6 "marks_of"=true)
  (k6:PySem.W.keepIn K (.ref f6)=true)
  (a7:PySem.W.nsIn K mainGlobals "_law_names_by"=some (some (.ref f7)))
  (l7:K.lookup f7=some ⟨oc7,od7,.func (PySem.W.fnOf "_law_names_by" "_law_names_by" (aH gI) (aF gI) (aB gI) .none kV7 dc7 pm7 an7 cd7 ct7),sl7⟩)
  (c7:PySem.W.codeIn K cd7 "_law_names_by"=true)
  (k7:PySem.W.keepIn K (.ref f7)=true)
  (a8:PySem.W.nsIn K mainGlobals "_law_deeds_by"=some (some (.ref f8)))
  (l8:K.lookup f8=some ⟨oc8,od8,.func (PySem.W.fnOf "_law_deeds_by" "_law_deeds_by" (aH hG) (aF hG) (aB hG) .none kV8 dc8 pm8 an8 cd8 ct8),sl8⟩)
  (c8:PySem.W.codeIn K cd8 "_law_deeds_by"=true)
  (k8:PySem.W.keepIn K (.ref f8)=true)
  (a9:PySem.W.nsIn K mainGlobals "_law_word"=some (some (.ref f9)))
  (l9:K.lookup f9=some ⟨oc9,od9,.func (PySem.W.fnOf "_law_word" "_law_word" (aH tJ) (aF tJ) (aB tJ) .none kV9 dc9 pm9 an9 cd9 ct9),sl9⟩)
  (c9:PySem.W.codeIn K cd9 "_law_word"=true)
  (k9:PySem.W.keepIn K (.ref f9)=true)
  (a10:PySem.W.nsIn K mainGlobals "_law_tried"=some (some (.ref f10)))
  (l10:K.lookup f10=some ⟨oc10,od10,.func (PySem.W.fnOf "_law_tried" "_law_tried" (aH mI) (aF mI) (aB mI) .none kV10 dc10 pm10 an10 cd10 ct10),sl10⟩)
  (c10:PySem.W.codeIn K cd10 "_law_tried"=true)
  (k10:PySem.W.keepIn K (.ref f10)=true)
  (a11:PySem.W.nsIn K mainGlobals "named_rooms"=some (some (.ref f11)))
  (l11:K.lookup f11=some ⟨oc11,od11,.func (PySem.W.fnOf "named_rooms" "named_rooms" (aH oM) (aF oM) (aB oM) .none kV11 dc11 pm11 an11 cd11 ct11),sl11⟩)
  (c11:PySem.W.codeIn K cd11 "named_rooms"=true)
  (k11:PySem.W.keepIn K (.ref f11)=true)
  (a12:PySem.W.nsIn K mainGlobals "refuse_rooms"=some (some (.ref f12)))
  (l12:K.lookup f12=some ⟨oc12,od12,.func (PySem.W.fnOf "refuse_rooms" "refuse_rooms" (aH gQ) (aF gQ) (aB gQ) .none kV12 dc12 pm12 an12 cd12 ct12),sl12⟩)
  (c12:PySem.W.codeIn K cd12 "refuse_rooms"=true)
  (k12:PySem.W.keepIn K (.ref f12)=true)
  (a13:PySem.W.nsIn K mainGlobals "leads_of"=some (some (.ref f13)))
  (l13:K.lookup f13=some ⟨oc13,od13,.func (PySem.W.fnOf "leads_of" "leads_of" (aH oO) (aF oO) (aB oO) .none kV13 dc13 pm13 an13 cd13 ct13),sl13⟩)
  (c13:PySem.W.codeIn K cd13 "leads_of"=true)
  (k13:PySem.W.keepIn K (.ref f13)=true)
  (a14:PySem.W.nsIn K mainGlobals "_law_rooms_by"=some (some (.ref f14)))
  (l14:K.lookup f14=some ⟨oc14,od14,.func (PySem.W.fnOf "_law_rooms_by" "_law_rooms_by" (aH gX) (aF gX) (aB gX) .none kV14 dc14 pm14 an14 cd14 ct14),sl14⟩)
  (c14:PySem.W.codeIn K cd14 "_law_rooms_by"=true)
  (k14:PySem.W.keepIn K (.ref f14)=true)
  (a15:PySem.W.nsIn K mainGlobals "_law_machine_by"=some (some (.ref f15)))
  (l15:K.lookup f15=some ⟨oc15,od15,.func (PySem.W.fnOf "_law_machine_by" "_law_machine_by" (aH dW) (aF dW) (aB dW) .none kV15 dc15 pm15 an15 cd15 ct15),sl15⟩)
  (c15:PySem.W.codeIn K cd15 "_law_machine_by"=true)
  (k15:PySem.W.keepIn K (.ref f15)=true)
  (a16:PySem.W.nsIn K mainGlobals "_law_plant_by"=some (some (.ref f16)))
  (l16:K.lookup f16=some ⟨oc16,od16,.func (PySem.W.fnOf "_law_plant_by" "_law_plant_by" (aH gY) (aF gY) (aB gY) .none kV16 dc16 pm16 an16 cd16 ct16),sl16⟩)
  (c16:PySem.W.codeIn K cd16 "_law_plant_by"=true)
  (k16:PySem.W.keepIn K (.ref f16)=true)
  (a17:PySem.W.nsIn K mainGlobals "_law_more"=some (some (.ref f17)))
  (l17:K.lookup f17=some ⟨oc17,od17,.func (PySem.W.fnOf "_law_more" "_law_more" (aH tL) (aF tL) (aB tL) .none kV17 dc17 pm17 an17 cd17 ct17),sl17⟩)
  (c17:PySem.W.codeIn K cd17 "_law_more"=true)
  (k17:PySem.W.keepIn K (.ref f17)=true)
  (a18:PySem.W.nsIn K mainGlobals "_law_machines"=some (some (.ref f18)))
  (l18:K.lookup f18=some ⟨oc18,od18,.func (PySem.W.fnOf "_law_machines" "_law_machines" (aH gC) (aF gC) (aB gC) .none kV18 dc18 pm18 an18 cd18 ct18),sl18⟩)
  (c18:PySem.W.codeIn K cd18 "_law_machines"=true)
  (k18:PySem.W.keepIn K (.ref f18)=true)
  (a19:PySem.W.nsIn K mainGlobals "_law_maps"=some (some (.ref f19)))
  (l19:K.lookup f19=some ⟨oc19,od19,.func (PySem.W.fnOf "_law_maps" "_law_maps" (aH qS) (aF qS) (aB qS) .none kV19 dc19 pm19 an19 cd19 ct19),sl19⟩)
  (c19:PySem.W.codeIn K cd19 "_law_maps"=true)
  (k19:PySem.W.keepIn K (.ref f19)=true)
  (a20:PySem.W.nsIn K mainGlobals "_law_step"=some (some (.ref f20)))
  (l20:K.lookup f20=some ⟨oc20,od20,.func (PySem.W.fnOf "_law_step" "_law_step" (aH tK) (aF tK) (aB tK) .none kV20 dc20 pm20 an20 cd20 ct20),sl20⟩)
  (c20:PySem.W.codeIn K cd20 "_law_step"=true)
  (k20:PySem.W.keepIn K (.ref f20)=true)
  (a21:PySem.W.nsIn K mainGlobals "_law_room_by"=some (some (.ref f21)))
  (l21:K.lookup f21=some ⟨oc21,od21,.func (PySem.W.fnOf "_law_room_by" "_law_room_by" (aH iI) (aF iI) (aB iI) .none kV21 dc21 pm21 an21 cd21 ct21),sl21⟩)
  (c21:PySem.W.codeIn K cd21 "_law_room_by"=true)
  (k21:PySem.W.keepIn K (.ref f21)=true)
  (a22:PySem.W.nsIn K mainGlobals "_law_room_good"=some (some (.ref f22)))
  (l22:K.lookup f22=some ⟨oc22,od22,.func (PySem.W.fnOf "_law_room_good" "_law_room_good" (aH fX) (aF fX) (aB fX) .none kV22 dc22 pm22 an22 cd22 ct22),sl22⟩)
  (c22:PySem.W.codeIn K cd22 "_law_room_good"=true)
  (k22:PySem.W.keepIn K (.ref f22)=true)
  (a23:PySem.W.nsIn K mainGlobals "begin_of"=some (some (.ref f23)))
  (l23:K.lookup f23=some ⟨oc23,od23,.func (PySem.W.fnOf "begin_of" "begin_of" (aH hJ) (aF hJ) (aB hJ) .none kV23 dc23 pm23 an23 cd23 ct23),sl23⟩)
  (c23:PySem.W.codeIn K cd23 "begin_of"=true)
  (k23:PySem.W.keepIn K (.ref f23)=true)
  (a24:PySem.W.nsIn K mainGlobals "far_of"=some (some (.ref f24)))
  (l24:K.lookup f24=some ⟨oc24,od24,.func (PySem.W.fnOf "far_of" "far_of" (aH mJ) (aF mJ) (aB mJ) .none kV24 dc24 pm24 an24 cd24 ct24),sl24⟩)
  (c24:PySem.W.codeIn K cd24 "far_of"=true)
  (k24:PySem.W.keepIn K (.ref f24)=true)
  (a25:PySem.W.nsIn K mainGlobals "all_at_ends"=some (some (.ref f25)))
  (l25:K.lookup f25=some ⟨oc25,od25,.func (PySem.W.fnOf "all_at_ends" "all_at_ends" (aH hU) (aF hU) (aB hU) .none kV25 dc25 pm25 an25 cd25 ct25),sl25⟩)
  (c25:PySem.W.codeIn K cd25 "all_at_ends"=true)
  (k25:PySem.W.keepIn K (.ref f25)=true)
  (a26:PySem.W.nsIn K mainGlobals "known_of"=some (some (.ref f26)))
  (l26:K.lookup f26=some ⟨oc26,od26,.func (PySem.W.fnOf "known_of" "known_of" (aH iY) (aF iY) (aB iY) .none kV26 dc26 pm26 an26 cd26 ct26),sl26⟩)
  (c26:PySem.W.codeIn K cd26 "known_of"=true)
  (k26:PySem.W.keepIn K (.ref f26)=true)
  (a27:PySem.W.nsIn K mainGlobals "law"=some (some (.ref f27)))
  (l27:K.lookup f27=some ⟨oc27,od27,.func (PySem.W.fnOf "law" "law" (aH iR) (aF iR) (aB iR) .none kV27 dc27 pm27 an27 (.ref c0) ct27),sl27⟩)
  (c27:PySem.W.codeIn K (.ref c0) "law"=true)
  (k27:PySem.W.keepIn K (.ref f27)=true)
  (aC:PySem.W.nsIn K mainGlobals "Deeds"=some (some (.ref C)))
  (qm0:PySem.W.findIn K (.ref C) "has"=some (some (.ref fm0)))
  (lm0:K.lookup fm0=some ⟨ocm0,odm0,.func (PySem.W.fnOf "has" "Deeds.has" (aH yK) (aF yK) (aB yK) .none kVm0 dcm0 pmm0 anm0 cdm0 ctm0),slm0⟩)
  (cm0:PySem.W.codeIn K cdm0 "Deeds.has"=true)
  (km0:PySem.W.keepIn K (.ref fm0)=true)
  (nm0:PySem.W.isFn K (.ref fm0)=true)
  (qm1:PySem.W.findIn K (.ref C) "require"=some (some (.ref fm1)))
  (lm1:K.lookup fm1=some ⟨ocm1,odm1,.func (PySem.W.fnOf "require" "Deeds.require" (aH iX) (aF iX) (aB iX) .none kVm1 dcm1 pmm1 anm1 cdm1 ctm1),slm1⟩)
  (cm1:PySem.W.codeIn K cdm1 "Deeds.require"=true)
  (km1:PySem.W.keepIn K (.ref fm1)=true)
  (nm1:PySem.W.isFn K (.ref fm1)=true)
  (aM:PySem.W.nsIn K mainGlobals "Machine"=some (some (.ref CM)))
  (qM0:PySem.W.findIn K (.ref CM) "deeds"=some (some (.ref fM0)))
  (lM0:K.lookup fM0=some ⟨ocM0,odM0,.func (PySem.W.fnOf "deeds" "Machine.deeds" (aH oY) (aF oY) (aB oY) .none kVM0 dcM0 pmM0 anM0 cdM0 ctM0),slM0⟩)
  (cM0:PySem.W.codeIn K cdM0 "Machine.deeds"=true)
  (kM0:PySem.W.keepIn K (.ref fM0)=true)
  (nM0:PySem.W.isFn K (.ref fM0)=true)
  (qM1:PySem.W.findIn K (.ref CM) "begin"=some (some (.ref fM1)))
  (lM1:K.lookup fM1=some ⟨ocM1,odM1,.func (PySem.W.fnOf "begin" "Machine.begin" (aH oZ) (aF oZ) (aB oZ) .none kVM1 dcM1 pmM1 anM1 cdM1 ctM1),slM1⟩)
  (cM1:PySem.W.codeIn K cdM1 "Machine.begin"=true)
  (kM1:PySem.W.keepIn K (.ref fM1)=true)
  (nM1:PySem.W.isFn K (.ref fM1)=true)
  (qM2:PySem.W.findIn K (.ref CM) "knows"=some (some (.ref fM2)))
  (lM2:K.lookup fM2=some ⟨ocM2,odM2,.func (PySem.W.fnOf "knows" "Machine.knows" (aH oW) (aF oW) (aB oW) .none kVM2 dcM2 pmM2 anM2 cdM2 ctM2),slM2⟩)
  (cM2:PySem.W.codeIn K cdM2 "Machine.knows"=true)
  (kM2:PySem.W.keepIn K (.ref fM2)=true)
  (nM2:PySem.W.isFn K (.ref fM2)=true)
  (qM3:PySem.W.findIn K (.ref CM) "require_room"=some (some (.ref fM3)))
  (lM3:K.lookup fM3=some ⟨ocM3,odM3,.func (PySem.W.fnOf "require_room" "Machine.require_room" (aH jA) (aF jA) (aB jA) .none kVM3 dcM3 pmM3 anM3 cdM3 ctM3),slM3⟩)
  (cM3:PySem.W.codeIn K cdM3 "Machine.require_room"=true)
  (kM3:PySem.W.keepIn K (.ref fM3)=true)
  (nM3:PySem.W.isFn K (.ref fM3)=true)
  (qM4:PySem.W.findIn K (.ref CM) "is_end"=some (some (.ref fM4)))
  (lM4:K.lookup fM4=some ⟨ocM4,odM4,.func (PySem.W.fnOf "is_end" "Machine.is_end" (aH oX) (aF oX) (aB oX) .none kVM4 dcM4 pmM4 anM4 cdM4 ctM4),slM4⟩)
  (cM4:PySem.W.codeIn K cdM4 "Machine.is_end"=true)
  (kM4:PySem.W.keepIn K (.ref fM4)=true)
  (nM4:PySem.W.isFn K (.ref fM4)=true)
  (qM5:PySem.W.findIn K (.ref CM) "goes"=some (some (.ref fM5)))
  (lM5:K.lookup fM5=some ⟨ocM5,odM5,.func (PySem.W.fnOf "goes" "Machine.goes" (aH tU) (aF tU) (aB tU) .none kVM5 dcM5 pmM5 anM5 cdM5 ctM5),slM5⟩)
  (cM5:PySem.W.codeIn K cdM5 "Machine.goes"=true)
  (kM5:PySem.W.keepIn K (.ref fM5)=true)
  (nM5:PySem.W.isFn K (.ref fM5)=true)
  (aV:PySem.W.nsIn K mainGlobals "Woven"=some (some (.ref CW)))
  (qV0:PySem.W.findIn K (.ref CW) "deeds"=some (some (.ref fV0)))
  (lV0:K.lookup fV0=some ⟨ocV0,odV0,.func (PySem.W.fnOf "deeds" "Woven.deeds" (aH oG) (aF oG) (aB oG) .none kVV0 dcV0 pmV0 anV0 cdV0 ctV0),slV0⟩)
  (cV0:PySem.W.codeIn K cdV0 "Woven.deeds"=true)
  (kV0:PySem.W.keepIn K (.ref fV0)=true)
  (nV0:PySem.W.isFn K (.ref fV0)=true)
  (qV1:PySem.W.findIn K (.ref CW) "begin"=some (some (.ref fV1)))
  (lV1:K.lookup fV1=some ⟨ocV1,odV1,.func (PySem.W.fnOf "begin" "Woven.begin" (aH oH) (aF oH) (aB oH) .none kVV1 dcV1 pmV1 anV1 cdV1 ctV1),slV1⟩)
  (cV1:PySem.W.codeIn K cdV1 "Woven.begin"=true)
  (kV1:PySem.W.keepIn K (.ref fV1)=true)
  (nV1:PySem.W.isFn K (.ref fV1)=true)
  (qV2:PySem.W.findIn K (.ref CW) "knows"=some (some (.ref fV2)))
  (lV2:K.lookup fV2=some ⟨ocV2,odV2,.func (PySem.W.fnOf "knows" "Woven.knows" (aH oE) (aF oE) (aB oE) .none kVV2 dcV2 pmV2 anV2 cdV2 ctV2),slV2⟩)
  (cV2:PySem.W.codeIn K cdV2 "Woven.knows"=true)
  (kV2:PySem.W.keepIn K (.ref fV2)=true)
  (nV2:PySem.W.isFn K (.ref fV2)=true)
  (qV3:PySem.W.findIn K (.ref CW) "at"=some (some (.ref fV3)))
  (lV3:K.lookup fV3=some ⟨ocV3,odV3,.func (PySem.W.fnOf "at" "Woven.at" (aH wAt) (aF wAt) (aB wAt) .none kVV3 dcV3 pmV3 anV3 cdV3 ctV3),slV3⟩)
  (cV3:PySem.W.codeIn K cdV3 "Woven.at"=true)
  (kV3:PySem.W.keepIn K (.ref fV3)=true)
  (nV3:PySem.W.isFn K (.ref fV3)=true)
  (qV4:PySem.W.findIn K (.ref CW) "to"=some (some (.ref fV4)))
  (lV4:K.lookup fV4=some ⟨ocV4,odV4,.func (PySem.W.fnOf "to" "Woven.to" (aH wTo) (aF wTo) (aB wTo) .none kVV4 dcV4 pmV4 anV4 cdV4 ctV4),slV4⟩)
  (cV4:PySem.W.codeIn K cdV4 "Woven.to"=true)
  (kV4:PySem.W.keepIn K (.ref fV4)=true)
  (nV4:PySem.W.isFn K (.ref fV4)=true)
  (qV5:PySem.W.findIn K (.ref CW) "is_end"=some (some (.ref fV5)))
  (lV5:K.lookup fV5=some ⟨ocV5,odV5,.func (PySem.W.fnOf "is_end" "Woven.is_end" (aH oF) (aF oF) (aB oF) .none kVV5 dcV5 pmV5 anV5 cdV5 ctV5),slV5⟩)
  (cV5:PySem.W.codeIn K cdV5 "Woven.is_end"=true)
  (kV5:PySem.W.keepIn K (.ref fV5)=true)
  (nV5:PySem.W.isFn K (.ref fV5)=true)
  (qV6:PySem.W.findIn K (.ref CW) "__init__"=some (some (.ref fV6)))
  (lV6:K.lookup fV6=some ⟨ocV6,odV6,.func (PySem.W.fnOf "__init__" "Woven.__init__" (aH sP) (aF sP) (aB sP) .none kVV6 dcV6 pmV6 anV6 cdV6 ctV6),slV6⟩)
  (cV6:PySem.W.codeIn K cdV6 "Woven.__init__"=true)
  (kV6:PySem.W.keepIn K (.ref fV6)=true)
  (nV6:PySem.W.isFn K (.ref fV6)=true)
  (mkV:PySem.W.makesIn K CW=true)
  (kpV:PySem.W.keepIn K (.ref CW)=true)
  (pgV:PySem.W.plainGet K CW Str.empty=true)
  (hdV:PySem.W.hasDictIn K CW=true)
  (poV:PySem.W.plainOver K CW=true)
  (saV:PySem.W.findIn K (.ref CW) "__setattr__" = some (some (.builtin "object.__setattr__")))
  (nV0_:PySem.W.findIn K (.ref CW) "machines"=some none)
  (nV1_:PySem.W.findIn K (.ref CW) "known_marks"=some none)
  (qMI:PySem.W.findIn K (.ref CM) "__init__"=some (some (.ref fMI)))
  (lMI:K.lookup fMI=some ⟨ocMI,odMI,.func (PySem.W.fnOf "__init__" "Machine.__init__" (aH gO) (aF gO) (aB gO) (.ref Te) kVMI dcMI pmMI anMI cdMI ctMI),slMI⟩)
  (cMI:PySem.W.codeIn K cdMI "Machine.__init__"=true)
  (kMI:PySem.W.keepIn K (.ref fMI)=true)
  (nMI:PySem.W.isFn K (.ref fMI)=true)
  (lE:K.lookup Te=some ⟨ocE,odE,.seq #[.none] nE,slE⟩)
  (mkM:PySem.W.makesIn K CM=true)
  (kpM:PySem.W.keepIn K (.ref CM)=true)
  (pgM:PySem.W.plainGet K CM Str.empty=true)
  (hdM:PySem.W.hasDictIn K CM=true)
  (poM:PySem.W.plainOver K CM=true)
  (saM:PySem.W.findIn K (.ref CM) "__setattr__" = some (some (.builtin "object.__setattr__")))
  (nM0_:PySem.W.findIn K (.ref CM) "leads"=some none)
  (nM1_:PySem.W.findIn K (.ref CM) "deeds_made_of"=some none)
  (nM2_:PySem.W.findIn K (.ref CM) "first_room"=some none)
  (nM3_:PySem.W.findIn K (.ref CM) "end_marks"=some none)
  (nM4_:PySem.W.findIn K (.ref CM) "known_marks"=some none)
  (qI:PySem.W.findIn K (.ref C) "__init__"=some (some (.ref fI)))
  (lI:K.lookup fI=some ⟨ocI,odI,.func (PySem.W.fnOf "__init__" "Deeds.__init__" (aH nK) (aF nK) (aB nK) (.ref Td) kVI dcI pmI anI cdI ctI),slI⟩)
  (cI:PySem.W.codeIn K cdI "Deeds.__init__"=true)
  (kI:PySem.W.keepIn K (.ref fI)=true)
  (nI:PySem.W.isFn K (.ref fI)=true)
  (lT:K.lookup Td=some ⟨ocT,odT,.seq #[.none] nT,slT⟩)
  (mkC:PySem.W.makesIn K C=true)
  (kpC:PySem.W.keepIn K (.ref C)=true)
  (pgC:PySem.W.plainGet K C Str.empty=true)
  (hdC:PySem.W.hasDictIn K C=true)
  (poC:PySem.W.plainOver K C=true)
  (saC:PySem.W.findIn K (.ref C) "__setattr__" = some (some (.builtin "object.__setattr__")))
  (nwC:PySem.W.findIn K (.ref C) "weights"=some none)
  (nfC:PySem.W.findIn K (.ref C) "free_marks"=some none)
  (e0:PySem.W.nsIn K mainGlobals "NoName"=some (some (.ref d0)))
  (e1:PySem.W.nsIn K mainGlobals "NoDeed"=some (some (.ref d1)))
  (e2:PySem.W.nsIn K mainGlobals "NoRoom"=some (some (.ref d2)))
  (e3:PySem.W.nsIn K mainGlobals "TwiceTold"=some (some (.ref d3)))
  (e4:PySem.W.nsIn K mainGlobals "TooMany"=some (some (.ref d4)))
  (e5:PySem.W.nsIn K mainGlobals "NoRule"=some (some (.ref d5)))
  (e6:PySem.W.nsIn K mainGlobals "NoRow"=some (some (.ref d6)))
  (e7:PySem.W.nsIn K mainGlobals "NoHold"=some (some (.ref d7)))
  (e8:PySem.W.nsIn K mainGlobals "NoHolder"=some (some (.ref d8)))
  (e9:PySem.W.nsIn K mainGlobals "FreeDeed"=some (some (.ref d9)))
  (e10:PySem.W.nsIn K mainGlobals "NotNow"=some (some (.ref d10)))
  (e11:PySem.W.nsIn K mainGlobals "NoWarden"=some (some (.ref d11)))
  (e12:PySem.W.nsIn K mainGlobals "NoText"=some (some (.ref d12)))
  (e13:PySem.W.nsIn K mainGlobals "NoBook"=some (some (.ref d13)))
  (eW:PySem.W.nsIn K mainGlobals "WardError"=some (some (.ref W)))
  (xa0:PySem.W.excIn K d0 qJ "ValueError.__new__"=true)
  (xa1:PySem.W.excIn K d1 qJ "ValueError.__new__"=true)
  (xa2:PySem.W.excIn K d2 qJ "ValueError.__new__"=true)
  (xa3:PySem.W.excIn K d3 qJ "ValueError.__new__"=true)
  (xa4:PySem.W.excIn K d4 qJ "ValueError.__new__"=true)
  (xb1:PySem.W.findIn K (.ref d1) "__class__" = some (some (.builtin "object.__class__")))
  (xc1:PySem.W.findIn K (.ref d1) "__getattribute__" = some (some (.builtin "BaseException.__getattribute__")))
  (xd1:PySem.W.findIn K (.ref d1) "__getattr__"=some none)
  (xe1:PySem.W.mroIn K d1 (.type "object")=some true)
  (xf1:PySem.W.mroIn K d1 (.type "BaseException")=some true)
  (xb2:PySem.W.findIn K (.ref d2) "__class__" = some (some (.builtin "object.__class__")))
  (xc2:PySem.W.findIn K (.ref d2) "__getattribute__" = some (some (.builtin "BaseException.__getattribute__")))
  (xd2:PySem.W.findIn K (.ref d2) "__getattr__"=some none)
  (xe2:PySem.W.mroIn K d2 (.type "object")=some true)
  (xf2:PySem.W.mroIn K d2 (.type "BaseException")=some true)
  (kt:aPt K [d0,d1,d2,d3,d4,d5,d6,d7,d8,d9,d10,d11,d12,d13]=true)
  (kv:veB K [d0,d1,d2,d3,d4,d5,d6,d7,d8,d9,d10,d11,d12,d13]=true)
  (kw:exB K [d0,d1,d2,d3,d4,d5,d6,d7,d8,d9,d10,d11,d12,d13] W=true)
  (hhd:PySem.W.codeHdIn K c0 Pt=true)
  (cst0:PySem.W.nsIn K mainGlobals "LETTERS"=some (some (.str iO t0)))
  (cst1:PySem.W.nsIn K mainGlobals "FIGURES"=some (some (.str jN t1)))
  (cst2:PySem.W.nsIn K mainGlobals "MOST_SIGNS"=some (some (.int 8 t2)))
  (cst3:PySem.W.nsIn K mainGlobals "MOST_DEEDS"=some (some (.int 12 t3)))
  (cst4:PySem.W.nsIn K mainGlobals "MOST_ROOMS"=some (some (.int 60 t4)))
  (cst5:PySem.W.nsIn K mainGlobals "MOST_WOVEN"=some (some (.int 7 t5)))
  (z0:PySem.W.nsIn K mainGlobals "isinstance"=some none)
  (z1:PySem.W.nsIn K mainGlobals "str"=some none)
  (z2:PySem.W.nsIn K mainGlobals "bool"=some none)
  (z3:PySem.W.nsIn K mainGlobals "int"=some none)
  (z4:PySem.W.nsIn K mainGlobals "len"=some none)
  (z5:PySem.W.nsIn K mainGlobals "all"=some none)
  (z6:PySem.W.nsIn K mainGlobals "range"=some none)
  (z7:PySem.W.nsIn K mainGlobals "sorted"=some none)
  (z8:PySem.W.nsIn K mainGlobals "list"=some none)
  (z9:PySem.W.nsIn K mainGlobals "enumerate"=some none)
  (z10:PySem.W.nsIn K mainGlobals "ValueError"=some none)
  (z11:PySem.W.nsIn K mainGlobals "set"=some none)
  (z12:PySem.W.nsIn K mainGlobals "tuple"=some none)
  (z13:PySem.W.nsIn K mainGlobals "zip"=some none)
  (z14:PySem.W.nsIn K mainGlobals "sum"=some none) :
  ∃ fd:FuncData,(∀ (s:Shared) (v:Value),BindsTo s fd ⟨[v],[]⟩ [("_law_script",v)])∧∀ base:Heap,K.In base->base.Ns mainGlobals mg->lA mg base->aX l.prog w K mg base CX0 9 fa fd ["_law_script"] (aAn K Pt):=by
 have e:=hfa.symm.trans (PySem.W.mg_of X G a27);cases e;have T:Txt K mg:=⟨⟨_,PySem.W.mg_of X G cst0⟩,⟨_,PySem.W.mg_of X G cst1⟩,⟨_,PySem.W.mg_of X G cst2⟩,⟨_,PySem.W.mg_of X G cst3⟩,PySem.W.mg_none_of X G z0,PySem.W.mg_none_of X G z1,PySem.W.mg_none_of X G z2,PySem.W.mg_none_of X G z3,PySem.W.mg_none_of X G z4,PySem.W.mg_none_of X G z5,PySem.W.mg_none_of X G z6,PySem.W.mg_none_of X G z7,PySem.W.mg_none_of X G z8,PySem.W.mg_none_of X G z9⟩;have F1:=cA (st:=jY) l1 c1 k1;have b1:=F1.binds (ps:=["_law_cell","_law_k"]) fun _ _ _ _ _ _=>lQ (fun _ _=>rfl);have F2:=cA (st:=tM) l2 c2 k2;have b2:=F2.binds (ps:=["_law_script","_law_k"]) fun _ _ _ _ _ _=>lQ (fun _ _=>rfl);have F3:=cA (st:=jP) l3 c3 k3;have b3:=F3.binds (ps:=["thing"]) fun _ _ _ _ _ _=>kH (fun _=>rfl);have F4:=cA (st:=lJ) l4 c4 k4;have b4:=F4.binds (ps:=["names"]) fun _ _ _ _ _ _=>kH (fun _=>rfl);have F5:=cA (st:=iW) l5 c5 k5;have b5:=F5.binds (ps:=["names"]) fun _ _ _ _ _ _=>kH (fun _=>rfl);have F6:=cA (st:=oN) l6 c6 k6;have b6:=F6.binds (ps:=["names"]) fun _ _ _ _ _ _=>kH (fun _=>rfl);have F7:=cA (st:=gI) l7 c7 k7;have b7:=F7.binds (ps:=["_law_cell","_law_many"]) fun _ _ _ _ _ _=>lQ (fun _ _=>rfl);have F8:=cA (st:=hG) l8 c8 k8;have b8:=F8.binds (ps:=["_law_cell"]) fun _ _ _ _ _ _=>kH (fun _=>rfl);have F9:=cA (st:=tJ) l9 c9 k9;have b9:=F9.binds (ps:=["_law_e"]) fun _ _ _ _ _ _=>kH (fun _=>rfl);have F10:=cA (st:=mI) l10 c10 k10;have b10:=F10.binds (ps:=["_law_deed"]) fun _ _ _ _ _ _=>kH (fun _=>rfl);have F11:=cA (st:=oM) l11 c11 k11;have b11:=F11.binds (ps:=["begin","ends","doors"]) fun _ _ _ _ _ _=>xJ (fun _ _ _=>rfl);have F12:=cA (st:=gQ) l12 c12 k12;have b12:=F12.binds (ps:=["rooms"]) fun _ _ _ _ _ _=>kH (fun _=>rfl);have F13:=cA (st:=oO) l13 c13 k13;have b13:=F13.binds (ps:=["rooms","doors"]) fun _ _ _ _ _ _=>lQ (fun _ _=>rfl);have F14:=cA (st:=gX) l14 c14 k14;have b14:=F14.binds (ps:=["_law_cell","_law_many"]) fun _ _ _ _ _ _=>lQ (fun _ _=>rfl);have F15:=cA (st:=dW) l15 c15 k15;have b15:=F15.binds (ps:=["_law_cell","_law_names","_law_many"]) fun _ _ _ _ _ _=>xJ (fun _ _ _=>rfl);have F16:=cA (st:=gY) l16 c16 k16;have b16:=F16.binds (ps:=["_law_cells","_law_names"]) fun _ _ _ _ _ _=>lQ (fun _ _=>rfl);have F17:=cA (st:=tL) l17 c17 k17;have b17:=F17.binds (ps:=["_law_plant","_law_cell","_law_names"]) fun _ _ _ _ _ _=>xJ (fun _ _ _=>rfl);have F18:=cA (st:=gC) l18 c18 k18;have b18:=F18.binds (ps:=["_law_deeds","_law_plant"]) fun _ _ _ _ _ _=>lQ (fun _ _=>rfl);have F19:=cA (st:=qS) l19 c19 k19;have b19:=F19.binds (ps:=["_law_plant"]) fun _ _ _ _ _ _=>kH (fun _=>rfl);have F20:=cA (st:=tK) l20 c20 k20;have b20:=F20.binds (ps:=["_law_maps_here","_law_room","_law_deed"]) fun _ _ _ _ _ _=>xJ (fun _ _ _=>rfl);have F21:=cA (st:=iI) l21 c21 k21;have b21:=F21.binds (ps:=["_law_plant","_law_cell"]) fun _ _ _ _ _ _=>lQ (fun _ _=>rfl);have F22:=cA (st:=fX) l22 c22 k22;have b22:=F22.binds (ps:=["_law_woven","_law_maps_here","_law_names","_law_room"]) fun _ _ _ _ _ _=>aPq (fun _ _ _ _=>rfl);have F23:=cA (st:=hJ) l23 c23 k23;have b23:=F23.binds (ps:=["machines"]) fun _ _ _ _ _ _=>kH (fun _=>rfl);have F24:=cA (st:=mJ) l24 c24 k24;have b24:=F24.binds (ps:=["machines","room","deed"]) fun _ _ _ _ _ _=>xJ (fun _ _ _=>rfl);have F25:=cA (st:=hU) l25 c25 k25;have b25:=F25.binds (ps:=["machines","room"]) fun _ _ _ _ _ _=>lQ (fun _ _=>rfl);have F26:=cA (st:=iY) l26 c26 k26;have b26:=F26.binds (ps:=["machines"]) fun _ _ _ _ _ _=>kH (fun _=>rfl);have Fm0:=cA (st:=yK) lm0 cm0 km0;have bm0:=Fm0.binds (ps:=["self","thing"]) fun _ _ _ _ _ _=>lQ (fun _ _=>rfl);have Mm0:eJ K C "has" fm0:=⟨qm0,nm0,km0⟩;have Fm1:=cA (st:=iX) lm1 cm1 km1;have bm1:=Fm1.binds (ps:=["self","row"]) fun _ _ _ _ _ _=>lQ (fun _ _=>rfl);have Mm1:eJ K C "require" fm1:=⟨qm1,nm1,km1⟩;have FM0:=cA (st:=oY) lM0 cM0 kM0;have bM0:=FM0.binds (ps:=["self"]) fun _ _ _ _ _ _=>kH (fun _=>rfl);have MM0:eJ K CM "deeds" fM0:=⟨qM0,nM0,kM0⟩;have FM1:=cA (st:=oZ) lM1 cM1 kM1;have bM1:=FM1.binds (ps:=["self"]) fun _ _ _ _ _ _=>kH (fun _=>rfl);have MM1:eJ K CM "begin" fM1:=⟨qM1,nM1,kM1⟩;have FM2:=cA (st:=oW) lM2 cM2 kM2;have bM2:=FM2.binds (ps:=["self"]) fun _ _ _ _ _ _=>kH (fun _=>rfl);have MM2:eJ K CM "knows" fM2:=⟨qM2,nM2,kM2⟩;have FM3:=cA (st:=jA) lM3 cM3 kM3;have bM3:=FM3.binds (ps:=["self","room"]) fun _ _ _ _ _ _=>lQ (fun _ _=>rfl);have MM3:eJ K CM "require_room" fM3:=⟨qM3,nM3,kM3⟩;have FM4:=cA (st:=oX) lM4 cM4 kM4;have bM4:=FM4.binds (ps:=["self","room"]) fun _ _ _ _ _ _=>lQ (fun _ _=>rfl);have MM4:eJ K CM "is_end" fM4:=⟨qM4,nM4,kM4⟩;have FM5:=cA (st:=tU) lM5 cM5 kM5;have bM5:=FM5.binds (ps:=["self","room","deed"]) fun _ _ _ _ _ _=>xJ (fun _ _ _=>rfl);have MM5:eJ K CM "goes" fM5:=⟨qM5,nM5,kM5⟩;have FV0:=cA (st:=oG) lV0 cV0 kV0;have bV0:=FV0.binds (ps:=["self"]) fun _ _ _ _ _ _=>kH (fun _=>rfl);have MV0:eJ K CW "deeds" fV0:=⟨qV0,nV0,kV0⟩;have FV1:=cA (st:=oH) lV1 cV1 kV1;have bV1:=FV1.binds (ps:=["self"]) fun _ _ _ _ _ _=>kH (fun _=>rfl);have MV1:eJ K CW "begin" fV1:=⟨qV1,nV1,kV1⟩;have FV2:=cA (st:=oE) lV2 cV2 kV2;have bV2:=FV2.binds (ps:=["self"]) fun _ _ _ _ _ _=>kH (fun _=>rfl);have MV2:eJ K CW "knows" fV2:=⟨qV2,nV2,kV2⟩;have FV3:=cA (st:=wAt) lV3 cV3 kV3;have bV3:=FV3.binds (ps:=["self","room"]) fun _ _ _ _ _ _=>lQ (fun _ _=>rfl);have MV3:eJ K CW "at" fV3:=⟨qV3,nV3,kV3⟩;have FV4:=cA (st:=wTo) lV4 cV4 kV4;have bV4:=FV4.binds (ps:=["self","room","deed"]) fun _ _ _ _ _ _=>xJ (fun _ _ _=>rfl);have MV4:eJ K CW "to" fV4:=⟨qV4,nV4,kV4⟩;have FV5:=cA (st:=oF) lV5 cV5 kV5;have bV5:=FV5.binds (ps:=["self","room"]) fun _ _ _ _ _ _=>lQ (fun _ _=>rfl);have MV5:eJ K CW "is_end" fV5:=⟨qV5,nV5,kV5⟩;have FV6:=cA (st:=sP) lV6 cV6 kV6;have bV6:=FV6.binds (ps:=["self","machines"]) fun _ _ _ _ _ _=>lQ (fun _ _=>rfl);have FI:aHf K "__init__" "Deeds.__init__" nK fI _:=⟨⟨_,_,_,_,_,_,_,_,_,_,rfl,lI,cI⟩,kI⟩
 have bI:bJ K _ ["self","names","free"] []:=fun s us KX hl=>by
  rw[List.append_nil] at hl ⊢;revert us;exact xJ fun _ _ _=>BindsTo.of_defaults (fd:=PySem.W.fnOf "__init__" "Deeds.__init__" (aH nK) (aF nK) (aB nK) (.ref Td) kVI dcI pmI anI cdI ctI) rfl (KX _ _ lT) rfl rfl rfl
 have FMI:aHf K "__init__" "Machine.__init__" gO fMI _:=⟨⟨_,_,_,_,_,_,_,_,_,_,rfl,lMI,cMI⟩,kMI⟩
 have bMI:bJ K _ ["self","deeds","begin","ends","doors","more"] []:=fun s us KX hl=>by
  rw[List.append_nil] at hl ⊢;revert us;exact aPo fun _ _ _ _ _ _=>BindsTo.of_defaults (fd:=PySem.W.fnOf "__init__" "Machine.__init__" (aH gO) (aF gO) (aB gO) (.ref Te) kVMI dcMI pmMI anMI cdMI ctMI) rfl (KX _ _ lE) rfl rfl rfl
 have bMI1:bJ K (PySem.W.fnOf "__init__" "Machine.__init__" (aH gO) (aF gO) (aB gO) (.ref Te) kVMI dcMI pmMI anMI cdMI ctMI) ["self","deeds","begin","ends","doors","more"] [.none]:=fun s us KX hl=>by
  have hl':us.length=5:=by
   have:us.length+1=6:=by simpa using hl
   omega
  clear hl;revert us;exact aPp fun _ _ _ _ _=>BindsTo.of_defaults (fd:=PySem.W.fnOf "__init__" "Machine.__init__" (aH gO) (aF gO) (aB gO) (.ref Te) kVMI dcMI pmMI anMI cdMI ctMI) rfl (KX _ _ lE) rfl rfl rfl
 have MC:pN K CM:=⟨⟨pgM,hdM,poM,saM⟩,nM0_,nM1_,nM2_,nM3_,nM4_⟩;have MMk:Mk K CM fMI:=⟨mkM,qMI,nMI,kpM⟩;have DC:aDq K C:=⟨⟨pgC,hdC,poC,saC⟩,nwC,nfC⟩;have MI:Mk K C fI:=⟨mkC,qI,nI,kpC⟩
 let ds:Nat->Addr:=fun j=>([d0,d1,d2,d3,d4,d5,d6,d7,d8,d9,d10,d11,d12,d13]:List Addr).getD j 0
 have Wf:Wd K mg ds:=by
  refine⟨tZ (ns:=nms) (as:=[d0,d1,d2,d3,d4,d5,d6,d7,d8,d9,d10,d11,d12,d13]) ⟨PySem.W.mg_of X G e0,PySem.W.mg_of X G e1,PySem.W.mg_of X G e2,PySem.W.mg_of X G e3,PySem.W.mg_of X G e4,PySem.W.mg_of X G e5,PySem.W.mg_of X G e6,PySem.W.mg_of X G e7,PySem.W.mg_of X G e8,PySem.W.mg_of X G e9,PySem.W.mg_of X G e10,PySem.W.mg_of X G e11,PySem.W.mg_of X G e12,PySem.W.mg_of X G e13,trivial⟩,fun i hi=>?_,fun i hi j hj=>?_,fun i hi=>?_,PySem.W.mg_none_of X G z10⟩
  ·rcases List.mem_cons.mp hi with rfl | hi
   ·exact⟨xa1,xb1,xc1,xd1,xe1,xf1⟩
   rcases List.mem_cons.mp hi with rfl | hi
   ·exact⟨xa2,xb2,xc2,xd2,xe2,xf2⟩
   cases hi
  ·exact beq_iff_eq.mp (List.all_eq_true.mp (List.all_eq_true.mp kt i hi) j (List.mem_range.mpr hj))
  ·exact beq_iff_eq.mp (List.all_eq_true.mp kv i hi)
 have hkw:∀ i∈gL,PySem.W.exmOne K (.ref (ds i)) (.ref W)=some true:=fun i hi=>beq_iff_eq.mp (List.all_eq_true.mp kw i hi);have Ex:Exc K mg (fun k=>ds (ix k)):=⟨PySem.W.mg_of X G e0,PySem.W.mg_of X G e1,PySem.W.mg_of X G e3,PySem.W.mg_of X G e4,fun k=>match k with | .noName=>xa0 | .noDeed=>xa1 | .twice=>xa3 | .tooMany=>xa4⟩
 have WC:sM K CW:=⟨⟨pgV,hdV,poV,saV⟩,nV0_,nV1_⟩;have WMk:Mk K CW fV6:=⟨mkV,qV6,nV6,kpV⟩;refine⟨PySem.W.fnOf "law" "law" (aH iR) (aF iR) (aB iR) .none kV27 dc27 pm27 an27 (.ref c0) ct27,fun s v=>.of_eq rfl,fun base _ _ bm=>?_⟩;have GQ:=yW (P:=l.prog) (w:=w) (mg:=mg) (base:=base) Fm1 T Ex DC F3 b3 (PySem.W.mg_of X G a3) Fm0 bm0 Mm0;have GK:=aFq (P:=l.prog) (w:=w) (mg:=mg) (base:=base) F6 T;have GC:=aIi (P:=l.prog) (w:=w) (mg:=mg) (base:=base) F2 T F1 b1 (PySem.W.mg_of X G a1);have zS:mg "set"=none:=PySem.W.mg_none_of X G z11;have zT:mg "tuple"=none:=PySem.W.mg_none_of X G z12;have zZ:mg "zip"=none:=PySem.W.mg_none_of X G z13;have zU:mg "sum"=none:=PySem.W.mg_none_of X G z14;have GRq:aX l.prog w K mg base (CXE l.prog w) 2 fM3 _ ["self","room"] (uL CM (ds 2)):=aFr FM3 T MC (PySem.W.mg_of X G e2) xa2 F3 b3 (PySem.W.mg_of X G a3);have GEd:aX l.prog w K mg base (CXE l.prog w) 3 fM4 _ ["self","room"] (oJ CM (ds 2)):=yZ FM4 MC GRq bM3 MM3;have GB:=aCp (P:=l.prog) (w:=w) (mg:=mg) (base:=base) FM1 MC;have GKn:=aCn (P:=l.prog) (w:=w) (mg:=mg) (base:=base) FM2 T MC;have GGo:=aFt (P:=l.prog) (w:=w) (mg:=mg) (base:=base) FM5 MC;have GMD:=aCo (P:=l.prog) (w:=w) (mg:=mg) (base:=base) FM0 MC;have GBO:=zC (P:=l.prog) (w:=w) (mg:=mg) (base:=base) F23 zT MC GB bM1 MM1;have GFO:=aFv (P:=l.prog) (w:=w) (mg:=mg) (base:=base) F24 zT zZ MC GGo bM5 MM5;have GAE:=zD (P:=l.prog) (w:=w) (mg:=mg) (base:=base) F25 T zZ MC GEd bM4 MM4;have GKO:=zA (P:=l.prog) (w:=w) (mg:=mg) (base:=base) F26 MC GKn bM2 MM2 GK k6 b6 (PySem.W.mg_of X G a6);have GWI:=aFo (P:=l.prog) (w:=w) (mg:=mg) (base:=base) FV6 T WC ⟨_,PySem.W.mg_of X G cst5⟩ GKO k26 b26 (PySem.W.mg_of X G a26);have GWD:=aCj (P:=l.prog) (w:=w) (mg:=mg) (base:=base) FV0 WC MC GMD bM0 MM0;have GWB:=aCk (P:=l.prog) (w:=w) (mg:=mg) (base:=base) FV1 WC GBO k23 b23 (PySem.W.mg_of X G a23);have GWK:=aCh (P:=l.prog) (w:=w) (mg:=mg) (base:=base) (CM:=CM) FV2 T WC;have GWE:=aCi (P:=l.prog) (w:=w) (mg:=mg) (base:=base) FV5 WC GAE k25 b25 (PySem.W.mg_of X G a25);have GWT:aX l.prog w K mg base (CXE l.prog w) 4 fV4 _ ["self","room","deed"] (sY K C CM CW (ds 1)):=aKz (cl:=fun k=>ds (ix k)) FV4 DC WC GWD bV0 MV0 GQ bm1 Mm1 GFO k24 b24 (PySem.W.mg_of X G a24);have GWA:=aLa (P:=l.prog) (w:=w) (mg:=mg) (base:=base) FV3 WC GWK bV2 MV2 GWT bV4 MV4;have GMB:=uX (P:=l.prog) (w:=w) (mg:=mg) (base:=base) F15 T (kG F1) k1 b1 (PySem.W.mg_of X G a1) (yV F14 T) k14 b14 (PySem.W.mg_of X G a14);have GMI:=aFs (P:=l.prog) (w:=w) (mg:=mg) (base:=base) FMI T DC MC ⟨_,PySem.W.mg_of X G cst4⟩ (aFp F11) k11 b11 (PySem.W.mg_of X G a11) (wU F12 T Ex F3 b3 (PySem.W.mg_of X G a3)) k12 b12 (PySem.W.mg_of X G a12) (aFu F13) k13 b13 (PySem.W.mg_of X G a13) GK k6 b6 (PySem.W.mg_of X G a6) GQ bm1 Mm1;have GSt:=aIe (P:=l.prog) (w:=w) (mg:=mg) (base:=base) F20 T zT
 exact aLb l27 c27 hhd bm T WC Wf hkw (PySem.W.mg_of X G eW) zT zS zU
  GC k2 b2 (PySem.W.mg_of X G a2)
  (zB F8 T F1 b1 (PySem.W.mg_of X G a1) F7 b7 (PySem.W.mg_of X G a7)) k8 b8 (PySem.W.mg_of X G a8)
  (aIh FI T DC (aCm F4 T Ex F3 b3 (PySem.W.mg_of X G a3)) k4 b4 (PySem.W.mg_of X G a4) (yU F5 T) k5 b5 (PySem.W.mg_of X G a5) GK k6 b6 (PySem.W.mg_of X G a6) GQ bm1 Mm1) MI bI (PySem.W.mg_of X G aC)
  (yX F16 T GMB k15 b15 (PySem.W.mg_of X G a15)) k16 b16 (PySem.W.mg_of X G a16)
  (aIf F17 T (kG F1) k1 b1 (PySem.W.mg_of X G a1) GMB k15 b15 (PySem.W.mg_of X G a15)) k17 b17 (PySem.W.mg_of X G a17)
  (aIg F19) k19 b19 (PySem.W.mg_of X G a19)
  (wV F18 GMI MMk bMI (PySem.W.mg_of X G aM)) k18 b18 (PySem.W.mg_of X G a18)
  GWI WMk bV6 (PySem.W.mg_of X G aV)
  GWK bV2 MV2 GWB bV1 MV1 GWA bV3 MV3 GWT bV4 MV4
  (aCl F21 T zT (kG F1) k1 b1 (PySem.W.mg_of X G a1)) k21 b21 (PySem.W.mg_of X G a21)
  (wT F22 T zZ WC GSt k20 b20 (PySem.W.mg_of X G a20) GWA bV3 MV3 GWE bV5 MV5 GWT bV4 MV4) k22 b22 (PySem.W.mg_of X G a22)
  F10 b10 (PySem.W.mg_of X G a10) (aId F9 T Wf) k9 b9 (PySem.W.mg_of X G a9)
theorem walk {l:PySem.W.OpenLaw}{q:Program}{loose:List Str}{XP:(Str->Option Value)->Heap->Prop}{YP:World->Heap->Prop}{d:DefRec}{K:Params->PySem.W.Frag}{c0:Addr}(Pt:Addr) (hn:l.most=some 63) (hdf:d.params.defaults=[])
  (hY:∀ (w:World) (h:Heap),YP w h->(K w.params).In h∧∀ p∈[Pt],h.get? p=some (PySem.W.tabObj #[]))
  (F:∀ (w:World) (mg:Str->Option Value) (fa:Addr) (h:Heap),(K w.params).In h->h.Ns mainGlobals mg->mg d.name=some (.ref fa) ->
   ∃ fd:FuncData,(∀ (s:Shared) (u:Value),BindsTo s fd ⟨[u],[]⟩ [("_law_script",u)])∧∀ base:Heap,(K w.params).In base->base.Ns mainGlobals mg->lA mg base->aX l.prog w (K w.params) mg base CX0 9 fa fd ["_law_script"] (aAn (K w.params) Pt))
  (hK:∀ (w:World),PySem.W.codeHdIn (K w.params) c0 Pt=true) (hN:∀ (w:World),(K w.params).lookup Pt=none) :
  PySem.W.WalkO q loose XP YP l.row.toRowW d [] (fun f vs=>PySem.call f vs):=
 L2.walk_ofT (n:=63) (k:=9) (x:="_law_script") (sp:=fun w=>aAn (K w.params) Pt) [(c0,Pt)] hn (by decide) hdf ⟨rfl,by decide,by decide⟩
  (fun w h Y=>⟨(hY w h Y).1,fun p hp=>by
   have:p=(c0,Pt):=by simpa using hp
   subst this;exact (hY w h Y).2 Pt (by simp)⟩)
  (fun w p hp=>by
   have:p=(c0,Pt):=by simpa using hp
   subst this;exact⟨hK w,hN w⟩) F
  (fun w H a ns hl hT hS=>⟨a,ns,rfl,hS,hl,hT (c0,Pt) (by simp),fun _=>rfl⟩)
end K21
namespace Hd
open PySem PySem.W
abbrev aDf:=PySem.W.Fast.tw14364793385576792824
abbrev aJy:=PySem.W.Fast.tw10110043849684766642
abbrev aNh:=PySem.W.Fast.tw14374325043358763698
abbrev fGo:=PySem.W.Fast.tw15667345088766844465
abbrev aNi:=PySem.W.Fast.tw14082659384304107361
abbrev aNj:=PySem.W.Fast.tw11892475500146522536
abbrev fSeen:=PySem.W.Fast.tw4187177175401517315
theorem aJb:PySem.treeTable=aDf:=PySem.W.Fast.te14364793385576792824
theorem aNk:@PySem.W.segRunT=aJy:=PySem.W.Fast.te10110043849684766642
theorem aPw:@PySem.W.segRun=aNh:=PySem.W.Fast.te14374325043358763698
theorem eGo:@PySem.W.topGo=fGo:=PySem.W.Fast.te15667345088766844465
theorem aPx:@PySem.W.topRun=aNi:=PySem.W.Fast.te14082659384304107361
theorem aPy:@PySem.denote=aNj:=PySem.W.Fast.te11892475500146522536
theorem aNl:@PySem.W.openSeen=fSeen:=PySem.W.Fast.te4187177175401517315
abbrev an:Option Value:=some (.ref 6)
abbrev p0:Pos:=⟨0,0,0,0⟩
abbrev d0:Drawn:=⟨0,0,0,0⟩
def lf:Life:=⟨[],[],[],0,[],[],false,#[],[],0,false,false,false,0,[2000,10,10],false,0,true,[],[],0,false⟩
def St (T:Params->BT) (n k:Nat) (w:World) (os:OsState):SharedT:=⟨T w.params,n,lf,#[],d0,k,os⟩
def Sh (H:Params->Heap) (k:Nat) (w:World) (os:OsState):Shared:=⟨H w.params,#[],d0,k,os⟩
abbrev cd (p:Program) (env:Env):Code:=.body (behindTheImports p) env
abbrev B:List Frame:=[topFrame p0]
def Pre (p:Program) (env:Env) (H:Params->Heap) (k s:Nat) (a:Pos):Prop:=
 ∀ w:World,(fun os=>fGo aDf p w 11 an s ⟨boot_heap w.params,Array.mk [],boot_drawn,boot_toks,os⟩ (topStub p))=fun os=>some (Sh H k w os,⟨aNj aDf (cd p env),cd p env,a,B⟩)
def Blk (p:Program) (env:Env) (H:Params->Heap) (k:Nat) (T:Params->BT) (n k' s:Nat) (a b:Pos):Prop:=
 ∀ w:World,(fun os=>aNh aDf p w 11 an 1 s (Sh H k w os) (blockOf (behindTheImports p) env (cd p env) a B))=fun os=>some (.next,(St T n k' w os).abs,cd p env,b)
def Pc (p:Program) (env:Env) (T:Params->BT) (n k:Nat) (T':Params->BT) (n' k' s:Nat) (l:List Stmt) (a b:Pos):Prop:=
 ∀ w:World,(fun os=>aJy aDf p w 11 an 1 s (St T n k w os) (piecesOf l env (cd p env) a B))=fun os=>some (.next,St T' n' k' w os,cd p env,b)
def Fi (p:Program) (env:Env) (T:Params->BT) (n k:Nat) (H:Params->Heap) (k' s:Nat) (a:Pos):Prop:=
 ∀ w:World,(fun os=>aNi aDf p w 11 an s (St T n k w os).abs ⟨doneF .next,cd p env,a,B⟩)=fun os=>some (Sh H k' w os)
def Rn (p:Program) (env:Env) (T:Params->BT) (n k:Nat) (H:Params->Heap) (k':Nat) (l:List Stmt) (a:Pos) (N:Nat):Prop:=
 ∀ (w:World) (os:OsState),topRun treeTable p w 11 an N (St T n k w os).abs (restOf l env (cd p env) a B)=some (Sh H k' w os)
section
variable {p:Program}{env:Env}{T T':Params->BT}{H H':Params->Heap}{n k n' k' kf s N:Nat}{l r:List Stmt}{a b:Pos}
theorem Fi.run (h:Fi p env T n k H k' s a):Rn p env T n k H k' [] a s:=fun w os=>by
 refine piece_nil ?_;rw[aPx,aJb];exact congrFun (h w) os
theorem Pc.run (h:Pc p env T n k T' n' k' s l a b) (q:Rn p env T' n' k' H kf r b N):Rn p env T n k H kf (l++r) a (s+N):=fun w os=>by
 refine piece_app (segRun_of ?_) (q w os);rw[aNk,aJb];exact congrFun (h w) os
theorem top_run {s1 s2:Nat}(h1:Pre p env H' k s1 a) (h2:Blk p env H' k T n k' s2 a b) (hl:l=behindTheImports p) (q:Rn p env T n k' H kf l b N) (w:World) (os:OsState) :
  topRun treeTable p w 11 an (s1+(s2+N)) ⟨boot_heap w.params,Array.mk [],boot_drawn,boot_toks,os⟩ (topStub p)=some (Sh H kf w os):=by
 have e1:topGo treeTable p w 11 an s1 ⟨boot_heap w.params,Array.mk [],boot_drawn,boot_toks,os⟩ (topStub p)=some (Sh H' k w os,⟨denote treeTable (cd p env),cd p env,a,B⟩):=by
  rw[eGo,aJb,aPy];exact congrFun (h1 w) os
 have e2:segRun treeTable p w 11 an 1 s2 (Sh H' k w os) (blockOf (behindTheImports p) env (cd p env) a B)=some (.next,(St T n k' w os).abs,cd p env,b):=by
  rw[aPw,aJb];exact congrFun (h2 w) os
 subst hl;exact go_top e1 (piece_block e2 (q w os))
theorem aDn:∀ w:World,((boot_heap w.params).isNs mainGlobals&&(Array.mk []:Array GenState).size==0,(boot_heap w.params).objs.size,(boot_heap w.params).nsMap mainGlobals "__annotations__")=(true,11,an):=by
 intro w
 kernel_rfl
theorem left_of {q:Program}{loose:List Str}{Xt:Shared->Bool}{α:Type}{Yf:Shared->α}{Ya:World->α}{M:Nat}(e:opening p=plainProg p.main.scope.names) (f:∀ s,fenceModules? p s=some s) (hN:Nat.ble 600 N=true) (le:Nat.ble M N=true)
  (run:∀ (w:World) (os:OsState),topRun treeTable p w 11 an M ⟨boot_heap w.params,Array.mk [],boot_drawn,boot_toks,os⟩ (topStub p)=some (Sh H k w os))
  (looks:∀ w:World,(fun os=>((staticsOk (importedModules p.main.body) (boot_heap w.params) (H w.params)&&namesBound p (H w.params)&&gensDone (Sh H k w os)&&laidKept (boot_heap w.params) (H w.params)),
    fSeen q loose (importedModules p.main.body) Xt true (Sh H k w os),Yf (Sh H k w os)))=fun _=>(true,openGood q loose,Ya w)):LeftO p q loose Xt Yf Ya N true:=by
 refine LeftO.of_pieces (boot_open e hN f) aDn run le (fun w=>?_);have h:=looks w;rw[← aNl] at h;exact h
end
end Hd
namespace K21H
open PySem PySem.W
open L2 (aE aH aF aB)
open PySem.W.BT renaming node → bn, nil → bz
abbrev pp:Program:=PySem.Challenge.pw_roomward_k21_woven_told
def tp (i:Nat):Stmt:=pp.main.body.getD i (.Pass ⟨0,0,0,0⟩)
abbrev kh:=@PySem.PyData.keyHash
abbrev en (P:Params) (k:Str) (n:Nat) (v:Value):DictEntry:=⟨kh P k,.str k n,v⟩
noncomputable section
abbrev co (l:List Value):Obj:=⟨.type "code",none,.fields l.toArray,#[]⟩
abbrev nf (l:List Value):Obj:=⟨.none,none,.fields l.toArray,#[]⟩
abbrev tu (l:List Value):Obj:=⟨.type "tuple",none,.seq l.toArray 0,#[]⟩
abbrev fu (f:FuncData):Obj:=⟨.type "function",none,.func f,#[]⟩
abbrev nu (f:FuncData):Obj:=⟨.none,none,.func f,#[]⟩
abbrev i0 (n:Int):Value:=.int n 0
abbrev cp (n:Nat):Value:=.str "/claim/cut.py" n
def o0:Obj:=tu []
def o1:Obj:=nf []
def o2:Obj:=co [.str "<module>" 182,.str "<module>" 183,cp 184,i0 1,i0 0,i0 0,i0 0,i0 0,.ref 11,.bool false,i0 181,.ref 12,.none,.none,.none,.none,i0 185,i0 1,cp 186]
def o3:Obj:=⟨.type "frame",none,.plain,#[(some (.ref 13)),(some (.ref 3)),(some (.ref 3)),none,(some (.str "__main__" 164)),none,(some (.ref 0))]⟩
def Ha (P:Params):Heap:=⟨Array.mk [boot_o_0 P,boot_o_1 P,boot_o_2 P,boot_o_3 P,boot_o_4 P,boot_o_5 P,boot_o_6 P,boot_o_7 P,boot_o_8 P,boot_o_9 P,boot_o_10 P,o0,o1,o2,o3],Hd.lf⟩
def env:Env:={ scope:=pp.main.scope,locals:=mainNs,globals:=mainNs,cells:=[],code:=.ref 13,frame:=some 14 }
theorem pre:Hd.Pre pp env Ha 187 12 ⟨0,0,0,0⟩:=by
 intro w
 kernel_rfl
def ns (t:BT) (l:List (Nat×Obj)):BT:=l.foldl (fun t x=>t.ins x.1 x.2) t
abbrev be (x:Obj):BT:=bn x bz bz
def T0 (P:Params):BT:=(bn (boot_o_0 P) (bn (boot_o_1 P) (bn (boot_o_3 P) (be (boot_o_7 P)) (be o0)) (bn (boot_o_5 P) (be (boot_o_9 P)) (be o2))) (bn (boot_o_2 P) (bn (boot_o_4 P) (be (boot_o_8 P)) (be o1)) (bn (boot_o_6 P) (be (boot_o_10 P)) (be o3))))
theorem blk:Hd.Blk pp env Ha 187 T0 15 187 1 ⟨0,0,0,0⟩ ⟨0,0,0,0⟩:=by
 intro w
 kernel_rfl
def g0 (P:Params):List DictEntry:=[en P "__doc__" 166 .none,en P "__package__" 167 .none,en P "__loader__" 168 (.builtin "__main__.__loader__#opaque"),en P "__spec__" 169 .none,en P "__annotations__" 170 (.ref 6),en P "__builtins__" 171 (.ref 4),en P "__file__" 173 (.str "/claim/cut.py" 172),en P "__cached__" 174 .none,en P "_wall" 193 (.ref 21),en P "WardError" 213 (.ref 31)]
def o4 (P:Params):Obj:=⟨.type "dict",none,.dict ⟨en P "__name__" 165 (.str "roomward.errors" 194)::g0 P⟩ 11,#[]⟩
def o5:Obj:=nf [i0 1,i0 0,.ref 20,i0 5,i0 0,.ref 27]
def o6:Obj:=tu []
def o7:Obj:=nf []
def o8:Obj:=tu [.str "k" 190]
def o9:Obj:=tu []
def o10:Obj:=nu ⟨"_wall","_wall",aH (tp 0),.stmts (aF (tp 0)),aB (tp 0),0,[],.none,.none,.none,.none,none,.none,.none,0⟩
def o11:Obj:=co [.str "_wall" 187,.str "_wall" 188,cp 189,i0 1,i0 1,i0 0,i0 0,i0 3,.ref 15,.bool true,i0 181,.ref 16,.none,.ref 17,.ref 18,.ref 19,i0 191,i0 1,cp 192]
def o12:Obj:=fu ⟨"_wall","_wall",aH (tp 0),.stmts (aF (tp 0)),aB (tp 0),3,[],.none,.none,.none,.str "__main__" 164,none,.ref 20,.none,0⟩
def o13:Obj:=tu [.type "ValueError"]
def o14:Obj:=⟨.type "builtin_function_or_method",none,.fields #[.builtin "type.__prepare__",.type "type"],#[]⟩
def o15 (P:Params):Obj:=⟨.type "dict",none,.dict #[en P "__module__" 203 (.str "roomward.errors" 194),en P "__qualname__" 205 (.str "WardError" 204),en P "__firstlineno__" 207 (.int 5 206),en P "__static_attributes__" 208 (.ref 29)] 4,#[]⟩
def o16:Obj:=tu []
def o17:Obj:=nf []
def o18:Obj:=co [.str "WardError" 198,.str "WardError" 199,cp 200,i0 5,i0 0,i0 0,i0 0,i0 0,.ref 25,.bool false,i0 181,.ref 26,.none,.none,.none,.none,i0 201,i0 5,cp 202]
def o19:Obj:=⟨.type "frame",none,.plain,#[(some (.ref 27)),(some (.ref 3)),(some (.ref 24)),none,(some (.str "roomward.errors" 194)),none,(some (.ref 0))]⟩
def o20:Obj:=tu []
def o21 (P:Params):Obj:=⟨.type "dict",none,.dict #[en P "__module__" 203 (.str "roomward.errors" 194),en P "__firstlineno__" 207 (.int 5 206),en P "__static_attributes__" 208 (.ref 29),en P "__weakref__" 210 (.ref 32),en P "__doc__" 211 .none] 3,#[]⟩
def o22:Obj:=⟨.type "type",none,.cls ⟨"WardError",[.type "ValueError"],[.ref 31,.type "ValueError",.type "Exception",.type "BaseException",.type "object"],30,"WardError",true,[],[],false,none,false⟩,#[(some (.ref 22)),none,(some (.str "WardError" 196)),(some (.str "WardError" 204)),(some (.builtin "ValueError.__new__")),(some (.bool true))]⟩
def o23:Obj:=⟨.type "getset_descriptor",none,.fields #[.str "__weakref__" 209,.ref 31,.builtin "ExceptionGroup.__weakref__",.none],#[]⟩
def o24:Obj:=⟨.type "super",none,.fields #[.ref 31,.ref 31,.ref 31],#[]⟩
def o25:Obj:=⟨.type "builtin_function_or_method",none,.fields #[.builtin "object.__init_subclass__",.ref 31],#[]⟩
def T1 (P:Params):BT:=ns (T0 P) [(3,o4 P),(12,o5),(15,o6),(16,o7),(17,o8),(18,o9),(19,o10),(20,o11),(21,o12),(22,o13),(23,o14),(24,o15 P),(25,o16),(26,o17),(27,o18),(28,o19),(29,o20),(30,o21 P),(31,o22),(32,o23),(33,o24),(34,o25)]
theorem pc1:Hd.Pc pp env T0 15 187 T1 35 214 225 [tp 0,tp 1,tp 2] ⟨0,0,0,0⟩ ⟨5,0,6,8⟩:=by
 intro w
 kernel_rfl
def g1 (P:Params):List DictEntry:=g0 P++[en P "NoName" 229 (.ref 44)]
def o26 (P:Params):Obj:=⟨.type "dict",none,.dict ⟨en P "__name__" 165 (.str "roomward.errors" 194)::g1 P⟩ 12,#[]⟩
def o27:Obj:=nf [i0 1,i0 0,.ref 20,i0 5,i0 0,.ref 27,i0 7,i0 0,.ref 40]
def o28:Obj:=⟨.type "type",none,.cls ⟨"WardError",[.type "ValueError"],[.ref 31,.type "ValueError",.type "Exception",.type "BaseException",.type "object"],30,"WardError",true,[],[.ref 44],false,none,false⟩,#[(some (.ref 22)),none,(some (.str "WardError" 196)),(some (.str "WardError" 204)),(some (.builtin "ValueError.__new__")),(some (.bool true))]⟩
def o29:Obj:=tu [.ref 31]
def o30:Obj:=⟨.type "builtin_function_or_method",none,.fields #[.builtin "type.__prepare__",.type "type"],#[]⟩
def o31 (P:Params):Obj:=⟨.type "dict",none,.dict #[en P "__module__" 221 (.str "roomward.errors" 194),en P "__qualname__" 223 (.str "NoName" 222),en P "__firstlineno__" 225 (.int 7 224),en P "__static_attributes__" 226 (.ref 42)] 4,#[]⟩
def o32:Obj:=tu []
def o33:Obj:=nf []
def o34:Obj:=co [.str "NoName" 216,.str "NoName" 217,cp 218,i0 7,i0 0,i0 0,i0 0,i0 0,.ref 38,.bool false,i0 181,.ref 39,.none,.none,.none,.none,i0 219,i0 7,cp 220]
def o35:Obj:=⟨.type "frame",none,.plain,#[(some (.ref 40)),(some (.ref 3)),(some (.ref 37)),none,(some (.str "roomward.errors" 194)),none,(some (.ref 0))]⟩
def o36:Obj:=tu []
def o37 (P:Params):Obj:=⟨.type "dict",none,.dict #[en P "__module__" 221 (.str "roomward.errors" 194),en P "__firstlineno__" 225 (.int 7 224),en P "__static_attributes__" 226 (.ref 42),en P "__doc__" 227 .none] 2,#[]⟩
def o38:Obj:=⟨.type "type",none,.cls ⟨"NoName",[.ref 31],[.ref 44,.ref 31,.type "ValueError",.type "Exception",.type "BaseException",.type "object"],43,"NoName",true,[],[],false,none,false⟩,#[(some (.ref 35)),none,(some (.str "NoName" 214)),(some (.str "NoName" 222)),(some (.builtin "ValueError.__new__")),(some (.bool true))]⟩
def o39:Obj:=⟨.type "super",none,.fields #[.ref 44,.ref 44,.ref 44],#[]⟩
def o40:Obj:=⟨.type "builtin_function_or_method",none,.fields #[.builtin "object.__init_subclass__",.ref 44],#[]⟩
def T2 (P:Params):BT:=ns (T1 P) [(3,o26 P),(12,o27),(31,o28),(35,o29),(36,o30),(37,o31 P),(38,o32),(39,o33),(40,o34),(41,o35),(42,o36),(43,o37 P),(44,o38),(45,o39),(46,o40)]
theorem pc2:Hd.Pc pp env T1 35 214 T2 47 230 214 [tp 3] ⟨5,0,6,8⟩ ⟨7,0,8,8⟩:=by
 intro w
 kernel_rfl
def g2 (P:Params):List DictEntry:=g1 P++[en P "NoDeed" 245 (.ref 56)]
def o41 (P:Params):Obj:=⟨.type "dict",none,.dict ⟨en P "__name__" 165 (.str "roomward.errors" 194)::g2 P⟩ 13,#[]⟩
def o42:Obj:=nf [i0 1,i0 0,.ref 20,i0 5,i0 0,.ref 27,i0 7,i0 0,.ref 40,i0 9,i0 0,.ref 52]
def o43:Obj:=⟨.type "type",none,.cls ⟨"WardError",[.type "ValueError"],[.ref 31,.type "ValueError",.type "Exception",.type "BaseException",.type "object"],30,"WardError",true,[],[.ref 44,.ref 56],false,none,false⟩,#[(some (.ref 22)),none,(some (.str "WardError" 196)),(some (.str "WardError" 204)),(some (.builtin "ValueError.__new__")),(some (.bool true))]⟩
def o44:Obj:=tu [.ref 31]
def o45:Obj:=⟨.type "builtin_function_or_method",none,.fields #[.builtin "type.__prepare__",.type "type"],#[]⟩
def o46 (P:Params):Obj:=⟨.type "dict",none,.dict #[en P "__module__" 237 (.str "roomward.errors" 194),en P "__qualname__" 239 (.str "NoDeed" 238),en P "__firstlineno__" 241 (.int 9 240),en P "__static_attributes__" 242 (.ref 54)] 4,#[]⟩
def o47:Obj:=tu []
def o48:Obj:=nf []
def o49:Obj:=co [.str "NoDeed" 232,.str "NoDeed" 233,cp 234,i0 9,i0 0,i0 0,i0 0,i0 0,.ref 50,.bool false,i0 181,.ref 51,.none,.none,.none,.none,i0 235,i0 9,cp 236]
def o50:Obj:=⟨.type "frame",none,.plain,#[(some (.ref 52)),(some (.ref 3)),(some (.ref 49)),none,(some (.str "roomward.errors" 194)),none,(some (.ref 0))]⟩
def o51:Obj:=tu []
def o52 (P:Params):Obj:=⟨.type "dict",none,.dict #[en P "__module__" 237 (.str "roomward.errors" 194),en P "__firstlineno__" 241 (.int 9 240),en P "__static_attributes__" 242 (.ref 54),en P "__doc__" 243 .none] 2,#[]⟩
def o53:Obj:=⟨.type "type",none,.cls ⟨"NoDeed",[.ref 31],[.ref 56,.ref 31,.type "ValueError",.type "Exception",.type "BaseException",.type "object"],55,"NoDeed",true,[],[],false,none,false⟩,#[(some (.ref 47)),none,(some (.str "NoDeed" 230)),(some (.str "NoDeed" 238)),(some (.builtin "ValueError.__new__")),(some (.bool true))]⟩
def o54:Obj:=⟨.type "super",none,.fields #[.ref 56,.ref 56,.ref 56],#[]⟩
def o55:Obj:=⟨.type "builtin_function_or_method",none,.fields #[.builtin "object.__init_subclass__",.ref 56],#[]⟩
def T3 (P:Params):BT:=ns (T2 P) [(3,o41 P),(12,o42),(31,o43),(47,o44),(48,o45),(49,o46 P),(50,o47),(51,o48),(52,o49),(53,o50),(54,o51),(55,o52 P),(56,o53),(57,o54),(58,o55)]
theorem pc3:Hd.Pc pp env T2 47 230 T3 59 246 214 [tp 4] ⟨7,0,8,8⟩ ⟨9,0,10,8⟩:=by
 intro w
 kernel_rfl
def g3 (P:Params):List DictEntry:=g2 P++[en P "NoRoom" 261 (.ref 68)]
def o56 (P:Params):Obj:=⟨.type "dict",none,.dict ⟨en P "__name__" 165 (.str "roomward.errors" 194)::g3 P⟩ 14,#[]⟩
def o57:Obj:=nf [i0 1,i0 0,.ref 20,i0 5,i0 0,.ref 27,i0 7,i0 0,.ref 40,i0 9,i0 0,.ref 52,i0 11,i0 0,.ref 64]
def o58:Obj:=⟨.type "type",none,.cls ⟨"WardError",[.type "ValueError"],[.ref 31,.type "ValueError",.type "Exception",.type "BaseException",.type "object"],30,"WardError",true,[],[.ref 44,.ref 56,.ref 68],false,none,false⟩,#[(some (.ref 22)),none,(some (.str "WardError" 196)),(some (.str "WardError" 204)),(some (.builtin "ValueError.__new__")),(some (.bool true))]⟩
def o59:Obj:=tu [.ref 31]
def o60:Obj:=⟨.type "builtin_function_or_method",none,.fields #[.builtin "type.__prepare__",.type "type"],#[]⟩
def o61 (P:Params):Obj:=⟨.type "dict",none,.dict #[en P "__module__" 253 (.str "roomward.errors" 194),en P "__qualname__" 255 (.str "NoRoom" 254),en P "__firstlineno__" 257 (.int 11 256),en P "__static_attributes__" 258 (.ref 66)] 4,#[]⟩
def o62:Obj:=tu []
def o63:Obj:=nf []
def o64:Obj:=co [.str "NoRoom" 248,.str "NoRoom" 249,cp 250,i0 11,i0 0,i0 0,i0 0,i0 0,.ref 62,.bool false,i0 181,.ref 63,.none,.none,.none,.none,i0 251,i0 11,cp 252]
def o65:Obj:=⟨.type "frame",none,.plain,#[(some (.ref 64)),(some (.ref 3)),(some (.ref 61)),none,(some (.str "roomward.errors" 194)),none,(some (.ref 0))]⟩
def o66:Obj:=tu []
def o67 (P:Params):Obj:=⟨.type "dict",none,.dict #[en P "__module__" 253 (.str "roomward.errors" 194),en P "__firstlineno__" 257 (.int 11 256),en P "__static_attributes__" 258 (.ref 66),en P "__doc__" 259 .none] 2,#[]⟩
def o68:Obj:=⟨.type "type",none,.cls ⟨"NoRoom",[.ref 31],[.ref 68,.ref 31,.type "ValueError",.type "Exception",.type "BaseException",.type "object"],67,"NoRoom",true,[],[],false,none,false⟩,#[(some (.ref 59)),none,(some (.str "NoRoom" 246)),(some (.str "NoRoom" 254)),(some (.builtin "ValueError.__new__")),(some (.bool true))]⟩
def o69:Obj:=⟨.type "super",none,.fields #[.ref 68,.ref 68,.ref 68],#[]⟩
def o70:Obj:=⟨.type "builtin_function_or_method",none,.fields #[.builtin "object.__init_subclass__",.ref 68],#[]⟩
def T4 (P:Params):BT:=ns (T3 P) [(3,o56 P),(12,o57),(31,o58),(59,o59),(60,o60),(61,o61 P),(62,o62),(63,o63),(64,o64),(65,o65),(66,o66),(67,o67 P),(68,o68),(69,o69),(70,o70)]
theorem pc4:Hd.Pc pp env T3 59 246 T4 71 262 214 [tp 5] ⟨9,0,10,8⟩ ⟨11,0,12,8⟩:=by
 intro w
 kernel_rfl
def g4 (P:Params):List DictEntry:=g3 P++[en P "TwiceTold" 277 (.ref 80)]
def o71 (P:Params):Obj:=⟨.type "dict",none,.dict ⟨en P "__name__" 165 (.str "roomward.errors" 194)::g4 P⟩ 15,#[]⟩
def o72:Obj:=nf [i0 1,i0 0,.ref 20,i0 5,i0 0,.ref 27,i0 7,i0 0,.ref 40,i0 9,i0 0,.ref 52,i0 11,i0 0,.ref 64,i0 13,i0 0,.ref 76]
def o73:Obj:=⟨.type "type",none,.cls ⟨"WardError",[.type "ValueError"],[.ref 31,.type "ValueError",.type "Exception",.type "BaseException",.type "object"],30,"WardError",true,[],[.ref 44,.ref 56,.ref 68,.ref 80],false,none,false⟩,#[(some (.ref 22)),none,(some (.str "WardError" 196)),(some (.str "WardError" 204)),(some (.builtin "ValueError.__new__")),(some (.bool true))]⟩
def o74:Obj:=tu [.ref 31]
def o75:Obj:=⟨.type "builtin_function_or_method",none,.fields #[.builtin "type.__prepare__",.type "type"],#[]⟩
def o76 (P:Params):Obj:=⟨.type "dict",none,.dict #[en P "__module__" 269 (.str "roomward.errors" 194),en P "__qualname__" 271 (.str "TwiceTold" 270),en P "__firstlineno__" 273 (.int 13 272),en P "__static_attributes__" 274 (.ref 78)] 4,#[]⟩
def o77:Obj:=tu []
def o78:Obj:=nf []
def o79:Obj:=co [.str "TwiceTold" 264,.str "TwiceTold" 265,cp 266,i0 13,i0 0,i0 0,i0 0,i0 0,.ref 74,.bool false,i0 181,.ref 75,.none,.none,.none,.none,i0 267,i0 13,cp 268]
def o80:Obj:=⟨.type "frame",none,.plain,#[(some (.ref 76)),(some (.ref 3)),(some (.ref 73)),none,(some (.str "roomward.errors" 194)),none,(some (.ref 0))]⟩
def o81:Obj:=tu []
def o82 (P:Params):Obj:=⟨.type "dict",none,.dict #[en P "__module__" 269 (.str "roomward.errors" 194),en P "__firstlineno__" 273 (.int 13 272),en P "__static_attributes__" 274 (.ref 78),en P "__doc__" 275 .none] 2,#[]⟩
def o83:Obj:=⟨.type "type",none,.cls ⟨"TwiceTold",[.ref 31],[.ref 80,.ref 31,.type "ValueError",.type "Exception",.type "BaseException",.type "object"],79,"TwiceTold",true,[],[],false,none,false⟩,#[(some (.ref 71)),none,(some (.str "TwiceTold" 262)),(some (.str "TwiceTold" 270)),(some (.builtin "ValueError.__new__")),(some (.bool true))]⟩
def o84:Obj:=⟨.type "super",none,.fields #[.ref 80,.ref 80,.ref 80],#[]⟩
def o85:Obj:=⟨.type "builtin_function_or_method",none,.fields #[.builtin "object.__init_subclass__",.ref 80],#[]⟩
def T5 (P:Params):BT:=ns (T4 P) [(3,o71 P),(12,o72),(31,o73),(71,o74),(72,o75),(73,o76 P),(74,o77),(75,o78),(76,o79),(77,o80),(78,o81),(79,o82 P),(80,o83),(81,o84),(82,o85)]
theorem pc5:Hd.Pc pp env T4 71 262 T5 83 278 214 [tp 6] ⟨11,0,12,8⟩ ⟨13,0,14,8⟩:=by
 intro w
 kernel_rfl
def g5 (P:Params):List DictEntry:=g4 P++[en P "TooMany" 293 (.ref 92)]
def o86 (P:Params):Obj:=⟨.type "dict",none,.dict ⟨en P "__name__" 165 (.str "roomward.errors" 194)::g5 P⟩ 16,#[]⟩
def o87:Obj:=nf [i0 1,i0 0,.ref 20,i0 5,i0 0,.ref 27,i0 7,i0 0,.ref 40,i0 9,i0 0,.ref 52,i0 11,i0 0,.ref 64,i0 13,i0 0,.ref 76,i0 15,i0 0,.ref 88]
def o88:Obj:=⟨.type "type",none,.cls ⟨"WardError",[.type "ValueError"],[.ref 31,.type "ValueError",.type "Exception",.type "BaseException",.type "object"],30,"WardError",true,[],[.ref 44,.ref 56,.ref 68,.ref 80,.ref 92],false,none,false⟩,#[(some (.ref 22)),none,(some (.str "WardError" 196)),(some (.str "WardError" 204)),(some (.builtin "ValueError.__new__")),(some (.bool true))]⟩
def o89:Obj:=tu [.ref 31]
def o90:Obj:=⟨.type "builtin_function_or_method",none,.fields #[.builtin "type.__prepare__",.type "type"],#[]⟩
def o91 (P:Params):Obj:=⟨.type "dict",none,.dict #[en P "__module__" 285 (.str "roomward.errors" 194),en P "__qualname__" 287 (.str "TooMany" 286),en P "__firstlineno__" 289 (.int 15 288),en P "__static_attributes__" 290 (.ref 90)] 4,#[]⟩
def o92:Obj:=tu []
def o93:Obj:=nf []
def o94:Obj:=co [.str "TooMany" 280,.str "TooMany" 281,cp 282,i0 15,i0 0,i0 0,i0 0,i0 0,.ref 86,.bool false,i0 181,.ref 87,.none,.none,.none,.none,i0 283,i0 15,cp 284]
def o95:Obj:=⟨.type "frame",none,.plain,#[(some (.ref 88)),(some (.ref 3)),(some (.ref 85)),none,(some (.str "roomward.errors" 194)),none,(some (.ref 0))]⟩
def o96:Obj:=tu []
def o97 (P:Params):Obj:=⟨.type "dict",none,.dict #[en P "__module__" 285 (.str "roomward.errors" 194),en P "__firstlineno__" 289 (.int 15 288),en P "__static_attributes__" 290 (.ref 90),en P "__doc__" 291 .none] 2,#[]⟩
def o98:Obj:=⟨.type "type",none,.cls ⟨"TooMany",[.ref 31],[.ref 92,.ref 31,.type "ValueError",.type "Exception",.type "BaseException",.type "object"],91,"TooMany",true,[],[],false,none,false⟩,#[(some (.ref 83)),none,(some (.str "TooMany" 278)),(some (.str "TooMany" 286)),(some (.builtin "ValueError.__new__")),(some (.bool true))]⟩
def o99:Obj:=⟨.type "super",none,.fields #[.ref 92,.ref 92,.ref 92],#[]⟩
def o100:Obj:=⟨.type "builtin_function_or_method",none,.fields #[.builtin "object.__init_subclass__",.ref 92],#[]⟩
def T6 (P:Params):BT:=ns (T5 P) [(3,o86 P),(12,o87),(31,o88),(83,o89),(84,o90),(85,o91 P),(86,o92),(87,o93),(88,o94),(89,o95),(90,o96),(91,o97 P),(92,o98),(93,o99),(94,o100)]
theorem pc6:Hd.Pc pp env T5 83 278 T6 95 294 214 [tp 7] ⟨13,0,14,8⟩ ⟨15,0,16,8⟩:=by
 intro w
 kernel_rfl
def g6 (P:Params):List DictEntry:=g5 P++[en P "NoRule" 309 (.ref 104)]
def o101 (P:Params):Obj:=⟨.type "dict",none,.dict ⟨en P "__name__" 165 (.str "roomward.errors" 194)::g6 P⟩ 17,#[]⟩
def o102:Obj:=nf [i0 1,i0 0,.ref 20,i0 5,i0 0,.ref 27,i0 7,i0 0,.ref 40,i0 9,i0 0,.ref 52,i0 11,i0 0,.ref 64,i0 13,i0 0,.ref 76,i0 15,i0 0,.ref 88,i0 17,i0 0,.ref 100]
def o103:Obj:=⟨.type "type",none,.cls ⟨"WardError",[.type "ValueError"],[.ref 31,.type "ValueError",.type "Exception",.type "BaseException",.type "object"],30,"WardError",true,[],[.ref 44,.ref 56,.ref 68,.ref 80,.ref 92,.ref 104],false,none,false⟩,#[(some (.ref 22)),none,(some (.str "WardError" 196)),(some (.str "WardError" 204)),(some (.builtin "ValueError.__new__")),(some (.bool true))]⟩
def o104:Obj:=tu [.ref 31]
def o105:Obj:=⟨.type "builtin_function_or_method",none,.fields #[.builtin "type.__prepare__",.type "type"],#[]⟩
def o106 (P:Params):Obj:=⟨.type "dict",none,.dict #[en P "__module__" 301 (.str "roomward.errors" 194),en P "__qualname__" 303 (.str "NoRule" 302),en P "__firstlineno__" 305 (.int 17 304),en P "__static_attributes__" 306 (.ref 102)] 4,#[]⟩
def o107:Obj:=tu []
def o108:Obj:=nf []
def o109:Obj:=co [.str "NoRule" 296,.str "NoRule" 297,cp 298,i0 17,i0 0,i0 0,i0 0,i0 0,.ref 98,.bool false,i0 181,.ref 99,.none,.none,.none,.none,i0 299,i0 17,cp 300]
def o110:Obj:=⟨.type "frame",none,.plain,#[(some (.ref 100)),(some (.ref 3)),(some (.ref 97)),none,(some (.str "roomward.errors" 194)),none,(some (.ref 0))]⟩
def o111:Obj:=tu []
def o112 (P:Params):Obj:=⟨.type "dict",none,.dict #[en P "__module__" 301 (.str "roomward.errors" 194),en P "__firstlineno__" 305 (.int 17 304),en P "__static_attributes__" 306 (.ref 102),en P "__doc__" 307 .none] 2,#[]⟩
def o113:Obj:=⟨.type "type",none,.cls ⟨"NoRule",[.ref 31],[.ref 104,.ref 31,.type "ValueError",.type "Exception",.type "BaseException",.type "object"],103,"NoRule",true,[],[],false,none,false⟩,#[(some (.ref 95)),none,(some (.str "NoRule" 294)),(some (.str "NoRule" 302)),(some (.builtin "ValueError.__new__")),(some (.bool true))]⟩
def o114:Obj:=⟨.type "super",none,.fields #[.ref 104,.ref 104,.ref 104],#[]⟩
def o115:Obj:=⟨.type "builtin_function_or_method",none,.fields #[.builtin "object.__init_subclass__",.ref 104],#[]⟩
def T7 (P:Params):BT:=ns (T6 P) [(3,o101 P),(12,o102),(31,o103),(95,o104),(96,o105),(97,o106 P),(98,o107),(99,o108),(100,o109),(101,o110),(102,o111),(103,o112 P),(104,o113),(105,o114),(106,o115)]
theorem pc7:Hd.Pc pp env T6 95 294 T7 107 310 214 [tp 8] ⟨15,0,16,8⟩ ⟨17,0,18,8⟩:=by
 intro w
 kernel_rfl
def g7 (P:Params):List DictEntry:=g6 P++[en P "NoRow" 325 (.ref 116)]
def o116 (P:Params):Obj:=⟨.type "dict",none,.dict ⟨en P "__name__" 165 (.str "roomward.errors" 194)::g7 P⟩ 18,#[]⟩
def o117:Obj:=nf [i0 1,i0 0,.ref 20,i0 5,i0 0,.ref 27,i0 7,i0 0,.ref 40,i0 9,i0 0,.ref 52,i0 11,i0 0,.ref 64,i0 13,i0 0,.ref 76,i0 15,i0 0,.ref 88,i0 17,i0 0,.ref 100,i0 19,i0 0,.ref 112]
def o118:Obj:=⟨.type "type",none,.cls ⟨"WardError",[.type "ValueError"],[.ref 31,.type "ValueError",.type "Exception",.type "BaseException",.type "object"],30,"WardError",true,[],[.ref 44,.ref 56,.ref 68,.ref 80,.ref 92,.ref 104,.ref 116],false,none,false⟩,#[(some (.ref 22)),none,(some (.str "WardError" 196)),(some (.str "WardError" 204)),(some (.builtin "ValueError.__new__")),(some (.bool true))]⟩
def o119:Obj:=tu [.ref 31]
def o120:Obj:=⟨.type "builtin_function_or_method",none,.fields #[.builtin "type.__prepare__",.type "type"],#[]⟩
def o121 (P:Params):Obj:=⟨.type "dict",none,.dict #[en P "__module__" 317 (.str "roomward.errors" 194),en P "__qualname__" 319 (.str "NoRow" 318),en P "__firstlineno__" 321 (.int 19 320),en P "__static_attributes__" 322 (.ref 114)] 4,#[]⟩
def o122:Obj:=tu []
def o123:Obj:=nf []
def o124:Obj:=co [.str "NoRow" 312,.str "NoRow" 313,cp 314,i0 19,i0 0,i0 0,i0 0,i0 0,.ref 110,.bool false,i0 181,.ref 111,.none,.none,.none,.none,i0 315,i0 19,cp 316]
def o125:Obj:=⟨.type "frame",none,.plain,#[(some (.ref 112)),(some (.ref 3)),(some (.ref 109)),none,(some (.str "roomward.errors" 194)),none,(some (.ref 0))]⟩
def o126:Obj:=tu []
def o127 (P:Params):Obj:=⟨.type "dict",none,.dict #[en P "__module__" 317 (.str "roomward.errors" 194),en P "__firstlineno__" 321 (.int 19 320),en P "__static_attributes__" 322 (.ref 114),en P "__doc__" 323 .none] 2,#[]⟩
def o128:Obj:=⟨.type "type",none,.cls ⟨"NoRow",[.ref 31],[.ref 116,.ref 31,.type "ValueError",.type "Exception",.type "BaseException",.type "object"],115,"NoRow",true,[],[],false,none,false⟩,#[(some (.ref 107)),none,(some (.str "NoRow" 310)),(some (.str "NoRow" 318)),(some (.builtin "ValueError.__new__")),(some (.bool true))]⟩
def o129:Obj:=⟨.type "super",none,.fields #[.ref 116,.ref 116,.ref 116],#[]⟩
def o130:Obj:=⟨.type "builtin_function_or_method",none,.fields #[.builtin "object.__init_subclass__",.ref 116],#[]⟩
def T8 (P:Params):BT:=ns (T7 P) [(3,o116 P),(12,o117),(31,o118),(107,o119),(108,o120),(109,o121 P),(110,o122),(111,o123),(112,o124),(113,o125),(114,o126),(115,o127 P),(116,o128),(117,o129),(118,o130)]
theorem pc8:Hd.Pc pp env T7 107 310 T8 119 326 214 [tp 9] ⟨17,0,18,8⟩ ⟨19,0,20,8⟩:=by
 intro w
 kernel_rfl
def g8 (P:Params):List DictEntry:=g7 P++[en P "NoHold" 341 (.ref 128)]
def o131 (P:Params):Obj:=⟨.type "dict",none,.dict ⟨en P "__name__" 165 (.str "roomward.errors" 194)::g8 P⟩ 19,#[]⟩
def o132:Obj:=nf [i0 1,i0 0,.ref 20,i0 5,i0 0,.ref 27,i0 7,i0 0,.ref 40,i0 9,i0 0,.ref 52,i0 11,i0 0,.ref 64,i0 13,i0 0,.ref 76,i0 15,i0 0,.ref 88,i0 17,i0 0,.ref 100,i0 19,i0 0,.ref 112,i0 21,i0 0,.ref 124]
def o133:Obj:=⟨.type "type",none,.cls ⟨"WardError",[.type "ValueError"],[.ref 31,.type "ValueError",.type "Exception",.type "BaseException",.type "object"],30,"WardError",true,[],[.ref 44,.ref 56,.ref 68,.ref 80,.ref 92,.ref 104,.ref 116,.ref 128],false,none,false⟩,#[(some (.ref 22)),none,(some (.str "WardError" 196)),(some (.str "WardError" 204)),(some (.builtin "ValueError.__new__")),(some (.bool true))]⟩
def o134:Obj:=tu [.ref 31]
def o135:Obj:=⟨.type "builtin_function_or_method",none,.fields #[.builtin "type.__prepare__",.type "type"],#[]⟩
def o136 (P:Params):Obj:=⟨.type "dict",none,.dict #[en P "__module__" 333 (.str "roomward.errors" 194),en P "__qualname__" 335 (.str "NoHold" 334),en P "__firstlineno__" 337 (.int 21 336),en P "__static_attributes__" 338 (.ref 126)] 4,#[]⟩
def o137:Obj:=tu []
def o138:Obj:=nf []
def o139:Obj:=co [.str "NoHold" 328,.str "NoHold" 329,cp 330,i0 21,i0 0,i0 0,i0 0,i0 0,.ref 122,.bool false,i0 181,.ref 123,.none,.none,.none,.none,i0 331,i0 21,cp 332]
def o140:Obj:=⟨.type "frame",none,.plain,#[(some (.ref 124)),(some (.ref 3)),(some (.ref 121)),none,(some (.str "roomward.errors" 194)),none,(some (.ref 0))]⟩
def o141:Obj:=tu []
def o142 (P:Params):Obj:=⟨.type "dict",none,.dict #[en P "__module__" 333 (.str "roomward.errors" 194),en P "__firstlineno__" 337 (.int 21 336),en P "__static_attributes__" 338 (.ref 126),en P "__doc__" 339 .none] 2,#[]⟩
def o143:Obj:=⟨.type "type",none,.cls ⟨"NoHold",[.ref 31],[.ref 128,.ref 31,.type "ValueError",.type "Exception",.type "BaseException",.type "object"],127,"NoHold",true,[],[],false,none,false⟩,#[(some (.ref 119)),none,(some (.str "NoHold" 326)),(some (.str "NoHold" 334)),(some (.builtin "ValueError.__new__")),(some (.bool true))]⟩
def o144:Obj:=⟨.type "super",none,.fields #[.ref 128,.ref 128,.ref 128],#[]⟩
def o145:Obj:=⟨.type "builtin_function_or_method",none,.fields #[.builtin "object.__init_subclass__",.ref 128],#[]⟩
def T9 (P:Params):BT:=ns (T8 P) [(3,o131 P),(12,o132),(31,o133),(119,o134),(120,o135),(121,o136 P),(122,o137),(123,o138),(124,o139),(125,o140),(126,o141),(127,o142 P),(128,o143),(129,o144),(130,o145)]
theorem pc9:Hd.Pc pp env T8 119 326 T9 131 342 214 [tp 10] ⟨19,0,20,8⟩ ⟨21,0,22,8⟩:=by
 intro w
 kernel_rfl
def g9 (P:Params):List DictEntry:=g8 P++[en P "NoHolder" 357 (.ref 140)]
def o146 (P:Params):Obj:=⟨.type "dict",none,.dict ⟨en P "__name__" 165 (.str "roomward.errors" 194)::g9 P⟩ 20,#[]⟩
def o147:Obj:=nf [i0 1,i0 0,.ref 20,i0 5,i0 0,.ref 27,i0 7,i0 0,.ref 40,i0 9,i0 0,.ref 52,i0 11,i0 0,.ref 64,i0 13,i0 0,.ref 76,i0 15,i0 0,.ref 88,i0 17,i0 0,.ref 100,i0 19,i0 0,.ref 112,i0 21,i0 0,.ref 124,i0 23,i0 0,.ref 136]
def o148:Obj:=⟨.type "type",none,.cls ⟨"WardError",[.type "ValueError"],[.ref 31,.type "ValueError",.type "Exception",.type "BaseException",.type "object"],30,"WardError",true,[],[.ref 44,.ref 56,.ref 68,.ref 80,.ref 92,.ref 104,.ref 116,.ref 128,.ref 140],false,none,false⟩,#[(some (.ref 22)),none,(some (.str "WardError" 196)),(some (.str "WardError" 204)),(some (.builtin "ValueError.__new__")),(some (.bool true))]⟩
def o149:Obj:=tu [.ref 31]
def o150:Obj:=⟨.type "builtin_function_or_method",none,.fields #[.builtin "type.__prepare__",.type "type"],#[]⟩
def o151 (P:Params):Obj:=⟨.type "dict",none,.dict #[en P "__module__" 349 (.str "roomward.errors" 194),en P "__qualname__" 351 (.str "NoHolder" 350),en P "__firstlineno__" 353 (.int 23 352),en P "__static_attributes__" 354 (.ref 138)] 4,#[]⟩
def o152:Obj:=tu []
def o153:Obj:=nf []
def o154:Obj:=co [.str "NoHolder" 344,.str "NoHolder" 345,cp 346,i0 23,i0 0,i0 0,i0 0,i0 0,.ref 134,.bool false,i0 181,.ref 135,.none,.none,.none,.none,i0 347,i0 23,cp 348]
def o155:Obj:=⟨.type "frame",none,.plain,#[(some (.ref 136)),(some (.ref 3)),(some (.ref 133)),none,(some (.str "roomward.errors" 194)),none,(some (.ref 0))]⟩
def o156:Obj:=tu []
def o157 (P:Params):Obj:=⟨.type "dict",none,.dict #[en P "__module__" 349 (.str "roomward.errors" 194),en P "__firstlineno__" 353 (.int 23 352),en P "__static_attributes__" 354 (.ref 138),en P "__doc__" 355 .none] 2,#[]⟩
def o158:Obj:=⟨.type "type",none,.cls ⟨"NoHolder",[.ref 31],[.ref 140,.ref 31,.type "ValueError",.type "Exception",.type "BaseException",.type "object"],139,"NoHolder",true,[],[],false,none,false⟩,#[(some (.ref 131)),none,(some (.str "NoHolder" 342)),(some (.str "NoHolder" 350)),(some (.builtin "ValueError.__new__")),(some (.bool true))]⟩
def o159:Obj:=⟨.type "super",none,.fields #[.ref 140,.ref 140,.ref 140],#[]⟩
def o160:Obj:=⟨.type "builtin_function_or_method",none,.fields #[.builtin "object.__init_subclass__",.ref 140],#[]⟩
def T10 (P:Params):BT:=ns (T9 P) [(3,o146 P),(12,o147),(31,o148),(131,o149),(132,o150),(133,o151 P),(134,o152),(135,o153),(136,o154),(137,o155),(138,o156),(139,o157 P),(140,o158),(141,o159),(142,o160)]
theorem pc10:Hd.Pc pp env T9 131 342 T10 143 358 214 [tp 11] ⟨21,0,22,8⟩ ⟨23,0,24,8⟩:=by
 intro w
 kernel_rfl
def g10 (P:Params):List DictEntry:=g9 P++[en P "FreeDeed" 373 (.ref 152)]
def o161 (P:Params):Obj:=⟨.type "dict",none,.dict ⟨en P "__name__" 165 (.str "roomward.errors" 194)::g10 P⟩ 21,#[]⟩
def o162:Obj:=nf [i0 1,i0 0,.ref 20,i0 5,i0 0,.ref 27,i0 7,i0 0,.ref 40,i0 9,i0 0,.ref 52,i0 11,i0 0,.ref 64,i0 13,i0 0,.ref 76,i0 15,i0 0,.ref 88,i0 17,i0 0,.ref 100,i0 19,i0 0,.ref 112,i0 21,i0 0,.ref 124,i0 23,i0 0,.ref 136,i0 25,i0 0,.ref 148]
def o163:Obj:=⟨.type "type",none,.cls ⟨"WardError",[.type "ValueError"],[.ref 31,.type "ValueError",.type "Exception",.type "BaseException",.type "object"],30,"WardError",true,[],[.ref 44,.ref 56,.ref 68,.ref 80,.ref 92,.ref 104,.ref 116,.ref 128,.ref 140,.ref 152],false,none,false⟩,#[(some (.ref 22)),none,(some (.str "WardError" 196)),(some (.str "WardError" 204)),(some (.builtin "ValueError.__new__")),(some (.bool true))]⟩
def o164:Obj:=tu [.ref 31]
def o165:Obj:=⟨.type "builtin_function_or_method",none,.fields #[.builtin "type.__prepare__",.type "type"],#[]⟩
def o166 (P:Params):Obj:=⟨.type "dict",none,.dict #[en P "__module__" 365 (.str "roomward.errors" 194),en P "__qualname__" 367 (.str "FreeDeed" 366),en P "__firstlineno__" 369 (.int 25 368),en P "__static_attributes__" 370 (.ref 150)] 4,#[]⟩
def o167:Obj:=tu []
def o168:Obj:=nf []
def o169:Obj:=co [.str "FreeDeed" 360,.str "FreeDeed" 361,cp 362,i0 25,i0 0,i0 0,i0 0,i0 0,.ref 146,.bool false,i0 181,.ref 147,.none,.none,.none,.none,i0 363,i0 25,cp 364]
def o170:Obj:=⟨.type "frame",none,.plain,#[(some (.ref 148)),(some (.ref 3)),(some (.ref 145)),none,(some (.str "roomward.errors" 194)),none,(some (.ref 0))]⟩
def o171:Obj:=tu []
def o172 (P:Params):Obj:=⟨.type "dict",none,.dict #[en P "__module__" 365 (.str "roomward.errors" 194),en P "__firstlineno__" 369 (.int 25 368),en P "__static_attributes__" 370 (.ref 150),en P "__doc__" 371 .none] 2,#[]⟩
def o173:Obj:=⟨.type "type",none,.cls ⟨"FreeDeed",[.ref 31],[.ref 152,.ref 31,.type "ValueError",.type "Exception",.type "BaseException",.type "object"],151,"FreeDeed",true,[],[],false,none,false⟩,#[(some (.ref 143)),none,(some (.str "FreeDeed" 358)),(some (.str "FreeDeed" 366)),(some (.builtin "ValueError.__new__")),(some (.bool true))]⟩
def o174:Obj:=⟨.type "super",none,.fields #[.ref 152,.ref 152,.ref 152],#[]⟩
def o175:Obj:=⟨.type "builtin_function_or_method",none,.fields #[.builtin "object.__init_subclass__",.ref 152],#[]⟩
def T11 (P:Params):BT:=ns (T10 P) [(3,o161 P),(12,o162),(31,o163),(143,o164),(144,o165),(145,o166 P),(146,o167),(147,o168),(148,o169),(149,o170),(150,o171),(151,o172 P),(152,o173),(153,o174),(154,o175)]
theorem pc11:Hd.Pc pp env T10 143 358 T11 155 374 214 [tp 12] ⟨23,0,24,8⟩ ⟨25,0,26,8⟩:=by
 intro w
 kernel_rfl
def g11 (P:Params):List DictEntry:=g10 P++[en P "NotNow" 389 (.ref 164)]
def o176 (P:Params):Obj:=⟨.type "dict",none,.dict ⟨en P "__name__" 165 (.str "roomward.errors" 194)::g11 P⟩ 22,#[]⟩
def o177:Obj:=nf [i0 1,i0 0,.ref 20,i0 5,i0 0,.ref 27,i0 7,i0 0,.ref 40,i0 9,i0 0,.ref 52,i0 11,i0 0,.ref 64,i0 13,i0 0,.ref 76,i0 15,i0 0,.ref 88,i0 17,i0 0,.ref 100,i0 19,i0 0,.ref 112,i0 21,i0 0,.ref 124,i0 23,i0 0,.ref 136,i0 25,i0 0,.ref 148,i0 27,i0 0,.ref 160]
def o178:Obj:=⟨.type "type",none,.cls ⟨"WardError",[.type "ValueError"],[.ref 31,.type "ValueError",.type "Exception",.type "BaseException",.type "object"],30,"WardError",true,[],[.ref 44,.ref 56,.ref 68,.ref 80,.ref 92,.ref 104,.ref 116,.ref 128,.ref 140,.ref 152,.ref 164],false,none,false⟩,#[(some (.ref 22)),none,(some (.str "WardError" 196)),(some (.str "WardError" 204)),(some (.builtin "ValueError.__new__")),(some (.bool true))]⟩
def o179:Obj:=tu [.ref 31]
def o180:Obj:=⟨.type "builtin_function_or_method",none,.fields #[.builtin "type.__prepare__",.type "type"],#[]⟩
def o181 (P:Params):Obj:=⟨.type "dict",none,.dict #[en P "__module__" 381 (.str "roomward.errors" 194),en P "__qualname__" 383 (.str "NotNow" 382),en P "__firstlineno__" 385 (.int 27 384),en P "__static_attributes__" 386 (.ref 162)] 4,#[]⟩
def o182:Obj:=tu []
def o183:Obj:=nf []
def o184:Obj:=co [.str "NotNow" 376,.str "NotNow" 377,cp 378,i0 27,i0 0,i0 0,i0 0,i0 0,.ref 158,.bool false,i0 181,.ref 159,.none,.none,.none,.none,i0 379,i0 27,cp 380]
def o185:Obj:=⟨.type "frame",none,.plain,#[(some (.ref 160)),(some (.ref 3)),(some (.ref 157)),none,(some (.str "roomward.errors" 194)),none,(some (.ref 0))]⟩
def o186:Obj:=tu []
def o187 (P:Params):Obj:=⟨.type "dict",none,.dict #[en P "__module__" 381 (.str "roomward.errors" 194),en P "__firstlineno__" 385 (.int 27 384),en P "__static_attributes__" 386 (.ref 162),en P "__doc__" 387 .none] 2,#[]⟩
def o188:Obj:=⟨.type "type",none,.cls ⟨"NotNow",[.ref 31],[.ref 164,.ref 31,.type "ValueError",.type "Exception",.type "BaseException",.type "object"],163,"NotNow",true,[],[],false,none,false⟩,#[(some (.ref 155)),none,(some (.str "NotNow" 374)),(some (.str "NotNow" 382)),(some (.builtin "ValueError.__new__")),(some (.bool true))]⟩
def o189:Obj:=⟨.type "super",none,.fields #[.ref 164,.ref 164,.ref 164],#[]⟩
def o190:Obj:=⟨.type "builtin_function_or_method",none,.fields #[.builtin "object.__init_subclass__",.ref 164],#[]⟩
def T12 (P:Params):BT:=ns (T11 P) [(3,o176 P),(12,o177),(31,o178),(155,o179),(156,o180),(157,o181 P),(158,o182),(159,o183),(160,o184),(161,o185),(162,o186),(163,o187 P),(164,o188),(165,o189),(166,o190)]
theorem pc12:Hd.Pc pp env T11 155 374 T12 167 390 214 [tp 13] ⟨25,0,26,8⟩ ⟨27,0,28,8⟩:=by
 intro w
 kernel_rfl
def g12 (P:Params):List DictEntry:=g11 P++[en P "NoWarden" 416 (.ref 183)]
def o191 (P:Params):Obj:=⟨.type "dict",none,.dict ⟨en P "__name__" 165 (.str "roomward.errors" 194)::g12 P⟩ 23,#[]⟩
def o192:Obj:=nf [i0 1,i0 0,.ref 20,i0 5,i0 0,.ref 27,i0 7,i0 0,.ref 40,i0 9,i0 0,.ref 52,i0 11,i0 0,.ref 64,i0 13,i0 0,.ref 76,i0 15,i0 0,.ref 88,i0 17,i0 0,.ref 100,i0 19,i0 0,.ref 112,i0 21,i0 0,.ref 124,i0 23,i0 0,.ref 136,i0 25,i0 0,.ref 148,i0 27,i0 0,.ref 160,i0 29,i0 0,.ref 172]
def o193:Obj:=⟨.type "type",none,.cls ⟨"WardError",[.type "ValueError"],[.ref 31,.type "ValueError",.type "Exception",.type "BaseException",.type "object"],30,"WardError",true,[],[.ref 44,.ref 56,.ref 68,.ref 80,.ref 92,.ref 104,.ref 116,.ref 128,.ref 140,.ref 152,.ref 164,.ref 183],false,none,false⟩,#[(some (.ref 22)),none,(some (.str "WardError" 196)),(some (.str "WardError" 204)),(some (.builtin "ValueError.__new__")),(some (.bool true))]⟩
def o194:Obj:=tu [.ref 31]
def o195:Obj:=⟨.type "builtin_function_or_method",none,.fields #[.builtin "type.__prepare__",.type "type"],#[]⟩
def o196 (P:Params):Obj:=⟨.type "dict",none,.dict #[en P "__module__" 397 (.str "roomward.errors" 194),en P "__qualname__" 399 (.str "NoWarden" 398),en P "__firstlineno__" 401 (.int 29 400),en P "__init__" 410 (.ref 180),en P "__static_attributes__" 413 (.ref 181)] 5,#[]⟩
def o197:Obj:=tu []
def o198:Obj:=nf [i0 31,i0 4,.ref 179]
def o199:Obj:=co [.str "NoWarden" 392,.str "NoWarden" 393,cp 394,i0 29,i0 0,i0 0,i0 0,i0 0,.ref 170,.bool false,i0 181,.ref 171,.none,.none,.none,.none,i0 395,i0 29,cp 396]
def o200:Obj:=⟨.type "frame",none,.plain,#[(some (.ref 172)),(some (.ref 3)),(some (.ref 169)),none,(some (.str "roomward.errors" 194)),none,(some (.ref 0))]⟩
def o201:Obj:=tu []
def o202:Obj:=nf []
def o203:Obj:=tu [.str "self" 405,.str "word" 406,.str "row" 407]
def o204:Obj:=tu []
def o205:Obj:=nu ⟨"__init__","NoWarden.__init__",aH (aE (tp 14) 0),.stmts (aF (aE (tp 14) 0)),aB (aE (tp 14) 0),0,[],.none,.none,.none,.none,none,.none,.none,0⟩
def o206:Obj:=co [.str "__init__" 402,.str "NoWarden.__init__" 403,cp 404,i0 31,i0 3,i0 0,i0 0,i0 3,.ref 174,.bool true,i0 181,.ref 175,.none,.ref 176,.ref 177,.ref 178,i0 408,i0 31,cp 409]
def o207:Obj:=fu ⟨"__init__","NoWarden.__init__",aH (aE (tp 14) 0),.stmts (aF (aE (tp 14) 0)),aB (aE (tp 14) 0),3,[],.none,.none,.none,.str "roomward.errors" 194,none,.ref 179,.none,0⟩
def o208:Obj:=tu [.str "row" 411,.str "word" 412]
def o209 (P:Params):Obj:=⟨.type "dict",none,.dict #[en P "__module__" 397 (.str "roomward.errors" 194),en P "__firstlineno__" 401 (.int 29 400),en P "__init__" 410 (.ref 180),en P "__static_attributes__" 413 (.ref 181),en P "__doc__" 414 .none] 2,#[]⟩
def o210:Obj:=⟨.type "type",none,.cls ⟨"NoWarden",[.ref 31],[.ref 183,.ref 31,.type "ValueError",.type "Exception",.type "BaseException",.type "object"],182,"NoWarden",true,[],[],false,none,false⟩,#[(some (.ref 167)),none,(some (.str "NoWarden" 390)),(some (.str "NoWarden" 398)),(some (.builtin "ValueError.__new__")),(some (.bool true))]⟩
def o211:Obj:=⟨.type "super",none,.fields #[.ref 183,.ref 183,.ref 183],#[]⟩
def o212:Obj:=⟨.type "builtin_function_or_method",none,.fields #[.builtin "object.__init_subclass__",.ref 183],#[]⟩
def T13 (P:Params):BT:=ns (T12 P) [(3,o191 P),(12,o192),(31,o193),(167,o194),(168,o195),(169,o196 P),(170,o197),(171,o198),(172,o199),(173,o200),(174,o201),(175,o202),(176,o203),(177,o204),(178,o205),(179,o206),(180,o207),(181,o208),(182,o209 P),(183,o210),(184,o211),(185,o212)]
theorem pc13:Hd.Pc pp env T12 167 390 T13 186 417 248 [tp 14] ⟨27,0,28,8⟩ ⟨29,0,34,28⟩:=by
 intro w
 kernel_rfl
def g13 (P:Params):List DictEntry:=g12 P++[en P "NoText" 441 (.ref 202)]
def o213 (P:Params):Obj:=⟨.type "dict",none,.dict ⟨en P "__name__" 165 (.str "roomward.errors" 194)::g13 P⟩ 24,#[]⟩
def o214:Obj:=nf [i0 1,i0 0,.ref 20,i0 5,i0 0,.ref 27,i0 7,i0 0,.ref 40,i0 9,i0 0,.ref 52,i0 11,i0 0,.ref 64,i0 13,i0 0,.ref 76,i0 15,i0 0,.ref 88,i0 17,i0 0,.ref 100,i0 19,i0 0,.ref 112,i0 21,i0 0,.ref 124,i0 23,i0 0,.ref 136,i0 25,i0 0,.ref 148,i0 27,i0 0,.ref 160,i0 29,i0 0,.ref 172,i0 35,i0 0,.ref 191]
def o215:Obj:=⟨.type "type",none,.cls ⟨"WardError",[.type "ValueError"],[.ref 31,.type "ValueError",.type "Exception",.type "BaseException",.type "object"],30,"WardError",true,[],[.ref 44,.ref 56,.ref 68,.ref 80,.ref 92,.ref 104,.ref 116,.ref 128,.ref 140,.ref 152,.ref 164,.ref 183,.ref 202],false,none,false⟩,#[(some (.ref 22)),none,(some (.str "WardError" 196)),(some (.str "WardError" 204)),(some (.builtin "ValueError.__new__")),(some (.bool true))]⟩
def o216:Obj:=tu [.ref 31]
def o217:Obj:=⟨.type "builtin_function_or_method",none,.fields #[.builtin "type.__prepare__",.type "type"],#[]⟩
def o218 (P:Params):Obj:=⟨.type "dict",none,.dict #[en P "__module__" 424 (.str "roomward.errors" 194),en P "__qualname__" 426 (.str "NoText" 425),en P "__firstlineno__" 428 (.int 35 427),en P "__init__" 436 (.ref 199),en P "__static_attributes__" 438 (.ref 200)] 5,#[]⟩
def o219:Obj:=tu []
def o220:Obj:=nf [i0 37,i0 4,.ref 198]
def o221:Obj:=co [.str "NoText" 419,.str "NoText" 420,cp 421,i0 35,i0 0,i0 0,i0 0,i0 0,.ref 189,.bool false,i0 181,.ref 190,.none,.none,.none,.none,i0 422,i0 35,cp 423]
def o222:Obj:=⟨.type "frame",none,.plain,#[(some (.ref 191)),(some (.ref 3)),(some (.ref 188)),none,(some (.str "roomward.errors" 194)),none,(some (.ref 0))]⟩
def o223:Obj:=tu []
def o224:Obj:=nf []
def o225:Obj:=tu [.str "self" 432,.str "row" 433]
def o226:Obj:=tu []
def o227:Obj:=nu ⟨"__init__","NoText.__init__",aH (aE (tp 15) 0),.stmts (aF (aE (tp 15) 0)),aB (aE (tp 15) 0),0,[],.none,.none,.none,.none,none,.none,.none,0⟩
def o228:Obj:=co [.str "__init__" 429,.str "NoText.__init__" 430,cp 431,i0 37,i0 2,i0 0,i0 0,i0 3,.ref 193,.bool true,i0 181,.ref 194,.none,.ref 195,.ref 196,.ref 197,i0 434,i0 37,cp 435]
def o229:Obj:=fu ⟨"__init__","NoText.__init__",aH (aE (tp 15) 0),.stmts (aF (aE (tp 15) 0)),aB (aE (tp 15) 0),3,[],.none,.none,.none,.str "roomward.errors" 194,none,.ref 198,.none,0⟩
def o230:Obj:=tu [.str "row" 437]
def o231 (P:Params):Obj:=⟨.type "dict",none,.dict #[en P "__module__" 424 (.str "roomward.errors" 194),en P "__firstlineno__" 428 (.int 35 427),en P "__init__" 436 (.ref 199),en P "__static_attributes__" 438 (.ref 200),en P "__doc__" 439 .none] 2,#[]⟩
def o232:Obj:=⟨.type "type",none,.cls ⟨"NoText",[.ref 31],[.ref 202,.ref 31,.type "ValueError",.type "Exception",.type "BaseException",.type "object"],201,"NoText",true,[],[],false,none,false⟩,#[(some (.ref 186)),none,(some (.str "NoText" 417)),(some (.str "NoText" 425)),(some (.builtin "ValueError.__new__")),(some (.bool true))]⟩
def o233:Obj:=⟨.type "super",none,.fields #[.ref 202,.ref 202,.ref 202],#[]⟩
def o234:Obj:=⟨.type "builtin_function_or_method",none,.fields #[.builtin "object.__init_subclass__",.ref 202],#[]⟩
def T14 (P:Params):BT:=ns (T13 P) [(3,o213 P),(12,o214),(31,o215),(186,o216),(187,o217),(188,o218 P),(189,o219),(190,o220),(191,o221),(192,o222),(193,o223),(194,o224),(195,o225),(196,o226),(197,o227),(198,o228),(199,o229),(200,o230),(201,o231 P),(202,o232),(203,o233),(204,o234)]
theorem pc14:Hd.Pc pp env T13 186 417 T14 205 442 246 [tp 15] ⟨29,0,34,28⟩ ⟨35,0,38,22⟩:=by
 intro w
 kernel_rfl
def g14 (P:Params):List DictEntry:=g13 P++[en P "NoBook" 466 (.ref 221),en P "rows_to" 483 (.ref 230),en P "come_to" 492 (.ref 237),en P "LETTERS" 496 (.str "abcdefghijklmnopqrstuvwxyz" 495),en P "FIGURES" 498 (.str "0123456789" 497),en P "MOST_SIGNS" 500 (.int 8 499),en P "MOST_DEEDS" 502 (.int 12 501),en P "is_name" 508 (.ref 242)]
def o235 (P:Params):Obj:=⟨.type "dict",none,.dict ⟨en P "__name__" 165 (.str "roomward.deeds" 493)::g14 P⟩ 32,#[]⟩
def o236:Obj:=nf [i0 1,i0 0,.ref 20,i0 5,i0 0,.ref 27,i0 7,i0 0,.ref 40,i0 9,i0 0,.ref 52,i0 11,i0 0,.ref 64,i0 13,i0 0,.ref 76,i0 15,i0 0,.ref 88,i0 17,i0 0,.ref 100,i0 19,i0 0,.ref 112,i0 21,i0 0,.ref 124,i0 23,i0 0,.ref 136,i0 25,i0 0,.ref 148,i0 27,i0 0,.ref 160,i0 29,i0 0,.ref 172,i0 35,i0 0,.ref 191,i0 39,i0 0,.ref 210,i0 44,i0 0,.ref 229,i0 58,i0 0,.ref 236,i0 65,i0 0,.ref 241]
def o237:Obj:=⟨.type "type",none,.cls ⟨"WardError",[.type "ValueError"],[.ref 31,.type "ValueError",.type "Exception",.type "BaseException",.type "object"],30,"WardError",true,[],[.ref 44,.ref 56,.ref 68,.ref 80,.ref 92,.ref 104,.ref 116,.ref 128,.ref 140,.ref 152,.ref 164,.ref 183,.ref 202,.ref 221],false,none,false⟩,#[(some (.ref 22)),none,(some (.str "WardError" 196)),(some (.str "WardError" 204)),(some (.builtin "ValueError.__new__")),(some (.bool true))]⟩
def o238:Obj:=tu [.ref 31]
def o239:Obj:=⟨.type "builtin_function_or_method",none,.fields #[.builtin "type.__prepare__",.type "type"],#[]⟩
def o240 (P:Params):Obj:=⟨.type "dict",none,.dict #[en P "__module__" 449 (.str "roomward.errors" 194),en P "__qualname__" 451 (.str "NoBook" 450),en P "__firstlineno__" 453 (.int 39 452),en P "__init__" 461 (.ref 218),en P "__static_attributes__" 463 (.ref 219)] 5,#[]⟩
def o241:Obj:=tu []
def o242:Obj:=nf [i0 41,i0 4,.ref 217]
def o243:Obj:=co [.str "NoBook" 444,.str "NoBook" 445,cp 446,i0 39,i0 0,i0 0,i0 0,i0 0,.ref 208,.bool false,i0 181,.ref 209,.none,.none,.none,.none,i0 447,i0 39,cp 448]
def o244:Obj:=⟨.type "frame",none,.plain,#[(some (.ref 210)),(some (.ref 3)),(some (.ref 207)),none,(some (.str "roomward.errors" 194)),none,(some (.ref 0))]⟩
def o245:Obj:=tu []
def o246:Obj:=nf []
def o247:Obj:=tu [.str "self" 457,.str "row" 458]
def o248:Obj:=tu []
def o249:Obj:=nu ⟨"__init__","NoBook.__init__",aH (aE (tp 16) 0),.stmts (aF (aE (tp 16) 0)),aB (aE (tp 16) 0),0,[],.none,.none,.none,.none,none,.none,.none,0⟩
def o250:Obj:=co [.str "__init__" 454,.str "NoBook.__init__" 455,cp 456,i0 41,i0 2,i0 0,i0 0,i0 3,.ref 212,.bool true,i0 181,.ref 213,.none,.ref 214,.ref 215,.ref 216,i0 459,i0 41,cp 460]
def o251:Obj:=fu ⟨"__init__","NoBook.__init__",aH (aE (tp 16) 0),.stmts (aF (aE (tp 16) 0)),aB (aE (tp 16) 0),3,[],.none,.none,.none,.str "roomward.errors" 194,none,.ref 217,.none,0⟩
def o252:Obj:=tu [.str "row" 462]
def o253 (P:Params):Obj:=⟨.type "dict",none,.dict #[en P "__module__" 449 (.str "roomward.errors" 194),en P "__firstlineno__" 453 (.int 39 452),en P "__init__" 461 (.ref 218),en P "__static_attributes__" 463 (.ref 219),en P "__doc__" 464 .none] 2,#[]⟩
def o254:Obj:=⟨.type "type",none,.cls ⟨"NoBook",[.ref 31],[.ref 221,.ref 31,.type "ValueError",.type "Exception",.type "BaseException",.type "object"],220,"NoBook",true,[],[],false,none,false⟩,#[(some (.ref 205)),none,(some (.str "NoBook" 442)),(some (.str "NoBook" 450)),(some (.builtin "ValueError.__new__")),(some (.bool true))]⟩
def o255:Obj:=⟨.type "super",none,.fields #[.ref 221,.ref 221,.ref 221],#[]⟩
def o256:Obj:=⟨.type "builtin_function_or_method",none,.fields #[.builtin "object.__init_subclass__",.ref 221],#[]⟩
def o257:Obj:=tu []
def o258:Obj:=nf []
def o259:Obj:=tu [.str "begin" 472,.str "doors" 473,.str "most" 474,.str "rows" 475,.str "rooms" 476,.str "place" 477,.str "room" 478,.str "deed" 479,.str "far" 480]
def o260:Obj:=tu []
def o261:Obj:=nu ⟨"rows_to","rows_to",aH (tp 18),.stmts (aF (tp 18)),aB (tp 18),0,[],.none,.none,.none,.none,none,.none,.none,0⟩
def o262:Obj:=co [.str "rows_to" 469,.str "rows_to" 470,cp 471,i0 44,i0 3,i0 0,i0 0,i0 3,.ref 224,.bool true,i0 181,.ref 225,.none,.ref 226,.ref 227,.ref 228,i0 481,i0 44,cp 482]
def o263:Obj:=fu ⟨"rows_to","rows_to",aH (tp 18),.stmts (aF (tp 18)),aB (tp 18),3,[],.none,.none,.none,.str "roomward.coming" 467,none,.ref 229,.none,0⟩
def o264:Obj:=tu []
def o265:Obj:=nf []
def o266:Obj:=tu [.str "begin" 487,.str "doors" 488,.str "most" 489]
def o267:Obj:=tu []
def o268:Obj:=nu ⟨"come_to","come_to",aH (tp 19),.stmts (aF (tp 19)),aB (tp 19),0,[],.none,.none,.none,.none,none,.none,.none,0⟩
def o269:Obj:=co [.str "come_to" 484,.str "come_to" 485,cp 486,i0 58,i0 3,i0 0,i0 0,i0 3,.ref 231,.bool true,i0 181,.ref 232,.none,.ref 233,.ref 234,.ref 235,i0 490,i0 58,cp 491]
def o270:Obj:=fu ⟨"come_to","come_to",aH (tp 19),.stmts (aF (tp 19)),aB (tp 19),3,[],.none,.none,.none,.str "roomward.coming" 467,none,.ref 236,.none,0⟩
def o271:Obj:=tu []
def o272:Obj:=nf []
def o273:Obj:=nu ⟨"is_name","is_name",aH (tp 25),.stmts (aF (tp 25)),aB (tp 25),0,[],.none,.none,.none,.none,none,.none,.none,0⟩
def o274:Obj:=co [.str "is_name" 503,.str "is_name" 504,cp 505,i0 65,i0 1,i0 0,i0 0,i0 3,.ref 238,.bool true,i0 181,.ref 239,.none,.none,.none,.ref 240,i0 506,i0 65,cp 507]
def o275:Obj:=fu ⟨"is_name","is_name",aH (tp 25),.stmts (aF (tp 25)),aB (tp 25),3,[],.none,.none,.none,.str "roomward.deeds" 493,none,.ref 241,.none,0⟩
def T15 (P:Params):BT:=ns (T14 P) [(3,o235 P),(12,o236),(31,o237),(205,o238),(206,o239),(207,o240 P),(208,o241),(209,o242),(210,o243),(211,o244),(212,o245),(213,o246),(214,o247),(215,o248),(216,o249),(217,o250),(218,o251),(219,o252),(220,o253 P),(221,o254),(222,o255),(223,o256),(224,o257),(225,o258),(226,o259),(227,o260),(228,o261),(229,o262),(230,o263),(231,o264),(232,o265),(233,o266),(234,o267),(235,o268),(236,o269),(237,o270),(238,o271),(239,o272),(240,o273),(241,o274),(242,o275)]
theorem pc15:Hd.Pc pp env T14 205 442 T15 243 509 394 [tp 16,tp 17,tp 18,tp 19,tp 20,tp 21,tp 22,tp 23,tp 24,tp 25] ⟨35,0,38,22⟩ ⟨65,0,69,73⟩:=by
 intro w
 kernel_rfl
def g15 (P:Params):List DictEntry:=g14 P++[en P "refuse_names" 517 (.ref 249),en P "weights_of" 527 (.ref 256),en P "marks_of" 536 (.ref 263)]
def o276 (P:Params):Obj:=⟨.type "dict",none,.dict ⟨en P "__name__" 165 (.str "roomward.deeds" 493)::g15 P⟩ 35,#[]⟩
def o277:Obj:=nf [i0 1,i0 0,.ref 20,i0 5,i0 0,.ref 27,i0 7,i0 0,.ref 40,i0 9,i0 0,.ref 52,i0 11,i0 0,.ref 64,i0 13,i0 0,.ref 76,i0 15,i0 0,.ref 88,i0 17,i0 0,.ref 100,i0 19,i0 0,.ref 112,i0 21,i0 0,.ref 124,i0 23,i0 0,.ref 136,i0 25,i0 0,.ref 148,i0 27,i0 0,.ref 160,i0 29,i0 0,.ref 172,i0 35,i0 0,.ref 191,i0 39,i0 0,.ref 210,i0 44,i0 0,.ref 229,i0 58,i0 0,.ref 236,i0 65,i0 0,.ref 241,i0 70,i0 0,.ref 248,i0 80,i0 0,.ref 255,i0 87,i0 0,.ref 262]
def o278:Obj:=tu []
def o279:Obj:=nf []
def o280:Obj:=tu [.str "names" 512,.str "ahead" 513,.str "name" 514]
def o281:Obj:=tu []
def o282:Obj:=nu ⟨"refuse_names","refuse_names",aH (tp 26),.stmts (aF (tp 26)),aB (tp 26),0,[],.none,.none,.none,.none,none,.none,.none,0⟩
def o283:Obj:=co [.str "refuse_names" 509,.str "refuse_names" 510,cp 511,i0 70,i0 1,i0 0,i0 0,i0 3,.ref 243,.bool true,i0 181,.ref 244,.none,.ref 245,.ref 246,.ref 247,i0 515,i0 70,cp 516]
def o284:Obj:=fu ⟨"refuse_names","refuse_names",aH (tp 26),.stmts (aF (tp 26)),aB (tp 26),3,[],.none,.none,.none,.str "roomward.deeds" 493,none,.ref 248,.none,0⟩
def o285:Obj:=tu []
def o286:Obj:=nf []
def o287:Obj:=tu [.str "names" 521,.str "weights" 522,.str "weight" 523,.str "name" 524]
def o288:Obj:=tu []
def o289:Obj:=nu ⟨"weights_of","weights_of",aH (tp 27),.stmts (aF (tp 27)),aB (tp 27),0,[],.none,.none,.none,.none,none,.none,.none,0⟩
def o290:Obj:=co [.str "weights_of" 518,.str "weights_of" 519,cp 520,i0 80,i0 1,i0 0,i0 0,i0 3,.ref 250,.bool true,i0 181,.ref 251,.none,.ref 252,.ref 253,.ref 254,i0 525,i0 80,cp 526]
def o291:Obj:=fu ⟨"weights_of","weights_of",aH (tp 27),.stmts (aF (tp 27)),aB (tp 27),3,[],.none,.none,.none,.str "roomward.deeds" 493,none,.ref 255,.none,0⟩
def o292:Obj:=tu []
def o293:Obj:=nf []
def o294:Obj:=tu [.str "names" 531,.str "marks" 532,.str "name" 533]
def o295:Obj:=tu []
def o296:Obj:=nu ⟨"marks_of","marks_of",aH (tp 28),.stmts (aF (tp 28)),aB (tp 28),0,[],.none,.none,.none,.none,none,.none,.none,0⟩
def o297:Obj:=co [.str "marks_of" 528,.str "marks_of" 529,cp 530,i0 87,i0 1,i0 0,i0 0,i0 3,.ref 257,.bool true,i0 181,.ref 258,.none,.ref 259,.ref 260,.ref 261,i0 534,i0 87,cp 535]
def o298:Obj:=fu ⟨"marks_of","marks_of",aH (tp 28),.stmts (aF (tp 28)),aB (tp 28),3,[],.none,.none,.none,.str "roomward.deeds" 493,none,.ref 262,.none,0⟩
def T16 (P:Params):BT:=ns (T15 P) [(3,o276 P),(12,o277),(243,o278),(244,o279),(245,o280),(246,o281),(247,o282),(248,o283),(249,o284),(250,o285),(251,o286),(252,o287),(253,o288),(254,o289),(255,o290),(256,o291),(257,o292),(258,o293),(259,o294),(260,o295),(261,o296),(262,o297),(263,o298)]
theorem pc16:Hd.Pc pp env T15 243 509 T16 264 537 95 [tp 26,tp 27,tp 28] ⟨65,0,69,73⟩ ⟨87,0,91,16⟩:=by
 intro w
 kernel_rfl
def g16 (P:Params):List DictEntry:=g15 P++[en P "Deeds" 623 (.ref 330)]
def o299 (P:Params):Obj:=⟨.type "dict",none,.dict ⟨en P "__name__" 165 (.str "roomward.deeds" 493)::g16 P⟩ 36,#[]⟩
def o300:Obj:=nf [i0 1,i0 0,.ref 20,i0 5,i0 0,.ref 27,i0 7,i0 0,.ref 40,i0 9,i0 0,.ref 52,i0 11,i0 0,.ref 64,i0 13,i0 0,.ref 76,i0 15,i0 0,.ref 88,i0 17,i0 0,.ref 100,i0 19,i0 0,.ref 112,i0 21,i0 0,.ref 124,i0 23,i0 0,.ref 136,i0 25,i0 0,.ref 148,i0 27,i0 0,.ref 160,i0 29,i0 0,.ref 172,i0 35,i0 0,.ref 191,i0 39,i0 0,.ref 210,i0 44,i0 0,.ref 229,i0 58,i0 0,.ref 236,i0 65,i0 0,.ref 241,i0 70,i0 0,.ref 248,i0 80,i0 0,.ref 255,i0 87,i0 0,.ref 262,i0 92,i0 0,.ref 269]
def o301:Obj:=tu []
def o302:Obj:=⟨.type "builtin_function_or_method",none,.fields #[.builtin "type.__prepare__",.type "type"],#[]⟩
def g17 (P:Params):List DictEntry:=[en P "__qualname__" 546 (.str "Deeds" 545),en P "__firstlineno__" 548 (.int 92 547),en P "__init__" 558 (.ref 278),en P "names" 565 (.ref 285),en P "free" 572 (.ref 292),en P "has" 580 (.ref 299),en P "require" 589 (.ref 306),en P "is_free" 597 (.ref 313),en P "bits" 605 (.ref 320),en P "names_of" 613 (.ref 327),en P "__static_attributes__" 616 (.ref 328)]
def o303 (P:Params):Obj:=⟨.type "dict",none,.dict ⟨en P "__module__" 544 (.str "roomward.deeds" 493)::g17 P⟩ 12,#[]⟩
def o304:Obj:=tu []
def o305:Obj:=nf [i0 94,i0 4,.ref 277,i0 101,i0 4,.ref 284,i0 104,i0 4,.ref 291,i0 107,i0 4,.ref 298,i0 110,i0 4,.ref 305,i0 115,i0 4,.ref 312,i0 118,i0 4,.ref 319,i0 121,i0 4,.ref 326]
def o306:Obj:=co [.str "Deeds" 539,.str "Deeds" 540,cp 541,i0 92,i0 0,i0 0,i0 0,i0 0,.ref 267,.bool false,i0 181,.ref 268,.none,.none,.none,.none,i0 542,i0 92,cp 543]
def o307:Obj:=⟨.type "frame",none,.plain,#[(some (.ref 269)),(some (.ref 3)),(some (.ref 266)),none,(some (.str "roomward.deeds" 493)),none,(some (.ref 0))]⟩
def o308:Obj:=tu [.none]
def o309:Obj:=tu []
def o310:Obj:=nf []
def o311:Obj:=tu [.str "self" 552,.str "names" 553,.str "free" 554,.str "free_names" 555]
def o312:Obj:=tu []
def o313:Obj:=nu ⟨"__init__","Deeds.__init__",aH (aE (tp 29) 0),.stmts (aF (aE (tp 29) 0)),aB (aE (tp 29) 0),0,[],.none,.none,.none,.none,none,.none,.none,0⟩
def o314:Obj:=co [.str "__init__" 549,.str "Deeds.__init__" 550,cp 551,i0 94,i0 3,i0 0,i0 0,i0 3,.ref 272,.bool true,i0 181,.ref 273,.none,.ref 274,.ref 275,.ref 276,i0 556,i0 94,cp 557]
def o315:Obj:=fu ⟨"__init__","Deeds.__init__",aH (aE (tp 29) 0),.stmts (aF (aE (tp 29) 0)),aB (aE (tp 29) 0),3,[],.ref 271,.none,.none,.str "roomward.deeds" 493,none,.ref 277,.none,0⟩
def o316:Obj:=tu []
def o317:Obj:=nf []
def o318:Obj:=tu [.str "self" 562]
def o319:Obj:=tu []
def o320:Obj:=nu ⟨"names","Deeds.names",aH (aE (tp 29) 1),.stmts (aF (aE (tp 29) 1)),aB (aE (tp 29) 1),0,[],.none,.none,.none,.none,none,.none,.none,0⟩
def o321:Obj:=co [.str "names" 559,.str "Deeds.names" 560,cp 561,i0 101,i0 1,i0 0,i0 0,i0 3,.ref 279,.bool true,i0 181,.ref 280,.none,.ref 281,.ref 282,.ref 283,i0 563,i0 101,cp 564]
def o322:Obj:=fu ⟨"names","Deeds.names",aH (aE (tp 29) 1),.stmts (aF (aE (tp 29) 1)),aB (aE (tp 29) 1),3,[],.none,.none,.none,.str "roomward.deeds" 493,none,.ref 284,.none,0⟩
def o323:Obj:=tu []
def o324:Obj:=nf []
def o325:Obj:=tu [.str "self" 569]
def o326:Obj:=tu []
def o327:Obj:=nu ⟨"free","Deeds.free",aH (aE (tp 29) 2),.stmts (aF (aE (tp 29) 2)),aB (aE (tp 29) 2),0,[],.none,.none,.none,.none,none,.none,.none,0⟩
def o328:Obj:=co [.str "free" 566,.str "Deeds.free" 567,cp 568,i0 104,i0 1,i0 0,i0 0,i0 3,.ref 286,.bool true,i0 181,.ref 287,.none,.ref 288,.ref 289,.ref 290,i0 570,i0 104,cp 571]
def o329:Obj:=fu ⟨"free","Deeds.free",aH (aE (tp 29) 2),.stmts (aF (aE (tp 29) 2)),aB (aE (tp 29) 2),3,[],.none,.none,.none,.str "roomward.deeds" 493,none,.ref 291,.none,0⟩
def o330:Obj:=tu []
def o331:Obj:=nf []
def o332:Obj:=tu [.str "self" 576,.str "thing" 577]
def o333:Obj:=tu []
def o334:Obj:=nu ⟨"has","Deeds.has",aH (aE (tp 29) 3),.stmts (aF (aE (tp 29) 3)),aB (aE (tp 29) 3),0,[],.none,.none,.none,.none,none,.none,.none,0⟩
def o335:Obj:=co [.str "has" 573,.str "Deeds.has" 574,cp 575,i0 107,i0 2,i0 0,i0 0,i0 3,.ref 293,.bool true,i0 181,.ref 294,.none,.ref 295,.ref 296,.ref 297,i0 578,i0 107,cp 579]
def o336:Obj:=fu ⟨"has","Deeds.has",aH (aE (tp 29) 3),.stmts (aF (aE (tp 29) 3)),aB (aE (tp 29) 3),3,[],.none,.none,.none,.str "roomward.deeds" 493,none,.ref 298,.none,0⟩
def o337:Obj:=tu []
def o338:Obj:=nf []
def o339:Obj:=tu [.str "self" 584,.str "row" 585,.str "deed" 586]
def o340:Obj:=tu []
def o341:Obj:=nu ⟨"require","Deeds.require",aH (aE (tp 29) 4),.stmts (aF (aE (tp 29) 4)),aB (aE (tp 29) 4),0,[],.none,.none,.none,.none,none,.none,.none,0⟩
def o342:Obj:=co [.str "require" 581,.str "Deeds.require" 582,cp 583,i0 110,i0 2,i0 0,i0 0,i0 3,.ref 300,.bool true,i0 181,.ref 301,.none,.ref 302,.ref 303,.ref 304,i0 587,i0 110,cp 588]
def o343:Obj:=fu ⟨"require","Deeds.require",aH (aE (tp 29) 4),.stmts (aF (aE (tp 29) 4)),aB (aE (tp 29) 4),3,[],.none,.none,.none,.str "roomward.deeds" 493,none,.ref 305,.none,0⟩
def o344:Obj:=tu []
def o345:Obj:=nf []
def o346:Obj:=tu [.str "self" 593,.str "deed" 594]
def o347:Obj:=tu []
def o348:Obj:=nu ⟨"is_free","Deeds.is_free",aH (aE (tp 29) 5),.stmts (aF (aE (tp 29) 5)),aB (aE (tp 29) 5),0,[],.none,.none,.none,.none,none,.none,.none,0⟩
def o349:Obj:=co [.str "is_free" 590,.str "Deeds.is_free" 591,cp 592,i0 115,i0 2,i0 0,i0 0,i0 3,.ref 307,.bool true,i0 181,.ref 308,.none,.ref 309,.ref 310,.ref 311,i0 595,i0 115,cp 596]
def o350:Obj:=fu ⟨"is_free","Deeds.is_free",aH (aE (tp 29) 5),.stmts (aF (aE (tp 29) 5)),aB (aE (tp 29) 5),3,[],.none,.none,.none,.str "roomward.deeds" 493,none,.ref 312,.none,0⟩
def o351:Obj:=tu []
def o352:Obj:=nf []
def o353:Obj:=tu [.str "self" 601,.str "names" 602]
def o354:Obj:=tu []
def o355:Obj:=nu ⟨"bits","Deeds.bits",aH (aE (tp 29) 6),.stmts (aF (aE (tp 29) 6)),aB (aE (tp 29) 6),0,[],.none,.none,.none,.none,none,.none,.none,0⟩
def o356:Obj:=co [.str "bits" 598,.str "Deeds.bits" 599,cp 600,i0 118,i0 2,i0 0,i0 0,i0 3,.ref 314,.bool true,i0 181,.ref 315,.none,.ref 316,.ref 317,.ref 318,i0 603,i0 118,cp 604]
def o357:Obj:=fu ⟨"bits","Deeds.bits",aH (aE (tp 29) 6),.stmts (aF (aE (tp 29) 6)),aB (aE (tp 29) 6),3,[],.none,.none,.none,.str "roomward.deeds" 493,none,.ref 319,.none,0⟩
def o358:Obj:=tu []
def o359:Obj:=nf []
def o360:Obj:=tu [.str "self" 609,.str "bits" 610]
def o361:Obj:=tu []
def o362:Obj:=nu ⟨"names_of","Deeds.names_of",aH (aE (tp 29) 7),.stmts (aF (aE (tp 29) 7)),aB (aE (tp 29) 7),0,[],.none,.none,.none,.none,none,.none,.none,0⟩
def o363:Obj:=co [.str "names_of" 606,.str "Deeds.names_of" 607,cp 608,i0 121,i0 2,i0 0,i0 0,i0 3,.ref 321,.bool true,i0 181,.ref 322,.none,.ref 323,.ref 324,.ref 325,i0 611,i0 121,cp 612]
def o364:Obj:=fu ⟨"names_of","Deeds.names_of",aH (aE (tp 29) 7),.stmts (aF (aE (tp 29) 7)),aB (aE (tp 29) 7),3,[],.none,.none,.none,.str "roomward.deeds" 493,none,.ref 326,.none,0⟩
def o365:Obj:=tu [.str "free_marks" 614,.str "weights" 615]
def g18 (P:Params):List DictEntry:=[en P "__firstlineno__" 548 (.int 92 547),en P "__init__" 558 (.ref 278),en P "names" 565 (.ref 285),en P "free" 572 (.ref 292),en P "has" 580 (.ref 299),en P "require" 589 (.ref 306),en P "is_free" 597 (.ref 313),en P "bits" 605 (.ref 320),en P "names_of" 613 (.ref 327),en P "__static_attributes__" 616 (.ref 328),en P "__dict__" 618 (.ref 331),en P "__weakref__" 620 (.ref 332),en P "__doc__" 621 .none]
def o366 (P:Params):Obj:=⟨.type "dict",none,.dict ⟨en P "__module__" 544 (.str "roomward.deeds" 493)::g18 P⟩ 4,#[]⟩
def o367:Obj:=⟨.type "type",none,.cls ⟨"Deeds",[.type "object"],[.ref 330,.type "object"],329,"Deeds",true,[],[],false,none,false⟩,#[none,none,(some (.str "Deeds" 537)),(some (.str "Deeds" 545)),(some (.builtin "object.__new__")),(some (.bool true))]⟩
def o368:Obj:=⟨.type "getset_descriptor",none,.fields #[.str "__dict__" 617,.ref 330,.builtin "function.__dict__",.builtin "function.__dict__#set"],#[]⟩
def o369:Obj:=⟨.type "getset_descriptor",none,.fields #[.str "__weakref__" 619,.ref 330,.builtin "ExceptionGroup.__weakref__",.none],#[]⟩
def o370:Obj:=⟨.type "super",none,.fields #[.ref 330,.ref 330,.ref 330],#[]⟩
def o371:Obj:=⟨.type "builtin_function_or_method",none,.fields #[.builtin "object.__init_subclass__",.ref 330],#[]⟩
def T17 (P:Params):BT:=ns (T16 P) [(3,o299 P),(12,o300),(264,o301),(265,o302),(266,o303 P),(267,o304),(268,o305),(269,o306),(270,o307),(271,o308),(272,o309),(273,o310),(274,o311),(275,o312),(276,o313),(277,o314),(278,o315),(279,o316),(280,o317),(281,o318),(282,o319),(283,o320),(284,o321),(285,o322),(286,o323),(287,o324),(288,o325),(289,o326),(290,o327),(291,o328),(292,o329),(293,o330),(294,o331),(295,o332),(296,o333),(297,o334),(298,o335),(299,o336),(300,o337),(301,o338),(302,o339),(303,o340),(304,o341),(305,o342),(306,o343),(307,o344),(308,o345),(309,o346),(310,o347),(311,o348),(312,o349),(313,o350),(314,o351),(315,o352),(316,o353),(317,o354),(318,o355),(319,o356),(320,o357),(321,o358),(322,o359),(323,o360),(324,o361),(325,o362),(326,o363),(327,o364),(328,o365),(329,o366 P),(330,o367),(331,o368),(332,o369),(333,o370),(334,o371)]
theorem pc17:Hd.Pc pp env T16 264 537 T17 335 624 450 [tp 29] ⟨87,0,91,16⟩ ⟨92,0,122,16⟩:=by
 intro w
 kernel_rfl
def g19 (P:Params):List DictEntry:=g16 P++[en P "MOST_ROOMS" 627 (.int 60 626),en P "named_rooms" 640 (.ref 341),en P "refuse_rooms" 648 (.ref 348),en P "leads_of" 660 (.ref 355)]
def o372 (P:Params):Obj:=⟨.type "dict",none,.dict ⟨en P "__name__" 165 (.str "roomward.machines" 624)::g19 P⟩ 40,#[]⟩
def o373:Obj:=nf [i0 1,i0 0,.ref 20,i0 5,i0 0,.ref 27,i0 7,i0 0,.ref 40,i0 9,i0 0,.ref 52,i0 11,i0 0,.ref 64,i0 13,i0 0,.ref 76,i0 15,i0 0,.ref 88,i0 17,i0 0,.ref 100,i0 19,i0 0,.ref 112,i0 21,i0 0,.ref 124,i0 23,i0 0,.ref 136,i0 25,i0 0,.ref 148,i0 27,i0 0,.ref 160,i0 29,i0 0,.ref 172,i0 35,i0 0,.ref 191,i0 39,i0 0,.ref 210,i0 44,i0 0,.ref 229,i0 58,i0 0,.ref 236,i0 65,i0 0,.ref 241,i0 70,i0 0,.ref 248,i0 80,i0 0,.ref 255,i0 87,i0 0,.ref 262,i0 92,i0 0,.ref 269,i0 125,i0 0,.ref 340,i0 132,i0 0,.ref 347,i0 136,i0 0,.ref 354]
def o374:Obj:=tu []
def o375:Obj:=nf []
def o376:Obj:=tu [.str "begin" 631,.str "ends" 632,.str "doors" 633,.str "rooms" 634,.str "room" 635,.str "deed" 636,.str "far" 637]
def o377:Obj:=tu []
def o378:Obj:=nu ⟨"named_rooms","named_rooms",aH (tp 32),.stmts (aF (tp 32)),aB (tp 32),0,[],.none,.none,.none,.none,none,.none,.none,0⟩
def o379:Obj:=co [.str "named_rooms" 628,.str "named_rooms" 629,cp 630,i0 125,i0 3,i0 0,i0 0,i0 3,.ref 335,.bool true,i0 181,.ref 336,.none,.ref 337,.ref 338,.ref 339,i0 638,i0 125,cp 639]
def o380:Obj:=fu ⟨"named_rooms","named_rooms",aH (tp 32),.stmts (aF (tp 32)),aB (tp 32),3,[],.none,.none,.none,.str "roomward.machines" 624,none,.ref 340,.none,0⟩
def o381:Obj:=tu []
def o382:Obj:=nf []
def o383:Obj:=tu [.str "rooms" 644,.str "room" 645]
def o384:Obj:=tu []
def o385:Obj:=nu ⟨"refuse_rooms","refuse_rooms",aH (tp 33),.stmts (aF (tp 33)),aB (tp 33),0,[],.none,.none,.none,.none,none,.none,.none,0⟩
def o386:Obj:=co [.str "refuse_rooms" 641,.str "refuse_rooms" 642,cp 643,i0 132,i0 1,i0 0,i0 0,i0 3,.ref 342,.bool true,i0 181,.ref 343,.none,.ref 344,.ref 345,.ref 346,i0 646,i0 132,cp 647]
def o387:Obj:=fu ⟨"refuse_rooms","refuse_rooms",aH (tp 33),.stmts (aF (tp 33)),aB (tp 33),3,[],.none,.none,.none,.str "roomward.machines" 624,none,.ref 347,.none,0⟩
def o388:Obj:=tu []
def o389:Obj:=nf []
def o390:Obj:=tu [.str "rooms" 652,.str "doors" 653,.str "leads" 654,.str "room" 655,.str "deed" 656,.str "far" 657]
def o391:Obj:=tu []
def o392:Obj:=nu ⟨"leads_of","leads_of",aH (tp 34),.stmts (aF (tp 34)),aB (tp 34),0,[],.none,.none,.none,.none,none,.none,.none,0⟩
def o393:Obj:=co [.str "leads_of" 649,.str "leads_of" 650,cp 651,i0 136,i0 2,i0 0,i0 0,i0 3,.ref 349,.bool true,i0 181,.ref 350,.none,.ref 351,.ref 352,.ref 353,i0 658,i0 136,cp 659]
def o394:Obj:=fu ⟨"leads_of","leads_of",aH (tp 34),.stmts (aF (tp 34)),aB (tp 34),3,[],.none,.none,.none,.str "roomward.machines" 624,none,.ref 354,.none,0⟩
def T18 (P:Params):BT:=ns (T17 P) [(3,o372 P),(12,o373),(335,o374),(336,o375),(337,o376),(338,o377),(339,o378),(340,o379),(341,o380),(342,o381),(343,o382),(344,o383),(345,o384),(346,o385),(347,o386),(348,o387),(349,o388),(350,o389),(351,o390),(352,o391),(353,o392),(354,o393),(355,o394)]
theorem pc18:Hd.Pc pp env T17 335 624 T18 356 661 118 [tp 30,tp 31,tp 32,tp 33,tp 34] ⟨92,0,122,16⟩ ⟨136,0,144,16⟩:=by
 intro w
 kernel_rfl
def g20 (P:Params):List DictEntry:=g19 P++[en P "Machine" 778 (.ref 448)]
def o395 (P:Params):Obj:=⟨.type "dict",none,.dict ⟨en P "__name__" 165 (.str "roomward.machines" 624)::g20 P⟩ 41,#[]⟩
def o396:Obj:=nf [i0 1,i0 0,.ref 20,i0 5,i0 0,.ref 27,i0 7,i0 0,.ref 40,i0 9,i0 0,.ref 52,i0 11,i0 0,.ref 64,i0 13,i0 0,.ref 76,i0 15,i0 0,.ref 88,i0 17,i0 0,.ref 100,i0 19,i0 0,.ref 112,i0 21,i0 0,.ref 124,i0 23,i0 0,.ref 136,i0 25,i0 0,.ref 148,i0 27,i0 0,.ref 160,i0 29,i0 0,.ref 172,i0 35,i0 0,.ref 191,i0 39,i0 0,.ref 210,i0 44,i0 0,.ref 229,i0 58,i0 0,.ref 236,i0 65,i0 0,.ref 241,i0 70,i0 0,.ref 248,i0 80,i0 0,.ref 255,i0 87,i0 0,.ref 262,i0 92,i0 0,.ref 269,i0 125,i0 0,.ref 340,i0 132,i0 0,.ref 347,i0 136,i0 0,.ref 354,i0 145,i0 0,.ref 361]
def o397:Obj:=tu []
def o398:Obj:=⟨.type "builtin_function_or_method",none,.fields #[.builtin "type.__prepare__",.type "type"],#[]⟩
def g21 (P:Params):List DictEntry:=[en P "__qualname__" 670 (.str "Machine" 669),en P "__firstlineno__" 672 (.int 145 671),en P "__init__" 678 (.ref 368),en P "deeds" 685 (.ref 375),en P "begin" 692 (.ref 382),en P "rooms" 699 (.ref 389),en P "ends" 706 (.ref 396),en P "knows" 713 (.ref 403),en P "require_room" 721 (.ref 410),en P "at" 729 (.ref 417),en P "to" 738 (.ref 424),en P "is_end" 746 (.ref 431),en P "goes" 755 (.ref 438),en P "behind" 765 (.ref 445),en P "__static_attributes__" 771 (.ref 446)]
def o399 (P:Params):Obj:=⟨.type "dict",none,.dict ⟨en P "__module__" 668 (.str "roomward.machines" 624)::g21 P⟩ 16,#[]⟩
def o400:Obj:=tu []
def o401:Obj:=nf [i0 147,i0 4,.ref 367,i0 162,i0 4,.ref 374,i0 165,i0 4,.ref 381,i0 168,i0 4,.ref 388,i0 171,i0 4,.ref 395,i0 174,i0 4,.ref 402,i0 177,i0 4,.ref 409,i0 181,i0 4,.ref 416,i0 185,i0 4,.ref 423,i0 190,i0 4,.ref 430,i0 194,i0 4,.ref 437,i0 199,i0 4,.ref 444]
def o402:Obj:=co [.str "Machine" 663,.str "Machine" 664,cp 665,i0 145,i0 0,i0 0,i0 0,i0 0,.ref 359,.bool false,i0 181,.ref 360,.none,.none,.none,.none,i0 666,i0 145,cp 667]
def o403:Obj:=⟨.type "frame",none,.plain,#[(some (.ref 361)),(some (.ref 3)),(some (.ref 358)),none,(some (.str "roomward.machines" 624)),none,(some (.ref 0))]⟩
def o404:Obj:=tu [.none]
def o405:Obj:=tu []
def o406:Obj:=nf []
def o407:Obj:=nu ⟨"__init__","Machine.__init__",aH (aE (tp 35) 0),.stmts (aF (aE (tp 35) 0)),aB (aE (tp 35) 0),0,[],.none,.none,.none,.none,none,.none,.none,0⟩
def o408:Obj:=co [.str "__init__" 673,.str "Machine.__init__" 674,cp 675,i0 147,i0 6,i0 0,i0 0,i0 3,.ref 364,.bool true,i0 181,.ref 365,.none,.none,.none,.ref 366,i0 676,i0 147,cp 677]
def o409:Obj:=fu ⟨"__init__","Machine.__init__",aH (aE (tp 35) 0),.stmts (aF (aE (tp 35) 0)),aB (aE (tp 35) 0),3,[],.ref 363,.none,.none,.str "roomward.machines" 624,none,.ref 367,.none,0⟩
def o410:Obj:=tu []
def o411:Obj:=nf []
def o412:Obj:=tu [.str "self" 682]
def o413:Obj:=tu []
def o414:Obj:=nu ⟨"deeds","Machine.deeds",aH (aE (tp 35) 1),.stmts (aF (aE (tp 35) 1)),aB (aE (tp 35) 1),0,[],.none,.none,.none,.none,none,.none,.none,0⟩
def o415:Obj:=co [.str "deeds" 679,.str "Machine.deeds" 680,cp 681,i0 162,i0 1,i0 0,i0 0,i0 3,.ref 369,.bool true,i0 181,.ref 370,.none,.ref 371,.ref 372,.ref 373,i0 683,i0 162,cp 684]
def o416:Obj:=fu ⟨"deeds","Machine.deeds",aH (aE (tp 35) 1),.stmts (aF (aE (tp 35) 1)),aB (aE (tp 35) 1),3,[],.none,.none,.none,.str "roomward.machines" 624,none,.ref 374,.none,0⟩
def o417:Obj:=tu []
def o418:Obj:=nf []
def o419:Obj:=tu [.str "self" 689]
def o420:Obj:=tu []
def o421:Obj:=nu ⟨"begin","Machine.begin",aH (aE (tp 35) 2),.stmts (aF (aE (tp 35) 2)),aB (aE (tp 35) 2),0,[],.none,.none,.none,.none,none,.none,.none,0⟩
def o422:Obj:=co [.str "begin" 686,.str "Machine.begin" 687,cp 688,i0 165,i0 1,i0 0,i0 0,i0 3,.ref 376,.bool true,i0 181,.ref 377,.none,.ref 378,.ref 379,.ref 380,i0 690,i0 165,cp 691]
def o423:Obj:=fu ⟨"begin","Machine.begin",aH (aE (tp 35) 2),.stmts (aF (aE (tp 35) 2)),aB (aE (tp 35) 2),3,[],.none,.none,.none,.str "roomward.machines" 624,none,.ref 381,.none,0⟩
def o424:Obj:=tu []
def o425:Obj:=nf []
def o426:Obj:=tu [.str "self" 696]
def o427:Obj:=tu []
def o428:Obj:=nu ⟨"rooms","Machine.rooms",aH (aE (tp 35) 3),.stmts (aF (aE (tp 35) 3)),aB (aE (tp 35) 3),0,[],.none,.none,.none,.none,none,.none,.none,0⟩
def o429:Obj:=co [.str "rooms" 693,.str "Machine.rooms" 694,cp 695,i0 168,i0 1,i0 0,i0 0,i0 3,.ref 383,.bool true,i0 181,.ref 384,.none,.ref 385,.ref 386,.ref 387,i0 697,i0 168,cp 698]
def o430:Obj:=fu ⟨"rooms","Machine.rooms",aH (aE (tp 35) 3),.stmts (aF (aE (tp 35) 3)),aB (aE (tp 35) 3),3,[],.none,.none,.none,.str "roomward.machines" 624,none,.ref 388,.none,0⟩
def o431:Obj:=tu []
def o432:Obj:=nf []
def o433:Obj:=tu [.str "self" 703]
def o434:Obj:=tu []
def o435:Obj:=nu ⟨"ends","Machine.ends",aH (aE (tp 35) 4),.stmts (aF (aE (tp 35) 4)),aB (aE (tp 35) 4),0,[],.none,.none,.none,.none,none,.none,.none,0⟩
def o436:Obj:=co [.str "ends" 700,.str "Machine.ends" 701,cp 702,i0 171,i0 1,i0 0,i0 0,i0 3,.ref 390,.bool true,i0 181,.ref 391,.none,.ref 392,.ref 393,.ref 394,i0 704,i0 171,cp 705]
def o437:Obj:=fu ⟨"ends","Machine.ends",aH (aE (tp 35) 4),.stmts (aF (aE (tp 35) 4)),aB (aE (tp 35) 4),3,[],.none,.none,.none,.str "roomward.machines" 624,none,.ref 395,.none,0⟩
def o438:Obj:=tu []
def o439:Obj:=nf []
def o440:Obj:=tu [.str "self" 710]
def o441:Obj:=tu []
def o442:Obj:=nu ⟨"knows","Machine.knows",aH (aE (tp 35) 5),.stmts (aF (aE (tp 35) 5)),aB (aE (tp 35) 5),0,[],.none,.none,.none,.none,none,.none,.none,0⟩
def o443:Obj:=co [.str "knows" 707,.str "Machine.knows" 708,cp 709,i0 174,i0 1,i0 0,i0 0,i0 3,.ref 397,.bool true,i0 181,.ref 398,.none,.ref 399,.ref 400,.ref 401,i0 711,i0 174,cp 712]
def o444:Obj:=fu ⟨"knows","Machine.knows",aH (aE (tp 35) 5),.stmts (aF (aE (tp 35) 5)),aB (aE (tp 35) 5),3,[],.none,.none,.none,.str "roomward.machines" 624,none,.ref 402,.none,0⟩
def o445:Obj:=tu []
def o446:Obj:=nf []
def o447:Obj:=tu [.str "self" 717,.str "room" 718]
def o448:Obj:=tu []
def o449:Obj:=nu ⟨"require_room","Machine.require_room",aH (aE (tp 35) 6),.stmts (aF (aE (tp 35) 6)),aB (aE (tp 35) 6),0,[],.none,.none,.none,.none,none,.none,.none,0⟩
def o450:Obj:=co [.str "require_room" 714,.str "Machine.require_room" 715,cp 716,i0 177,i0 2,i0 0,i0 0,i0 3,.ref 404,.bool true,i0 181,.ref 405,.none,.ref 406,.ref 407,.ref 408,i0 719,i0 177,cp 720]
def o451:Obj:=fu ⟨"require_room","Machine.require_room",aH (aE (tp 35) 6),.stmts (aF (aE (tp 35) 6)),aB (aE (tp 35) 6),3,[],.none,.none,.none,.str "roomward.machines" 624,none,.ref 409,.none,0⟩
def o452:Obj:=tu []
def o453:Obj:=nf []
def o454:Obj:=tu [.str "self" 725,.str "room" 726]
def o455:Obj:=tu []
def o456:Obj:=nu ⟨"at","Machine.at",aH (aE (tp 35) 7),.stmts (aF (aE (tp 35) 7)),aB (aE (tp 35) 7),0,[],.none,.none,.none,.none,none,.none,.none,0⟩
def o457:Obj:=co [.str "at" 722,.str "Machine.at" 723,cp 724,i0 181,i0 2,i0 0,i0 0,i0 3,.ref 411,.bool true,i0 181,.ref 412,.none,.ref 413,.ref 414,.ref 415,i0 727,i0 181,cp 728]
def o458:Obj:=fu ⟨"at","Machine.at",aH (aE (tp 35) 7),.stmts (aF (aE (tp 35) 7)),aB (aE (tp 35) 7),3,[],.none,.none,.none,.str "roomward.machines" 624,none,.ref 416,.none,0⟩
def o459:Obj:=tu []
def o460:Obj:=nf []
def o461:Obj:=tu [.str "self" 733,.str "room" 734,.str "deed" 735]
def o462:Obj:=tu []
def o463:Obj:=nu ⟨"to","Machine.to",aH (aE (tp 35) 8),.stmts (aF (aE (tp 35) 8)),aB (aE (tp 35) 8),0,[],.none,.none,.none,.none,none,.none,.none,0⟩
def o464:Obj:=co [.str "to" 730,.str "Machine.to" 731,cp 732,i0 185,i0 3,i0 0,i0 0,i0 3,.ref 418,.bool true,i0 181,.ref 419,.none,.ref 420,.ref 421,.ref 422,i0 736,i0 185,cp 737]
def o465:Obj:=fu ⟨"to","Machine.to",aH (aE (tp 35) 8),.stmts (aF (aE (tp 35) 8)),aB (aE (tp 35) 8),3,[],.none,.none,.none,.str "roomward.machines" 624,none,.ref 423,.none,0⟩
def o466:Obj:=tu []
def o467:Obj:=nf []
def o468:Obj:=tu [.str "self" 742,.str "room" 743]
def o469:Obj:=tu []
def o470:Obj:=nu ⟨"is_end","Machine.is_end",aH (aE (tp 35) 9),.stmts (aF (aE (tp 35) 9)),aB (aE (tp 35) 9),0,[],.none,.none,.none,.none,none,.none,.none,0⟩
def o471:Obj:=co [.str "is_end" 739,.str "Machine.is_end" 740,cp 741,i0 190,i0 2,i0 0,i0 0,i0 3,.ref 425,.bool true,i0 181,.ref 426,.none,.ref 427,.ref 428,.ref 429,i0 744,i0 190,cp 745]
def o472:Obj:=fu ⟨"is_end","Machine.is_end",aH (aE (tp 35) 9),.stmts (aF (aE (tp 35) 9)),aB (aE (tp 35) 9),3,[],.none,.none,.none,.str "roomward.machines" 624,none,.ref 430,.none,0⟩
def o473:Obj:=tu []
def o474:Obj:=nf []
def o475:Obj:=tu [.str "self" 750,.str "room" 751,.str "deed" 752]
def o476:Obj:=tu []
def o477:Obj:=nu ⟨"goes","Machine.goes",aH (aE (tp 35) 10),.stmts (aF (aE (tp 35) 10)),aB (aE (tp 35) 10),0,[],.none,.none,.none,.none,none,.none,.none,0⟩
def o478:Obj:=co [.str "goes" 747,.str "Machine.goes" 748,cp 749,i0 194,i0 3,i0 0,i0 0,i0 3,.ref 432,.bool true,i0 181,.ref 433,.none,.ref 434,.ref 435,.ref 436,i0 753,i0 194,cp 754]
def o479:Obj:=fu ⟨"goes","Machine.goes",aH (aE (tp 35) 10),.stmts (aF (aE (tp 35) 10)),aB (aE (tp 35) 10),3,[],.none,.none,.none,.str "roomward.machines" 624,none,.ref 437,.none,0⟩
def o480:Obj:=tu []
def o481:Obj:=nf []
def o482:Obj:=tu [.str "self" 759,.str "row" 760,.str "room" 761,.str "deed" 762]
def o483:Obj:=tu []
def o484:Obj:=nu ⟨"behind","Machine.behind",aH (aE (tp 35) 11),.stmts (aF (aE (tp 35) 11)),aB (aE (tp 35) 11),0,[],.none,.none,.none,.none,none,.none,.none,0⟩
def o485:Obj:=co [.str "behind" 756,.str "Machine.behind" 757,cp 758,i0 199,i0 2,i0 0,i0 0,i0 3,.ref 439,.bool true,i0 181,.ref 440,.none,.ref 441,.ref 442,.ref 443,i0 763,i0 199,cp 764]
def o486:Obj:=fu ⟨"behind","Machine.behind",aH (aE (tp 35) 11),.stmts (aF (aE (tp 35) 11)),aB (aE (tp 35) 11),3,[],.none,.none,.none,.str "roomward.machines" 624,none,.ref 444,.none,0⟩
def o487:Obj:=tu [.str "deeds_made_of" 766,.str "end_marks" 767,.str "first_room" 768,.str "known_marks" 769,.str "leads" 770]
def g22 (P:Params):List DictEntry:=[en P "__firstlineno__" 672 (.int 145 671),en P "__init__" 678 (.ref 368),en P "deeds" 685 (.ref 375),en P "begin" 692 (.ref 382),en P "rooms" 699 (.ref 389),en P "ends" 706 (.ref 396),en P "knows" 713 (.ref 403),en P "require_room" 721 (.ref 410),en P "at" 729 (.ref 417),en P "to" 738 (.ref 424),en P "is_end" 746 (.ref 431),en P "goes" 755 (.ref 438),en P "behind" 765 (.ref 445),en P "__static_attributes__" 771 (.ref 446),en P "__dict__" 773 (.ref 449),en P "__weakref__" 775 (.ref 450),en P "__doc__" 776 .none]
def o488 (P:Params):Obj:=⟨.type "dict",none,.dict ⟨en P "__module__" 668 (.str "roomward.machines" 624)::g22 P⟩ 4,#[]⟩
def o489:Obj:=⟨.type "type",none,.cls ⟨"Machine",[.type "object"],[.ref 448,.type "object"],447,"Machine",true,[],[],false,none,false⟩,#[none,none,(some (.str "Machine" 661)),(some (.str "Machine" 669)),(some (.builtin "object.__new__")),(some (.bool true))]⟩
def o490:Obj:=⟨.type "getset_descriptor",none,.fields #[.str "__dict__" 772,.ref 448,.builtin "function.__dict__",.builtin "function.__dict__#set"],#[]⟩
def o491:Obj:=⟨.type "getset_descriptor",none,.fields #[.str "__weakref__" 774,.ref 448,.builtin "ExceptionGroup.__weakref__",.none],#[]⟩
def o492:Obj:=⟨.type "super",none,.fields #[.ref 448,.ref 448,.ref 448],#[]⟩
def o493:Obj:=⟨.type "builtin_function_or_method",none,.fields #[.builtin "object.__init_subclass__",.ref 448],#[]⟩
def T19 (P:Params):BT:=ns (T18 P) [(3,o395 P),(12,o396),(356,o397),(357,o398),(358,o399 P),(359,o400),(360,o401),(361,o402),(362,o403),(363,o404),(364,o405),(365,o406),(366,o407),(367,o408),(368,o409),(369,o410),(370,o411),(371,o412),(372,o413),(373,o414),(374,o415),(375,o416),(376,o417),(377,o418),(378,o419),(379,o420),(380,o421),(381,o422),(382,o423),(383,o424),(384,o425),(385,o426),(386,o427),(387,o428),(388,o429),(389,o430),(390,o431),(391,o432),(392,o433),(393,o434),(394,o435),(395,o436),(396,o437),(397,o438),(398,o439),(399,o440),(400,o441),(401,o442),(402,o443),(403,o444),(404,o445),(405,o446),(406,o447),(407,o448),(408,o449),(409,o450),(410,o451),(411,o452),(412,o453),(413,o454),(414,o455),(415,o456),(416,o457),(417,o458),(418,o459),(419,o460),(420,o461),(421,o462),(422,o463),(423,o464),(424,o465),(425,o466),(426,o467),(427,o468),(428,o469),(429,o470),(430,o471),(431,o472),(432,o473),(433,o474),(434,o475),(435,o476),(436,o477),(437,o478),(438,o479),(439,o480),(440,o481),(441,o482),(442,o483),(443,o484),(444,o485),(445,o486),(446,o487),(447,o488 P),(448,o489),(449,o490),(450,o491),(451,o492),(452,o493)]
theorem pc19:Hd.Pc pp env T18 356 661 T19 453 779 575 [tp 35] ⟨136,0,144,16⟩ ⟨145,0,206,19⟩:=by
 intro w
 kernel_rfl
def g23 (P:Params):List DictEntry:=g20 P++[en P "MOST_WOVEN" 782 (.int 7 781),en P "begin_of" 788 (.ref 457),en P "far_of" 794 (.ref 462),en P "all_at_ends" 800 (.ref 467),en P "known_of" 809 (.ref 474)]
def o494 (P:Params):Obj:=⟨.type "dict",none,.dict ⟨en P "__name__" 165 (.str "roomward.weaving" 779)::g23 P⟩ 46,#[]⟩
def o495:Obj:=nf [i0 1,i0 0,.ref 20,i0 5,i0 0,.ref 27,i0 7,i0 0,.ref 40,i0 9,i0 0,.ref 52,i0 11,i0 0,.ref 64,i0 13,i0 0,.ref 76,i0 15,i0 0,.ref 88,i0 17,i0 0,.ref 100,i0 19,i0 0,.ref 112,i0 21,i0 0,.ref 124,i0 23,i0 0,.ref 136,i0 25,i0 0,.ref 148,i0 27,i0 0,.ref 160,i0 29,i0 0,.ref 172,i0 35,i0 0,.ref 191,i0 39,i0 0,.ref 210,i0 44,i0 0,.ref 229,i0 58,i0 0,.ref 236,i0 65,i0 0,.ref 241,i0 70,i0 0,.ref 248,i0 80,i0 0,.ref 255,i0 87,i0 0,.ref 262,i0 92,i0 0,.ref 269,i0 125,i0 0,.ref 340,i0 132,i0 0,.ref 347,i0 136,i0 0,.ref 354,i0 145,i0 0,.ref 361,i0 209,i0 0,.ref 456,i0 211,i0 0,.ref 461,i0 214,i0 0,.ref 466,i0 216,i0 0,.ref 473]
def o496:Obj:=tu []
def o497:Obj:=nf []
def o498:Obj:=nu ⟨"begin_of","begin_of",aH (tp 38),.stmts (aF (tp 38)),aB (tp 38),0,[],.none,.none,.none,.none,none,.none,.none,0⟩
def o499:Obj:=co [.str "begin_of" 783,.str "begin_of" 784,cp 785,i0 209,i0 1,i0 0,i0 0,i0 3,.ref 453,.bool true,i0 181,.ref 454,.none,.none,.none,.ref 455,i0 786,i0 209,cp 787]
def o500:Obj:=fu ⟨"begin_of","begin_of",aH (tp 38),.stmts (aF (tp 38)),aB (tp 38),3,[],.none,.none,.none,.str "roomward.weaving" 779,none,.ref 456,.none,0⟩
def o501:Obj:=tu []
def o502:Obj:=nf []
def o503:Obj:=nu ⟨"far_of","far_of",aH (tp 39),.stmts (aF (tp 39)),aB (tp 39),0,[],.none,.none,.none,.none,none,.none,.none,0⟩
def o504:Obj:=co [.str "far_of" 789,.str "far_of" 790,cp 791,i0 211,i0 3,i0 0,i0 0,i0 3,.ref 458,.bool true,i0 181,.ref 459,.none,.none,.none,.ref 460,i0 792,i0 211,cp 793]
def o505:Obj:=fu ⟨"far_of","far_of",aH (tp 39),.stmts (aF (tp 39)),aB (tp 39),3,[],.none,.none,.none,.str "roomward.weaving" 779,none,.ref 461,.none,0⟩
def o506:Obj:=tu []
def o507:Obj:=nf []
def o508:Obj:=nu ⟨"all_at_ends","all_at_ends",aH (tp 40),.stmts (aF (tp 40)),aB (tp 40),0,[],.none,.none,.none,.none,none,.none,.none,0⟩
def o509:Obj:=co [.str "all_at_ends" 795,.str "all_at_ends" 796,cp 797,i0 214,i0 2,i0 0,i0 0,i0 3,.ref 463,.bool true,i0 181,.ref 464,.none,.none,.none,.ref 465,i0 798,i0 214,cp 799]
def o510:Obj:=fu ⟨"all_at_ends","all_at_ends",aH (tp 40),.stmts (aF (tp 40)),aB (tp 40),3,[],.none,.none,.none,.str "roomward.weaving" 779,none,.ref 466,.none,0⟩
def o511:Obj:=tu []
def o512:Obj:=nf []
def o513:Obj:=tu [.str "machines" 804,.str "known" 805,.str "machine" 806]
def o514:Obj:=tu []
def o515:Obj:=nu ⟨"known_of","known_of",aH (tp 41),.stmts (aF (tp 41)),aB (tp 41),0,[],.none,.none,.none,.none,none,.none,.none,0⟩
def o516:Obj:=co [.str "known_of" 801,.str "known_of" 802,cp 803,i0 216,i0 1,i0 0,i0 0,i0 3,.ref 468,.bool true,i0 181,.ref 469,.none,.ref 470,.ref 471,.ref 472,i0 807,i0 216,cp 808]
def o517:Obj:=fu ⟨"known_of","known_of",aH (tp 41),.stmts (aF (tp 41)),aB (tp 41),3,[],.none,.none,.none,.str "roomward.weaving" 779,none,.ref 473,.none,0⟩
def T20 (P:Params):BT:=ns (T19 P) [(3,o494 P),(12,o495),(453,o496),(454,o497),(455,o498),(456,o499),(457,o500),(458,o501),(459,o502),(460,o503),(461,o504),(462,o505),(463,o506),(464,o507),(465,o508),(466,o509),(467,o510),(468,o511),(469,o512),(470,o513),(471,o514),(472,o515),(473,o516),(474,o517)]
theorem pc20:Hd.Pc pp env T19 453 779 T20 475 810 128 [tp 36,tp 37,tp 38,tp 39,tp 40,tp 41] ⟨145,0,206,19⟩ ⟨216,0,220,26⟩:=by
 intro w
 kernel_rfl
def g24 (P:Params):List DictEntry:=g23 P++[en P "Woven" 897 (.ref 543)]
def o518 (P:Params):Obj:=⟨.type "dict",none,.dict ⟨en P "__name__" 165 (.str "roomward.weaving" 779)::g24 P⟩ 47,#[]⟩
def o519:Obj:=nf [i0 1,i0 0,.ref 20,i0 5,i0 0,.ref 27,i0 7,i0 0,.ref 40,i0 9,i0 0,.ref 52,i0 11,i0 0,.ref 64,i0 13,i0 0,.ref 76,i0 15,i0 0,.ref 88,i0 17,i0 0,.ref 100,i0 19,i0 0,.ref 112,i0 21,i0 0,.ref 124,i0 23,i0 0,.ref 136,i0 25,i0 0,.ref 148,i0 27,i0 0,.ref 160,i0 29,i0 0,.ref 172,i0 35,i0 0,.ref 191,i0 39,i0 0,.ref 210,i0 44,i0 0,.ref 229,i0 58,i0 0,.ref 236,i0 65,i0 0,.ref 241,i0 70,i0 0,.ref 248,i0 80,i0 0,.ref 255,i0 87,i0 0,.ref 262,i0 92,i0 0,.ref 269,i0 125,i0 0,.ref 340,i0 132,i0 0,.ref 347,i0 136,i0 0,.ref 354,i0 145,i0 0,.ref 361,i0 209,i0 0,.ref 456,i0 211,i0 0,.ref 461,i0 214,i0 0,.ref 466,i0 216,i0 0,.ref 473,i0 221,i0 0,.ref 480]
def o520:Obj:=tu []
def o521:Obj:=⟨.type "builtin_function_or_method",none,.fields #[.builtin "type.__prepare__",.type "type"],#[]⟩
def g25 (P:Params):List DictEntry:=[en P "__qualname__" 819 (.str "Woven" 818),en P "__firstlineno__" 821 (.int 221 820),en P "__init__" 829 (.ref 488),en P "deeds" 836 (.ref 495),en P "begin" 843 (.ref 502),en P "knows" 850 (.ref 509),en P "at" 856 (.ref 514),en P "to" 865 (.ref 521),en P "is_end" 873 (.ref 528),en P "ways" 879 (.ref 533),en P "rooms" 887 (.ref 540),en P "__static_attributes__" 890 (.ref 541)]
def o522 (P:Params):Obj:=⟨.type "dict",none,.dict ⟨en P "__module__" 817 (.str "roomward.weaving" 779)::g25 P⟩ 13,#[]⟩
def o523:Obj:=tu []
def o524:Obj:=nf [i0 223,i0 4,.ref 487,i0 229,i0 4,.ref 494,i0 232,i0 4,.ref 501,i0 235,i0 4,.ref 508,i0 238,i0 4,.ref 513,i0 241,i0 4,.ref 520,i0 247,i0 4,.ref 527,i0 250,i0 4,.ref 532,i0 253,i0 4,.ref 539]
def o525:Obj:=co [.str "Woven" 812,.str "Woven" 813,cp 814,i0 221,i0 0,i0 0,i0 0,i0 0,.ref 478,.bool false,i0 181,.ref 479,.none,.none,.none,.none,i0 815,i0 221,cp 816]
def o526:Obj:=⟨.type "frame",none,.plain,#[(some (.ref 480)),(some (.ref 3)),(some (.ref 477)),none,(some (.str "roomward.weaving" 779)),none,(some (.ref 0))]⟩
def o527:Obj:=tu []
def o528:Obj:=nf []
def o529:Obj:=tu [.str "self" 825,.str "machines" 826]
def o530:Obj:=tu []
def o531:Obj:=nu ⟨"__init__","Woven.__init__",aH (aE (tp 42) 0),.stmts (aF (aE (tp 42) 0)),aB (aE (tp 42) 0),0,[],.none,.none,.none,.none,none,.none,.none,0⟩
def o532:Obj:=co [.str "__init__" 822,.str "Woven.__init__" 823,cp 824,i0 223,i0 2,i0 0,i0 0,i0 3,.ref 482,.bool true,i0 181,.ref 483,.none,.ref 484,.ref 485,.ref 486,i0 827,i0 223,cp 828]
def o533:Obj:=fu ⟨"__init__","Woven.__init__",aH (aE (tp 42) 0),.stmts (aF (aE (tp 42) 0)),aB (aE (tp 42) 0),3,[],.none,.none,.none,.str "roomward.weaving" 779,none,.ref 487,.none,0⟩
def o534:Obj:=tu []
def o535:Obj:=nf []
def o536:Obj:=tu [.str "self" 833]
def o537:Obj:=tu []
def o538:Obj:=nu ⟨"deeds","Woven.deeds",aH (aE (tp 42) 1),.stmts (aF (aE (tp 42) 1)),aB (aE (tp 42) 1),0,[],.none,.none,.none,.none,none,.none,.none,0⟩
def o539:Obj:=co [.str "deeds" 830,.str "Woven.deeds" 831,cp 832,i0 229,i0 1,i0 0,i0 0,i0 3,.ref 489,.bool true,i0 181,.ref 490,.none,.ref 491,.ref 492,.ref 493,i0 834,i0 229,cp 835]
def o540:Obj:=fu ⟨"deeds","Woven.deeds",aH (aE (tp 42) 1),.stmts (aF (aE (tp 42) 1)),aB (aE (tp 42) 1),3,[],.none,.none,.none,.str "roomward.weaving" 779,none,.ref 494,.none,0⟩
def o541:Obj:=tu []
def o542:Obj:=nf []
def o543:Obj:=tu [.str "self" 840]
def o544:Obj:=tu []
def o545:Obj:=nu ⟨"begin","Woven.begin",aH (aE (tp 42) 2),.stmts (aF (aE (tp 42) 2)),aB (aE (tp 42) 2),0,[],.none,.none,.none,.none,none,.none,.none,0⟩
def o546:Obj:=co [.str "begin" 837,.str "Woven.begin" 838,cp 839,i0 232,i0 1,i0 0,i0 0,i0 3,.ref 496,.bool true,i0 181,.ref 497,.none,.ref 498,.ref 499,.ref 500,i0 841,i0 232,cp 842]
def o547:Obj:=fu ⟨"begin","Woven.begin",aH (aE (tp 42) 2),.stmts (aF (aE (tp 42) 2)),aB (aE (tp 42) 2),3,[],.none,.none,.none,.str "roomward.weaving" 779,none,.ref 501,.none,0⟩
def o548:Obj:=tu []
def o549:Obj:=nf []
def o550:Obj:=tu [.str "self" 847]
def o551:Obj:=tu []
def o552:Obj:=nu ⟨"knows","Woven.knows",aH (aE (tp 42) 3),.stmts (aF (aE (tp 42) 3)),aB (aE (tp 42) 3),0,[],.none,.none,.none,.none,none,.none,.none,0⟩
def o553:Obj:=co [.str "knows" 844,.str "Woven.knows" 845,cp 846,i0 235,i0 1,i0 0,i0 0,i0 3,.ref 503,.bool true,i0 181,.ref 504,.none,.ref 505,.ref 506,.ref 507,i0 848,i0 235,cp 849]
def o554:Obj:=fu ⟨"knows","Woven.knows",aH (aE (tp 42) 3),.stmts (aF (aE (tp 42) 3)),aB (aE (tp 42) 3),3,[],.none,.none,.none,.str "roomward.weaving" 779,none,.ref 508,.none,0⟩
def o555:Obj:=tu []
def o556:Obj:=nf []
def o557:Obj:=nu ⟨"at","Woven.at",aH (aE (tp 42) 4),.stmts (aF (aE (tp 42) 4)),aB (aE (tp 42) 4),0,[],.none,.none,.none,.none,none,.none,.none,0⟩
def o558:Obj:=co [.str "at" 851,.str "Woven.at" 852,cp 853,i0 238,i0 2,i0 0,i0 0,i0 3,.ref 510,.bool true,i0 181,.ref 511,.none,.none,.none,.ref 512,i0 854,i0 238,cp 855]
def o559:Obj:=fu ⟨"at","Woven.at",aH (aE (tp 42) 4),.stmts (aF (aE (tp 42) 4)),aB (aE (tp 42) 4),3,[],.none,.none,.none,.str "roomward.weaving" 779,none,.ref 513,.none,0⟩
def o560:Obj:=tu []
def o561:Obj:=nf []
def o562:Obj:=tu [.str "self" 860,.str "room" 861,.str "deed" 862]
def o563:Obj:=tu []
def o564:Obj:=nu ⟨"to","Woven.to",aH (aE (tp 42) 5),.stmts (aF (aE (tp 42) 5)),aB (aE (tp 42) 5),0,[],.none,.none,.none,.none,none,.none,.none,0⟩
def o565:Obj:=co [.str "to" 857,.str "Woven.to" 858,cp 859,i0 241,i0 3,i0 0,i0 0,i0 3,.ref 515,.bool true,i0 181,.ref 516,.none,.ref 517,.ref 518,.ref 519,i0 863,i0 241,cp 864]
def o566:Obj:=fu ⟨"to","Woven.to",aH (aE (tp 42) 5),.stmts (aF (aE (tp 42) 5)),aB (aE (tp 42) 5),3,[],.none,.none,.none,.str "roomward.weaving" 779,none,.ref 520,.none,0⟩
def o567:Obj:=tu []
def o568:Obj:=nf []
def o569:Obj:=tu [.str "self" 869,.str "room" 870]
def o570:Obj:=tu []
def o571:Obj:=nu ⟨"is_end","Woven.is_end",aH (aE (tp 42) 6),.stmts (aF (aE (tp 42) 6)),aB (aE (tp 42) 6),0,[],.none,.none,.none,.none,none,.none,.none,0⟩
def o572:Obj:=co [.str "is_end" 866,.str "Woven.is_end" 867,cp 868,i0 247,i0 2,i0 0,i0 0,i0 3,.ref 522,.bool true,i0 181,.ref 523,.none,.ref 524,.ref 525,.ref 526,i0 871,i0 247,cp 872]
def o573:Obj:=fu ⟨"is_end","Woven.is_end",aH (aE (tp 42) 6),.stmts (aF (aE (tp 42) 6)),aB (aE (tp 42) 6),3,[],.none,.none,.none,.str "roomward.weaving" 779,none,.ref 527,.none,0⟩
def o574:Obj:=tu []
def o575:Obj:=nf []
def o576:Obj:=nu ⟨"ways","Woven.ways",aH (aE (tp 42) 7),.stmts (aF (aE (tp 42) 7)),aB (aE (tp 42) 7),0,[],.none,.none,.none,.none,none,.none,.none,0⟩
def o577:Obj:=co [.str "ways" 874,.str "Woven.ways" 875,cp 876,i0 250,i0 2,i0 0,i0 0,i0 3,.ref 529,.bool true,i0 181,.ref 530,.none,.none,.none,.ref 531,i0 877,i0 250,cp 878]
def o578:Obj:=fu ⟨"ways","Woven.ways",aH (aE (tp 42) 7),.stmts (aF (aE (tp 42) 7)),aB (aE (tp 42) 7),3,[],.none,.none,.none,.str "roomward.weaving" 779,none,.ref 532,.none,0⟩
def o579:Obj:=tu []
def o580:Obj:=nf []
def o581:Obj:=tu [.str "self" 883]
def o582:Obj:=tu [.str "self" 884]
def o583:Obj:=nu ⟨"rooms","Woven.rooms",aH (aE (tp 42) 8),.stmts (aF (aE (tp 42) 8)),aB (aE (tp 42) 8),0,[],.none,.none,.none,.none,none,.none,.none,0⟩
def o584:Obj:=co [.str "rooms" 880,.str "Woven.rooms" 881,cp 882,i0 253,i0 1,i0 0,i0 0,i0 3,.ref 534,.bool true,i0 181,.ref 535,.none,.ref 536,.ref 537,.ref 538,i0 885,i0 253,cp 886]
def o585:Obj:=fu ⟨"rooms","Woven.rooms",aH (aE (tp 42) 8),.stmts (aF (aE (tp 42) 8)),aB (aE (tp 42) 8),3,[],.none,.none,.none,.str "roomward.weaving" 779,none,.ref 539,.none,0⟩
def o586:Obj:=tu [.str "known_marks" 888,.str "machines" 889]
def g26 (P:Params):List DictEntry:=[en P "__firstlineno__" 821 (.int 221 820),en P "__init__" 829 (.ref 488),en P "deeds" 836 (.ref 495),en P "begin" 843 (.ref 502),en P "knows" 850 (.ref 509),en P "at" 856 (.ref 514),en P "to" 865 (.ref 521),en P "is_end" 873 (.ref 528),en P "ways" 879 (.ref 533),en P "rooms" 887 (.ref 540),en P "__static_attributes__" 890 (.ref 541),en P "__dict__" 892 (.ref 544),en P "__weakref__" 894 (.ref 545),en P "__doc__" 895 .none]
def o587 (P:Params):Obj:=⟨.type "dict",none,.dict ⟨en P "__module__" 817 (.str "roomward.weaving" 779)::g26 P⟩ 4,#[]⟩
def o588:Obj:=⟨.type "type",none,.cls ⟨"Woven",[.type "object"],[.ref 543,.type "object"],542,"Woven",true,[],[],false,none,false⟩,#[none,none,(some (.str "Woven" 810)),(some (.str "Woven" 818)),(some (.builtin "object.__new__")),(some (.bool true))]⟩
def o589:Obj:=⟨.type "getset_descriptor",none,.fields #[.str "__dict__" 891,.ref 543,.builtin "function.__dict__",.builtin "function.__dict__#set"],#[]⟩
def o590:Obj:=⟨.type "getset_descriptor",none,.fields #[.str "__weakref__" 893,.ref 543,.builtin "ExceptionGroup.__weakref__",.none],#[]⟩
def o591:Obj:=⟨.type "super",none,.fields #[.ref 543,.ref 543,.ref 543],#[]⟩
def o592:Obj:=⟨.type "builtin_function_or_method",none,.fields #[.builtin "object.__init_subclass__",.ref 543],#[]⟩
def T21 (P:Params):BT:=ns (T20 P) [(3,o518 P),(12,o519),(475,o520),(476,o521),(477,o522 P),(478,o523),(479,o524),(480,o525),(481,o526),(482,o527),(483,o528),(484,o529),(485,o530),(486,o531),(487,o532),(488,o533),(489,o534),(490,o535),(491,o536),(492,o537),(493,o538),(494,o539),(495,o540),(496,o541),(497,o542),(498,o543),(499,o544),(500,o545),(501,o546),(502,o547),(503,o548),(504,o549),(505,o550),(506,o551),(507,o552),(508,o553),(509,o554),(510,o555),(511,o556),(512,o557),(513,o558),(514,o559),(515,o560),(516,o561),(517,o562),(518,o563),(519,o564),(520,o565),(521,o566),(522,o567),(523,o568),(524,o569),(525,o570),(526,o571),(527,o572),(528,o573),(529,o574),(530,o575),(531,o576),(532,o577),(533,o578),(534,o579),(535,o580),(536,o581),(537,o582),(538,o583),(539,o584),(540,o585),(541,o586),(542,o587 P),(543,o588),(544,o589),(545,o590),(546,o591),(547,o592)]
theorem pc21:Hd.Pc pp env T20 475 810 T21 548 898 470 [tp 42] ⟨216,0,220,26⟩ ⟨221,0,254,78⟩:=by
 intro w
 kernel_rfl
def g27 (P:Params):List DictEntry:=g24 P++[en P "_law_mixed" 908 (.ref 554),en P "_law_cell_at" 916 (.ref 561),en P "_law_names_by" 922 (.ref 566),en P "_law_deeds_by" 928 (.ref 571),en P "_law_rooms_by" 934 (.ref 576),en P "_law_machine_by" 940 (.ref 581),en P "_law_plant_by" 946 (.ref 586),en P "_law_more" 957 (.ref 593),en P "_law_machines" 963 (.ref 598),en P "_law_word" 971 (.ref 605),en P "_law_tried" 979 (.ref 612),en P "_law_maps" 985 (.ref 617),en P "_law_step" 998 (.ref 624)]
def o593 (P:Params):Obj:=⟨.type "dict",none,.dict ⟨en P "__name__" 165 (.str "law_roomward_k21_woven_told" 898)::g27 P⟩ 60,#[]⟩
def o594:Obj:=nf [i0 1,i0 0,.ref 20,i0 5,i0 0,.ref 27,i0 7,i0 0,.ref 40,i0 9,i0 0,.ref 52,i0 11,i0 0,.ref 64,i0 13,i0 0,.ref 76,i0 15,i0 0,.ref 88,i0 17,i0 0,.ref 100,i0 19,i0 0,.ref 112,i0 21,i0 0,.ref 124,i0 23,i0 0,.ref 136,i0 25,i0 0,.ref 148,i0 27,i0 0,.ref 160,i0 29,i0 0,.ref 172,i0 35,i0 0,.ref 191,i0 39,i0 0,.ref 210,i0 44,i0 0,.ref 229,i0 58,i0 0,.ref 236,i0 65,i0 0,.ref 241,i0 70,i0 0,.ref 248,i0 80,i0 0,.ref 255,i0 87,i0 0,.ref 262,i0 92,i0 0,.ref 269,i0 125,i0 0,.ref 340,i0 132,i0 0,.ref 347,i0 136,i0 0,.ref 354,i0 145,i0 0,.ref 361,i0 209,i0 0,.ref 456,i0 211,i0 0,.ref 461,i0 214,i0 0,.ref 466,i0 216,i0 0,.ref 473,i0 221,i0 0,.ref 480,i0 256,i0 0,.ref 553,i0 259,i0 0,.ref 560,i0 263,i0 0,.ref 565,i0 267,i0 0,.ref 570,i0 273,i0 0,.ref 575,i0 277,i0 0,.ref 580,i0 291,i0 0,.ref 585,i0 294,i0 0,.ref 592,i0 300,i0 0,.ref 597,i0 302,i0 0,.ref 604,i0 313,i0 0,.ref 611,i0 319,i0 0,.ref 616,i0 327,i0 0,.ref 623]
def o595:Obj:=tu []
def o596:Obj:=nf []
def o597:Obj:=tu [.str "_law_cell" 903,.str "_law_k" 904,.str "_law_one" 905]
def o598:Obj:=tu []
def o599:Obj:=nu ⟨"_law_mixed","_law_mixed",aH (tp 44),.stmts (aF (tp 44)),aB (tp 44),0,[],.none,.none,.none,.none,none,.none,.none,0⟩
def o600:Obj:=co [.str "_law_mixed" 900,.str "_law_mixed" 901,cp 902,i0 256,i0 2,i0 0,i0 0,i0 3,.ref 548,.bool true,i0 181,.ref 549,.none,.ref 550,.ref 551,.ref 552,i0 906,i0 256,cp 907]
def o601:Obj:=fu ⟨"_law_mixed","_law_mixed",aH (tp 44),.stmts (aF (tp 44)),aB (tp 44),3,[],.none,.none,.none,.str "law_roomward_k21_woven_told" 898,none,.ref 553,.none,0⟩
def o602:Obj:=tu []
def o603:Obj:=nf []
def o604:Obj:=tu [.str "_law_script" 912,.str "_law_k" 913]
def o605:Obj:=tu []
def o606:Obj:=nu ⟨"_law_cell_at","_law_cell_at",aH (tp 45),.stmts (aF (tp 45)),aB (tp 45),0,[],.none,.none,.none,.none,none,.none,.none,0⟩
def o607:Obj:=co [.str "_law_cell_at" 909,.str "_law_cell_at" 910,cp 911,i0 259,i0 2,i0 0,i0 0,i0 3,.ref 555,.bool true,i0 181,.ref 556,.none,.ref 557,.ref 558,.ref 559,i0 914,i0 259,cp 915]
def o608:Obj:=fu ⟨"_law_cell_at","_law_cell_at",aH (tp 45),.stmts (aF (tp 45)),aB (tp 45),3,[],.none,.none,.none,.str "law_roomward_k21_woven_told" 898,none,.ref 560,.none,0⟩
def o609:Obj:=tu []
def o610:Obj:=nf []
def o611:Obj:=nu ⟨"_law_names_by","_law_names_by",aH (tp 46),.stmts (aF (tp 46)),aB (tp 46),0,[],.none,.none,.none,.none,none,.none,.none,0⟩
def o612:Obj:=co [.str "_law_names_by" 917,.str "_law_names_by" 918,cp 919,i0 263,i0 2,i0 0,i0 0,i0 3,.ref 562,.bool true,i0 181,.ref 563,.none,.none,.none,.ref 564,i0 920,i0 263,cp 921]
def o613:Obj:=fu ⟨"_law_names_by","_law_names_by",aH (tp 46),.stmts (aF (tp 46)),aB (tp 46),3,[],.none,.none,.none,.str "law_roomward_k21_woven_told" 898,none,.ref 565,.none,0⟩
def o614:Obj:=tu []
def o615:Obj:=nf []
def o616:Obj:=nu ⟨"_law_deeds_by","_law_deeds_by",aH (tp 47),.stmts (aF (tp 47)),aB (tp 47),0,[],.none,.none,.none,.none,none,.none,.none,0⟩
def o617:Obj:=co [.str "_law_deeds_by" 923,.str "_law_deeds_by" 924,cp 925,i0 267,i0 1,i0 0,i0 0,i0 3,.ref 567,.bool true,i0 181,.ref 568,.none,.none,.none,.ref 569,i0 926,i0 267,cp 927]
def o618:Obj:=fu ⟨"_law_deeds_by","_law_deeds_by",aH (tp 47),.stmts (aF (tp 47)),aB (tp 47),3,[],.none,.none,.none,.str "law_roomward_k21_woven_told" 898,none,.ref 570,.none,0⟩
def o619:Obj:=tu []
def o620:Obj:=nf []
def o621:Obj:=nu ⟨"_law_rooms_by","_law_rooms_by",aH (tp 48),.stmts (aF (tp 48)),aB (tp 48),0,[],.none,.none,.none,.none,none,.none,.none,0⟩
def o622:Obj:=co [.str "_law_rooms_by" 929,.str "_law_rooms_by" 930,cp 931,i0 273,i0 2,i0 0,i0 0,i0 3,.ref 572,.bool true,i0 181,.ref 573,.none,.none,.none,.ref 574,i0 932,i0 273,cp 933]
def o623:Obj:=fu ⟨"_law_rooms_by","_law_rooms_by",aH (tp 48),.stmts (aF (tp 48)),aB (tp 48),3,[],.none,.none,.none,.str "law_roomward_k21_woven_told" 898,none,.ref 575,.none,0⟩
def o624:Obj:=tu []
def o625:Obj:=nf []
def o626:Obj:=nu ⟨"_law_machine_by","_law_machine_by",aH (tp 49),.stmts (aF (tp 49)),aB (tp 49),0,[],.none,.none,.none,.none,none,.none,.none,0⟩
def o627:Obj:=co [.str "_law_machine_by" 935,.str "_law_machine_by" 936,cp 937,i0 277,i0 3,i0 0,i0 0,i0 3,.ref 577,.bool true,i0 181,.ref 578,.none,.none,.none,.ref 579,i0 938,i0 277,cp 939]
def o628:Obj:=fu ⟨"_law_machine_by","_law_machine_by",aH (tp 49),.stmts (aF (tp 49)),aB (tp 49),3,[],.none,.none,.none,.str "law_roomward_k21_woven_told" 898,none,.ref 580,.none,0⟩
def o629:Obj:=tu []
def o630:Obj:=nf []
def o631:Obj:=nu ⟨"_law_plant_by","_law_plant_by",aH (tp 50),.stmts (aF (tp 50)),aB (tp 50),0,[],.none,.none,.none,.none,none,.none,.none,0⟩
def o632:Obj:=co [.str "_law_plant_by" 941,.str "_law_plant_by" 942,cp 943,i0 291,i0 2,i0 0,i0 0,i0 3,.ref 582,.bool true,i0 181,.ref 583,.none,.none,.none,.ref 584,i0 944,i0 291,cp 945]
def o633:Obj:=fu ⟨"_law_plant_by","_law_plant_by",aH (tp 50),.stmts (aF (tp 50)),aB (tp 50),3,[],.none,.none,.none,.str "law_roomward_k21_woven_told" 898,none,.ref 585,.none,0⟩
def o634:Obj:=tu []
def o635:Obj:=nf []
def o636:Obj:=tu [.str "_law_plant" 950,.str "_law_cell" 951,.str "_law_names" 952,.str "_law_found" 953,.str "_law_k" 954]
def o637:Obj:=tu []
def o638:Obj:=nu ⟨"_law_more","_law_more",aH (tp 51),.stmts (aF (tp 51)),aB (tp 51),0,[],.none,.none,.none,.none,none,.none,.none,0⟩
def o639:Obj:=co [.str "_law_more" 947,.str "_law_more" 948,cp 949,i0 294,i0 3,i0 0,i0 0,i0 3,.ref 587,.bool true,i0 181,.ref 588,.none,.ref 589,.ref 590,.ref 591,i0 955,i0 294,cp 956]
def o640:Obj:=fu ⟨"_law_more","_law_more",aH (tp 51),.stmts (aF (tp 51)),aB (tp 51),3,[],.none,.none,.none,.str "law_roomward_k21_woven_told" 898,none,.ref 592,.none,0⟩
def o641:Obj:=tu []
def o642:Obj:=nf []
def o643:Obj:=nu ⟨"_law_machines","_law_machines",aH (tp 52),.stmts (aF (tp 52)),aB (tp 52),0,[],.none,.none,.none,.none,none,.none,.none,0⟩
def o644:Obj:=co [.str "_law_machines" 958,.str "_law_machines" 959,cp 960,i0 300,i0 2,i0 0,i0 0,i0 3,.ref 594,.bool true,i0 181,.ref 595,.none,.none,.none,.ref 596,i0 961,i0 300,cp 962]
def o645:Obj:=fu ⟨"_law_machines","_law_machines",aH (tp 52),.stmts (aF (tp 52)),aB (tp 52),3,[],.none,.none,.none,.str "law_roomward_k21_woven_told" 898,none,.ref 597,.none,0⟩
def o646:Obj:=tu []
def o647:Obj:=nf []
def o648:Obj:=tu [.str "_law_e" 967,.str "_law_words" 968]
def o649:Obj:=tu []
def o650:Obj:=nu ⟨"_law_word","_law_word",aH (tp 53),.stmts (aF (tp 53)),aB (tp 53),0,[],.none,.none,.none,.none,none,.none,.none,0⟩
def o651:Obj:=co [.str "_law_word" 964,.str "_law_word" 965,cp 966,i0 302,i0 1,i0 0,i0 0,i0 3,.ref 599,.bool true,i0 181,.ref 600,.none,.ref 601,.ref 602,.ref 603,i0 969,i0 302,cp 970]
def o652:Obj:=fu ⟨"_law_word","_law_word",aH (tp 53),.stmts (aF (tp 53)),aB (tp 53),3,[],.none,.none,.none,.str "law_roomward_k21_woven_told" 898,none,.ref 604,.none,0⟩
def o653:Obj:=tu []
def o654:Obj:=nf []
def o655:Obj:=tu [.str "_law_deed" 975,.str "_law_e" 976]
def o656:Obj:=tu []
def o657:Obj:=nu ⟨"_law_tried","_law_tried",aH (tp 54),.stmts (aF (tp 54)),aB (tp 54),0,[],.none,.none,.none,.none,none,.none,.none,0⟩
def o658:Obj:=co [.str "_law_tried" 972,.str "_law_tried" 973,cp 974,i0 313,i0 1,i0 0,i0 0,i0 3,.ref 606,.bool true,i0 181,.ref 607,.none,.ref 608,.ref 609,.ref 610,i0 977,i0 313,cp 978]
def o659:Obj:=fu ⟨"_law_tried","_law_tried",aH (tp 54),.stmts (aF (tp 54)),aB (tp 54),3,[],.none,.none,.none,.str "law_roomward_k21_woven_told" 898,none,.ref 611,.none,0⟩
def o660:Obj:=tu []
def o661:Obj:=nf []
def o662:Obj:=nu ⟨"_law_maps","_law_maps",aH (tp 55),.stmts (aF (tp 55)),aB (tp 55),0,[],.none,.none,.none,.none,none,.none,.none,0⟩
def o663:Obj:=co [.str "_law_maps" 980,.str "_law_maps" 981,cp 982,i0 319,i0 1,i0 0,i0 0,i0 3,.ref 613,.bool true,i0 181,.ref 614,.none,.none,.none,.ref 615,i0 983,i0 319,cp 984]
def o664:Obj:=fu ⟨"_law_maps","_law_maps",aH (tp 55),.stmts (aF (tp 55)),aB (tp 55),3,[],.none,.none,.none,.str "law_roomward_k21_woven_told" 898,none,.ref 616,.none,0⟩
def o665:Obj:=tu []
def o666:Obj:=nf []
def o667:Obj:=tu [.str "_law_maps_here" 989,.str "_law_room" 990,.str "_law_deed" 991,.str "_law_found" 992,.str "_law_many" 993,.str "_law_k" 994,.str "_law_one" 995]
def o668:Obj:=tu []
def o669:Obj:=nu ⟨"_law_step","_law_step",aH (tp 56),.stmts (aF (tp 56)),aB (tp 56),0,[],.none,.none,.none,.none,none,.none,.none,0⟩
def o670:Obj:=co [.str "_law_step" 986,.str "_law_step" 987,cp 988,i0 327,i0 3,i0 0,i0 0,i0 3,.ref 618,.bool true,i0 181,.ref 619,.none,.ref 620,.ref 621,.ref 622,i0 996,i0 327,cp 997]
def o671:Obj:=fu ⟨"_law_step","_law_step",aH (tp 56),.stmts (aF (tp 56)),aB (tp 56),3,[],.none,.none,.none,.str "law_roomward_k21_woven_told" 898,none,.ref 623,.none,0⟩
def T22 (P:Params):BT:=ns (T21 P) [(3,o593 P),(12,o594),(548,o595),(549,o596),(550,o597),(551,o598),(552,o599),(553,o600),(554,o601),(555,o602),(556,o603),(557,o604),(558,o605),(559,o606),(560,o607),(561,o608),(562,o609),(563,o610),(564,o611),(565,o612),(566,o613),(567,o614),(568,o615),(569,o616),(570,o617),(571,o618),(572,o619),(573,o620),(574,o621),(575,o622),(576,o623),(577,o624),(578,o625),(579,o626),(580,o627),(581,o628),(582,o629),(583,o630),(584,o631),(585,o632),(586,o633),(587,o634),(588,o635),(589,o636),(590,o637),(591,o638),(592,o639),(593,o640),(594,o641),(595,o642),(596,o643),(597,o644),(598,o645),(599,o646),(600,o647),(601,o648),(602,o649),(603,o650),(604,o651),(605,o652),(606,o653),(607,o654),(608,o655),(609,o656),(610,o657),(611,o658),(612,o659),(613,o660),(614,o661),(615,o662),(616,o663),(617,o664),(618,o665),(619,o666),(620,o667),(621,o668),(622,o669),(623,o670),(624,o671)]
theorem pc22:Hd.Pc pp env T21 548 898 T22 625 999 381 [tp 43,tp 44,tp 45,tp 46,tp 47,tp 48,tp 49,tp 50,tp 51,tp 52,tp 53,tp 54,tp 55,tp 56] ⟨221,0,254,78⟩ ⟨327,0,340,28⟩:=by
 intro w
 kernel_rfl
def g28 (P:Params):List DictEntry:=g27 P++[en P "_law_come" 1004 (.ref 629),en P "_law_room_by" 1010 (.ref 634),en P "_law_room_good" 1016 (.ref 639),en P "law" 1022 (.ref 644)]
def o672 (P:Params):Obj:=⟨.type "dict",none,.dict ⟨en P "__name__" 165 (.str "law_roomward_k21_woven_told" 898)::g28 P⟩ 64,#[]⟩
def o673:Obj:=nf [i0 1,i0 0,.ref 20,i0 5,i0 0,.ref 27,i0 7,i0 0,.ref 40,i0 9,i0 0,.ref 52,i0 11,i0 0,.ref 64,i0 13,i0 0,.ref 76,i0 15,i0 0,.ref 88,i0 17,i0 0,.ref 100,i0 19,i0 0,.ref 112,i0 21,i0 0,.ref 124,i0 23,i0 0,.ref 136,i0 25,i0 0,.ref 148,i0 27,i0 0,.ref 160,i0 29,i0 0,.ref 172,i0 35,i0 0,.ref 191,i0 39,i0 0,.ref 210,i0 44,i0 0,.ref 229,i0 58,i0 0,.ref 236,i0 65,i0 0,.ref 241,i0 70,i0 0,.ref 248,i0 80,i0 0,.ref 255,i0 87,i0 0,.ref 262,i0 92,i0 0,.ref 269,i0 125,i0 0,.ref 340,i0 132,i0 0,.ref 347,i0 136,i0 0,.ref 354,i0 145,i0 0,.ref 361,i0 209,i0 0,.ref 456,i0 211,i0 0,.ref 461,i0 214,i0 0,.ref 466,i0 216,i0 0,.ref 473,i0 221,i0 0,.ref 480,i0 256,i0 0,.ref 553,i0 259,i0 0,.ref 560,i0 263,i0 0,.ref 565,i0 267,i0 0,.ref 570,i0 273,i0 0,.ref 575,i0 277,i0 0,.ref 580,i0 291,i0 0,.ref 585,i0 294,i0 0,.ref 592,i0 300,i0 0,.ref 597,i0 302,i0 0,.ref 604,i0 313,i0 0,.ref 611,i0 319,i0 0,.ref 616,i0 327,i0 0,.ref 623,i0 341,i0 0,.ref 628,i0 351,i0 0,.ref 633,i0 357,i0 0,.ref 638,i0 368,i0 0,.ref 643]
def o674:Obj:=tu []
def o675:Obj:=nf []
def o676:Obj:=nu ⟨"_law_come","_law_come",aH (tp 57),.stmts (aF (tp 57)),aB (tp 57),0,[],.none,.none,.none,.none,none,.none,.none,0⟩
def o677:Obj:=co [.str "_law_come" 999,.str "_law_come" 1000,cp 1001,i0 341,i0 3,i0 0,i0 0,i0 3,.ref 625,.bool true,i0 181,.ref 626,.none,.none,.none,.ref 627,i0 1002,i0 341,cp 1003]
def o678:Obj:=fu ⟨"_law_come","_law_come",aH (tp 57),.stmts (aF (tp 57)),aB (tp 57),3,[],.none,.none,.none,.str "law_roomward_k21_woven_told" 898,none,.ref 628,.none,0⟩
def o679:Obj:=tu []
def o680:Obj:=nf []
def o681:Obj:=nu ⟨"_law_room_by","_law_room_by",aH (tp 58),.stmts (aF (tp 58)),aB (tp 58),0,[],.none,.none,.none,.none,none,.none,.none,0⟩
def o682:Obj:=co [.str "_law_room_by" 1005,.str "_law_room_by" 1006,cp 1007,i0 351,i0 2,i0 0,i0 0,i0 3,.ref 630,.bool true,i0 181,.ref 631,.none,.none,.none,.ref 632,i0 1008,i0 351,cp 1009]
def o683:Obj:=fu ⟨"_law_room_by","_law_room_by",aH (tp 58),.stmts (aF (tp 58)),aB (tp 58),3,[],.none,.none,.none,.str "law_roomward_k21_woven_told" 898,none,.ref 633,.none,0⟩
def o684:Obj:=tu []
def o685:Obj:=nf []
def o686:Obj:=nu ⟨"_law_room_good","_law_room_good",aH (tp 59),.stmts (aF (tp 59)),aB (tp 59),0,[],.none,.none,.none,.none,none,.none,.none,0⟩
def o687:Obj:=co [.str "_law_room_good" 1011,.str "_law_room_good" 1012,cp 1013,i0 357,i0 4,i0 0,i0 0,i0 3,.ref 635,.bool true,i0 181,.ref 636,.none,.none,.none,.ref 637,i0 1014,i0 357,cp 1015]
def o688:Obj:=fu ⟨"_law_room_good","_law_room_good",aH (tp 59),.stmts (aF (tp 59)),aB (tp 59),3,[],.none,.none,.none,.str "law_roomward_k21_woven_told" 898,none,.ref 638,.none,0⟩
def o689:Obj:=tu []
def o690:Obj:=nf []
def o691:Obj:=nu ⟨"law","law",aH (tp 60),.stmts (aF (tp 60)),aB (tp 60),0,[],.none,.none,.none,.none,none,.none,.none,0⟩
def o692:Obj:=co [.str "law" 1017,.str "law" 1018,cp 1019,i0 368,i0 1,i0 0,i0 0,i0 3,.ref 640,.bool true,i0 181,.ref 641,.none,.none,.none,.ref 642,i0 1020,i0 368,cp 1021]
def o693:Obj:=fu ⟨"law","law",aH (tp 60),.stmts (aF (tp 60)),aB (tp 60),3,[],.none,.none,.none,.str "law_roomward_k21_woven_told" 898,none,.ref 643,.none,0⟩
def T23 (P:Params):BT:=ns (T22 P) [(3,o672 P),(12,o673),(625,o674),(626,o675),(627,o676),(628,o677),(629,o678),(630,o679),(631,o680),(632,o681),(633,o682),(634,o683),(635,o684),(636,o685),(637,o686),(638,o687),(639,o688),(640,o689),(641,o690),(642,o691),(643,o692),(644,o693)]
theorem pc23:Hd.Pc pp env T22 625 999 T23 645 1023 105 [tp 57,tp 58,tp 59,tp 60] ⟨327,0,340,28⟩ ⟨368,0,395,80⟩:=by
 intro w
 kernel_rfl
def Hf (P:Params):Heap:=⟨Array.mk [boot_o_0 P,boot_o_1 P,boot_o_2 P,o672 P,boot_o_4 P,boot_o_5 P,boot_o_6 P,boot_o_7 P,boot_o_8 P,boot_o_9 P,boot_o_10 P,o0,o673,o2,o3,o6,o7,o8,o9,o10,o11,o12,o13,o14,o15 P,o16,o17,o18,o19,o20,o21 P,o237,o23,o24,o25,o29,o30,o31 P,o32,o33,o34,o35,o36,o37 P,o38,o39,o40,o44,o45,o46 P,o47,o48,o49,o50,o51,o52 P,o53,o54,o55,o59,o60,o61 P,o62,o63,o64,o65,o66,o67 P,o68,o69,o70,o74,o75,o76 P,o77,o78,o79,o80,o81,o82 P,o83,o84,o85,o89,o90,o91 P,o92,o93,o94,o95,o96,o97 P,o98,o99,o100,o104,o105,o106 P,o107,o108,o109,o110,o111,o112 P,o113,o114,o115,o119,o120,o121 P,o122,o123,o124,o125,o126,o127 P,o128,o129,o130,o134,o135,o136 P,o137,o138,o139,o140,o141,o142 P,o143,o144,o145,o149,o150,o151 P,o152,o153,o154,o155,o156,o157 P,o158,o159,o160,o164,o165,o166 P,o167,o168,o169,o170,o171,o172 P,o173,o174,o175,o179,o180,o181 P,o182,o183,o184,o185,o186,o187 P,o188,o189,o190,o194,o195,o196 P,o197,o198,o199,o200,o201,o202,o203,o204,o205,o206,o207,o208,o209 P,o210,o211,o212,o216,o217,o218 P,o219,o220,o221,o222,o223,o224,o225,o226,o227,o228,o229,o230,o231 P,o232,o233,o234,o238,o239,o240 P,o241,o242,o243,o244,o245,o246,o247,o248,o249,o250,o251,o252,o253 P,o254,o255,o256,o257,o258,o259,o260,o261,o262,o263,o264,o265,o266,o267,o268,o269,o270,o271,o272,o273,o274,o275,o278,o279,o280,o281,o282,o283,o284,o285,o286,o287,o288,o289,o290,o291,o292,o293,o294,o295,o296,o297,o298,o301,o302,o303 P,o304,o305,o306,o307,o308,o309,o310,o311,o312,o313,o314,o315,o316,o317,o318,o319,o320,o321,o322,o323,o324,o325,o326,o327,o328,o329,o330,o331,o332,o333,o334,o335,o336,o337,o338,o339,o340,o341,o342,o343,o344,o345,o346,o347,o348,o349,o350,o351,o352,o353,o354,o355,o356,o357,o358,o359,o360,o361,o362,o363,o364,o365,o366 P,o367,o368,o369,o370,o371,o374,o375,o376,o377,o378,o379,o380,o381,o382,o383,o384,o385,o386,o387,o388,o389,o390,o391,o392,o393,o394,o397,o398,o399 P,o400,o401,o402,o403,o404,o405,o406,o407,o408,o409,o410,o411,o412,o413,o414,o415,o416,o417,o418,o419,o420,o421,o422,o423,o424,o425,o426,o427,o428,o429,o430,o431,o432,o433,o434,o435,o436,o437,o438,o439,o440,o441,o442,o443,o444,o445,o446,o447,o448,o449,o450,o451,o452,o453,o454,o455,o456,o457,o458,o459,o460,o461,o462,o463,o464,o465,o466,o467,o468,o469,o470,o471,o472,o473,o474,o475,o476,o477,o478,o479,o480,o481,o482,o483,o484,o485,o486,o487,o488 P,o489,o490,o491,o492,o493,o496,o497,o498,o499,o500,o501,o502,o503,o504,o505,o506,o507,o508,o509,o510,o511,o512,o513,o514,o515,o516,o517,o520,o521,o522 P,o523,o524,o525,o526,o527,o528,o529,o530,o531,o532,o533,o534,o535,o536,o537,o538,o539,o540,o541,o542,o543,o544,o545,o546,o547,o548,o549,o550,o551,o552,o553,o554,o555,o556,o557,o558,o559,o560,o561,o562,o563,o564,o565,o566,o567,o568,o569,o570,o571,o572,o573,o574,o575,o576,o577,o578,o579,o580,o581,o582,o583,o584,o585,o586,o587 P,o588,o589,o590,o591,o592,o595,o596,o597,o598,o599,o600,o601,o602,o603,o604,o605,o606,o607,o608,o609,o610,o611,o612,o613,o614,o615,o616,o617,o618,o619,o620,o621,o622,o623,o624,o625,o626,o627,o628,o629,o630,o631,o632,o633,o634,o635,o636,o637,o638,o639,o640,o641,o642,o643,o644,o645,o646,o647,o648,o649,o650,o651,o652,o653,o654,o655,o656,o657,o658,o659,o660,o661,o662,o663,o664,o665,o666,o667,o668,o669,o670,o671,o674,o675,o676,o677,o678,o679,o680,o681,o682,o683,o684,o685,o686,o687,o688,o689,o690,o691,o692,o693],Hd.lf⟩
theorem fin:Hd.Fi pp env T23 645 1023 Hf 1023 2 ⟨368,0,395,80⟩:=by
 intro w
 kernel_rfl
def vw:Program:={ pp with main:={ pp.main with body:=[tp 0,tp 2,tp 3,tp 4,tp 5,tp 6,tp 7,tp 8,tp 9,tp 10,tp 11,tp 12,tp 13,tp 14,tp 15,tp 16,tp 18,tp 19,tp 21,tp 22,tp 23,tp 24,tp 25,tp 26,tp 27,tp 28,tp 29,tp 31,tp 32,tp 33,tp 34,tp 35,tp 37,tp 38,tp 39,tp 40,tp 41,tp 42,tp 44,tp 45,tp 46,tp 47,tp 48,tp 49,tp 50,tp 51,tp 52,tp 53,tp 54,tp 55,tp 56,tp 57,tp 58,tp 59,tp 60] } }
def kk (P:Params):Frag:=
 (nat_lit 2,boot_o_2 P)::(nat_lit 3,o672 P)::(nat_lit 15,o6)::(nat_lit 17,o8)::(nat_lit 18,o9)::(nat_lit 20,o11)::(nat_lit 21,o12)::(nat_lit 22,o13)::(nat_lit 29,o20)::(nat_lit 30,o21 P)::(nat_lit 31,o237)::(nat_lit 32,o23)::(nat_lit 35,o29)::(nat_lit 42,o36)::(nat_lit 43,o37 P)::(nat_lit 44,o38)::(nat_lit 47,o44)::(nat_lit 54,o51)::(nat_lit 55,o52 P)::(nat_lit 56,o53)::(nat_lit 59,o59)::(nat_lit 66,o66)::(nat_lit 67,o67 P)::(nat_lit 68,o68)::(nat_lit 71,o74)::(nat_lit 78,o81)::(nat_lit 79,o82 P)::(nat_lit 80,o83)::(nat_lit 83,o89)::(nat_lit 90,o96)::(nat_lit 91,o97 P)::(nat_lit 92,o98)::(nat_lit 95,o104)::(nat_lit 102,o111)::(nat_lit 103,o112 P)::(nat_lit 104,o113)::(nat_lit 107,o119)::(nat_lit 114,o126)::(nat_lit 115,o127 P)::(nat_lit 116,o128)::(nat_lit 119,o134)::(nat_lit 126,o141)::(nat_lit 127,o142 P)::(nat_lit 128,o143)::(nat_lit 131,o149)::(nat_lit 138,o156)::(nat_lit 139,o157 P)::(nat_lit 140,o158)::(nat_lit 143,o164)::(nat_lit 150,o171)::(nat_lit 151,o172 P)::(nat_lit 152,o173)::(nat_lit 155,o179)::(nat_lit 162,o186)::(nat_lit 163,o187 P)::(nat_lit 164,o188)::(nat_lit 167,o194)::(nat_lit 174,o201)::(nat_lit 176,o203)::(nat_lit 177,o204)::(nat_lit 179,o206)::(nat_lit 180,o207)::(nat_lit 181,o208)::(nat_lit 182,o209 P)::(nat_lit 183,o210)::(nat_lit 186,o216)::(nat_lit 193,o223)::(nat_lit 195,o225)::(nat_lit 196,o226)::(nat_lit 198,o228)::(nat_lit 199,o229)::(nat_lit 200,o230)::(nat_lit 201,o231 P)::(nat_lit 202,o232)::(nat_lit 205,o238)::(nat_lit 212,o245)::(nat_lit 214,o247)::(nat_lit 215,o248)::(nat_lit 217,o250)::(nat_lit 218,o251)::(nat_lit 219,o252)::(nat_lit 220,o253 P)::(nat_lit 221,o254)::(nat_lit 224,o257)::(nat_lit 226,o259)::(nat_lit 227,o260)::(nat_lit 229,o262)::(nat_lit 230,o263)::(nat_lit 231,o264)::(nat_lit 233,o266)::(nat_lit 234,o267)::(nat_lit 236,o269)::(nat_lit 237,o270)::(nat_lit 238,o271)::(nat_lit 241,o274)::(nat_lit 242,o275)::(nat_lit 243,o278)::(nat_lit 245,o280)::(nat_lit 246,o281)::(nat_lit 248,o283)::(nat_lit 249,o284)::(nat_lit 250,o285)::(nat_lit 252,o287)::(nat_lit 253,o288)::(nat_lit 255,o290)::(nat_lit 256,o291)::(nat_lit 257,o292)::(nat_lit 259,o294)::(nat_lit 260,o295)::(nat_lit 262,o297)::(nat_lit 263,o298)::(nat_lit 271,o308)::(nat_lit 272,o309)::(nat_lit 274,o311)::(nat_lit 275,o312)::(nat_lit 277,o314)::(nat_lit 278,o315)::(nat_lit 279,o316)::(nat_lit 281,o318)::(nat_lit 282,o319)::(nat_lit 284,o321)::(nat_lit 285,o322)::(nat_lit 286,o323)::(nat_lit 288,o325)::(nat_lit 289,o326)::(nat_lit 291,o328)::(nat_lit 292,o329)::(nat_lit 293,o330)::(nat_lit 295,o332)::(nat_lit 296,o333)::(nat_lit 298,o335)::(nat_lit 299,o336)::(nat_lit 300,o337)::(nat_lit 302,o339)::(nat_lit 303,o340)::(nat_lit 305,o342)::(nat_lit 306,o343)::(nat_lit 307,o344)::(nat_lit 309,o346)::(nat_lit 310,o347)::(nat_lit 312,o349)::(nat_lit 313,o350)::(nat_lit 314,o351)::(nat_lit 316,o353)::(nat_lit 317,o354)::(nat_lit 319,o356)::(nat_lit 320,o357)::(nat_lit 321,o358)::(nat_lit 323,o360)::(nat_lit 324,o361)::(nat_lit 326,o363)::(nat_lit 327,o364)::(nat_lit 328,o365)::(nat_lit 329,o366 P)::(nat_lit 330,o367)::(nat_lit 331,o368)::(nat_lit 332,o369)::(nat_lit 335,o374)::(nat_lit 337,o376)::(nat_lit 338,o377)::(nat_lit 340,o379)::(nat_lit 341,o380)::(nat_lit 342,o381)::(nat_lit 344,o383)::(nat_lit 345,o384)::(nat_lit 347,o386)::(nat_lit 348,o387)::(nat_lit 349,o388)::(nat_lit 351,o390)::(nat_lit 352,o391)::(nat_lit 354,o393)::(nat_lit 355,o394)::(nat_lit 363,o404)::(nat_lit 364,o405)::(nat_lit 367,o408)::(nat_lit 368,o409)::(nat_lit 369,o410)::(nat_lit 371,o412)::(nat_lit 372,o413)::(nat_lit 374,o415)::(nat_lit 375,o416)::(nat_lit 376,o417)::(nat_lit 378,o419)::(nat_lit 379,o420)::(nat_lit 381,o422)::(nat_lit 382,o423)::(nat_lit 383,o424)::(nat_lit 385,o426)::(nat_lit 386,o427)::(nat_lit 388,o429)::(nat_lit 389,o430)::(nat_lit 390,o431)::(nat_lit 392,o433)::(nat_lit 393,o434)::(nat_lit 395,o436)::(nat_lit 396,o437)::(nat_lit 397,o438)::(nat_lit 399,o440)::(nat_lit 400,o441)::(nat_lit 402,o443)::(nat_lit 403,o444)::(nat_lit 404,o445)::(nat_lit 406,o447)::(nat_lit 407,o448)::(nat_lit 409,o450)::(nat_lit 410,o451)::(nat_lit 411,o452)::(nat_lit 413,o454)::(nat_lit 414,o455)::(nat_lit 416,o457)::(nat_lit 417,o458)::(nat_lit 418,o459)::(nat_lit 420,o461)::(nat_lit 421,o462)::(nat_lit 423,o464)::(nat_lit 424,o465)::(nat_lit 425,o466)::(nat_lit 427,o468)::(nat_lit 428,o469)::(nat_lit 430,o471)::(nat_lit 431,o472)::(nat_lit 432,o473)::(nat_lit 434,o475)::(nat_lit 435,o476)::(nat_lit 437,o478)::(nat_lit 438,o479)::(nat_lit 439,o480)::(nat_lit 441,o482)::(nat_lit 442,o483)::(nat_lit 444,o485)::(nat_lit 445,o486)::(nat_lit 446,o487)::(nat_lit 447,o488 P)::(nat_lit 448,o489)::(nat_lit 449,o490)::(nat_lit 450,o491)::(nat_lit 453,o496)::(nat_lit 456,o499)::(nat_lit 457,o500)::(nat_lit 458,o501)::(nat_lit 461,o504)::(nat_lit 462,o505)::(nat_lit 463,o506)::(nat_lit 466,o509)::(nat_lit 467,o510)::(nat_lit 468,o511)::(nat_lit 470,o513)::(nat_lit 471,o514)::(nat_lit 473,o516)::(nat_lit 474,o517)::(nat_lit 482,o527)::(nat_lit 484,o529)::(nat_lit 485,o530)::(nat_lit 487,o532)::(nat_lit 488,o533)::(nat_lit 489,o534)::(nat_lit 491,o536)::(nat_lit 492,o537)::(nat_lit 494,o539)::(nat_lit 495,o540)::(nat_lit 496,o541)::(nat_lit 498,o543)::(nat_lit 499,o544)::(nat_lit 501,o546)::(nat_lit 502,o547)::(nat_lit 503,o548)::(nat_lit 505,o550)::(nat_lit 506,o551)::(nat_lit 508,o553)::(nat_lit 509,o554)::(nat_lit 510,o555)::(nat_lit 513,o558)::(nat_lit 514,o559)::(nat_lit 515,o560)::(nat_lit 517,o562)::(nat_lit 518,o563)::(nat_lit 520,o565)::(nat_lit 521,o566)::(nat_lit 522,o567)::(nat_lit 524,o569)::(nat_lit 525,o570)::(nat_lit 527,o572)::(nat_lit 528,o573)::(nat_lit 529,o574)::(nat_lit 532,o577)::(nat_lit 533,o578)::(nat_lit 534,o579)::(nat_lit 536,o581)::(nat_lit 537,o582)::(nat_lit 539,o584)::(nat_lit 540,o585)::(nat_lit 541,o586)::(nat_lit 542,o587 P)::(nat_lit 543,o588)::(nat_lit 544,o589)::(nat_lit 545,o590)::(nat_lit 548,o595)::(nat_lit 550,o597)::(nat_lit 551,o598)::(nat_lit 553,o600)::(nat_lit 554,o601)::(nat_lit 555,o602)::(nat_lit 557,o604)::(nat_lit 558,o605)::(nat_lit 560,o607)::(nat_lit 561,o608)::(nat_lit 562,o609)::(nat_lit 565,o612)::(nat_lit 566,o613)::(nat_lit 567,o614)::(nat_lit 570,o617)::(nat_lit 571,o618)::(nat_lit 572,o619)::(nat_lit 575,o622)::(nat_lit 576,o623)::(nat_lit 577,o624)::(nat_lit 580,o627)::(nat_lit 581,o628)::(nat_lit 582,o629)::(nat_lit 585,o632)::(nat_lit 586,o633)::(nat_lit 587,o634)::(nat_lit 589,o636)::(nat_lit 590,o637)::(nat_lit 592,o639)::(nat_lit 593,o640)::(nat_lit 594,o641)::(nat_lit 597,o644)::(nat_lit 598,o645)::(nat_lit 599,o646)::(nat_lit 601,o648)::(nat_lit 602,o649)::(nat_lit 604,o651)::(nat_lit 605,o652)::(nat_lit 606,o653)::(nat_lit 608,o655)::(nat_lit 609,o656)::(nat_lit 611,o658)::(nat_lit 612,o659)::(nat_lit 613,o660)::(nat_lit 616,o663)::(nat_lit 617,o664)::(nat_lit 618,o665)::(nat_lit 620,o667)::(nat_lit 621,o668)::(nat_lit 623,o670)::(nat_lit 624,o671)::(nat_lit 630,o679)::(nat_lit 633,o682)::(nat_lit 634,o683)::(nat_lit 635,o684)::(nat_lit 638,o687)::(nat_lit 639,o688)::(nat_lit 640,o689)::(nat_lit 643,o692)::(nat_lit 644,o693)::[]
def kl:List Addr:=[2,3,15,17,18,20,21,22,29,30,31,32,35,42,43,44,47,54,55,56,59,66,67,68,71,78,79,80,83,90,91,92,95,102,103,104,107,114,115,116,119,126,127,128,131,138,139,140,143,150,151,152,155,162,163,164,167,174,176,177,179,180,181,182,183,186,193,195,196,198,199,200,201,202,205,212,214,215,217,218,219,220,221,224,226,227,229,230,231,233,234,236,237,238,241,242,243,245,246,248,249,250,252,253,255,256,257,259,260,262,263,271,272,274,275,277,278,279,281,282,284,285,286,288,289,291,292,293,295,296,298,299,300,302,303,305,306,307,309,310,312,313,314,316,317,319,320,321,323,324,326,327,328,329,330,331,332,335,337,338,340,341,342,344,345,347,348,349,351,352,354,355,363,364,367,368,369,371,372,374,375,376,378,379,381,382,383,385,386,388,389,390,392,393,395,396,397,399,400,402,403,404,406,407,409,410,411,413,414,416,417,418,420,421,423,424,425,427,428,430,431,432,434,435,437,438,439,441,442,444,445,446,447,448,449,450,453,456,457,458,461,462,463,466,467,468,470,471,473,474,482,484,485,487,488,489,491,492,494,495,496,498,499,501,502,503,505,506,508,509,510,513,514,515,517,518,520,521,522,524,525,527,528,529,532,533,534,536,537,539,540,541,542,543,544,545,548,550,551,553,554,555,557,558,560,561,562,565,566,567,570,571,572,575,576,577,580,581,582,585,586,587,589,590,592,593,594,597,598,599,601,602,604,605,606,608,609,611,612,613,616,617,618,620,621,623,624,630,633,634,635,638,639,640,643,644]
theorem kl_eq:∀ P,kl=(kk P).map (·.1):=by
 intro P
 kernel_rfl
abbrev hk:Hook:=kmHook kk kl kl_eq [535,641]
def xt (s:Shared):Bool:=xlAt vw [] s&&recOk (RowW.records (OpenRow.toRowW (OpenLaw.row PySem.Challenge.rw_roomward_k21_woven_told))) s
theorem looks:∀ w:World,(fun os=>((staticsOk (importedModules pp.main.body) (boot_heap w.params) (Hf w.params)&&namesBound pp (Hf w.params)&&gensDone (Hd.Sh Hf 1023 w os)&&laidKept (boot_heap w.params) (Hf w.params)),
  Hd.fSeen vw [] (importedModules pp.main.body) xt true (Hd.Sh Hf 1023 w os),hk.obs (Hd.Sh Hf 1023 w os)))=fun _=>(true,openGood vw [],hk.val w):=by
 intro w
 kernel_rfl
theorem aJd:[tp 0,tp 1,tp 2]++([tp 3]++([tp 4]++([tp 5]++([tp 6]++([tp 7]++([tp 8]++([tp 9]++([tp 10]++([tp 11]++([tp 12]++([tp 13]++([tp 14]++([tp 15]++([tp 16,tp 17,tp 18,tp 19,tp 20,tp 21,tp 22,tp 23,tp 24,tp 25]++([tp 26,tp 27,tp 28]++([tp 29]++([tp 30,tp 31,tp 32,tp 33,tp 34]++([tp 35]++([tp 36,tp 37,tp 38,tp 39,tp 40,tp 41]++([tp 42]++([tp 43,tp 44,tp 45,tp 46,tp 47,tp 48,tp 49,tp 50,tp 51,tp 52,tp 53,tp 54,tp 55,tp 56]++([tp 57,tp 58,tp 59,tp 60]++[]))))))))))))))))))))))=behindTheImports pp:=by
 kernel_rfl
theorem left:LeftO pp vw [] xt hk.obs hk.val 11658 true:=
 Hd.left_of (by kernel_rfl) (fun s=>by kernel_rfl) (by decide) (by decide) (Hd.top_run pre blk aJd (pc1.run (pc2.run (pc3.run (pc4.run (pc5.run (pc6.run (pc7.run (pc8.run (pc9.run (pc10.run (pc11.run (pc12.run (pc13.run (pc14.run (pc15.run (pc16.run (pc17.run (pc18.run (pc19.run (pc20.run (pc21.run (pc22.run (pc23.run fin.run)))))))))))))))))))))))) looks
end
end K21H
open PySem PySem.W PyProof.Rows
set_option maxRecDepth 100000 in
set_option maxHeartbeats 0 in
theorem PySem.Challenge.cw_roomward_k21_woven_told_holds : PySem.Challenge.rw_roomward_k21_woven_told.Holds := by
 w_on; o_law
 refine holds_open (q:=K21H.vw) (loose:=[]) (Xt:=K21H.xt) (XP:=XL K21H.vw [])
  (Yf:=Hook.obs (kmHook K21H.kk K21H.kl K21H.kl_eq [535,641])) (Ya:=Hook.val (kmHook K21H.kk K21H.kl K21H.kl_eq [535,641])) (YP:=Hook.says (kmHook K21H.kk K21H.kl K21H.kl_eq [535,641]))
  (N:=11658) K21H.left (Hook.of (kmHook K21H.kk K21H.kl K21H.kl_eq [535,641])) (Hook.keeps (kmHook K21H.kk K21H.kl K21H.kl_eq [535,641])) ?x XL.keeps (by rfl) (by rfl) (by rfl) ?f ?wr ?k1 ?ok ?b ?hw ?hc
 case x=>exact fun s e=>xl_of s (Bool.and_eq_true_iff.mp e).1
 case f=>exact fun s e=>recFacts_of (Bool.and_eq_true_iff.mp e).2
 case wr=>rfl
 case k1=>first
  | assumption
  | decide +kernel
 case ok=>decide +kernel
 case b=>exact⟨rfl,rfl,rfl,rfl,rfl,by decide +kernel⟩
 case hw=>w_witness2
 k_fill
 refine' K21.walk (c0:=643) (l:=PySem.Challenge.rw_roomward_k21_woven_told) 641 rfl rfl (fun w h Y=>⟨PySem.W.km_in_of Y,fun p hp=>PySem.W.km_tabs_of Y p (List.mem_cons_of_mem _ hp)⟩) ?F ?hK ?hN
 case F=>
  intro w mg fa h KX G hmg
  refine' K21.all_mk KX G hmg ?a1 ?l1 ?c1 ?k1 ?a2 ?l2 ?c2 ?k2 ?a3 ?l3 ?c3 ?k3 ?a4 ?l4 ?c4 ?k4 ?a5 ?l5 ?c5 ?k5 ?a6 ?l6 ?c6 ?k6 ?a7 ?l7 ?c7 ?k7 ?a8 ?l8 ?c8 ?k8 ?a9 ?l9 ?c9 ?k9 ?a10 ?l10 ?c10 ?k10 ?a11 ?l11 ?c11 ?k11 ?a12 ?l12 ?c12 ?k12 ?a13 ?l13 ?c13 ?k13 ?a14 ?l14 ?c14 ?k14 ?a15 ?l15 ?c15 ?k15 ?a16 ?l16 ?c16 ?k16 ?a17 ?l17 ?c17 ?k17 ?a18 ?l18 ?c18 ?k18 ?a19 ?l19 ?c19 ?k19 ?a20 ?l20 ?c20 ?k20 ?a21 ?l21 ?c21 ?k21 ?a22 ?l22 ?c22 ?k22 ?a23 ?l23 ?c23 ?k23 ?a24 ?l24 ?c24 ?k24 ?a25 ?l25 ?c25 ?k25 ?a26 ?l26 ?c26 ?k26 ?a27 ?l27 ?c27 ?k27 ?aC ?qm0 ?lm0 ?cm0 ?km0 ?nm0 ?qm1 ?lm1 ?cm1 ?km1 ?nm1 ?aM ?qM0 ?lM0 ?cM0 ?kM0 ?nM0 ?qM1 ?lM1 ?cM1 ?kM1 ?nM1 ?qM2 ?lM2 ?cM2 ?kM2 ?nM2 ?qM3 ?lM3 ?cM3 ?kM3 ?nM3 ?qM4 ?lM4 ?cM4 ?kM4 ?nM4 ?qM5 ?lM5 ?cM5 ?kM5 ?nM5 ?aV ?qV0 ?lV0 ?cV0 ?kV0 ?nV0 ?qV1 ?lV1 ?cV1 ?kV1 ?nV1 ?qV2 ?lV2 ?cV2 ?kV2 ?nV2 ?qV3 ?lV3 ?cV3 ?kV3 ?nV3 ?qV4 ?lV4 ?cV4 ?kV4 ?nV4 ?qV5 ?lV5 ?cV5 ?kV5 ?nV5 ?qV6 ?lV6 ?cV6 ?kV6 ?nV6 ?mkV ?kpV ?pgV ?hdV ?poV ?saV ?nV0_ ?nV1_ ?qMI ?lMI ?cMI ?kMI ?nMI ?lE ?mkM ?kpM ?pgM ?hdM ?poM ?saM ?nM0_ ?nM1_ ?nM2_ ?nM3_ ?nM4_ ?qI ?lI ?cI ?kI ?nI ?lT ?mkC ?kpC ?pgC ?hdC ?poC ?saC ?nwC ?nfC ?e0 ?e1 ?e2 ?e3 ?e4 ?e5 ?e6 ?e7 ?e8 ?e9 ?e10 ?e11 ?e12 ?e13 ?eW ?xa0 ?xa1 ?xa2 ?xa3 ?xa4 ?xb1 ?xc1 ?xd1 ?xe1 ?xf1 ?xb2 ?xc2 ?xd2 ?xe2 ?xf2 ?kt ?kv ?kw ?hhd ?cst0 ?cst1 ?cst2 ?cst3 ?cst4 ?cst5 ?z0 ?z1 ?z2 ?z3 ?z4 ?z5 ?z6 ?z7 ?z8 ?z9 ?z10 ?z11 ?z12 ?z13 ?z14
  (case a1=>k_is)
  (case l1=>k_is)
  (case c1=>k_is)
  (case k1=>k_is)
  (case a2=>k_is)
  (case l2=>k_is)
  (case c2=>k_is)
  (case k2=>k_is)
  (case a3=>k_is)
  (case l3=>k_is)
  (case c3=>k_is)
  (case k3=>k_is)
  (case a4=>k_is)
  (case l4=>k_is)
  (case c4=>k_is)
  (case k4=>k_is)
  (case a5=>k_is)
  (case l5=>k_is)
  (case c5=>k_is)
  (case k5=>k_is)
  (case a6=>k_is)
  (case l6=>k_is)
  (case c6=>k_is)
  (case k6=>k_is)
  (case a7=>k_is)
  (case l7=>k_is)
  (case c7=>k_is)
  (case k7=>k_is)
  (case a8=>k_is)
  (case l8=>k_is)
  (case c8=>k_is)
  (case k8=>k_is)
  (case a9=>k_is)
  (case l9=>k_is)
  (case c9=>k_is)
  (case k9=>k_is)
  (case a10=>k_is)
  (case l10=>k_is)
  (case c10=>k_is)
  (case k10=>k_is)
  (case a11=>k_is)
  (case l11=>k_is)
  (case c11=>k_is)
  (case k11=>k_is)
  (case a12=>k_is)
  (case l12=>k_is)
  (case c12=>k_is)
  (case k12=>k_is)
  (case a13=>k_is)
  (case l13=>k_is)
  (case c13=>k_is)
  (case k13=>k_is)
  (case a14=>k_is)
  (case l14=>k_is)
  (case c14=>k_is)
  (case k14=>k_is)
  (case a15=>k_is)
  (case l15=>k_is)
  (case c15=>k_is)
  (case k15=>k_is)
  (case a16=>k_is)
  (case l16=>k_is)
  (case c16=>k_is)
  (case k16=>k_is)
  (case a17=>k_is)
  (case l17=>k_is)
  (case c17=>k_is)
  (case k17=>k_is)
  (case a18=>k_is)
  (case l18=>k_is)
  (case c18=>k_is)
  (case k18=>k_is)
  (case a19=>k_is)
  (case l19=>k_is)
  (case c19=>k_is)
  (case k19=>k_is)
  (case a20=>k_is)
  (case l20=>k_is)
  (case c20=>k_is)
  (case k20=>k_is)
  (case a21=>k_is)
  (case l21=>k_is)
  (case c21=>k_is)
  (case k21=>k_is)
  (case a22=>k_is)
  (case l22=>k_is)
  (case c22=>k_is)
  (case k22=>k_is)
  (case a23=>k_is)
  (case l23=>k_is)
  (case c23=>k_is)
  (case k23=>k_is)
  (case a24=>k_is)
  (case l24=>k_is)
  (case c24=>k_is)
  (case k24=>k_is)
  (case a25=>k_is)
  (case l25=>k_is)
  (case c25=>k_is)
  (case k25=>k_is)
  (case a26=>k_is)
  (case l26=>k_is)
  (case c26=>k_is)
  (case k26=>k_is)
  (case a27=>k_is)
  (case l27=>k_is)
  (case c27=>k_is)
  (case k27=>k_is)
  (case aC=>k_is)
  (case qm0=>k_is)
  (case lm0=>k_is)
  (case cm0=>k_is)
  (case km0=>k_is)
  (case nm0=>k_is)
  (case qm1=>k_is)
  (case lm1=>k_is)
  (case cm1=>k_is)
  (case km1=>k_is)
  (case nm1=>k_is)
  (case aM=>k_is)
  (case qM0=>k_is)
  (case lM0=>k_is)
  (case cM0=>k_is)
  (case kM0=>k_is)
  (case nM0=>k_is)
  (case qM1=>k_is)
  (case lM1=>k_is)
  (case cM1=>k_is)
  (case kM1=>k_is)
  (case nM1=>k_is)
  (case qM2=>k_is)
  (case lM2=>k_is)
  (case cM2=>k_is)
  (case kM2=>k_is)
  (case nM2=>k_is)
  (case qM3=>k_is)
  (case lM3=>k_is)
  (case cM3=>k_is)
  (case kM3=>k_is)
  (case nM3=>k_is)
  (case qM4=>k_is)
  (case lM4=>k_is)
  (case cM4=>k_is)
  (case kM4=>k_is)
  (case nM4=>k_is)
  (case qM5=>k_is)
  (case lM5=>k_is)
  (case cM5=>k_is)
  (case kM5=>k_is)
  (case nM5=>k_is)
  (case aV=>k_is)
  (case qV0=>k_is)
  (case lV0=>k_is)
  (case cV0=>k_is)
  (case kV0=>k_is)
  (case nV0=>k_is)
  (case qV1=>k_is)
  (case lV1=>k_is)
  (case cV1=>k_is)
  (case kV1=>k_is)
  (case nV1=>k_is)
  (case qV2=>k_is)
  (case lV2=>k_is)
  (case cV2=>k_is)
  (case kV2=>k_is)
  (case nV2=>k_is)
  (case qV3=>k_is)
  (case lV3=>k_is)
  (case cV3=>k_is)
  (case kV3=>k_is)
  (case nV3=>k_is)
  (case qV4=>k_is)
  (case lV4=>k_is)
  (case cV4=>k_is)
  (case kV4=>k_is)
  (case nV4=>k_is)
  (case qV5=>k_is)
  (case lV5=>k_is)
  (case cV5=>k_is)
  (case kV5=>k_is)
  (case nV5=>k_is)
  (case qV6=>k_is)
  (case lV6=>k_is)
  (case cV6=>k_is)
  (case kV6=>k_is)
  (case nV6=>k_is)
  (case mkV=>k_is)
  (case kpV=>k_is)
  (case pgV=>k_is)
  (case hdV=>k_is)
  (case poV=>k_is)
  (case saV=>k_is)
  (case nV0_=>k_is)
  (case nV1_=>k_is)
  (case qMI=>k_is)
  (case lMI=>k_is)
  (case cMI=>k_is)
  (case kMI=>k_is)
  (case nMI=>k_is)
  (case lE=>k_is)
  (case mkM=>k_is)
  (case kpM=>k_is)
  (case pgM=>k_is)
  (case hdM=>k_is)
  (case poM=>k_is)
  (case saM=>k_is)
  (case nM0_=>k_is)
  (case nM1_=>k_is)
  (case nM2_=>k_is)
  (case nM3_=>k_is)
  (case nM4_=>k_is)
  (case qI=>k_is)
  (case lI=>k_is)
  (case cI=>k_is)
  (case kI=>k_is)
  (case nI=>k_is)
  (case lT=>k_is)
  (case mkC=>k_is)
  (case kpC=>k_is)
  (case pgC=>k_is)
  (case hdC=>k_is)
  (case poC=>k_is)
  (case saC=>k_is)
  (case nwC=>k_is)
  (case nfC=>k_is)
  (case e0=>k_is)
  (case e1=>k_is)
  (case e2=>k_is)
  (case e3=>k_is)
  (case e4=>k_is)
  (case e5=>k_is)
  (case e6=>k_is)
  (case e7=>k_is)
  (case e8=>k_is)
  (case e9=>k_is)
  (case e10=>k_is)
  (case e11=>k_is)
  (case e12=>k_is)
  (case e13=>k_is)
  (case eW=>k_is)
  (case xa0=>kernel_rfl)
  (case xa1=>kernel_rfl)
  (case xa2=>kernel_rfl)
  (case xa3=>kernel_rfl)
  (case xa4=>kernel_rfl)
  (case xb1=>k_is)
  (case xc1=>k_is)
  (case xd1=>k_is)
  (case xe1=>k_is)
  (case xf1=>k_is)
  (case xb2=>k_is)
  (case xc2=>k_is)
  (case xd2=>k_is)
  (case xe2=>k_is)
  (case xf2=>k_is)
  (case kt=>kernel_rfl)
  (case kv=>kernel_rfl)
  (case kw=>kernel_rfl)
  (case hhd=>kernel_rfl)
  (case cst0=>k_is)
  (case cst1=>k_is)
  (case cst2=>k_is)
  (case cst3=>k_is)
  (case cst4=>k_is)
  (case cst5=>k_is)
  (case z0=>k_is)
  (case z1=>k_is)
  (case z2=>k_is)
  (case z3=>k_is)
  (case z4=>k_is)
  (case z5=>k_is)
  (case z6=>k_is)
  (case z7=>k_is)
  (case z8=>k_is)
  (case z9=>k_is)
  (case z10=>k_is)
  (case z11=>k_is)
  (case z12=>k_is)
  (case z13=>k_is)
  (case z14=>k_is)
 case hK=>intro w; kernel_rfl
 case hN=>intro w; kernel_rfl
